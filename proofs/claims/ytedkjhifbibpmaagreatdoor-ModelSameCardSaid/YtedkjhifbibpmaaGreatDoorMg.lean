/-
  What functions of the program do, told of abstract states. Conditions: as each theorem says.
-/
import Derived.Test.YtedkjhifbibpmaaGreatDoorAbD
import Derived.Shelf.Sort.Plain
import Derived.Shelf.Slices.In.SortNone
import Derived.Test.YtedkjhifbibpmaaGreatDoorProg
import Derived.Test.YtedkjhifbibpmaaGreatDoorMf
import Derived.Test.YtedkjhifbibpmaaGreatDoorMb
import Derived.Test.YtedkjhifbibpmaaGreatDoorMa
import Derived.Test.YtedkjhifbibpmaaGreatDoorMe
import Derived.Test.YtedkjhifbibpmaaGreatDoorMc
set_option linter.unusedVariables false
set_option linter.unusedSimpArgs false
set_option maxHeartbeats 4000000
set_option maxRecDepth 10000
namespace Go.Proofs.YtedkjhifbibpmaaGreatDoor.Pk
open Go.Shelf
def ahu:Go.Shelf.Ren:=⟨fun | 189=>136 | 125=>190 | 257=>189 | 128=>225 | 129=>226 | 294=>216 | 295=>217 | 296=>218 | 297=>219 | 298=>220 | 299=>221 | 216=>222 | 300=>223 | 301=>224 | 328=>258 | 329=>259 | 330=>260 | 331=>261 | 332=>262 | 215=>193 | 343=>275 | n=>n,fun | 28=>24 | 3=>3 | 46=>312 | 0=>0 | 51=>353 | 53=>221 | 4=>4 | 183=>346 | 182=>345 | 131=>265 | 5=>5 | 9=>9 | 218=>375 | 222=>379 | 228=>388 | 229=>172 | n=>n,fun | n=>n⟩
theorem Wl:Go.Proofs.Lays.n189 Tryz.prog ahu:={
 mixed:=by kernel_rfl
 f125:=Tryz.func190.trans (congrArg some (by kernel_rfl))
 f128:=Tryz.func225.trans (congrArg some (by kernel_rfl))
 f129:=Tryz.func226.trans (congrArg some (by kernel_rfl))
 f189:=Tryz.func136.trans (congrArg some (by kernel_rfl))
 f215:=Tryz.func193.trans (congrArg some (by kernel_rfl))
 f216:=Tryz.func222.trans (congrArg some (by kernel_rfl))
 f257:=Tryz.func189.trans (congrArg some (by kernel_rfl))
 f294:=Tryz.func216.trans (congrArg some (by kernel_rfl))
 f295:=Tryz.func217.trans (congrArg some (by kernel_rfl))
 f296:=Tryz.func218.trans (congrArg some (by kernel_rfl))
 f297:=Tryz.func219.trans (congrArg some (by kernel_rfl))
 f298:=Tryz.func220.trans (congrArg some (by kernel_rfl))
 f299:=Tryz.func221.trans (congrArg some (by kernel_rfl))
 f300:=Tryz.func223.trans (congrArg some (by kernel_rfl))
 f301:=Tryz.func224.trans (congrArg some (by kernel_rfl))
 f328:=Tryz.func258.trans (congrArg some (by kernel_rfl))
 f329:=Tryz.func259.trans (congrArg some (by kernel_rfl))
 f330:=Tryz.func260.trans (congrArg some (by kernel_rfl))
 f331:=Tryz.func261.trans (congrArg some (by kernel_rfl))
 f332:=Tryz.func262.trans (congrArg some (by kernel_rfl))
 f343:=Tryz.func275.trans (congrArg some (by kernel_rfl))
 t0:=Tryz.underlying0
 a0:=Tryz.isAgg0
 z0:=Tryz.sizeOf0
 v0:=Tryz.zeroValue0
 t3:=Tryz.underlying3
 a3:=Tryz.isAgg3
 z3:=Tryz.sizeOf3
 v3:=Tryz.zeroValue3
 t4:=Tryz.underlying4
 a4:=Tryz.isAgg4
 z4:=Tryz.sizeOf4
 v4:=Tryz.zeroValue4
 t5:=Tryz.underlying5
 a5:=Tryz.isAgg5
 z5:=Tryz.sizeOf5
 v5:=Tryz.zeroValue5
 t9:=Tryz.underlying9
 a9:=Tryz.isAgg9
 z9:=Tryz.sizeOf9
 v9:=Tryz.zeroValue9
 t28:=Tryz.underlying24
 a28:=Tryz.isAgg24
 z28:=Tryz.sizeOf24
 v28:=Tryz.zeroValue24
 t46:=Tryz.underlying312
 a46:=Tryz.isAgg312
 z46:=Tryz.sizeOf312
 v46:=Tryz.zeroValue312
 t51:=Tryz.underlying353
 a51:=Tryz.isAgg353
 z51:=Tryz.sizeOf353
 v51:=Tryz.zeroValue353
 t53:=Tryz.underlying221
 a53:=Tryz.isAgg221
 z53:=Tryz.sizeOf221
 v53:=Tryz.zeroValue221
 t131:=Tryz.underlying265
 a131:=Tryz.isAgg265
 z131:=Tryz.sizeOf265
 v131:=Tryz.zeroValue265
 t182:=Tryz.underlying345
 a182:=Tryz.isAgg345
 z182:=Tryz.sizeOf345
 v182:=Tryz.zeroValue345
 t183:=Tryz.underlying346
 a183:=Tryz.isAgg346
 z183:=Tryz.sizeOf346
 v183:=Tryz.zeroValue346
 t218:=Tryz.underlying375
 a218:=Tryz.isAgg375
 z218:=Tryz.sizeOf375
 v218:=Tryz.zeroValue375
 t222:=Tryz.underlying379
 a222:=Tryz.isAgg379
 z222:=Tryz.sizeOf379
 v222:=Tryz.zeroValue379
 t228:=Tryz.underlying388
 a228:=Tryz.isAgg388
 z228:=Tryz.sizeOf388
 v228:=Tryz.zeroValue388
 t229:=Tryz.underlying172
 a229:=Tryz.isAgg172
 z229:=Tryz.sizeOf172
 v229:=Tryz.zeroValue172 }
open Go.Sort Go.RowKit in
theorem slices_Sort_int (km off cap:Nat) (zs:List Int) (w:World) (hH:Holds (Value.int .i64) w km off zs.toArray) (hblk:km<w.heap.size) (bz:zs.length<4611686018427387904) :
  Calls Tryz.prog 136 #[.slice (some ⟨km,off,none⟩) zs.length cap] w fun e w'=>
   e=.returned (.tuple #[])∧∃ n os,w'=grow (putRow (Value.int .i64) (Sort.ahead w n) km off (zs.mergeSort fun x y=>decide (x≤y)).toArray) os:=Any.slices_Sort_int Wl km off cap zs w hH hblk bz
open Go.Sort Go.RowKit in
theorem slices_Sort_int_none (p:Option Addr) (cap:Nat) (w:World) :
  Calls Tryz.prog 136 #[.slice p 0 cap] w fun e w'=>e=.returned (.tuple #[])∧w'=w:=Any.slices_Sort_int_none Wl p cap w
open Go Go.Proofs Go.Proofs.YtedkjhifbibpmaaGreatDoor.Ab
theorem ahv {h:J} {v:V} {l:List Int} (bc:Own h 3 1 v (aO l)) (aM:l.length<4611686018427387904) :
  ab Tryz.prog 136 [v] h (fun r h'=>r=.tuple []∧Own h' 3 1 v (aO (l.mergeSort fun x y=>decide (x≤y)))∧I h h' (bn v)) :=
 ajP (fun km off cap zs w hH av ad=>slices_Sort_int km off cap zs w hH av ad) (fun p cap w=>slices_Sort_int_none p cap w) bc aM
theorem Wm:∀ {b a:List Int},a.Perm b→a.Pairwise (·≤·)→b.Pairwise (·<·)→a=b
 | [],a,aW,_,_=>aW.eq_nil
 | y::an,[],aW,_,_=>by have:=aW.length_eq;simp at this
 | y::an,x::xs,aW,a6,av=>by
  have ak:x ∈ y::an:=aW.subset (by simp)
  have bs:y ∈ x::xs:=aW.symm.subset (by simp)
  have h1:x≤y:=by
   rcases List.mem_cons.1 bs with h | h
   ·omega
   ·exact (List.pairwise_cons.1 a6).1 y h
  have ae:y≤x:=by
   rcases List.mem_cons.1 ak with h | h
   ·omega
   ·have:=(List.pairwise_cons.1 av).1 x h;omega
  obtain rfl:x=y:=by omega
  rw [Wm (List.perm_cons x |>.1 aW) (List.pairwise_cons.1 a6).2 (List.pairwise_cons.1 av).2]
theorem m9:∀ {zs:List Int} {lo:Int},nR lo zs→zs.Pairwise (·<·)∧∀ x ∈ zs,lo<x
 | [],lo,_=>⟨List.Pairwise.nil,by simp⟩
 | z::zs,lo,h=>by
  obtain ⟨h1,ae⟩:=h
  obtain ⟨i1,i2⟩:=m9 ae
  refine ⟨List.pairwise_cons.2 ⟨fun x ak=>i2 x ak,i1⟩,fun x ak=>?_⟩
  rcases List.mem_cons.1 ak with rfl | ak
  ·exact h1
  ·have:=i2 x ak;omega
theorem ahw {zs ax:List Int} {lo:Int} (a6:nR lo zs) (aW:ax.Perm zs):(ax.mergeSort fun x y=>decide (x≤y))=zs:=by
 refine Wm ((List.mergeSort_perm _ _).trans aW) ?_ (m9 a6).1
 have:=List.pairwise_mergeSort (le:=fun x y:Int=>decide (x≤y)) (by intro a b c h1 ae;simp at *;omega) (by intro a b;simp;omega) ax
 exact this.imp fun h=>by simpa using h
theorem ahx (h:J) (p:V) (l:Seen) (i j cl:Nat) (hm:q2 h p l i j cl) (zs:List Int) (b4:l.map (·.2.1)=zs) (a6:nR (-1) zs) (aM:zs.length≤24) :
  Pure Tryz.prog 82 [p] h (.ag zs.length (aO zs)):=by
 obtain ⟨rfl,hi,aX,gP,iz,j8,ad⟩:=hm
 have cR:=ad
 refine Pure.acc (e:=3) (sz:=1) (G6 _) (by rw [pb,Nat.mul_one]) (by omega) ?_
 refine ab.ao (c:=_) Tryz.func82 rfl (by kernel_rfl) (by simp) ?_
 have lh:=Md (P:=Tryz.prog) CT j8
 simp only [aa,Nat.reduceEqDiff,reduceCtorEq,uD,io,uE,iz,lh]
 refine aP.bG (α:=V×List (Nat×Int×Int)) (fun x f h'=>h'.get h.n=.iter j cl (x.2.map (·.1)) cl∧h'.get j=.map (mapOf .i64 k4 l) cl∧h.n<h'.n∧f 11=.ptr h.n 0∧f 3=x.1∧Acc h h' 3 1 x.1 (aO (x.2.map (·.2.1)))∧aR x.1≠some h.n∧(∀ e ∈ x.2,e ∈ l)∧x.2.Nodup)
  (fun x=>(qg (mapOf .i64 k4 l) (x.2.map (·.1))).length) (.ah,[]) ⟨b6,by rw [kM aX];exact j8,by rw [eA];omega,rfl,rfl,Acc.nil (I.push _ _ _),by simp [aR],by simp,List.nodup_nil⟩ ?_
 rintro ⟨v,bP⟩ f h' ⟨g1,g2,aG,f11,f3,cw,aN,nB,q9⟩
 simp only at g1 f3 cw aN nB q9
 refine dw (by kernel_rfl) ?_
 have Zw:bP.length≤l.length:=q9.length_le_of_subset nB
 have A6:l.length=zs.length:=by rw [←b4,List.length_map]
 simp only [aa,f11]
 refine Mb g1 g2 ad (fun mF=>?_) fun e he=>?_
 ·have dx:∀ e ∈ l,e ∈ bP:=fun e he=>by
   apply Classical.byContradiction
   intro ni
   have Ow:e.1 ∉ bP.map (·.1):=fun hm=>by
    obtain ⟨fo,iv,sY⟩:=List.mem_map.1 hm
    have:fo=e:=Oq cR.2 (nB fo iv) he sY
    exact ni (this ▸ iv)
   have:(e.1,V.int .i64 e.2.1,k4 e.2.2) ∈ qg (mapOf .i64 k4 l) (bP.map (·.1)):=by
    unfold qg
    exact List.mem_filter.2 ⟨List.mem_map.2 ⟨e,he,rfl⟩,by simpa using Ow⟩
   rw [mF] at this
   simp at this
  have sV:l.Nodup:=by
   have:=cR.2
   unfold mapOf at this
   rw [List.map_map] at this
   exact List.Pairwise.of_map _ (fun a b l2 heq=>l2 (by rw [heq])) this
  have aW:bP.Perm l:=(List.perm_ext_iff_of_nodup q9 sV).2 fun e=>⟨nB e,dx e⟩
  have Wn:(bP.map (·.2.1)).Perm zs:=by rw [←b4];exact aW.map _
  simp only [aa,Nat.reduceEqDiff,f3]
  refine bU adi (ahv cw.own (by rw [List.length_map];omega)) fun r ae ⟨ar,e4,k2⟩=>?_
  subst ar
  rw [ahw a6 Wn] at e4
  simp only [aa,Nat.reduceEqDiff,f3,aI,Tryz.results82,ac]
  exact au (cw.step e4 k2 (.inl rfl))
 ·have sX:=(List.mem_filter.1 he).1
  have Wo:=(List.mem_filter.1 he).2
  obtain ⟨eT,we,rfl⟩:=List.mem_map.1 sX
  have ni:eT.1 ∉ bP.map (·.1):=by simpa using Wo
  have xn:=Mc (h:=h'.set h.n (.iter j cl (bP.map (·.1)++[eT.1]) cl)) (r:=h.n) (e:=(eT.1,V.int .i64 eT.2.1,k4 eT.2.2)) aL (by rw [jF (by omega)];exact g2) ad sX
  have dV:I h (h'.set h.n (.iter j cl (bP.map (·.1)++[eT.1]) cl)) none_:=cw.aj.iQ (Nat.le_refl _) _
  have KU:Acc h (h'.set h.n (.iter j cl (bP.map (·.1)++[eT.1]) cl)) 3 1 v (aO (bP.map (·.2.1))):=⟨cw.own.aj (I.set _ _ _) fun k hk qd=>aN (qd ▸ hk),dV,cw.new⟩
  obtain ⟨v2,ae,cq,e4,k2,d2⟩:=J2 (P:=Tryz.prog) (t:=24) (T:=⟨3,[.int .i64 0],1,8⟩) tc (by decide) KU.own (xs:=[.int .i64 eT.2.1]) rfl rfl (fun m hm=>by
   have jV:m * 1=(aO (bP.map (·.2.1))).length+1:=hm
   rw [pb,List.length_map] at jV
   show m * 8≤lim∧m≤lim
   unfold lim
   omega)
  have vw:∀ h,lk Tryz.prog 24 1 [(0,.int .i64 eT.2.1)] h=some (.bp h.n 0 1 1,h.push (.cells [.int .i64 eT.2.1] 3 none)):=fun h=>by rw [p0 tc];rfl
  have Wp:(h'.set h.n (.iter j cl (bP.map (·.1)++[eT.1]) cl)).get h.n=.iter j cl (bP.map (·.1)++[eT.1]) cl:=aL
  have Wq:(h'.set h.n (.iter j cl (bP.map (·.1)++[eT.1]) cl)).get j=.map (mapOf .i64 k4 l) cl:=by rw [jF (by omega)];exact g2
  have Lt:h.n<(h'.set h.n (.iter j cl (bP.map (·.1)++[eT.1]) cl)).n:=aG
  generalize h'.set h.n (.iter j cl (bP.map (·.1)++[eT.1]) cl)=fT at *
  have eL:¬bn v h.n:=fun U=>aN U
  have ef:¬bn v j:=fun U=>by have:=cw.new j U;omega
  simp only [aa,Nat.reduceEqDiff,f11,xn,k4,f3,vw,cq]
  refine au ⟨(v2,bP++[eT]),⟨?_,?_,?_,f11,rfl,?_,?_,?_,?_⟩,?_⟩
  ·rw [k2.get h.n Lt eL,Wp];simp
  ·rw [k2.get j (by omega) ef,Wq]
  ·exact Nat.lt_of_lt_of_le Lt k2.n
  ·exact (KU.step e4 k2 d2).conv (by simp [aO])
  ·intro U
   rcases d2 with d | d
   ·exact aN (d ▸ U)
   ·have:=d h.n U;omega
  ·intro e sY
   rcases List.mem_append.1 sY with h1 | h1
   ·exact nB e h1
   ·simp at h1;subst h1;exact we
  ·rw [List.nodup_append]
   refine ⟨q9,by simp,fun a a6 b av l2=>?_⟩
   simp at av
   subst av
   subst l2
   exact ni (List.mem_map.2 ⟨a,a6,rfl⟩)
  ·simpa using Rv he
def pP (l:List bu) (L:List Nat) (v:Nat):List Int→Option (List Nat)
 | []=>none
 | f::r=>if fE l f≠5∧L.getD v 0≠L.getD f.toNat 0 then some ((L.set v (min (L.getD v 0) (L.getD f.toNat 0))).set f.toNat (min (L.getD v 0) (L.getD f.toNat 0))) else pP l L v r
def qz (l:List bu) (L:List Nat):Nat→List bu→Option (List Nat)
 | _,[]=>none
 | v,x::r=>match pP l L v x.aS with
  | some pQ=>some pQ
  | none=>qz l L (v+1) r
def rS (l:List bu):Nat→List Nat→List Nat
 | 0,L=>L
 | k+1,L=>match qz l L 0 l with
  | some pQ=>rS l k pQ
  | none=>L
def sk (l:List bu):List Nat:=rS l 600 (List.range l.length)
def xp (es:List (Nat×Int×Int)) (L:List Nat):Prop:=∀ k,k<L.length→ch es (k:Int)=some ((L.getD k 0:Nat):Int)
def vX (es:List (Nat×Int×Int)):List (Nat×V×V):=fK (V.int .i64) (V.int .i64) es
theorem Ox {h:J} {i cl:Nat} {es:List (Nat×Int×Int)} {L:List Nat} (hm:xp es L) {k:Nat} (hk:k<L.length) (aB:h.get i=.map (vX es) cl):n5 Tryz.prog 226 (.map i) (.int .i64 (k:Int)) false h=some (.int .i64 ((L.getD k 0:Nat):Int)):=by
 have:=Qc (enc:=V.int .i64) (ok:=false) (mJ.ofInt Im) (k:=(k:Int)) Im F8 aB
 rw [this,hm k hk]
 rfl
theorem AQ {h:J} {i cl:Nat} (es:List (Nat×Int×Int)) (k x:Int) (aB:h.get i=.map (vX es) cl):xZ Tryz.prog 226 (.map i) (.int .i64 k) (.int .i64 x) h=some (h.set i (.map (vX (cT cl es k x)) (fX cl es k))) :=
 Qd (enc:=V.int .i64) (mJ.ofInt Im) (k:=k) Im aB rfl
theorem xp.set {es:List (Nat×Int×Int)} {L:List Nat} (a:xp es L) (cl k x:Nat):xp (cT cl es (k:Int) (x:Int)) (L.set k x):=fun j aX=>by
 rw [List.length_set] at aX
 rw [CB]
 by_cases he:j=k
 ·subst he
  rw [if_pos rfl,List.getD,List.getElem?_set]
  simp [aX]
 ·rw [if_neg (by omega),a j aX,List.getD,List.getD,List.getElem?_set,if_neg (by omega)]
theorem Wr {l:List bu} {L:List Nat} {v:Nat}:∀ {r:List Int} {pQ:List Nat},pP l L v r=some pQ→∃ f ∈ r,L.getD v 0≠L.getD f.toNat 0∧pQ=(L.set v (min (L.getD v 0) (L.getD f.toNat 0))).set f.toNat (min (L.getD v 0) (L.getD f.toNat 0))
 | [],_,h=>by cases h
 | f::r,pQ,h=>by
  unfold pP at h
  split at h
  ·rename_i aF
   exact ⟨f,by simp,aF.2,(Option.some.inj h).symm⟩
  ·obtain ⟨g,aB,h1,ae⟩:=Wr h
   exact ⟨g,List.mem_cons_of_mem _ aB,h1,ae⟩
theorem Oy:∀ {L:List Nat} {k:Nat} (x:Nat),k<L.length→(L.set k x).sum+L.getD k 0=L.sum+x
 | [],k,x,h=>by simp at h
 | a::r,0,x,_=>by simp;omega
 | a::r,k+1,x,h=>by
  have:=Oy (L:=r) (k:=k) x (by simpa using h)
  simp only [List.set_cons_succ,List.sum_cons,List.getD_cons_succ]
  omega
theorem ahy {L:List Nat} {v f:Nat} (aN:v<L.length) (aC:f<L.length) (bZ:v≠f) (bb:L.getD v 0≠L.getD f 0):((L.set v (min (L.getD v 0) (L.getD f 0))).set f (min (L.getD v 0) (L.getD f 0))).sum<L.sum:=by
 have h1:=Oy (L:=L) (min (L.getD v 0) (L.getD f 0)) aN
 have ae:=Oy (L:=L.set v (min (L.getD v 0) (L.getD f 0))) (k:=f) (min (L.getD v 0) (L.getD f 0)) (by simpa using aC)
 have aA:(L.set v (min (L.getD v 0) (L.getD f 0))).getD f 0=L.getD f 0:=by
  rw [List.getD,List.getElem?_set,if_neg bZ,←List.getD]
 omega
theorem Ws {l:List bu} {L:List Nat}:∀ {r:List bu} {v:Nat} {pQ:List Nat},qz l L v r=some pQ→∃ k x,r[k]?=some x∧pP l L (v+k) x.aS=some pQ
 | [],_,_,h=>by cases h
 | x::r,v,pQ,h=>by
  unfold qz at h
  split at h
  ·rename_i q
   exact ⟨0,x,rfl,by rw [Nat.add_zero,q];exact h⟩
  ·obtain ⟨k,y,h1,ae⟩:=Ws h
   exact ⟨k+1,y,by simpa using h1,by rw [show v+(k+1)=v+1+k by omega];exact ae⟩
theorem ahz (l:List bu) (h:J) (sK:l.length≤24) (aU:∀ (v:Nat) (x:bu),l[v]?=some x→∀ f ∈ x.aS,0≤f∧f<(v:Int)) (kg:∀ x ∈ l,x.aS.length<2 ^ 47) :
  ab Tryz.prog 129 [.ag l.length (l.flatMap al)] h (fun r h'=>∃ m es cl,r=.map m∧h.n≤m∧m<h'.n∧h'.get m=.map (vX es) cl∧xp es (sk l)∧(sk l).length=l.length∧I h h' none_):=by
 refine ab.ao (c:=_) Tryz.func129 rfl (by kernel_rfl) (by simp) ?_
 simp only [aa]
 refine aP.Bk (α:=Unit) (l:=0) rfl (fun _ f h'=>f 0=.ag l.length (l.flatMap al)∧f 3=.map h.n∧I h h' none_∧h.n<h'.n∧∃ es cl,h'.get h.n=.map (vX es) cl∧xp es (List.range l.length)) (fun _=>0) ?_ ?_ ?_
 ·intro _ f h1 _
  omega
 ·rintro _ f h1 ⟨f0,f3,bo,eL,es,cl,dI,iT⟩
  refine dw (by kernel_rfl) ?_
  simp only [aa]
  refine aP.bG (α:=List Nat×List (Nat×Int×Int)×Nat×Nat) (fun x f h'=>f 0=.ag l.length (l.flatMap al)∧f 3=.map h.n∧I h h' none_∧h.n<h'.n∧h'.get h.n=.map (vX x.2.1) x.2.2.1∧xp x.2.1 x.1∧x.1.length=l.length∧x.1.sum<x.2.2.2∧rS l x.2.2.2 x.1=sk l) (fun x=>x.1.sum) (List.range l.length,es,cl,600) ⟨f0,f3,bo,eL,dI,iT,by simp,?_,rfl⟩ ?_
  ·show (List.range l.length).sum<600
   have:∀ n:Nat,n≤24→(List.range n).sum<600:=by decide
   exact this _ sK
  rintro ⟨L,es,cl,k⟩ f ae ⟨f0,f3,k2,ef,dI,iT,gw,hk,e1⟩
  simp only at dI iT gw hk e1
  refine dw (by kernel_rfl) ?_
  simp only [aa,d9,f0]
  refine aP.bG (α:=Nat) (fun v f h'=>f 0=.ag l.length (l.flatMap al)∧f 3=.map h.n∧f 20=.ag l.length (l.flatMap al)∧f 21=.int .i64 ((l.length:Nat):Int)∧f 22=.int .i64 (v:Nat)∧v≤l.length∧I h h' none_∧h.n<h'.n∧h'.get h.n=.map (vX es) cl∧qz l L 0 l=qz l L v (l.drop v)) (fun v=>l.length - v) 0 ⟨f0,f3,rfl,rfl,rfl,Nat.zero_le _,k2,ef,dI,rfl⟩ ?_
  rintro v g aA ⟨g0,g3,g20,g21,g22,aN,k3,n3,tN,bC⟩
  refine dw (by kernel_rfl) ?_
  by_cases aH:v<l.length
  rotate_left
  ·have bd:decide ((v:Int)<((l.length:Nat):Int))=false:=by simp only [decide_eq_false_iff_not];omega
   rw [List.drop_of_length_le (by omega)] at bC
   have kl:rS l k L=L:=by
    obtain ⟨k',rfl⟩:∃ k',k=k'+1:=⟨k - 1,by omega⟩
    unfold rS
    rw [bC]
    rfl
   simp only [aa,Nat.reduceEqDiff,g3,g21,g22,bd,xL,aI,Tryz.results129,ac]
   exact au ⟨h.n,es,cl,rfl,Nat.le_refl _,n3,tN,by rw [←e1,kl];exact iT,by rw [←e1,kl];exact gw,k3⟩
  have bd:decide ((v:Int)<((l.length:Nat):Int))=true:=by simp only [decide_eq_true_eq];omega
  have eo:=oJ (kk:=.i64) (P:=Tryz.prog) hF aH w8
  have Lu:=aU v l[v] (List.getElem?_eq_getElem aH)
  have Bd:=kg l[v] (List.getElem_mem aH)
  rw [List.drop_eq_getElem_cons aH] at bC
  replace bC:qz l L 0 l=match pP l L v l[v].aS with | some pQ=>some pQ | none=>qz l L (v+1) (l.drop (v+1)):=bC
  have b0:IntKind.i64.wrap (((v:Nat):Int)+1)=((v+1:Nat):Int):=by rw [Go.IntWalk.i64_in _ (by omega)];omega
  generalize l[v]=A at eo Lu Bd bC
  have ib:∀ (q:List V),cX (some (some 6)) (some (al A++q))=some (.agg (al A)):=fun q=>lC (hF A)
  have b3:(V.agg (al A)).cells=some (al A):=rfl
  have cK:bM (some 6) (aV.cells [.int .i64 0,.ah,.int .i64 0,.int .i64 0,.ah,.int .i64 0] 29 none) 0 (al A)=some (.cells (al A) 29 none):=by
   rw [rl (n:=6) (hF A) (xl A),if_pos (by decide),oo];rfl
  have hY:da (aV.cells (al A) 29 none) 1=some [.ag A.aS.length (aO A.aS),.int .i64 A.e.op,.int .i64 A.e.num,.ag A.e.ax.length (A.e.ax.flatMap aq),.int .i64 A.n]:=by rw [oo];rfl
  obtain ⟨gC,iy⟩:∃ x,x=aA.push (.cells (al A) 29 none):=⟨_,rfl⟩
  have sG:gC.get aA.n=.cells (al A) 29 none:=by rw [iy];exact b6
  have Cb:gC.get h.n=.map (vX es) cl:=by rw [iy];exact (kM (by omega)).trans tN
  have bY:I h gC none_:=by rw [iy];exact k3.a8 _
  have n4:gC.n=aA.n+1:=by rw [iy];rfl
  simp only [aa,Nat.reduceEqDiff,oU,mh,lb,mi,nb,oc,g20,g21,g22,bd,eo,ib,b3,cK,←iy,sG,hY]
  refine aP.bG (α:=Nat) (fun j f h'=>f 0=.ag l.length (l.flatMap al)∧f 3=.map h.n∧f 20=.ag l.length (l.flatMap al)∧f 21=.int .i64 ((l.length:Nat):Int)∧f 22=.int .i64 (v:Nat)∧f 5=.int .i64 (v:Nat)∧f 28=.ag A.aS.length (aO A.aS)∧f 29=.int .i64 ((A.aS.length:Nat):Int)∧f 30=.int .i64 (j:Nat)∧j≤A.aS.length∧h'=gC∧pP l L v A.aS=pP l L v (A.aS.drop j)) (fun j=>A.aS.length - j) 0 ⟨g0,g3,g20,g21,g22,rfl,rfl,rfl,rfl,Nat.zero_le _,rfl,rfl⟩ ?_
  rintro j p bN ⟨s0,sv,Gj,Gk,Cc,I0,y0,wN,Cd,aX,rfl,jY⟩
  refine dw (by kernel_rfl) ?_
  by_cases zz:j<A.aS.length
  rotate_left
  ·have bH:decide ((j:Int)<((A.aS.length:Nat):Int))=false:=by simp only [decide_eq_false_iff_not];omega
   rw [List.drop_of_length_le (by omega)] at jY
   have Wt:pP l L v A.aS=none:=jY
   rw [Wt] at bC
   simp only [aa,Nat.reduceEqDiff,sv,Cc,wN,Cd,bH,b0]
   exact au ⟨v+1,⟨s0,sv,Gj,Gk,rfl,by omega,bY,by omega,Cb,bC⟩,by omega⟩
  have bH:decide ((j:Int)<((A.aS.length:Nat):Int))=true:=by simp only [decide_eq_true_eq];omega
  have bR:=ra (P:=Tryz.prog) (kk:=.i64) zz kr
  have la:IntKind.i64.wrap (((j:Nat):Int)+1)=((j+1:Nat):Int):=by rw [Go.IntWalk.i64_in _ (by omega)];omega
  have bS:A.aS[j] ∈ A.aS:=List.getElem_mem zz
  rw [List.drop_eq_getElem_cons zz] at jY
  generalize A.aS[j]=B at bR bS jY
  obtain ⟨gA,kL⟩:=Lu B bS
  obtain ⟨q,rfl⟩:∃ q:Nat,B=(q:Int):=⟨B.toNat,by omega⟩
  obtain ⟨dn,gG,iO⟩:=yX (l:=l) (q:=q) (by omega)
  have xq:=Ox iT (k:=v) (by omega) Cb
  have Wu:=Ox iT (k:=q) (by omega) Cb
  replace jY:pP l L v A.aS=if fE l (q:Int)≠5∧L.getD v 0≠L.getD q 0 then some ((L.set v (min (L.getD v 0) (L.getD q 0))).set q (min (L.getD v 0) (L.getD q 0))) else pP l L v (A.aS.drop (j+1)):=jY
  by_cases Ce:fE l (q:Int)=5
  ·have c3:(fE l (q:Int) !=5)=false:=by simp [Ce]
   rw [if_neg (by simp [Ce])] at jY
   simp only [aa,Nat.reduceEqDiff,reduceCtorEq,fL,a7,s0,y0,wN,Cd,bH,bR,dn,gG,c3,la]
   exact au ⟨j+1,⟨s0,sv,Gj,Gk,Cc,I0,y0,wN,rfl,by omega,rfl,jY⟩,by omega⟩
  have c3:(fE l (q:Int) !=5)=true:=by simp [Ce]
  by_cases heq:L.getD v 0=L.getD q 0
  ·have dU:(((L.getD v 0:Nat):Int) !=((L.getD q 0:Nat):Int))=false:=by rw [heq];simp
   rw [if_neg (fun U=>U.2 heq)] at jY
   simp only [aa,Nat.reduceEqDiff,reduceCtorEq,fL,a7,s0,sv,I0,y0,wN,Cd,bH,bR,dn,gG,c3,xq,Wu,dU,la]
   exact au ⟨j+1,⟨s0,sv,Gj,Gk,Cc,I0,y0,wN,rfl,by omega,rfl,jY⟩,by omega⟩
  have dU:(((L.getD v 0:Nat):Int) !=((L.getD q 0:Nat):Int))=true:=by rw [bne_iff_ne];omega
  rw [if_pos ⟨Ce,heq⟩] at jY
  rw [jY] at bC
  have Oz:=ahy (L:=L) (v:=v) (f:=q) (by omega) (by omega) (by omega) heq
  generalize OA:min (L.getD v 0) (L.getD q 0)=low at jY bC Oz
  have Em:min ((L.getD v 0:Nat):Int) ((L.getD q 0:Nat):Int)=((low:Nat):Int):=by rw [←OA,Nat.min_def,Int.min_def];split<;>split<;>omega
  have AM:=AQ es (v:Int) (low:Int) Cb
  have Of:=AQ (h:=bN.set h.n (.map (vX (cT cl es (v:Int) (low:Int))) (fX cl es (v:Int)))) (cT cl es (v:Int) (low:Int)) (q:Int) (low:Int) aL
  simp only [aa,Nat.reduceEqDiff,reduceCtorEq,fL,a7,s0,sv,Cc,I0,y0,wN,Cd,bH,bR,dn,gG,c3,xq,Wu,dU,Em,AM,Of]
  obtain ⟨k',rfl⟩:∃ k',k=k'+1:=⟨k - 1,by omega⟩
  have Wv:rS l k' ((L.set v low).set q low)=sk l:=by
   rw [←e1]
   show _=match qz l L 0 l with | some pQ=>rS l k' pQ | none=>L
   rw [bC]
  refine au ⟨((L.set v low).set q low,cT (fX cl es (v:Int)) (cT cl es (v:Int) (low:Int)) (q:Int) (low:Int),fX (fX cl es (v:Int)) (cT cl es (v:Int) (low:Int)) (q:Int),k'),⟨s0,sv,bY.iQ (Nat.le_refl _) _,by show h.n<bN.n;omega,aL,(iT.set cl v low).set _ q low,by simp [gw],by simp only;omega,Wv⟩,by simp only;omega⟩
 ·intro step
  refine aP.seq (dw (by kernel_rfl) ?_)
  simp only [aa,Nat.reduceEqDiff]
  refine aP.seq (dw (by kernel_rfl) ?_)
  simp only [aa,Nat.reduceEqDiff,reduceCtorEq,d9]
  refine aP.bG (α:=Nat×List (Nat×Int×Int)×Nat) (fun x f h'=>f 0=.ag l.length (l.flatMap al)∧f 3=.map h.n∧f 12=.int .i64 ((l.length:Nat):Int)∧f 13=.int .i64 (x.1:Nat)∧x.1≤l.length∧I h h' none_∧h.n<h'.n∧h'.get h.n=.map (vX x.2.1) x.2.2∧xp x.2.1 (List.range x.1)) (fun x=>l.length - x.1) (0,[],0) ⟨rfl,rfl,rfl,rfl,Nat.zero_le _,I.push _ _ _,Nat.lt_succ_self _,b6,fun k hk=>by simp at hk⟩ ?_
  rintro ⟨i,es,cl⟩ f h1 ⟨f0,f3,f12,f13,hi,bo,eL,dI,iT⟩
  simp only at f13 hi dI iT
  refine dw (by kernel_rfl) ?_
  by_cases aH:i<l.length
  ·have bd:decide ((i:Int)<((l.length:Nat):Int))=true:=by simp only [decide_eq_true_eq];omega
   have b0:IntKind.i64.wrap (((i:Nat):Int)+1)=((i+1:Nat):Int):=by rw [Go.IntWalk.i64_in _ (by omega)];omega
   have AM:=AQ es (i:Int) (i:Int) dI
   have Ww:xp (cT cl es (i:Int) (i:Int)) (List.range (i+1)):=fun k hk=>by
    rw [List.length_range] at hk
    rw [CB]
    have aB:(List.range (i+1)).getD k 0=k:=by rw [List.getD,List.getElem?_range hk];rfl
    rw [aB]
    by_cases tI:k=i
    ·rw [tI,if_pos rfl]
    ·rw [if_neg (by omega),iT k (by rw [List.length_range];omega),List.getD,List.getElem?_range (by omega)]
     rfl
   simp only [aa,Nat.reduceEqDiff,f3,f12,f13,bd,AM,b0]
   exact au ⟨(i+1,cT cl es (i:Int) (i:Int),fX cl es (i:Int)),⟨f0,f3,f12,rfl,by simp only;omega,bo.iQ (Nat.le_refl _) _,eL,aL,Ww⟩,by simp only;omega⟩
  ·have bd:decide ((i:Int)<((l.length:Nat):Int))=false:=by simp only [decide_eq_false_iff_not];omega
   have iL:i=l.length:=by omega
   rw [iL] at iT
   simp only [aa,f12,f13,bd]
   refine aP.seq (.label ?_)
   exact step () _ _ ⟨f0,f3,bo,eL,es,cl,dI,iT⟩
theorem Wx {L:List Nat} {k j x:Nat}:(L.set k x).getD j 0=if k=j∧j<L.length then x else L.getD j 0:=by
 rw [List.getD,List.getElem?_set]
 by_cases h:k=j
 ·subst h
  by_cases aM:k<L.length
  ·simp [aM]
  ·simp [aM,List.getD]
 ·simp [h,List.getD]
theorem Wy {l:List bu}:∀ (k:Nat) (L:List Nat),(∀ j,L.getD j 0≤j)→∀ j,(rS l k L).getD j 0≤j
 | 0,L,h,j=>h j
 | k+1,L,h,j=>by
  unfold rS
  cases af:qz l L 0 l with
  | none=>exact h j
  | some pQ=>
   refine Wy k pQ (fun j=>?_) j
   obtain ⟨v,x,h1,ae⟩:=Ws af
   obtain ⟨f,_,_,e⟩:=Wr ae
   rw [e,Wx,Wx]
   have a:=h (0+v)
   have b:=h f.toNat
   split
   ·rename_i U
    rw [←U.1]
    omega
   ·split
    ·rename_i U
     rw [←U.1]
     omega
    ·exact h j
theorem IT (l:List bu):∀ j,(sk l).getD j 0≤j:=Wy _ _ fun j=>by
 rw [List.getD]
 by_cases h:j<l.length
 ·rw [List.getElem?_range h];exact Nat.le_refl _
 ·rw [List.getElem?_eq_none (by simp;omega)];exact Nat.zero_le _
theorem Own.at' {h:J} {e:TypeId} {v:V} {cs:List V} {i:Nat} (bc:Own h e 1 v cs) (hi:aR v=some i) {k:Nat} (hk:k<cs.length) {kk:IntKind} {t:TypeId} (ad:e5 Tryz.prog t=some 1) :
  ir Tryz.prog t v (.int kk (k:Int))=some (.ptr i k)∧(∃ r,da (h.get i) k=some (cs[k]::r))∧∀ x,x.one=true→∃ ob,bM (some 1) (h.get i) k [x]=some ob∧Own (h.set i ob) e 1 v (cs.set k x):=by
 obtain ⟨j,cq,cP,ey,iD⟩:=ajA (P:=Tryz.prog) (kk:=kk) ad bc hk
 rw [hi] at cP
 obtain rfl:i=j:=by simpa using cP
 exact ⟨cq,ey,fun x ak=>by obtain ⟨ob,a,b,_⟩:=iD x ak;exact ⟨ob,a,b⟩⟩
def fF (R:List Nat):Nat→List Int×Nat
 | 0=>([],0)
 | i+1=>if R.getD i 0=i then ((fF R i).1++[((fF R i).2:Int)],(fF R i).2+1) else ((fF R i).1++[(fF R i).1.getD (R.getD i 0) 0],(fF R i).2)
theorem xr (R:List Nat):∀ i,(fF R i).1.length=i
 | 0=>rfl
 | i+1=>by unfold fF;split<;>simp [xr R i]
theorem Wz (R:List Nat):∀ i,(fF R i).2≤i
 | 0=>Nat.le_refl _
 | i+1=>by have:=Wz R i;unfold fF;split<;>simp only<;>omega
def hz (p:Int) (l:List bu):List Int:=if (ct p l).2=0 then (fF (sk l) l.length).1 else []
theorem WA {P:List Int} {i n:Nat} (n1:P.length=i) (hi:i<n) (x:Int):(P++List.replicate (n - i) 0).set i x=(P++[x])++List.replicate (n - (i+1)) 0:=by
 subst n1
 rw [List.set_append_right _ _ (Nat.le_refl _),Nat.sub_self,show n - P.length=(n - (P.length+1))+1 by omega,List.replicate_succ,List.set_cons_zero]
 simp
theorem WB (l:List bu) (p:Int) (ba:kh l) (h:J) (aB:lP h):Pure Tryz.prog 67 [.agg (cQ l p)] h (.tuple [.ag (hz p l).length (aO (hz p l)),.int .i64 (ct p l).2]):=by
 refine Pure.of (bh.tuple (bl.cons (bh.ag (G6 _)) (bl.cons (bh.int _ _) bl.nil))) ?_
 have aF:(V.agg (cQ l p)).cells=some [.ag l.length (l.flatMap al),.int .i64 p]:=rfl
 obtain ⟨H,hH⟩:∃ x,x=h.push (.cells [.ag l.length (l.flatMap al),.int .i64 p] 56 none):=⟨_,rfl⟩
 have gt:H.get h.n=.cells [.ag l.length (l.flatMap al),.int .i64 p] 56 none:=by rw [hH];exact b6
 have bq:I h H none_:=by rw [hH];exact I.push _ _ _
 have h9:H.n=h.n+1:=by rw [hH];rfl
 have s9:=aB.aj bq
 refine ab.ao (c:=_) Tryz.func67 rfl (by kernel_rfl) (by simp) ?_
 simp only [aa,Nat.reduceEqDiff,Nat.reduceAdd,kp,aF,←hH,gt]
 refine bB MC (Oa l p ba H s9) ?_
 by_cases h0:(ct p l).2=0
 rotate_left
 ·have bH:((ct p l).2 !=0)=true:=by simp [h0]
  have bj:hz p l=[]:=if_neg h0
  simp only [aa,Nat.reduceEqDiff,pO,bH,aI,Tryz.results67,cW]
  exact au ⟨_,by rw [bj];exact aK.tuple (az.cons (aK.kN _) (az.refl _ _)),bq⟩
 have bH:((ct p l).2 !=0)=false:=by simp [h0]
 obtain ⟨_,_,ff,ur,_,dx⟩:=Od h0
 have bj:hz p l=(fF (sk l) l.length).1:=if_pos h0
 simp only [aa,Nat.reduceEqDiff,Nat.reduceAdd,jH,ji,pO,bH,gt]
 refine bU acG (ahz l H ur (fun v x ak f aC=>(VS (dx v x ak)).2.1 f aC) (fun x ak=>(ba.2 x ak).2.1)) fun r h1 ⟨m,es,cl,kG,m1,m2,dI,iT,wH,bo⟩=>?_
 subst kG
 have Gl:=IT l
 generalize sk l=R at iT wH Gl bj
 have ta:=(bo.get h.n (by omega) (by simp [none_])).trans gt
 have sU:GW Tryz.prog 24 (.int .i64 ((l.length:Nat):Int)) (.int .i64 ((l.length:Nat):Int)) h1=some (.bp h1.n 0 l.length l.length,h1.push (.cells (aO (List.replicate l.length 0)) 3 none)):=by
  rw [Yy tc (Nat.le_refl _) (by simp only;omega) (by omega),aaG]
  simp [aO]
 have a0:Own (h1.push (.cells (aO (List.replicate l.length 0)) 3 none)) 3 1 (.bp h1.n 0 l.length l.length) (aO (List.replicate l.length 0)):=Own.js _ l.length (by rw [pb,List.length_replicate,Nat.mul_one]) (by unfold cN;omega)
 obtain ⟨bI,bA⟩:∃ x,x=h1.push (.cells (aO (List.replicate l.length 0)) 3 none):=⟨_,rfl⟩
 have k2:I h1 bI none_:=by rw [bA];exact I.push _ _ _
 have ef:bI.n=h1.n+1:=by rw [bA];rfl
 rw [←bA] at a0
 have jL:=(k2.get h.n (by have:=bo.n;omega) (by simp [none_])).trans ta
 have p5:=(k2.get m m2 (by simp [none_])).trans dI
 simp only [aa,Nat.reduceEqDiff,Nat.reduceAdd,jH,d9,ji,ta,sU,←bA,jL]
 have ae6:=bo.n
 refine aP.bG (α:=Nat) (fun i f h'=>f 6=.map m∧f 7=.bp h1.n 0 l.length l.length∧f 8=.int .i64 (((fF R i).2:Nat):Int)∧f 27=.int .i64 ((l.length:Nat):Int)∧f 28=.int .i64 (i:Nat)∧i≤l.length∧I bI h' (fun q=>q=h1.n)∧Own h' 3 1 (.bp h1.n 0 l.length l.length) (aO ((fF R i).1++List.replicate (l.length - i) 0))) (fun i=>l.length - i) 0 ⟨rfl,rfl,rfl,rfl,rfl,Nat.zero_le _,I.refl _ _,a0⟩ ?_
 rintro i f aA ⟨f6,f7,f8,f27,f28,hi,k3,gJ⟩
 have tN:=(k3.get m (by omega) (by omega)).trans p5
 refine dw (by kernel_rfl) ?_
 by_cases aH:i<l.length
 rotate_left
 ·have c3:decide ((i:Int)<((l.length:Nat):Int))=false:=by simp only [decide_eq_false_iff_not];omega
  have iL:i=l.length:=by omega
  subst iL
  rw [Nat.sub_self,List.replicate_zero,List.append_nil] at gJ
  obtain ⟨bk,dU,bY⟩:=aK.own gJ (n:=l.length) (by rw [pb,xr,Nat.mul_one]) (by decide)
  have ahA:I h bk none_:=(((bq.trans' bo).trans' k2).trans k3 fun q af e=>by omega).trans bY fun q af e=>by simp [bn,aR] at e;omega
  simp only [aa,Nat.reduceEqDiff,f7,f27,f28,c3,aI,Tryz.results67,cW]
  refine au ⟨bk,?_,ahA⟩
  rw [bj,xr,h0]
  exact aK.tuple (az.cons dU (az.refl _ _))
 have c3:decide ((i:Int)<((l.length:Nat):Int))=true:=by simp only [decide_eq_true_eq];omega
 have b0:IntKind.i64.wrap (((i:Nat):Int)+1)=((i+1:Nat):Int):=by rw [Go.IntWalk.i64_in _ (by omega)];omega
 have iO:=Ox iT (k:=i) (by omega) tN
 have hlen:(aO ((fF R i).1++List.replicate (l.length - i) 0)).length=l.length:=by rw [pb,List.length_append,xr,List.length_replicate];omega
 obtain ⟨cq,_,ey⟩:=Pk.Own.at' (kk:=.i64) gJ (i:=h1.n) rfl (k:=i) (by rw [hlen];exact aH) kr
 have hle:=Wz R i
 by_cases he:R.getD i 0=i
 ·have dU:(((R.getD i 0:Nat):Int)==((i:Nat):Int))=true:=by rw [he];simp
  have la:IntKind.i64.wrap ((((fF R i).2:Nat):Int)+1)=(((fF R i).2+1:Nat):Int):=by rw [Go.IntWalk.i64_in _ (by omega)];omega
  obtain ⟨ob,dt,b1⟩:=ey (.int .i64 (((fF R i).2:Nat):Int)) rfl
  rw [RD,WA (xr R i) aH] at b1
  have aW:fF R (i+1)=((fF R i).1++[((fF R i).2:Int)],(fF R i).2+1):=if_pos he
  simp only [aa,Nat.reduceEqDiff,uz,f6,f7,f8,f27,f28,c3,iO,dU,cq,dt,b0,la]
  exact au ⟨i+1,⟨f6,f7,by rw [aW];rfl,f27,rfl,by omega,k3.trans' (I.set _ _ _),by rw [aW];exact b1⟩,by omega⟩
 ·have dU:(((R.getD i 0:Nat):Int)==((i:Nat):Int))=false:=by simp only [beq_eq_false_iff_ne,ne_eq];omega
  have amc:=Gl i
  have aX:R.getD i 0<i:=by omega
  generalize p6:R.getD i 0=Cz at *
  obtain ⟨gA,kL,_⟩:=Pk.Own.at' (kk:=.i64) gJ (i:=h1.n) rfl (k:=Cz) (by rw [hlen];omega) kr
  have j8:(aO ((fF R i).1++List.replicate (l.length - i) 0))[Cz]'(by rw [hlen];omega)=.int .i64 ((fF R i).1.getD Cz 0):=by
   simp only [aO,List.getElem_map]
   rw [List.getElem_append_left (by rw [xr];exact aX),List.getD,List.getElem?_eq_getElem (by rw [xr];exact aX)]
   rfl
  obtain ⟨hU,kL⟩:=kL
  rw [j8] at kL
  obtain ⟨ob,dt,b1⟩:=ey (.int .i64 ((fF R i).1.getD Cz 0)) rfl
  rw [RD,WA (xr R i) aH] at b1
  have aW:fF R (i+1)=((fF R i).1++[(fF R i).1.getD Cz 0],(fF R i).2):=by
   show (if R.getD i 0=i then _ else _)=_
   rw [p6,if_neg (by omega)]
  simp only [aa,Nat.reduceEqDiff,a7,uz,f6,f7,f27,f28,c3,iO,dU,gA,kL,cq,dt,b0]
  exact au ⟨i+1,⟨f6,f7,by rw [aW];exact f8,f27,rfl,by omega,k3.trans' (I.set _ _ _),by rw [aW];exact b1⟩,by omega⟩
def mx:Int→List Int→Int
 | a,[]=>a
 | a,b::r=>mx (max a b) r
theorem Gm {p:Int} {l:List bu} (h0:(ct p l).2=0):(hz p l).length=l.length:=by
 unfold hz
 rw [if_pos h0,xr]
theorem OB (u:Nat) (a b:Nat) (P:List Int) (part:Int) (hu:u<P.length) (h:J) (jm:h.get a=.cells [.ag P.length (aO P)] 24 none) (vc:h.get b=.cells [.int .i64 part] 3 none) :
  Pure Tryz.prog 133 [.int .i64 (u:Int),.ptr a 0,.ptr b 0] h (.bool (P.getD u 0==part)):=by
 refine Pure.val (bh.bool _) ?_
 have eo:=ra (P:=Tryz.prog) (kk:=.i64) hu kr
 have aB:P.getD u 0=P[u]:=by rw [List.getD,List.getElem?_eq_getElem hu];rfl
 refine ab.ao (c:=_) Tryz.func133 rfl (by kernel_rfl) (by simp) ?_
 simp only [aa]
 refine aP.aY none_ [] (.q 0 (.q 1 (.q 2 (.q 3 (.q 4 (.q 5 (.q 6 .done))))))) (by kernel_rfl) (by kernel_rfl) (by kernel_rfl) ?_
 simp only [aa,bD,Nat.reduceEqDiff,reduceCtorEq,lb,a7,jm,vc,eo,aI,Tryz.results133,ac]
 exact au ⟨by rw [aB],I.refl _ _⟩
theorem ahB (oy:List Int) (a b:Nat) (P:List Int) (part:Int) (AR:∀ u ∈ oy,0≤u∧u<P.length) (aM:oy.length<2 ^ 40) (h:J) (jm:h.get a=.cells [.ag P.length (aO P)] 24 none) (vc:h.get b=.cells [.int .i64 part] 3 none) :
  Pure Tryz.prog 131 [.ag oy.length (aO oy),.func (.func 133) [] [.ptr a 0,.ptr b 0]] h (.bool (oy.any fun u=>P.getD u.toNat 0==part)):=by
 have fR:ab Tryz.prog 183 [.ag oy.length (aO oy),.func (.func 133) [] [.ptr a 0,.ptr b 0]] h (fun r h'=>(∃ k:Int,r=.int .i64 k∧(decide (0≤k))=oy.any fun u=>P.getD u.toNat 0==part)∧h'=h):=by
  refine ab.ao (c:=_) Tryz.func183 rfl (by kernel_rfl) (by simp) ?_
  simp only [aa,Int.reduceNeg,Nat.reduceEqDiff,reduceCtorEq,mh]
  refine aP.bG (α:=Nat) (fun j f h'=>f 0=.ag oy.length (aO oy)∧f 1=.func (.func 133) [] [.ptr a 0,.ptr b 0]∧f 7=.int .i64 ((oy.length:Nat):Int)∧f 8=.int .i64 (j:Nat)∧j≤oy.length∧h'=h∧(oy.any fun u=>P.getD u.toNat 0==part)=((oy.drop j).any fun u=>P.getD u.toNat 0==part)) (fun j=>oy.length - j) 0 ⟨rfl,rfl,rfl,rfl,Nat.zero_le _,rfl,rfl⟩ ?_
  rintro j f h1 ⟨f0,f1,f7,f8,aX,rfl,bC⟩
  refine dw (by kernel_rfl) ?_
  by_cases aH:j<oy.length
  ·have c5:decide ((j:Int)<((oy.length:Nat):Int))=true:=by simp only [decide_eq_true_eq];omega
   rw [List.drop_eq_getElem_cons aH,List.any_cons] at bC
   have bR:=ra (P:=Tryz.prog) (kk:=.i64) aH kr
   have bS:=AR _ (List.getElem_mem aH)
   generalize oy[j]=A at *
   obtain ⟨q,rfl⟩:∃ q:Nat,A=(q:Int):=⟨A.toNat,by omega⟩
   have b0:IntKind.i64.wrap (((j:Nat):Int)+1)=((j+1:Nat):Int):=by rw [Go.IntWalk.i64_in _ (by omega)];omega
   simp only [aa,Nat.reduceEqDiff,reduceCtorEq,a7,f0,f1,f7,f8,c5,bR]
   refine bB acK (OB q a b P part (by omega) h1 jm vc) ?_
   rw [Int.toNat_natCast] at bC
   cases hM:(P.getD q 0==part)
   ·simp only [aa,Int.reduceNeg,Nat.reduceEqDiff,f8,b0]
    rw [hM,Bool.false_or] at bC
    exact au ⟨j+1,⟨f0,f1,f7,rfl,by omega,rfl,bC⟩,by omega⟩
   ·simp only [aa,Int.reduceNeg,Nat.reduceEqDiff,aI,Tryz.results183,ac]
    rw [hM,Bool.true_or] at bC
    exact au ⟨⟨_,rfl,by rw [bC];simp⟩,rfl⟩
  ·have c5:decide ((j:Int)<((oy.length:Nat):Int))=false:=by simp only [decide_eq_false_iff_not];omega
   rw [List.drop_of_length_le (by omega)] at bC
   simp only [aa,Int.reduceNeg,Nat.reduceEqDiff,f7,f8,c5,aI,Tryz.results183,ac]
   exact au ⟨⟨_,rfl,by rw [bC];rfl⟩,rfl⟩
 refine ab.ao (c:=_) Tryz.func131 rfl (by kernel_rfl) (by simp) ?_
 simp only [aa,Nat.reduceEqDiff,reduceCtorEq]
 refine bU acS fR fun r h1 ⟨⟨k,ar,aT⟩,cg⟩=>?_
 subst ar cg
 simp only [aa,Nat.reduceEqDiff,aI,Tryz.results131,ac]
 exact au ⟨by rw [aT],rfl⟩
def pR (l:List bu) (P:List Int) (part:Int) (v:Nat):Bool:=(fE l (v:Int)==1&&P.getD v 0==part)||(fE l (v:Int)==5&&(ft (v:Int) 0 l).any fun u=>P.getD u.toNat 0==part)
def jw (l:List bu) (P:List Int) (part:Int):Nat→List Int
 | 0=>[]
 | i+1=>jw l P part i++(if pR l P part i then [(i:Int)] else [])
theorem I1 (l:List bu) (P:List Int) (part:Int):∀ i,(jw l P part i).length≤i
 | 0=>Nat.le_refl _
 | i+1=>by
  have:=I1 l P part i
  unfold jw
  rw [List.length_append]
  split<;>simp<;>omega
def y1 (p:Int) (l:List bu) (part:Int):List Int:=jw l (hz p l) part (hz p l).length
theorem ahC (l:List bu) (p part:Int) (ba:kh l) (h:J) (aB:lP h):Pure Tryz.prog 70 [.agg (cQ l p),.int .i64 part] h (.ag (y1 p l part).length (aO (y1 p l part))):=by
 have OC:(hz p l).length≤24∧((hz p l).length=0∨((hz p l).length=l.length∧l.length≤24)):=by
  by_cases h0:(ct p l).2=0
  ·obtain ⟨_,_,_,ur,_⟩:=Od h0
   rw [Gm h0]
   exact ⟨ur,.inr ⟨rfl,ur⟩⟩
  ·unfold hz
   rw [if_neg h0]
   exact ⟨by simp,.inl rfl⟩
 have iL:=I1 l (hz p l) part (hz p l).length
 refine Pure.acc (e:=3) (sz:=1) (G6 _) (by rw [pb,Nat.mul_one]) (by decide) ?_
 have aF:(V.agg (cQ l p)).cells=some [.ag l.length (l.flatMap al),.int .i64 p]:=rfl
 obtain ⟨H,hH⟩:∃ x,x=(h.push (.cells [.ag l.length (l.flatMap al),.int .i64 p] 56 none)).push (.cells [.int .i64 part] 3 none):=⟨_,rfl⟩
 have gt:H.get h.n=.cells [.ag l.length (l.flatMap al),.int .i64 p] 56 none:=by rw [hH];exact ve
 have kQ:H.get (h.n+1)=.cells [.int .i64 part] 3 none:=by rw [hH];exact wq
 have bq:I h H none_:=by rw [hH];exact (I.push _ _ _).a8 _
 have h9:H.n=h.n+2:=by rw [hH];rfl
 have WC:∀ x:Int,(V.int .i64 x).cells=some [.int .i64 x]:=fun _=>rfl
 have sf:∀ (n:Nat) (x:List V),(V.ag n x).cells=some [.ag n x]:=fun _ _=>rfl
 refine ab.ao (c:=_) Tryz.func70 rfl (by kernel_rfl) (by simp) ?_
 simp only [aa,Nat.reduceEqDiff,Nat.reduceAdd,kp,aF,WC,←hH,gt]
 refine bB S6 (WB l p ba H (aB.aj bq)) ?_
 unfold y1
 generalize hz p l=P at OC iL
 obtain ⟨bI,bA⟩:∃ x,x=H.push (.cells [.ag P.length (aO P)] 24 none):=⟨_,rfl⟩
 have wL:bI.get H.n=.cells [.ag P.length (aO P)] 24 none:=by rw [bA];exact b6
 have k2:I H bI none_:=by rw [bA];exact I.push _ _ _
 have ef:bI.n=H.n+1:=by rw [bA];rfl
 have jL:=(k2.get h.n (by omega) (by simp [none_])).trans gt
 have FV:=(k2.get (h.n+1) (by omega) (by simp [none_])).trans kQ
 simp only [aa,Nat.reduceEqDiff,mh,lb,Zc,Qu,sf,←bA,wL]
 refine aP.bG (α:=V×Nat) (fun x f h'=>f 2=.ptr h.n 0∧f 3=.ptr (h.n+1) 0∧f 5=.ptr H.n 0∧f 7=x.1∧f 15=.ag P.length (aO P)∧f 16=.int .i64 ((P.length:Nat):Int)∧f 17=.int .i64 (x.2:Nat)∧x.2≤P.length∧Acc bI h' 3 1 x.1 (aO (jw l P part x.2))) (fun x=>P.length - x.2) (.ah,0) ⟨rfl,rfl,rfl,rfl,rfl,rfl,rfl,Nat.zero_le _,Acc.nil (I.refl _ _)⟩ ?_
 rintro ⟨u,i⟩ f h1 ⟨f2,f3,f5,f7,f15,f16,f17,hi,cw⟩
 simp only at f7 f17 hi cw
 have lg:=(cw.aj.get h.n (by omega) (by simp [none_])).trans jL
 have Gn:=(cw.aj.get (h.n+1) (by omega) (by simp [none_])).trans FV
 have WD:=(cw.aj.get H.n (by omega) (by simp [none_])).trans wL
 refine dw (by kernel_rfl) ?_
 by_cases aH:i<P.length
 rotate_left
 ·have c5:decide ((i:Int)<((P.length:Nat):Int))=false:=by simp only [decide_eq_false_iff_not];omega
  have WE:i=P.length:=by omega
  rw [WE] at cw
  simp only [aa,Nat.reduceEqDiff,f7,f16,f17,c5,aI,Tryz.results70,ac]
  exact au ⟨cw.own,(bq.trans' k2).trans' cw.aj,fun k hk=>by have:=cw.new k hk;omega⟩
 have c5:decide ((i:Int)<((P.length:Nat):Int))=true:=by simp only [decide_eq_true_eq];omega
 have OD:i<l.length:=by omega
 have bR:=ra (P:=Tryz.prog) (kk:=.i64) aH kr
 have WG:P.getD i 0=P[i]:=by rw [List.getD,List.getElem?_eq_getElem aH];rfl
 rw [←WG] at bR
 obtain ⟨dn,gG,iO⟩:=yX OD
 have b0:IntKind.i64.wrap (((i:Nat):Int)+1)=((i+1:Nat):Int):=by rw [Go.IntWalk.i64_in _ (by omega)];omega
 have hlen:=I1 l P part i
 have Lv:jw l P part (i+1)=jw l P part i++(if pR l P part i then [(i:Int)] else []):=rfl
 obtain ⟨v2,aA,cq,a2⟩:=cw.elem (P:=Tryz.prog) tc (by decide) (xs:=[.int .i64 (i:Nat)]) rfl rfl (by simp [pb,lim];omega) (by simp [pb,lim];omega)
 have yes:pR l P part i=true→Acc bI aA 3 1 v2 (aO (jw l P part (i+1))):=fun U=>by rw [Lv,U,if_pos rfl,YG];exact a2
 have no:pR l P part i=false→Acc bI h1 3 1 u (aO (jw l P part (i+1))):=fun U=>by rw [Lv,U,if_neg (by simp),List.append_nil];exact cw
 have lx:pR l P part i=((fE l (i:Int)==1&&P.getD i 0==part)||(fE l (i:Int)==5&&(ft (i:Int) 0 l).any fun u=>P.getD u.toNat 0==part)):=rfl
 cases bo:(fE l (i:Int)==1)
 ·cases cG:(fE l (i:Int)==5)
  ·rw [bo,cG] at lx
   simp only [aa,Nat.reduceEqDiff,Nat.reduceAdd,fL,jH,a7,ji,f2,f15,f16,f17,c5,bR,lg,dn,gG,bo,cG,b0]
   exact au ⟨(u,i+1),⟨f2,f3,f5,f7,f15,f16,rfl,by simp only;omega,no lx⟩,by simp only;omega⟩
  ·rw [bo,cG] at lx
   simp only [aa,Nat.reduceEqDiff,Nat.reduceAdd,fL,jH,a7,ji,kp,f2,f15,f16,f17,c5,bR,lg,dn,gG,bo,cG]
   refine bB acJ (VQ l p (i:Int) ba (by omega) h1) ?_
   simp only [aa,Nat.reduceEqDiff,f3,f5]
   refine bB acI (ahB (ft (i:Int) 0 l) H.n (h.n+1) P part (fun u hu=>by
    obtain ⟨m,x,ar,aT,_⟩:=B6.1 hu
    have:=(List.getElem?_eq_some_iff.1 aT).1
    omega) (by have:=AJ (v:=(i:Int)) (l:=l) (j:=0);omega) h1 WD Gn) ?_
   cases cc:(ft (i:Int) 0 l).any fun u=>P.getD u.toNat 0==part
   ·rw [cc] at lx
    simp only [aa,Nat.reduceEqDiff,f17,b0]
    exact au ⟨(u,i+1),⟨f2,f3,f5,f7,f15,f16,rfl,by simp only;omega,no lx⟩,by simp only;omega⟩
   ·rw [cc] at lx
    simp only [aa,Nat.reduceEqDiff,f7,f17,DN,cq,b0]
    exact au ⟨(v2,i+1),⟨f2,f3,f5,rfl,f15,f16,rfl,by simp only;omega,yes lx⟩,by simp only;omega⟩
 ·have cG:(fE l (i:Int)==5)=false:=by
   rw [beq_iff_eq] at bo
   rw [bo]
   rfl
  rw [bo,cG] at lx
  cases bO:(P.getD i 0==part)
  ·rw [bO] at lx
   simp only [aa,Nat.reduceEqDiff,Nat.reduceAdd,fL,jH,a7,ji,f2,f3,f15,f16,f17,c5,bR,lg,Gn,dn,gG,bo,bO,b0]
   exact au ⟨(u,i+1),⟨f2,f3,f5,f7,f15,f16,rfl,by simp only;omega,no lx⟩,by simp only;omega⟩
  ·rw [bO] at lx
   simp only [aa,Nat.reduceEqDiff,Nat.reduceAdd,fL,jH,a7,ji,f2,f3,f7,f15,f16,f17,c5,bR,lg,Gn,dn,gG,bo,bO,DN,cq,b0]
   exact au ⟨(v2,i+1),⟨f2,f3,f5,rfl,f15,f16,rfl,by simp only;omega,yes lx⟩,by simp only;omega⟩
def Cf (bJ b5 rt acc:Int) (e:bF):V:=if cv e=true then l5 (b8 bJ b5 rt acc 16 e) else .tuple [.int .i64 0,.int .i64 1]
theorem WH (e:bF) (bJ b5 rt acc:Int) (h:J) (aB:fc h):Pure Tryz.prog 59 [.agg (aq e),.agg [.int .i64 bJ,.int .i64 b5,.int .i64 rt],.int .i64 acc] h (Cf bJ b5 rt acc e):=by
 have:=TE e bJ b5 rt acc h aB
 unfold Cf
 cases hm:cv e with
 | false=>rw [hm] at this;exact this
 | true=>
  rw [hm] at this
  cases aN:b8 bJ b5 rt acc 16 e<;>(rw [aN] at this;exact this)
theorem DL (h:J) (k v t:Int):lk Tryz.prog 49 1 [(0,.agg [.int .i64 k,.int .i64 v,.int .i64 t])] h=some (.bp h.n 0 1 1,h.push (.cells [.int .i64 k,.int .i64 v,.int .i64 t] 38 none)):=by rw [p0 Qs];rfl
def pS (r:Rec):Nat→List Rec
 | 0=>[]
 | i+1=>pS r i++[⟨r.k,iU (r.v+i),r.t⟩]
theorem DK (r:Rec):∀ i,(pS r i).length=i
 | 0=>rfl
 | i+1=>by simp [pS,DK r i]
theorem ahD (n:Int) (aG:n≤4) (r:Rec) (h:J):Pure Tryz.prog 191 [.int .i64 n,.agg (aD r)] h (.ag n.toNat ((pS r n.toNat).flatMap aD)):=by
 refine Pure.of (bh.ag (Et Uv _)) ?_
 refine ab.ao (c:=_) Tryz.func191 rfl (by kernel_rfl) (by simp) ?_
 simp only [aa,aD]
 obtain ⟨H,hH⟩:∃ x,x=h.push (.cells [.int .i64 r.k,.int .i64 r.v,.int .i64 r.t] 38 none):=⟨_,rfl⟩
 have g3:H.get h.n=.cells [.int .i64 r.k,.int .i64 r.v,.int .i64 r.t] 38 none:=by rw [hH];exact b6
 have bq:I h H none_:=by rw [hH];exact I.push _ _ _
 have h9:h.n<H.n:=by rw [hH,eA];omega
 rw [←hH]
 refine aP.bG (α:=Nat×V) (fun x f h'=>f 0=.int .i64 n∧f 3=.ptr h.n 0∧f 5=x.2∧f 6=.int .i64 (x.1:Nat)∧x.1≤n.toNat∧Acc H h' 38 3 x.2 ((pS r x.1).flatMap aD)) (fun x=>n.toNat - x.1) (0,.ah) ⟨rfl,rfl,rfl,rfl,Nat.zero_le _,Acc.nil (I.refl _ _)⟩ ?_
 rintro ⟨i,v⟩ f h1 ⟨f0,f3,f5,f6,hi,cw⟩
 simp only at f5 f6 hi cw
 refine dw (by kernel_rfl) ?_
 by_cases aH:(i:Int)<n
 rotate_left
 ·have c3:decide ((i:Int)<n)=false:=by simpa using aH
  have bS:i=n.toNat:=by omega
  obtain ⟨ae,c,k⟩:=cw.cast (n:=n.toNat) (by rw [iS CJ,DK,bS]) (by decide)
  simp only [aa,Nat.reduceEqDiff,reduceCtorEq,f0,f5,f6,c3,aI,Tryz.results191,ac]
  exact au ⟨ae,by rw [bS] at c;exact c,bq.trans' k⟩
 ·have c3:decide ((i:Int)<n)=true:=by simpa using aH
  have g1:=(cw.aj.get h.n h9 (by simp [none_])).trans g3
  have b0:IntKind.i64.wrap (((i:Nat):Int)+1)=((i+1:Nat):Int):=by rw [Go.IntWalk.i64_in _ (by omega)];omega
  obtain ⟨v',ae,cq,cP⟩:=Acc.ze (P:=Tryz.prog) Qs (cw.on (I.push h1 (.cells [.int .i64 r.k,.int .i64 (iU (r.v+i)),.int .i64 r.t] 38 none) _)) (xs:=[.int .i64 r.k,.int .i64 (iU (r.v+i)),.int .i64 r.t]) (by decide) rfl rfl (fun m hm=>by
   rw [iS CJ,DK] at hm
   have jV:m * 3=i * 3+3:=hm
   show m * 24≤140737488355328∧m≤140737488355328
   omega)
  have lit:=DL (h1.push (.cells [.int .i64 r.k,.int .i64 (iU (r.v+i)),.int .i64 r.t] 38 none)) r.k (iU (r.v+i)) r.t
  unfold iU at cq cP lit
  simp only [eA] at cq lit
  simp only [aa,Nat.reduceEqDiff,Nat.reduceAdd,Nat.reduceLeDiff,reduceCtorEq,EO,br,dj,tS,pA,xP,f0,f3,f5,f6,c3,g1,lit,cq,b0]
  exact au ⟨(i+1,v'),⟨f0,f3,rfl,rfl,by simp only;omega,by simp only [pS,List.flatMap_append,List.flatMap_cons,List.flatMap_nil,List.append_nil];exact cP⟩,by simp only;omega⟩
def gU (kind n:Int) (r:Rec):List Rec :=
 if kind=2 then [⟨r.k,n,r.t⟩] else if kind=5 then [⟨n,r.v,r.t⟩] else if kind=3 then (if n=0 then [] else [r])
 else if kind=4 then pS r (min n 4).toNat else [r]
theorem CK (l:List Rec):bh (V.ag l.length (l.flatMap aD)):=bh.ag (Et Uv _)
theorem I2 (h:J) (x:Rec):∃ ae,aK (.bp h.n 0 1 1) (h.push (.cells (aD x) 38 none)) (.ag [x].length ([x].flatMap aD)) ae∧I h ae none_:=by
 have:=aK.lit (h:=h) (c:=[x].flatMap aD) (e:=38) (n:=1) (sz:=3) rfl (by decide) (by decide)
 simpa using this
theorem ahE (kind n:Int) (r:Rec) (h:J):Pure Tryz.prog 137 [.int .i64 kind,.int .i64 n,.agg (aD r)] h (.ag (gU kind n r).length ((gU kind n r).flatMap aD)):=by
 refine Pure.of (CK _) ?_
 refine ab.ao (c:=_) Tryz.func137 rfl (by kernel_rfl) (by simp) ?_
 by_cases ae:kind=2
 ·have c:(kind==2)=true:=by simp [ae]
  have bj:gU kind n r=[⟨r.k,n,r.t⟩]:=by simp [gU,ae]
  have lit:=DL (h.push (.cells [.int .i64 r.k,.int .i64 n,.int .i64 r.t] 38 none)) r.k n r.t
  simp only [eA] at lit
  simp only [aa,Nat.reduceEqDiff,Nat.reduceAdd,Nat.reduceLeDiff,reduceCtorEq,EO,dj,pA,aD,c,lit,aI,Tryz.results137,ac]
  obtain ⟨U,cc,kk⟩:=I2 (h.push (.cells [.int .i64 r.k,.int .i64 n,.int .i64 r.t] 38 none)) ⟨r.k,n,r.t⟩
  exact au ⟨U,by rw [bj];exact cc,(I.push _ _ _).trans' kk⟩
 have bH:(kind==2)=false:=by simp [ae]
 by_cases bN:kind=5
 ·have c:(kind==5)=true:=by simp [bN]
  have bj:gU kind n r=[⟨n,r.v,r.t⟩]:=by simp [gU,bN]
  have lit:=DL (h.push (.cells [.int .i64 n,.int .i64 r.v,.int .i64 r.t] 38 none)) n r.v r.t
  simp only [eA] at lit
  simp only [aa,Nat.reduceEqDiff,Nat.reduceAdd,Nat.reduceLeDiff,reduceCtorEq,tA,dj,pA,aD,bH,c,lit,aI,Tryz.results137,ac]
  obtain ⟨U,cc,kk⟩:=I2 (h.push (.cells [.int .i64 n,.int .i64 r.v,.int .i64 r.t] 38 none)) ⟨n,r.v,r.t⟩
  exact au ⟨U,by rw [bj];exact cc,(I.push _ _ _).trans' kk⟩
 have c5:(kind==5)=false:=by simp [bN]
 have lit:=DL (h.push (.cells [.int .i64 r.k,.int .i64 r.v,.int .i64 r.t] 38 none)) r.k r.v r.t
 simp only [eA] at lit
 obtain ⟨U,cc,kk⟩:=I2 (h.push (.cells [.int .i64 r.k,.int .i64 r.v,.int .i64 r.t] 38 none)) r
 by_cases aA:kind=3
 ·have c:(kind==3)=true:=by simp [aA]
  by_cases aG:n=0
  ·have xX:(n==0)=true:=by simp [aG]
   have bj:gU kind n r=[]:=by simp [gU,aA,aG]
   simp only [aa,Nat.reduceEqDiff,reduceCtorEq,aD,bH,c5,c,xX,aI,Tryz.results137,ac]
   exact au ⟨_,by rw [bj];exact aK.iR _,I.push _ _ _⟩
  ·have xX:(n==0)=false:=by simp [aG]
   have bj:gU kind n r=[r]:=by simp [gU,aA,aG]
   simp only [aa,Nat.reduceEqDiff,Nat.reduceAdd,reduceCtorEq,dj,aD,bH,c5,c,xX,lit,aI,Tryz.results137,ac]
   exact au ⟨U,by rw [bj];exact cc,(I.push _ _ _).trans' kk⟩
 have c3:(kind==3)=false:=by simp [aA]
 by_cases bk:kind=4
 ·have c:(kind==4)=true:=by simp [bk]
  have bj:gU kind n r=pS r (min n 4).toNat:=by simp [gU,bk]
  simp only [aa,Nat.reduceEqDiff,Nat.reduceAdd,reduceCtorEq,dj,aD,bH,c5,c3,c]
  refine bB acX (ahD (min n 4) (by omega) r _) ?_
  simp only [aa,Nat.reduceEqDiff,aI,Tryz.results137,ac]
  exact au ⟨_,by rw [bj,DK];exact aK.refl _ _,I.push _ _ _⟩
 have dU:(kind==4)=false:=by simp [bk]
 have bj:gU kind n r=[r]:=by simp [gU,ae,bN,aA,bk]
 simp only [aa,Nat.reduceEqDiff,Nat.reduceAdd,reduceCtorEq,dj,aD,bH,c5,c3,dU,lit,aI,Tryz.results137,ac]
 exact au ⟨U,by rw [bj];exact cc,(I.push _ _ _).trans' kk⟩
def flatK (k:Int):Bool:=decide (k=2∨k=3∨k=4∨k=5)
def iq (v:bu) (r:Rec):List Rec×Int :=
 if v.kind=1∨v.kind=10 then ([r],0)
 else if v.kind=2∨v.kind=3∨v.kind=4∨v.kind=5 then
  (if cv v.e=true then (match b8 r.k r.v r.t 0 16 v.e with | some n=>(gU v.kind n r,0) | none=>([],10)) else ([],1))
 else ([],1)
def xE (p:List Rec×Int):V:=.tuple [.ag p.1.length (p.1.flatMap aD),.int .i64 p.2]
theorem ahF (p:List Rec×Int):bh (xE p):=bh.tuple (bl.cons (CK _) (bl.cons (bh.int _ _) bl.nil))
theorem xt (h:J) (n:Int):aK (.tuple [.ah,.int .i64 n]) h (xE ([],n)) h:=aK.tuple (az.cons (aK.iR h) (az.refl _ _))
theorem Zb (v:bu) (r:Rec) (h:J) (aB:fc h):Pure Tryz.prog 84 [.agg (al v),.agg (aD r)] h (xE (iq v r)):=by
 refine Pure.of (ahF _) ?_
 refine ab.ao (c:=_) Tryz.func84 rfl (by kernel_rfl) (by simp) ?_
 obtain ⟨kind,aS,e,n⟩:=v
 have aF:(V.agg (al ⟨kind,aS,e,n⟩)).cells=some (al ⟨kind,aS,e,n⟩):=rfl
 simp only [aa,Nat.reduceEqDiff,fL,a7,aD,aF]
 obtain ⟨H,hH⟩:∃ x,x=(h.push (.cells (al ⟨kind,aS,e,n⟩) 29 none)).push (.cells [.int .i64 r.k,.int .i64 r.v,.int .i64 r.t] 38 none):=⟨_,rfl⟩
 have g2:da (H.get h.n) 0=some (al ⟨kind,aS,e,n⟩):=by rw [hH,ve];rfl
 have sw:da (H.get h.n) 2=some (aq e++[.int .i64 n]):=by rw [hH,ve];rfl
 have g3:H.get (h.n+1)=.cells [.int .i64 r.k,.int .i64 r.v,.int .i64 r.t] 38 none:=by rw [hH];exact wq
 have bq:I h H none_:=by rw [hH];exact (I.push _ _ _).a8 _
 have hW:fc H:=aB.aj bq
 have h7:cX (some none) (some (al ⟨kind,aS,e,n⟩))=some (.int .i64 kind):=rfl
 have mR:cX (some (some 3)) (some (aq e++[.int .i64 n]))=some (.agg (aq e)):=lC (na e)
 rw [←hH]
 clear hH aF
 obtain ⟨U,cc,kk⟩:=I2 H r
 have lit:=DL H r.k r.v r.t
 by_cases h1:kind=1
 ·have c:(kind==1)=true:=by simp [h1]
  have bj:iq ⟨kind,aS,e,n⟩ r=([r],0):=by simp [iq,h1]
  simp only [aa,Nat.reduceEqDiff,Nat.reduceAdd,dj,g3,h7,c,lit,aI,Tryz.results84,cW]
  exact au ⟨U,by rw [bj];exact aK.tuple (az.cons cc (az.refl _ _)),bq.trans' kk⟩
 have bd:(kind==1)=false:=by simp [h1]
 by_cases pC:kind=10
 ·have c:(kind==10)=true:=by simp [pC]
  have bj:iq ⟨kind,aS,e,n⟩ r=([r],0):=by simp [iq,pC]
  simp only [aa,Nat.reduceEqDiff,Nat.reduceAdd,dj,g3,h7,bd,c,lit,aI,Tryz.results84,cW]
  exact au ⟨U,by rw [bj];exact aK.tuple (az.cons cc (az.refl _ _)),bq.trans' kk⟩
 have fw:(kind==10)=false:=by simp [pC]
 by_cases hk:kind=2∨kind=3∨kind=4∨kind=5
 rotate_left
 ·have bH:(kind==2)=false:=by simp;intro q;exact hk (.inl q)
  have c3:(kind==3)=false:=by simp;intro q;exact hk (.inr (.inl q))
  have dU:(kind==4)=false:=by simp;intro q;exact hk (.inr (.inr (.inl q)))
  have c5:(kind==5)=false:=by simp;intro q;exact hk (.inr (.inr (.inr q)))
  have bj:iq ⟨kind,aS,e,n⟩ r=([],1):=by simp [iq,h1,pC];intro q;exact absurd q hk
  simp only [aa,Nat.reduceEqDiff,h7,bd,fw,bH,c3,dU,c5,aI,Tryz.results84,cW]
  exact au ⟨_,by rw [bj];exact xt _ _,bq⟩
 have bj:iq ⟨kind,aS,e,n⟩ r=(if cv e=true then (match b8 r.k r.v r.t 0 16 e with | some n=>(gU kind n r,(0:Int)) | none=>([],10)) else ([],1)):=by
  have:¬(kind=1∨kind=10):=fun q=>by rcases q with q | q;exact h1 q;exact pC q
  simp only [iq]
  rw [if_neg this,if_pos hk]
 have bC:=WH e r.k r.v r.t 0 H hW
 have cs:((kind==2)=true)∨((kind==2)=false∧(kind==3)=true)∨((kind==2)=false∧(kind==3)=false∧(kind==4)=true)∨((kind==2)=false∧(kind==3)=false∧(kind==4)=false∧(kind==5)=true):=by
  rcases hk with q | q | q | q<;>subst q<;>decide
 unfold Cf at bC
 cases hm:cv e with
 | false=>
  rw [hm] at bC bj
  simp only [Bool.false_eq_true,if_false] at bC bj
  rcases cs with d2 | ⟨d2,d3⟩ | ⟨d2,d3,d4⟩ | ⟨d2,d3,d4,d5⟩
  ·simp only [aa,Nat.reduceEqDiff,Nat.reduceAdd,nF,eG,dj,g3,sw,h7,mR,bd,fw,d2]
   refine bB tz bC ?_
   simp only [aa,Int.reduceBNe,Nat.reduceEqDiff,aI,Tryz.results84,cW]
   exact au ⟨_,by rw [bj];exact xt _ _,bq⟩
  ·simp only [aa,Nat.reduceEqDiff,Nat.reduceAdd,nF,eG,dj,g3,sw,h7,mR,bd,fw,d2,d3]
   refine bB tz bC ?_
   simp only [aa,Int.reduceBNe,Nat.reduceEqDiff,aI,Tryz.results84,cW]
   exact au ⟨_,by rw [bj];exact xt _ _,bq⟩
  ·simp only [aa,Nat.reduceEqDiff,Nat.reduceAdd,nF,eG,dj,g3,sw,h7,mR,bd,fw,d2,d3,d4]
   refine bB tz bC ?_
   simp only [aa,Int.reduceBNe,Nat.reduceEqDiff,aI,Tryz.results84,cW]
   exact au ⟨_,by rw [bj];exact xt _ _,bq⟩
  ·simp only [aa,Nat.reduceEqDiff,Nat.reduceAdd,nF,eG,dj,g3,sw,h7,mR,bd,fw,d2,d3,d4,d5]
   refine bB tz bC ?_
   simp only [aa,Int.reduceBNe,Nat.reduceEqDiff,aI,Tryz.results84,cW]
   exact au ⟨_,by rw [bj];exact xt _ _,bq⟩
 | true=>
  rw [hm] at bC bj
  simp only [if_true] at bC bj
  cases aN:b8 r.k r.v r.t 0 16 e with
  | none=>
   rw [aN] at bC bj
   rcases cs with d2 | ⟨d2,d3⟩ | ⟨d2,d3,d4⟩ | ⟨d2,d3,d4,d5⟩
   ·simp only [aa,Nat.reduceEqDiff,Nat.reduceAdd,nF,eG,dj,g3,sw,h7,mR,bd,fw,d2]
    refine bB tz bC ?_
    simp only [aa,Int.reduceBNe,Nat.reduceEqDiff,l5,aI,Tryz.results84,cW]
    exact au ⟨_,by rw [bj];exact xt _ _,bq⟩
   ·simp only [aa,Nat.reduceEqDiff,Nat.reduceAdd,nF,eG,dj,g3,sw,h7,mR,bd,fw,d2,d3]
    refine bB tz bC ?_
    simp only [aa,Int.reduceBNe,Nat.reduceEqDiff,l5,aI,Tryz.results84,cW]
    exact au ⟨_,by rw [bj];exact xt _ _,bq⟩
   ·simp only [aa,Nat.reduceEqDiff,Nat.reduceAdd,nF,eG,dj,g3,sw,h7,mR,bd,fw,d2,d3,d4]
    refine bB tz bC ?_
    simp only [aa,Int.reduceBNe,Nat.reduceEqDiff,l5,aI,Tryz.results84,cW]
    exact au ⟨_,by rw [bj];exact xt _ _,bq⟩
   ·simp only [aa,Nat.reduceEqDiff,Nat.reduceAdd,nF,eG,dj,g3,sw,h7,mR,bd,fw,d2,d3,d4,d5]
    refine bB tz bC ?_
    simp only [aa,Int.reduceBNe,Nat.reduceEqDiff,l5,aI,Tryz.results84,cW]
    exact au ⟨_,by rw [bj];exact xt _ _,bq⟩
  | some m=>
   rw [aN] at bC bj
   have e1:=ahE kind m r H
   rcases cs with d2 | ⟨d2,d3⟩ | ⟨d2,d3,d4⟩ | ⟨d2,d3,d4,d5⟩
   ·simp only [aa,Nat.reduceEqDiff,Nat.reduceAdd,nF,eG,dj,g3,sw,h7,mR,bd,fw,d2]
    refine bB tz bC ?_
    simp only [aa,Nat.reduceEqDiff,Nat.reduceAdd,fL,a7,dj,l5,g2,g3,h7]
    refine bB Ib e1 ?_
    simp only [aa,Nat.reduceEqDiff,aI,Tryz.results84,cW]
    exact au ⟨_,by rw [bj];exact aK.refl _ _,bq⟩
   ·simp only [aa,Nat.reduceEqDiff,Nat.reduceAdd,nF,eG,dj,g3,sw,h7,mR,bd,fw,d2,d3]
    refine bB tz bC ?_
    simp only [aa,Nat.reduceEqDiff,Nat.reduceAdd,fL,a7,dj,l5,g2,g3,h7]
    refine bB Ib e1 ?_
    simp only [aa,Nat.reduceEqDiff,aI,Tryz.results84,cW]
    exact au ⟨_,by rw [bj];exact aK.refl _ _,bq⟩
   ·simp only [aa,Nat.reduceEqDiff,Nat.reduceAdd,nF,eG,dj,g3,sw,h7,mR,bd,fw,d2,d3,d4]
    refine bB tz bC ?_
    simp only [aa,Nat.reduceEqDiff,Nat.reduceAdd,fL,a7,dj,l5,g2,g3,h7]
    refine bB Ib e1 ?_
    simp only [aa,Nat.reduceEqDiff,aI,Tryz.results84,cW]
    exact au ⟨_,by rw [bj];exact aK.refl _ _,bq⟩
   ·simp only [aa,Nat.reduceEqDiff,Nat.reduceAdd,nF,eG,dj,g3,sw,h7,mR,bd,fw,d2,d3,d4,d5]
    refine bB tz bC ?_
    simp only [aa,Nat.reduceEqDiff,Nat.reduceAdd,fL,a7,dj,l5,g2,g3,h7]
    refine bB Ib e1 ?_
    simp only [aa,Nat.reduceEqDiff,aI,Tryz.results84,cW]
    exact au ⟨_,by rw [bj];exact aK.refl _ _,bq⟩
structure aZ where
 l:List bu
 p:Int
 part:Int
def aZ.P (c:aZ):List Int:=hz c.p c.l
def aZ.ins (c:aZ):List Int:=y1 c.p c.l c.part
def aZ.cB (c:aZ) (u:Nat):Option df:=if c.P[u]?=some c.part then (match c.l[u]? with | some x=>mO x.kind x.n | none=>none) else none
def aZ.us (c:aZ) (v:Int):List Nat:=((ft v 0 c.l).map Int.toNat).filter fun u=>c.P.getD u 0==c.part
structure bW where
 ms:Seen
 st:Nat→List ai
structure dS where
 outs:List (Int×Rec)
 verts:List Int
 chgs:List ai
 deads:List (Int×Rec×Int)
 n:Nat
def dS.none:dS:=⟨[],[],[],[],0⟩
abbrev bL:=bW×dS
def mS (u:Int) (r:Rec) (e:Int) (x:bL):bL:=(x.1,{ x.2 with deads:=x.2.deads++[(u,r,e)] })
def mC (u:Int) (r:Rec) (x:bL):bL:=(x.1,{ x.2 with outs:=x.2.outs++[(u,r)] })
def iF (u:Int) (cs:List ai) (x:bL):bL:=(x.1,{ x.2 with verts:=x.2.verts++List.replicate cs.length u,chgs:=x.2.chgs++cs })
def hq (u:Nat) (l:List ai) (x:bL):bL:=({ x.1 with st:=fun v=>if v=u then l else x.1.st v },x.2)
def cC (x:bL):bL:=(x.1,{ x.2 with n:=x.2.n+1 })
def nC (v:bu) (u:Int) (th:Rec→bL→bL) (r:Rec) (x:bL):bL :=
 if (iq v r).2≠0 then mS u r (iq v r).2 x else (iq v r).1.foldl (fun x y=>th y x) x
def rT (K:df) (v:bu) (u:Nat) (snd:Rec→bL→bL) (r:Rec) (x:bL):bL :=
 if IQ K r (leastOf x.1.ms) then mS u r 13 x else
 match jz K v.e (x.1.st u) r with
 | .error e=>mS u r e x
 | .ok N=>snd ⟨r.k,N,xj K (x.1.st u) r.k r.t⟩ (iF u (oZ K (x.1.st u) r.k r.t N) (hq u (om K (x.1.st u) r.k r.t N) x))
def aZ.table (c:aZ) (v:bu) (key:Int) (m:bW):Int :=
 match c.cB (v.aS.getD 1 0).toNat with
 | some K=>xk K (m.st (v.aS.getD 1 0).toNat) key
 | none=>0
def u5 (c:aZ) (v:bu) (u:Int) (snd:Rec→bL→bL) (r:Rec) (x:bL):bL :=
 if cv v.e=true then
  (match b8 r.k r.v r.t (c.table v r.k x.1) 16 v.e with
  | some n=>snd ⟨r.k,n,r.t⟩ x
  | none=>mS u r 10 x)
 else mS u r 1 x
def p1 (c:aZ) (snd:Int→Rec→bL→bL) (f:Int) (u:Nat) (r:Rec) (x:bL):bL :=
 if x.2.n=1000 then mS u r 3 x else
 match c.l[u]? with
 | none=>cC x
 | some v=>
  if v.kind=10∨v.kind=5 then nC v u (mC u) r (cC x)
  else if v.kind=2∨v.kind=3∨v.kind=4 then nC v u (snd u) r (cC x)
  else if v.kind=6∨v.kind=7∨v.kind=8 then
   (match c.cB u with
   | some K=>rT K v u (snd u) r (cC x)
   | none=>cC x)
  else if v.kind=9 then (if f=v.aS.getD 0 0 then u5 c v u (snd u) r (cC x) else cC x)
  else cC x
def mj (c:aZ):Nat→Int→Rec→bL→bL
 | 0,_,_,x=>x
 | k+1,v,r,x=>(c.us v).foldl (fun x u=>p1 c (mj c k) v u r x) x
def cn (c:aZ) (u:Nat) (x:bL):bL :=
 match c.cB u with
 | some K=>iF u (fv K (leastOf x.1.ms) (x.1.st u)) (hq u (fP K (leastOf x.1.ms) (x.1.st u)) x)
 | none=>x
def lU (c:aZ) (t:Int):ai:=⟨c.part,0,0,t,false⟩
def stepT (c:aZ) (m:bW) (v:Int) (r:Rec):bL×Int :=
 if c.ins.contains v=false then ((m,dS.none),6) else
 if (dh m.ms v r.t).2≠0 then (mS v r (dh m.ms v r.t).2 (m,dS.none),0) else
 let eo:bL:=({ m with ms:=dX c.ins.length m.ms v r.t },dS.none)
 let bR:=if (dh m.ms v r.t).1 then iF v [lU c r.t] eo else eo
 ((List.range c.l.length).foldl (fun x u=>cn c u x) (mj c 24 v r bR),0)
def bW.new (c:aZ):bW:=⟨jx 0 c.ins,fun _=>[]⟩
abbrev cM:=Nat→Nat×Nat
def b2 (aJ:cM) (id:Nat):Nat→Prop:=fun q=>(aJ q).1=id∧5≤(aJ q).2
def Fr (h:J) (aJ:cM):Prop:=∀ q,h.n≤q→aJ q=(0,0)
structure eS (id:Nat) (h:J) (aJ:cM) (h':J) (ow':cM):Prop where
 cH:∀ q,q<h.n→ow' q=aJ q
 aj:I h h' (b2 aJ id)
 ay:Fr h' ow'
 rU:True
theorem eS.refl {id:Nat} {h:J} {aJ:cM} (f:Fr h aJ):eS id h aJ h aJ:=⟨fun _ _=>rfl,I.refl _ _,f,trivial⟩
theorem eS.trans {id:Nat} {h h1 ae:J} {aJ fs ie:cM} (a:eS id h aJ h1 fs) (b:eS id h1 fs ae ie):eS id h aJ ae ie :=
 ⟨fun q af=>(b.cH q (Nat.lt_of_lt_of_le af a.aj.n)).trans (a.cH q af),a.aj.trans b.aj fun q af hm=>by unfold b2 at *;rw [←a.cH q af];exact hm,b.ay,trivial⟩
theorem eS.push {id:Nat} {h:J} {aJ:cM} (f:Fr h aJ) {h':J} (k:I h h' none_):eS id h aJ h' aJ:=⟨fun _ _=>rfl,k.up,fun q af=>f q (Nat.le_trans k.n af),trivial⟩
def dH (aJ:cM) (a b:Nat) (t:Nat×Nat):cM:=fun q=>if a≤q∧q<b then t else aJ q
theorem zr {aJ:cM} {a b:Nat} {t:Nat×Nat} {q:Nat} (h:q<a):dH aJ a b t q=aJ q:=by unfold dH;rw [if_neg (by omega)]
theorem pm {aJ:cM} {a b:Nat} {t:Nat×Nat} {q:Nat} (h1:a≤q) (ae:q<b):dH aJ a b t q=t:=by unfold dH;rw [if_pos ⟨h1,ae⟩]
theorem eS.dH {id:Nat} {h h':J} {aJ:cM} {M:Nat→Prop} (f:Fr h aJ) (k:I h h' M) (iT:∀ q,q<h.n→M q→b2 aJ id q) (t:Nat×Nat):eS id h aJ h' (Pk.dH aJ h.n h'.n t) :=
 ⟨fun q af=>zr af,⟨k.n,fun q af hm=>k.get q af fun U=>hm (iT q af U),k.glob⟩,fun q af=>by
  have:=k.n
  unfold Pk.dH;rw [if_neg (by omega)];exact f q (by omega),trivial⟩
def nX (aJ:cM) (t:Nat×Nat) (O:List Nat):Prop:=∀ q ∈ O,aJ q=t
theorem nX.new {h h':J} {aJ:cM} {t:Nat×Nat} {O dG:List Nat} (o:nX aJ t O) (aM:∀ q ∈ O,q<h.n) (nl:c4 h O dG) (kK:∀ q ∈ dG,q<h'.n):nX (dH aJ h.n h'.n t) t dG:=fun q af=>by
 rcases nl q af with U | U
 ·rw [zr (aM q U)];exact o q U
 ·exact pm U (kK q af)
theorem nX.cH {h:J} {aJ ow':cM} {t:Nat×Nat} {O:List Nat} (o:nX aJ t O) (aM:∀ q ∈ O,q<h.n) (he:∀ q,q<h.n→ow' q=aJ q):nX ow' t O:=fun q af=>(he q (aM q af)).trans (o q af)
def sN (a:Nat):V:=.ptr a 0
structure At where
 iW:Nat
 oz:Nat
 mp:Nat
 es:List (Nat×Int×Nat)
 cl:Nat
def aZ.cells (c:aZ) (b:At):List V:=cQ c.l c.p++[.ag c.P.length (aO c.P),.int .i64 c.part,.ptr b.iW 0,.map b.mp]
structure dA (h:J) (aJ:cM) (id m:Nat) (b:At) (c:aZ) (s:bW):Prop where
 lt:m<h.n
 get:h.get m=.cells (c.cells b) 146 none
 own:aJ m=(id,1)
 marks:q2 h (.ptr b.iW 0) s.ms b.iW b.oz c.ins.length
 e3:aJ b.iW=(id,2)∧aJ b.oz=(id,3)
 iM:b.mp<h.n
 map:h.get b.mp=.map (mapOf .i64 sN b.es) b.cl
 jN:aJ b.mp=(id,4)
 some:∀ u K,c.cB u=some K→∃ a O x,db b.es (u:Int)=Option.some a∧c.l[u]?=Option.some x∧fz h a O K x.e x.n (s.st u)∧nX aJ (id,10+u) O∧cv x.e=true
 none:∀ u,c.cB u=Option.none→db b.es (u:Int)=Option.none
section
variable {h h':J} {aJ ow':cM} {id i2 m:Nat} {b:At} {c:aZ} {s:bW}
theorem dA.aj {M:Nat→Prop} (k:dA h aJ id m b c s) (hk:I h h' M) (hm:∀ q,q<h.n→M q→(aJ q).1≠id) (he:∀ q,q<h.n→ow' q=aJ q):dA h' ow' id m b c s:=by
 obtain ⟨ar,gq,k5,lK,g1,g2,st⟩:=k.marks
 have k6:∀ q,q<h.n→(aJ q).1=id→h'.get q=h.get q:=fun q af bc=>hk.get q af fun U=>hm q af U bc
 refine ⟨Nat.lt_of_lt_of_le k.lt hk.n,(k6 _ k.lt (by rw [k.own])).trans k.get,(he _ k.lt).trans k.own,⟨ar,Nat.lt_of_lt_of_le gq hk.n,Nat.lt_of_lt_of_le k5 hk.n,lK,(k6 _ gq (by rw [k.e3.1])).trans g1,(k6 _ k5 (by rw [k.e3.2])).trans g2,st⟩,
  ⟨(he _ gq).trans k.e3.1,(he _ k5).trans k.e3.2⟩,Nat.lt_of_lt_of_le k.iM hk.n,(k6 _ k.iM (by rw [k.jN])).trans k.map,(he _ k.iM).trans k.jN,fun u K hu=>?_,k.none⟩
 obtain ⟨a,O,x,h1,ae,aA,bk,bN⟩:=k.some u K hu
 exact ⟨a,O,x,h1,ae,aA.aj hk fun q af U=>hm q (aA.lt q af) U (by rw [bk q af]),bk.cH aA.lt he,bN⟩
theorem dA.aQ (k:dA h aJ id m b c s) (hk:I h h' none_):dA h' aJ id m b c s:=k.aj hk (fun _ _ U=>by simp [none_] at U) fun _ _=>rfl
theorem dA.part {M:Nat→Prop} (k:dA h aJ id m b c s) (hk:I h h' M) (iT:∀ q,q<h.n→M q→∃ t,aJ q=(id,t)∧5≤t∧t≤9) (he:∀ q,q<h.n→ow' q=aJ q):dA h' ow' id m b c s:=by
 obtain ⟨ar,gq,k5,lK,g1,g2,st⟩:=k.marks
 have k6:∀ q t,q<h.n→aJ q=(id,t)→(t<5∨9<t)→h'.get q=h.get q:=fun q t af bc bw=>hk.get q af fun U=>by
  obtain ⟨t2,h1,ae⟩:=iT q af U
  rw [bc] at h1;simp at h1;omega
 refine ⟨Nat.lt_of_lt_of_le k.lt hk.n,(k6 _ _ k.lt k.own (by omega)).trans k.get,(he _ k.lt).trans k.own,⟨ar,Nat.lt_of_lt_of_le gq hk.n,Nat.lt_of_lt_of_le k5 hk.n,lK,(k6 _ _ gq k.e3.1 (by omega)).trans g1,(k6 _ _ k5 k.e3.2 (by omega)).trans g2,st⟩,
  ⟨(he _ gq).trans k.e3.1,(he _ k5).trans k.e3.2⟩,Nat.lt_of_lt_of_le k.iM hk.n,(k6 _ _ k.iM k.jN (by omega)).trans k.map,(he _ k.iM).trans k.jN,fun u K hu=>?_,k.none⟩
 obtain ⟨a,O,x,h1,ae,aA,bk,bN⟩:=k.some u K hu
 exact ⟨a,O,x,h1,ae,aA.aj hk fun q af U=>by
  obtain ⟨t2,ar,aT⟩:=iT q (aA.lt q af) U
  rw [bk q af] at ar;simp at ar;omega,bk.cH aA.lt he,bN⟩
end
def ga (v:V):List Nat:=(aR v).toList
theorem am {v:V} {q:Nat}:q ∈ ga v↔aR v=some q:=by
 unfold ga;cases h:aR v<;>simp [eq_comm]
theorem I3 {h:J} {v v':V} (d:bQ h v v'):c4 h (ga v) (ga v'):=fun q af=>by
 rcases d with d | d
 ·exact .inl (am.2 (by rw [←d];exact am.1 af))
 ·exact .inr (d q (am.1 af))
def dg (o:Int×Rec):List V:=.int .i64 o.1::aD o.2
def co (o:Int×Rec×Int):List V:=.int .i64 o.1::(aD o.2.1++[.int .i64 o.2.2])
theorem zR (o:Int×Rec):(dg o).length=4:=rfl
theorem H6 (o:Int×Rec×Int):(co o).length=5:=rfl
theorem ahG (o:Int×Rec):(dg o).all (·.one)=true:=rfl
theorem ahH (o:Int×Rec×Int):(co o).all (·.one)=true:=rfl
structure gX (h:J) (aJ:cM) (id s m:Nat) (x:dS) (cb bX b9 cd:V):Prop where
 lt:s<h.n
 get:h.get s=.cells [.ptr m 0,cb,bX,b9,cd,.int .i64 (x.n:Nat)] 149 none
 own:aJ s=(id,5)
 o:Own h 79 4 cb (x.outs.flatMap dg)
 v:Own h 3 1 bX (aO x.verts)
 c:Own h 40 5 b9 (x.chgs.flatMap aw)
 d:Own h 81 5 cd (x.deads.flatMap co)
 jI:nX aJ (id,6) (ga cb)
 bX:nX aJ (id,7) (ga bX)
 cc:nX aJ (id,8) (ga b9)
 k9:nX aJ (id,9) (ga cd)
section
variable {h h':J} {aJ ow':cM} {id s m:Nat} {x:dS} {cb bX b9 cd:V}
theorem gX.aj {M:Nat→Prop} (k:gX h aJ id s m x cb bX b9 cd) (hk:I h h' M) (hm:∀ q,q<h.n→M q→∀ t,5≤t→t≤9→aJ q≠(id,t)) (he:∀ q,q<h.n→ow' q=aJ q):gX h' ow' id s m x cb bX b9 cd:=by
 have jC:∀ {e sz cs v},Own h e sz v cs→∀ q ∈ ga v,q<h.n:=fun o q af=>o.lt q (am.1 af)
 exact ⟨Nat.lt_of_lt_of_le k.lt hk.n,(hk.get _ k.lt fun U=>hm _ k.lt U 5 (by omega) (by omega) k.own).trans k.get,(he _ k.lt).trans k.own,
  k.o.aj hk fun q af U=>hm q (k.o.lt q af) U 6 (by omega) (by omega) (k.jI q (am.2 af)),
  k.v.aj hk fun q af U=>hm q (k.v.lt q af) U 7 (by omega) (by omega) (k.bX q (am.2 af)),
  k.c.aj hk fun q af U=>hm q (k.c.lt q af) U 8 (by omega) (by omega) (k.cc q (am.2 af)),
  k.d.aj hk fun q af U=>hm q (k.d.lt q af) U 9 (by omega) (by omega) (k.k9 q (am.2 af)),
  k.jI.cH (jC k.o) he,k.bX.cH (jC k.v) he,k.cc.cH (jC k.c) he,k.k9.cH (jC k.d) he⟩
theorem gX.aQ (k:gX h aJ id s m x cb bX b9 cd) (hk:I h h' none_):gX h' aJ id s m x cb bX b9 cd:=k.aj hk (fun _ _ U=>by simp [none_] at U) fun _ _=>rfl
end
theorem gX.OE {h h':J} {aJ ow':cM} {id s m:Nat} {x:dS} {cb bX b9 cd j9:V} {l:List (Int×Rec×Int)} (k:gX h aJ id s m x cb bX b9 cd) (hk:I h h' (fun q=>q=s∨bn cd q)) (he:∀ q,q<h.n→ow' q=aJ q)
  (g:h'.get s=.cells [.ptr m 0,cb,bX,b9,j9,.int .i64 (x.n:Nat)] 149 none) (k9:nX ow' (id,9) (ga j9)) (d:Own h' 81 5 j9 (l.flatMap co)):gX h' ow' id s m { x with deads:=l } cb bX b9 j9:=by
 have jC:∀ {e sz cs v},Own h e sz v cs→∀ q ∈ ga v,q<h.n:=fun o q af=>o.lt q (am.1 af)
 have ap:∀ {q t},aJ q=(id,t)→t≠5→t≠9→¬(q=s∨bn cd q):=fun {q t} bc bN e2 U=>by
  rcases U with rfl | U
  ·rw [k.own] at bc;simp at bc;omega
  ·rw [k.k9 q (am.2 U)] at bc;simp at bc;omega
 exact ⟨Nat.lt_of_lt_of_le k.lt hk.n,g,(he _ k.lt).trans k.own,
  k.o.aj hk fun q af=>ap (k.jI q (am.2 af)) (by decide) (by decide),k.v.aj hk fun q af=>ap (k.bX q (am.2 af)) (by decide) (by decide),k.c.aj hk fun q af=>ap (k.cc q (am.2 af)) (by decide) (by decide),d,
  k.jI.cH (jC k.o) he,k.bX.cH (jC k.v) he,k.cc.cH (jC k.c) he,k9⟩
structure e7 (h:J) (aJ:cM) (id s m:Nat) (b:At) (c:aZ) (x:bL):Prop where
 dq:dA h aJ id m b c x.1
 mb:∃ cb bX b9 cd,gX h aJ id s m x.2 cb bX b9 cd
 ay:Fr h aJ
 rU:fc h
 ku:id≠0
section
variable {h h':J} {aJ ow':cM} {id s m:Nat} {b:At} {c:aZ} {x:bL}
theorem e7.aQ (k:e7 h aJ id s m b c x) (hk:I h h' none_):e7 h' aJ id s m b c x:=by
 obtain ⟨cb,bX,b9,cd,ad⟩:=k.mb
 exact ⟨k.dq.aQ hk,⟨cb,bX,b9,cd,ad.aQ hk⟩,fun q af=>k.ay q (Nat.le_trans hk.n af),k.rU.aj hk,k.ku⟩
end
def iG (id s m:Nat) (b:At) (c:aZ) (h:J) (aJ:cM) (y:bL):V→J→Prop:=fun r h'=>r=.tuple []∧∃ ow',eS id h aJ h' ow'∧e7 h' ow' id s m b c y
theorem OG (h:J) (o:Int×Rec×Int):lk Tryz.prog 65 1 [(0,.agg (co o))] h=some (.bp h.n 0 1 1,h.push (.cells (co o) 81 none)):=by rw [p0 Tn];rfl
theorem OH (h:J) (o:Int×Rec):lk Tryz.prog 64 1 [(0,.agg (dg o))] h=some (.bp h.n 0 1 1,h.push (.cells (dg o) 79 none)):=by rw [p0 Tm];rfl
theorem I4 {P:Program} {t:TypeId} {T:qi} (cS:jq P t=some T) (eH:0<T.sz) {α:Type} {enc:α→List V} (hlen:∀ a,(enc a).length=T.sz) (b3:∀ a,(enc a).all (·.one)=true) (hk:eF P t=some 1) (ad:T.sz * 8=T.an) (kC:T.sz≤8)
  {h:J} {s:V} {cs:List α} (o:Own h T.e T.sz s (cs.flatMap enc)) (aM:cs.length≤2 ^ 40) (c:α) :
  ∃ b7 h',n2 P t t s (.bp h.n 0 1 1) (h.push (.cells (enc c) T.e none))=some (b7,h')∧Own h' T.e T.sz b7 ((cs++[c]).flatMap enc)∧I (h.push (.cells (enc c) T.e none)) h' (bn s)∧bQ (h.push (.cells (enc c) T.e none)) s b7:=by
 have k:I h (h.push (.cells (enc c) T.e none)) none_:=I.push _ _ _
 have ll:Own (h.push (.cells (enc c) T.e none)) T.e T.sz (.bp h.n 0 1 1) (enc c):=Own.js _ 1 (by rw [hlen];omega) (by decide)
 have eh:=w1 (P:=P) (t:=t) hk ll (n:=1) (by rw [hlen];omega) eH (b3 c)
 obtain ⟨b7,h',ei,k8,gk,gB⟩:=wv (P:=P) (t:=t) (tx:=t) cS eH (o.aQ k) eh (by rw [hlen];omega) (fun m hm=>by
  rw [iS hlen,hlen] at hm
  have:m=cs.length+1:=Nat.eq_of_mul_eq_mul_right eH (by rw [hm,Nat.add_mul];omega)
  subst this
  have:T.an≤64:=by omega
  have ae:(cs.length+1) * T.an≤(2 ^ 40+1) * 64:=Nat.mul_le_mul (by omega) this
  exact ⟨by simp only [lim];omega,by simp only [lim];omega⟩)
 refine ⟨b7,h',ei,?_,gk,gB⟩
 rw [List.flatMap_append]
 simpa using k8
theorem AU {h:J} {aJ:cM} {id s m:Nat} {b:At} {c:aZ} {x:bL} (k:e7 h aJ id s m b c x) (u:Int) (r:Rec) (e:Int) (aM:x.2.deads.length≤2 ^ 30) :
  ab Tryz.prog 73 [.ptr s 0,.int .i64 u,.agg (aD r),.int .i64 e] h (iG id s m b c h aJ (mS u r e x)):=by
 refine ab.ao (c:=_) Tryz.func73 rfl (by kernel_rfl) (by simp) ?_
 obtain ⟨cb,bX,b9,cd,ad⟩:=k.mb
 obtain ⟨H,hH⟩:∃ y,y=h.push (.cells (aD r) 38 none):=⟨_,rfl⟩
 have bq:I h H none_:=by rw [hH];exact I.push _ _ _
 have kO:H.get h.n=.cells (aD r) 38 none:=by rw [hH];exact b6
 have h9:H.n=h.n+1:=by rw [hH];rfl
 have iX:=ad.aQ bq
 have gs:=iX.get
 have ld:cX (some (some 3)) (some (aD r))=some (.agg (aD r)):=rfl
 have d0:da (.cells (aD r) 38 none) 0=some (aD r):=rfl
 have cc:(V.agg (aD r)).cells=some (aD r):=rfl
 simp only [aa]
 rw [←hH]
 clear hH
 have OI:(if (aD r).length=3 then if 5≤(wa [V.int IntKind.i64 u,V.int IntKind.i64 0,V.int IntKind.i64 0,V.int IntKind.i64 0,V.int IntKind.i64 0] 1 (aD r)).length then some ((wa [V.int IntKind.i64 u,V.int IntKind.i64 0,V.int IntKind.i64 0,V.int IntKind.i64 0,V.int IntKind.i64 0] 1 (aD r)).set 4 (V.int IntKind.i64 e)) else none else none)=some (co (u,r,e)):=rfl
 obtain ⟨j9,ae,q,e4,k2,ef⟩:=I4 (P:=Tryz.prog) (t:=65) Tn (by decide) H6 ahH CG (by decide) (by decide) iX.d (cs:=x.2.deads) (Nat.le_trans aM (by decide)) (u,r,e)
 have hp:I H (H.push (.cells (co (u,r,e)) 81 none)) none_:=I.push _ _ _
 have q8:=(k2.get s (Nat.lt_of_lt_of_le iX.lt hp.n) (fun U=>by have:=ad.k9 s (am.2 U);rw [ad.own] at this;simp at this)).trans ((hp.get s iX.lt (by simp [none_])).trans gs)
 have f1:bn cd s=False:=eq_false fun U=>by have:=ad.k9 s (am.2 U);rw [ad.own] at this;simp at this
 have f2:bn cd h.n=False:=eq_false fun U=>by have:=ad.d.lt _ U;omega
 have hE:I H ae (fun x=>bn cd x):=hp.up.trans' k2
 have gL:j9.one=true:=by
  rcases e4 with ⟨rfl | rfl,_⟩ | ⟨_,_,_,_,_,rfl,_⟩<;>rfl
 have fm:j9.cells=some [j9]:=by
  rcases e4 with ⟨rfl | rfl,_⟩ | ⟨_,_,_,_,_,rfl,_⟩<;>rfl
 have cK:bM (some 1) (aV.cells [.ptr m 0,cb,bX,b9,cd,.int .i64 (x.2.n:Nat)] 149 none) 4 [j9]=some (.cells [.ptr m 0,cb,bX,b9,j9,.int .i64 (x.2.n:Nat)] 149 none):=by rw [sZ gL];rfl
 refine aP.aY (fun x=>bn cd x) [10,11,15] (.q 0 (.q 1 (.q 2 (.q 3 (.q 4 (.q 5 (.q 6 (.q 7 (.q 8 (.q 9 (.e 10 (.e 11 (.q 12 (.q 13 (.q 14 (.a 15 .done)))) .stop) .stop))))))))))) (by kernel_rfl) (by kernel_rfl) (by kernel_rfl) ?_
 simp only [aa,bD,fg,Nat.reduceEqDiff,Nat.reduceAdd,Nat.reduceLeDiff,reduceCtorEq,yx,DH,dj,DI,adO,ad2,ad7,gs,kO,ld,d0,cc,OI,OG,q,q8,f1,f2,hE,fm,cK,mG,Tryz.results73,kd]
 have o1:I h (ae.set s (.cells [.ptr m 0,cb,bX,b9,j9,.int .i64 (x.2.n:Nat)] 149 none)) (fun q=>q=s∨bn cd q) :=
  (bq.up.trans' (hE.mono fun q af=>.inr af)).trans' ((I.set _ _ _).mono fun q af=>.inl af)
 have n3:(ae.set s (.cells [.ptr m 0,cb,bX,b9,j9,.int .i64 (x.2.n:Nat)] 149 none)).n=ae.n:=rfl
 have g3:(ae.set s (.cells [.ptr m 0,cb,bX,b9,j9,.int .i64 (x.2.n:Nat)] 149 none)).get s=.cells [.ptr m 0,cb,bX,b9,j9,.int .i64 (x.2.n:Nat)] 149 none:=aL
 have gJ:Own (ae.set s (.cells [.ptr m 0,cb,bX,b9,j9,.int .i64 (x.2.n:Nat)] 149 none)) 81 5 j9 ((x.2.deads++[(u,r,e)]).flatMap co):=Own.aj e4 (I.set _ _ _) fun q af U=>by
  subst U
  rcases ef with d | d
  ·rw [d] at af;exact f1.mp af
  ·have h1:(H.push (.cells (co (u,r,e)) 81 none)).n≤q:=d q af
   have:=iX.lt;have:=hp.n;omega
 have y2:c4 h (ga cd) (ga j9):=fun q af=>by
  rcases I3 ef q af with U | U
  ·exact .inl U
  ·exact .inr (by have:=hp.n;have:(H.push (.cells (co (u,r,e)) 81 none)).n≤q:=U;omega)
 generalize ae.set s (.cells [.ptr m 0,cb,bX,b9,j9,.int .i64 (x.2.n:Nat)] 149 none)=aA at o1 n3 g3 gJ⊢
 have iT:∀ q,q<h.n→(q=s∨bn cd q)→∃ t,aJ q=(id,t)∧5≤t∧t≤9:=fun q af U=>by
  rcases U with rfl | U
  ·exact ⟨5,ad.own,by omega,by omega⟩
  ·exact ⟨9,ad.k9 q (am.2 U),by omega,by omega⟩
 have bV:=eS.dH (id:=id) k.ay o1 (fun q af U=>by obtain ⟨t,h1,ae,_⟩:=iT q af U;unfold b2;rw [h1];exact ⟨rfl,ae⟩) (id,9)
 exact au ⟨rfl,_,bV,k.dq.part o1 iT bV.cH,⟨cb,bX,b9,j9,ad.OE o1 bV.cH g3 (ad.k9.new (fun q af=>ad.d.lt q (am.1 af)) y2 fun q af=>gJ.lt q (am.1 af)) gJ⟩,bV.ay,k.rU.aj o1,k.ku⟩
theorem gX.OJ {h h':J} {aJ ow':cM} {id s m:Nat} {x:dS} {cb bX b9 cd ka:V} {l:List (Int×Rec)} (k:gX h aJ id s m x cb bX b9 cd) (hk:I h h' (fun q=>q=s∨bn cb q)) (he:∀ q,q<h.n→ow' q=aJ q)
  (g:h'.get s=.cells [.ptr m 0,ka,bX,b9,cd,.int .i64 (x.n:Nat)] 149 none) (jI:nX ow' (id,6) (ga ka)) (o:Own h' 79 4 ka (l.flatMap dg)):gX h' ow' id s m { x with outs:=l } ka bX b9 cd:=by
 have jC:∀ {e sz cs v},Own h e sz v cs→∀ q ∈ ga v,q<h.n:=fun o q af=>o.lt q (am.1 af)
 have ap:∀ {q t},aJ q=(id,t)→t≠5→t≠6→¬(q=s∨bn cb q):=fun {q t} bc bN e2 U=>by
  rcases U with rfl | U
  ·rw [k.own] at bc;simp at bc;omega
  ·rw [k.jI q (am.2 U)] at bc;simp at bc;omega
 exact ⟨Nat.lt_of_lt_of_le k.lt hk.n,g,(he _ k.lt).trans k.own,
  o,k.v.aj hk fun q af=>ap (k.bX q (am.2 af)) (by decide) (by decide),k.c.aj hk fun q af=>ap (k.cc q (am.2 af)) (by decide) (by decide),k.d.aj hk fun q af=>ap (k.k9 q (am.2 af)) (by decide) (by decide),
  jI,k.bX.cH (jC k.v) he,k.cc.cH (jC k.c) he,k.k9.cH (jC k.d) he⟩
theorem Gp {h:J} {aJ:cM} {id s m:Nat} {b:At} {c:aZ} {x:bL} (k:e7 h aJ id s m b c x) (u:Int) (r:Rec) (aM:x.2.outs.length≤2 ^ 30) :
  ab Tryz.prog 186 [.ptr s 0,.int .i64 u,.agg (aD r)] h (iG id s m b c h aJ (mC u r x)):=by
 refine ab.ao (c:=_) Tryz.func186 rfl (by kernel_rfl) (by simp) ?_
 obtain ⟨cb,bX,b9,cd,ad⟩:=k.mb
 obtain ⟨H,hH⟩:∃ y,y=h.push (.cells (aD r) 38 none):=⟨_,rfl⟩
 have bq:I h H none_:=by rw [hH];exact I.push _ _ _
 have kO:H.get h.n=.cells (aD r) 38 none:=by rw [hH];exact b6
 have h9:H.n=h.n+1:=by rw [hH];rfl
 have iX:=ad.aQ bq
 have gs:=iX.get
 have ld:cX (some (some 3)) (some (aD r))=some (.agg (aD r)):=rfl
 have d0:da (.cells (aD r) 38 none) 0=some (aD r):=rfl
 have cc:(V.agg (aD r)).cells=some (aD r):=rfl
 simp only [aa]
 rw [←hH]
 clear hH
 have OI:(if (aD r).length=3 then some (wa [V.int IntKind.i64 u,V.int IntKind.i64 0,V.int IntKind.i64 0,V.int IntKind.i64 0] 1 (aD r)) else none)=some (dg (u,r)):=rfl
 obtain ⟨ka,ae,q,e4,k2,ef⟩:=I4 (P:=Tryz.prog) (t:=64) Tm (by decide) zR ahG ls (by decide) (by decide) iX.o (cs:=x.2.outs) (Nat.le_trans aM (by decide)) (u,r)
 have hp:I H (H.push (.cells (dg (u,r)) 79 none)) none_:=I.push _ _ _
 have q8:=(k2.get s (Nat.lt_of_lt_of_le iX.lt hp.n) (fun U=>by have:=ad.jI s (am.2 U);rw [ad.own] at this;simp at this)).trans ((hp.get s iX.lt (by simp [none_])).trans gs)
 have f1:bn cb s=False:=eq_false fun U=>by have:=ad.jI s (am.2 U);rw [ad.own] at this;simp at this
 have f2:bn cb h.n=False:=eq_false fun U=>by have:=ad.o.lt _ U;omega
 have hE:I H ae (fun x=>bn cb x):=hp.up.trans' k2
 have gL:ka.one=true:=by
  rcases e4 with ⟨rfl | rfl,_⟩ | ⟨_,_,_,_,_,rfl,_⟩<;>rfl
 have fm:ka.cells=some [ka]:=by
  rcases e4 with ⟨rfl | rfl,_⟩ | ⟨_,_,_,_,_,rfl,_⟩<;>rfl
 have cK:bM (some 1) (aV.cells [.ptr m 0,cb,bX,b9,cd,.int .i64 (x.2.n:Nat)] 149 none) 1 [ka]=some (.cells [.ptr m 0,ka,bX,b9,cd,.int .i64 (x.2.n:Nat)] 149 none):=by rw [sZ gL];rfl
 refine aP.aY (fun x=>bn cb x) [9,10,14] (.q 0 (.q 1 (.q 2 (.q 3 (.q 4 (.q 5 (.q 6 (.q 7 (.q 8 (.e 9 (.e 10 (.q 11 (.q 12 (.q 13 (.a 14 .done)))) .stop) .stop)))))))))) (by kernel_rfl) (by kernel_rfl) (by kernel_rfl) ?_
 simp only [aa,bD,fg,Nat.reduceEqDiff,Nat.reduceAdd,Nat.reduceLeDiff,reduceCtorEq,yx,yp,dj,yq,adN,ad1,ad6,gs,kO,ld,d0,cc,OI,OH,q,q8,f1,f2,hE,fm,cK,mG,Tryz.results186,kd]
 have o1:I h (ae.set s (.cells [.ptr m 0,ka,bX,b9,cd,.int .i64 (x.2.n:Nat)] 149 none)) (fun q=>q=s∨bn cb q) :=
  (bq.up.trans' (hE.mono fun q af=>.inr af)).trans' ((I.set _ _ _).mono fun q af=>.inl af)
 have n3:(ae.set s (.cells [.ptr m 0,ka,bX,b9,cd,.int .i64 (x.2.n:Nat)] 149 none)).n=ae.n:=rfl
 have g3:(ae.set s (.cells [.ptr m 0,ka,bX,b9,cd,.int .i64 (x.2.n:Nat)] 149 none)).get s=.cells [.ptr m 0,ka,bX,b9,cd,.int .i64 (x.2.n:Nat)] 149 none:=aL
 have gJ:Own (ae.set s (.cells [.ptr m 0,ka,bX,b9,cd,.int .i64 (x.2.n:Nat)] 149 none)) 79 4 ka ((x.2.outs++[(u,r)]).flatMap dg):=Own.aj e4 (I.set _ _ _) fun q af U=>by
  subst U
  rcases ef with d | d
  ·rw [d] at af;exact f1.mp af
  ·have h1:(H.push (.cells (dg (u,r)) 79 none)).n≤q:=d q af
   have:=iX.lt;have:=hp.n;omega
 have y2:c4 h (ga cb) (ga ka):=fun q af=>by
  rcases I3 ef q af with U | U
  ·exact .inl U
  ·exact .inr (by have:=hp.n;have:(H.push (.cells (dg (u,r)) 79 none)).n≤q:=U;omega)
 generalize ae.set s (.cells [.ptr m 0,ka,bX,b9,cd,.int .i64 (x.2.n:Nat)] 149 none)=aA at o1 n3 g3 gJ⊢
 have iT:∀ q,q<h.n→(q=s∨bn cb q)→∃ t,aJ q=(id,t)∧5≤t∧t≤9:=fun q af U=>by
  rcases U with rfl | U
  ·exact ⟨5,ad.own,by omega,by omega⟩
  ·exact ⟨6,ad.jI q (am.2 U),by omega,by omega⟩
 have bV:=eS.dH (id:=id) k.ay o1 (fun q af U=>by obtain ⟨t,h1,ae,_⟩:=iT q af U;unfold b2;rw [h1];exact ⟨rfl,ae⟩) (id,6)
 exact au ⟨rfl,_,bV,k.dq.part o1 iT bV.cH,⟨ka,bX,b9,cd,ad.OJ o1 bV.cH g3 (ad.jI.new (fun q af=>ad.o.lt q (am.1 af)) y2 fun q af=>gJ.lt q (am.1 af)) gJ⟩,bV.ay,k.rU.aj o1,k.ku⟩
theorem gX.OK {h h':J} {aJ ow':cM} {id s m:Nat} {x:dS} {cb bX b9 cd gY:V} {l:List Int} (k:gX h aJ id s m x cb bX b9 cd) (hk:I h h' (fun q=>q=s∨bn bX q)) (he:∀ q,q<h.n→ow' q=aJ q)
  (g:h'.get s=.cells [.ptr m 0,cb,gY,b9,cd,.int .i64 (x.n:Nat)] 149 none) (Gq:nX ow' (id,7) (ga gY)) (AV:Own h' 3 1 gY (aO l)):gX h' ow' id s m { x with verts:=l } cb gY b9 cd:=by
 have jC:∀ {e sz cs v},Own h e sz v cs→∀ q ∈ ga v,q<h.n:=fun o q af=>o.lt q (am.1 af)
 have ap:∀ {q t},aJ q=(id,t)→t≠5→t≠7→¬(q=s∨bn bX q):=fun {q t} bc bN e2 U=>by
  rcases U with rfl | U
  ·rw [k.own] at bc;simp at bc;omega
  ·rw [k.bX q (am.2 U)] at bc;simp at bc;omega
 exact ⟨Nat.lt_of_lt_of_le k.lt hk.n,g,(he _ k.lt).trans k.own,
  k.o.aj hk fun q af=>ap (k.jI q (am.2 af)) (by decide) (by decide),AV,k.c.aj hk fun q af=>ap (k.cc q (am.2 af)) (by decide) (by decide),k.d.aj hk fun q af=>ap (k.k9 q (am.2 af)) (by decide) (by decide),k.jI.cH (jC k.o) he,Gq,k.cc.cH (jC k.c) he,k.k9.cH (jC k.d) he⟩
theorem gX.OL {h h':J} {aJ ow':cM} {id s m:Nat} {x:dS} {cb bX b9 cd mT:V} {l:List ai} (k:gX h aJ id s m x cb bX b9 cd) (hk:I h h' (fun q=>q=s∨bn b9 q)) (he:∀ q,q<h.n→ow' q=aJ q)
  (g:h'.get s=.cells [.ptr m 0,cb,bX,mT,cd,.int .i64 (x.n:Nat)] 149 none) (Gq:nX ow' (id,8) (ga mT)) (AV:Own h' 40 5 mT (l.flatMap aw)):gX h' ow' id s m { x with chgs:=l } cb bX mT cd:=by
 have jC:∀ {e sz cs v},Own h e sz v cs→∀ q ∈ ga v,q<h.n:=fun o q af=>o.lt q (am.1 af)
 have ap:∀ {q t},aJ q=(id,t)→t≠5→t≠8→¬(q=s∨bn b9 q):=fun {q t} bc bN e2 U=>by
  rcases U with rfl | U
  ·rw [k.own] at bc;simp at bc;omega
  ·rw [k.cc q (am.2 U)] at bc;simp at bc;omega
 exact ⟨Nat.lt_of_lt_of_le k.lt hk.n,g,(he _ k.lt).trans k.own,
  k.o.aj hk fun q af=>ap (k.jI q (am.2 af)) (by decide) (by decide),k.v.aj hk fun q af=>ap (k.bX q (am.2 af)) (by decide) (by decide),AV,k.d.aj hk fun q af=>ap (k.k9 q (am.2 af)) (by decide) (by decide),k.jI.cH (jC k.o) he,k.bX.cH (jC k.v) he,Gq,k.k9.cH (jC k.d) he⟩
theorem WI (l:List Int):l.flatMap (fun a=>[V.int .i64 a])=aO l:=by
 induction l with
 | nil=>rfl
 | cons a r ih=>rw [List.flatMap_cons,ih];rfl
theorem OM (h:J) (u:Int):lk Tryz.prog 24 1 [(0,.int .i64 u)] h=some (.bp h.n 0 1 1,h.push (.cells [.int .i64 u] 3 none)):=by rw [p0 tc];rfl
theorem rV {h:J} {e:TypeId} {sz:Nat} {v:V} {cs:List V} (o:Own h e sz v cs):v.one=true∧v.cells=some [v]:=by
 rcases o with ⟨rfl | rfl,_⟩ | ⟨_,_,_,_,_,rfl,_⟩<;>exact ⟨rfl,rfl⟩
theorem ahI (u:Int) (cs:List ai) (c:ai) (x:bL):iF u [c] (iF u cs x)=iF u (cs++[c]) x:=by
 unfold iF
 simp [List.append_assoc,List.replicate_succ']
theorem Dd {h:J} {aJ:cM} {id s m:Nat} {b:At} {c:aZ} {x:bL} (k:e7 h aJ id s m b c x) (u:Int) (cs:List ai) (aM:x.2.verts.length+x.2.chgs.length+cs.length≤2 ^ 30) :
  ab Tryz.prog 74 [.ptr s 0,.int .i64 u,eP cs] h (iG id s m b c h aJ (iF u cs x)):=by
 unfold eP
 refine ab.ao (c:=_) Tryz.func74 rfl (by kernel_rfl) (by simp) ?_
 simp only [aa,pv]
 refine aP.bG (α:=Nat×cM) (fun y f h'=>f 0=.ptr s 0∧f 1=.int .i64 u∧f 8=.ag cs.length (cs.flatMap aw)∧f 9=.int .i64 ((cs.length:Nat):Int)∧f 10=.int .i64 (y.1:Nat)∧y.1≤cs.length∧eS id h aJ h' y.2∧e7 h' y.2 id s m b c (iF u (cs.take y.1) x)) (fun y=>cs.length - y.1) (0,aJ)
  ⟨rfl,rfl,rfl,rfl,rfl,Nat.zero_le _,eS.refl k.ay,by simpa [iF] using k⟩ ?_
 rintro ⟨t,fs⟩ f h1 ⟨f0,f1,f8,f9,f10,bw,bV,kk⟩
 simp only at f10 bw bV kk
 refine dw (by kernel_rfl) ?_
 by_cases aH:t<cs.length
 ·have d1:decide ((t:Int)<((cs.length:Nat):Int))=true:=decide_eq_true (by omega)
  have hw:=kf aH (by omega)
  obtain ⟨hU,bR⟩:=NO (kk:=.i64) aH
  have gw:(x.2.verts++List.replicate (cs.take t).length u).length≤2 ^ 30∧(x.2.chgs++cs.take t).length≤2 ^ 30:=by
   simp only [List.length_append,List.length_replicate,List.length_take];omega
  have cS:iF u (cs.take (t+1)) x=iF u [cs[t]] (iF u (cs.take t) x):=by rw [ahI,List.take_succ_eq_append_getElem aH]
  generalize cs[t]=C at bR cS
  obtain ⟨cb,bX,b9,cd,ad⟩:=kk.mb
  obtain ⟨X,fp⟩:∃ X,X=iF u (cs.take t) x:=⟨_,rfl⟩
  have J6:X.2.verts.length≤2 ^ 30:=by rw [fp];exact gw.1
  have jc:X.2.chgs.length≤2 ^ 30:=by rw [fp];exact gw.2
  rw [←fp] at kk ad cS
  clear fp
  have cc:(V.agg (aw C)).cells=some (aw C):=rfl
  have st:bM (some 5) (aV.cells [V.int .i64 0,V.int .i64 0,V.int .i64 0,V.int .i64 0,V.bool false] 40 none) 0 (aw C)=some (.cells (aw C) 40 none):=rfl
  have ld:cX (some (some 5)) (some (aw C++hU))=some (.agg (aw C)):=lC (ix C)
  obtain ⟨H,hH⟩:∃ y,y=h1.push (.cells (aw C) 40 none):=⟨_,rfl⟩
  have bq:I h1 H none_:=by rw [hH];exact I.push _ _ _
  have kO:H.get h1.n=.cells (aw C) 40 none:=by rw [hH];exact b6
  have h9:H.n=h1.n+1:=by rw [hH];rfl
  have iX:=ad.aQ bq
  have gs:=iX.get
  simp only [aa,Nat.reduceEqDiff,Nat.reduceAdd,reduceCtorEq,yx,Kl,lb,j0,ks,mz,f0,f8,f9,f10,d1,bR,ld,cc,st]
  rw [←hH]
  clear hH
  have o5:Own H 3 1 bX (X.2.verts.flatMap fun a=>[V.int .i64 a]):=by rw [WI];exact iX.v
  obtain ⟨gY,ae,q,e4,k2,ef⟩:=I4 (P:=Tryz.prog) (t:=24) (enc:=fun a:Int=>[V.int .i64 a]) tc (by decide) (fun _=>rfl) (fun _=>rfl) mh (by decide) (by decide) o5 (cs:=X.2.verts) (Nat.le_trans J6 (by decide)) u
  have hp:I H (H.push (.cells [.int .i64 u] 3 none)) none_:=I.push _ _ _
  have H8:n2 Tryz.prog 24 24 bX (.bp H.n 0 1 1) (H.push (.cells [.int .i64 u] 3 none))=some (gY,ae):=q
  have Lw:bn bX s=False:=eq_false fun U=>by have:=ad.bX s (am.2 U);rw [ad.own] at this;simp at this
  have WJ:bn bX h1.n=False:=eq_false fun U=>by have:=ad.v.lt _ U;omega
  have hE:I H ae (fun x=>bn bX x):=hp.up.trans' k2
  have q8:=(hE.get s iX.lt (fun U=>Lw.mp U)).trans gs
  have nS:=(hE.get h1.n (by omega) (fun U=>WJ.mp U)).trans kO
  obtain ⟨gL,fm⟩:=rV e4
  have cK:bM (some 1) (aV.cells [.ptr m 0,cb,bX,b9,cd,.int .i64 (X.2.n:Nat)] 149 none) 2 [gY]=some (.cells [.ptr m 0,cb,gY,b9,cd,.int .i64 (X.2.n:Nat)] 149 none):=by rw [sZ gL];rfl
  simp only [aa,Nat.reduceEqDiff,Nat.reduceAdd,Nat.reduceLeDiff,yx,Kl,Qu,f1,gs,OM,H8,q8,fm,cK]
  have o1:I H (ae.set s (.cells [.ptr m 0,cb,gY,b9,cd,.int .i64 (X.2.n:Nat)] 149 none)) (fun q=>q=s∨bn bX q) :=
   (hE.mono fun q af=>.inr af).trans' ((I.set _ _ _).mono fun q af=>.inl af)
  have bZ:h1.n≠s:=by have:=ad.lt;omega
  have kb:(ae.set s (.cells [.ptr m 0,cb,gY,b9,cd,.int .i64 (X.2.n:Nat)] 149 none)).get h1.n=.cells (aw C) 40 none:=by rw [jF bZ];exact nS
  have g3:(ae.set s (.cells [.ptr m 0,cb,gY,b9,cd,.int .i64 (X.2.n:Nat)] 149 none)).get s=(.cells [.ptr m 0,cb,gY,b9,cd,.int .i64 (X.2.n:Nat)] 149 none):=aL
  have gJ:Own (ae.set s (.cells [.ptr m 0,cb,gY,b9,cd,.int .i64 (X.2.n:Nat)] 149 none)) 3 1 gY (aO (X.2.verts++[u])):=by
   have WK:Own ae 3 1 gY (aO (X.2.verts++[u])):=by rw [←WI];exact e4
   refine WK.aj (I.set _ _ _) fun q af U=>?_
   subst U
   rcases ef with d | d
   ·rw [d] at af;exact Lw.mp af
   ·have h1:(H.push (.cells [.int .i64 u] 3 none)).n≤q:=d q af
    have:=iX.lt;have:=hp.n;omega
  have y2:c4 H (ga bX) (ga gY):=fun q af=>by
   rcases I3 ef q af with U | U
   ·exact .inl U
   ·exact .inr (by have:=hp.n;have:(H.push (.cells [.int .i64 u] 3 none)).n≤q:=U;omega)
  have n3:(ae.set s (.cells [.ptr m 0,cb,gY,b9,cd,.int .i64 (X.2.n:Nat)] 149 none)).n=ae.n:=rfl
  generalize ae.set s (.cells [.ptr m 0,cb,gY,b9,cd,.int .i64 (X.2.n:Nat)] 149 none)=aA at o1 n3 g3 gJ kb⊢
  have gg:=kk.aQ bq
  have iT:∀ q,q<H.n→(q=s∨bn bX q)→∃ t,fs q=(id,t)∧5≤t∧t≤9:=fun q af U=>by
   rcases U with rfl | U
   ·exact ⟨5,ad.own,by omega,by omega⟩
   ·exact ⟨7,ad.bX q (am.2 U),by omega,by omega⟩
  have k7:=eS.dH (id:=id) gg.ay o1 (fun q af U=>by obtain ⟨t,h1,ae,_⟩:=iT q af U;unfold b2;rw [h1];exact ⟨rfl,ae⟩) (id,7)
  have qp:=iX.OK o1 k7.cH g3 (ad.bX.new (fun q af=>iX.v.lt q (am.1 af)) y2 fun q af=>gJ.lt q (am.1 af)) gJ
  have WL:=gg.dq.part o1 iT k7.cH
  have WM:=gg.rU.aj o1
  have nT:=(eS.push (id:=id) kk.ay bq).trans k7
  have amd:=o1.n
  have dB:h1.n<aA.n:=by omega
  obtain ⟨mT,bk,Af,qX,bY,n4⟩:=I4 (P:=Tryz.prog) (t:=35) xS (by decide) ix Ur pv (by decide) (by decide) qp.c (cs:=X.2.chgs) (Nat.le_trans jc (by decide)) C
  have ON:I aA (aA.push (.cells (aw C) 40 none)) none_:=I.push _ _ _
  have Gr:bn b9 s=False:=eq_false fun U=>by have:=ad.cc s (am.2 U);rw [ad.own] at this;simp at this
  have WN:bn b9 h1.n=False:=eq_false fun U=>by have:=ad.c.lt _ U;omega
  have OO:I aA bk (fun x=>bn b9 x):=ON.up.trans' bY
  have WO:=(OO.get s qp.lt (fun U=>Gr.mp U)).trans g3
  obtain ⟨I5,Gs⟩:=rV qX
  have I6:bM (some 1) (.cells [.ptr m 0,cb,gY,b9,cd,.int .i64 (X.2.n:Nat)] 149 none) 3 [mT]=some (.cells [.ptr m 0,cb,gY,mT,cd,.int .i64 (X.2.n:Nat)] 149 none):=by rw [sZ I5];rfl
  have d0:da (.cells (aw C) 40 none) 0=some (aw C):=rfl
  have h7:cX (some (some 5)) (some (aw C))=some (.agg (aw C)):=rfl
  refine aP.aY (fun x=>bn b9 x) [7,8,12] (.q 0 (.q 1 (.q 2 (.q 3 (.q 4 (.q 5 (.q 6 (.e 7 (.e 8 (.q 9 (.q 10 (.q 11 (.a 12 .done)))) .stop) .stop)))))))) (by kernel_rfl) (by kernel_rfl) (by kernel_rfl) ?_
  simp only [aa,bD,fg,Nat.reduceEqDiff,Nat.reduceAdd,Nat.reduceLeDiff,reduceCtorEq,yx,H3,H4,j0,ad5,f0,f10,g3,kb,d0,h7,DQ,Af,Gr,WN,OO,WO,Gs,I6,hw]
  have Gt:I aA (bk.set s (.cells [.ptr m 0,cb,gY,mT,cd,.int .i64 (X.2.n:Nat)] 149 none)) (fun q=>q=s∨bn b9 q) :=
   (OO.mono fun q af=>.inr af).trans' ((I.set _ _ _).mono fun q af=>.inl af)
  have g5:(bk.set s (.cells [.ptr m 0,cb,gY,mT,cd,.int .i64 (X.2.n:Nat)] 149 none)).get s=(.cells [.ptr m 0,cb,gY,mT,cd,.int .i64 (X.2.n:Nat)] 149 none):=aL
  have OP:Own (bk.set s (.cells [.ptr m 0,cb,gY,mT,cd,.int .i64 (X.2.n:Nat)] 149 none)) 40 5 mT ((X.2.chgs++[C]).flatMap aw):=Own.aj qX (I.set _ _ _) fun q af U=>by
   subst U
   rcases n4 with d | d
   ·rw [d] at af;exact Gr.mp af
   ·have h1:(aA.push (.cells (aw C) 40 none)).n≤q:=d q af
    have:=qp.lt;have:=ON.n;omega
  have WQ:c4 aA (ga b9) (ga mT):=fun q af=>by
   rcases I3 n4 q af with U | U
   ·exact .inl U
   ·exact .inr (by have:=ON.n;have:(aA.push (.cells (aw C) 40 none)).n≤q:=U;omega)
  generalize bk.set s (.cells [.ptr m 0,cb,gY,mT,cd,.int .i64 (X.2.n:Nat)] 149 none)=bN at Gt g5 OP⊢
  have Lx:∀ q,q<aA.n→(q=s∨bn b9 q)→∃ t,dH fs H.n aA.n (id,7) q=(id,t)∧5≤t∧t≤9:=fun q af U=>by
   rcases U with rfl | U
   ·exact ⟨5,qp.own,by omega,by omega⟩
   ·exact ⟨8,qp.cc q (am.2 U),by omega,by omega⟩
  have qA:=eS.dH (id:=id) k7.ay Gt (fun q af U=>by obtain ⟨t,h1,ae,_⟩:=Lx q af U;unfold b2;rw [h1];exact ⟨rfl,ae⟩) (id,8)
  have Gu:=qp.OL Gt qA.cH g5 (qp.cc.new (fun q af=>qp.c.lt q (am.1 af)) WQ fun q af=>OP.lt q (am.1 af)) OP
  have WR:=WL.part Gt Lx qA.cH
  have fin:e7 bN (dH (dH fs H.n aA.n (id,7)) aA.n bN.n (id,8)) id s m b c (iF u [C] X):=⟨WR,⟨_,_,_,_,Gu⟩,qA.ay,WM.aj Gt,kk.ku⟩
  exact au ⟨(t+1,_),⟨f0,f1,f8,f9,rfl,aH,bV.trans (nT.trans qA),by rw [cS];exact fin⟩,by simp only;omega⟩
 ·have d1:decide ((t:Int)<((cs.length:Nat):Int))=false:=decide_eq_false (by omega)
  rw [List.take_of_length_le (by omega)] at kk
  simp only [aa,f9,f10,d1,mG,Tryz.results74,kd]
  exact au ⟨rfl,fs,bV,kk⟩
def sz (x:bL):Nat:=x.2.outs.length+x.2.verts.length+x.2.chgs.length+x.2.deads.length+4000 * (1000 - x.2.n)
structure Inv (c:aZ) (x:bL):Prop where
 n:x.2.n≤1000
 wf:∀ u K,c.cB u=some K→cz K (x.1.st u)
structure bT (c:aZ) (j:Nat) (x y:bL):Prop where
 inv:Inv c y
 sz:sz y≤sz x+j
 ms:y.1.ms=x.1.ms
def eK (c:aZ) (j:Nat) (F:bL→bL):Prop:=∀ x,Inv c x→bT c j x (F x)
theorem bT.refl {c:aZ} {x:bL} (i:Inv c x):bT c 0 x x:=⟨i,Nat.le_refl _,rfl⟩
theorem bT.trans {c:aZ} {j k:Nat} {x y z:bL} (a:bT c j x y) (b:bT c k y z):bT c (j+k) x z:=⟨b.inv,by have:=a.sz;have:=b.sz;omega,b.ms.trans a.ms⟩
theorem bT.mono {c:aZ} {j k:Nat} {x y:bL} (a:bT c j x y) (h:j≤k):bT c k x y:=⟨a.inv,by have:=a.sz;omega,a.ms⟩
theorem eK.mono {c:aZ} {j k:Nat} {F:bL→bL} (a:eK c j F) (h:j≤k):eK c k F:=fun x i=>(a x i).mono h
theorem De (c:aZ) (u:Int) (r:Rec) (e:Int):eK c 1 (mS u r e):=fun x i=>⟨⟨i.n,i.wf⟩,by simp only [sz,mS,List.length_append,List.length_cons,List.length_nil];omega,rfl⟩
theorem I7 (c:aZ) (u:Int) (r:Rec):eK c 1 (mC u r):=fun x i=>⟨⟨i.n,i.wf⟩,by simp only [sz,mC,List.length_append,List.length_cons,List.length_nil];omega,rfl⟩
theorem y5 (c:aZ) (u:Int) (cs:List ai):eK c (2 * cs.length) (iF u cs):=fun x i=>⟨⟨i.n,i.wf⟩,by simp only [sz,iF,List.length_append,List.length_replicate];omega,rfl⟩
theorem OQ {c:aZ} {x:bL} (i:Inv c x) (h:x.2.n≠1000):Inv c (cC x)∧sz (cC x)+4000=sz x∧(cC x).1=x.1:=by
 have aG:=i.n
 refine ⟨⟨by simp only [cC];omega,i.wf⟩,?_,rfl⟩
 simp only [sz,cC]
 omega
theorem Df {c:aZ} {u:Nat} {l:List ai} (aM:∀ K,c.cB u=some K→cz K l):eK c 0 (hq u l):=fun x i=>⟨⟨i.n,fun v K bE=>by
 simp only [hq]
 split
 ·rename_i e;subst e;exact aM K bE
 ·exact i.wf v K bE⟩,Nat.le_refl _,rfl⟩
theorem Dg {c:aZ} {α:Type} {j:Nat} (f:bL→α→bL):∀ (l:List α),(∀ a ∈ l,eK c j fun x=>f x a)→eK c (j * l.length) fun x=>l.foldl f x
 | [],_=>fun x i=>bT.refl i
 | a::r,h=>fun x i=>by
  have h1:=h a (by simp) x i
  have ae:=Dg f r (fun b av=>h b (by simp [av])) (f x a) h1.inv
  have aA:=h1.trans ae
  exact aA.mono (by rw [List.length_cons,Nat.mul_add];omega)
theorem WS (v:bu) (r:Rec):(iq v r).1.length≤4:=by
 unfold iq
 split
 ·simp
 ·split
  ·split
   ·split
    ·simp only [gU]
     split
     ·simp
     ·split
      ·simp
      ·split
       ·split<;>simp
       ·split
        ·rw [DK];omega
        ·simp
    ·simp
   ·simp
  ·simp
theorem WT {c:aZ} {v:bu} {u:Int} {r:Rec} {th:Rec→bL→bL} (h:∀ y,eK c 24 (th y)):eK c 96 (nC v u th r):=fun x i=>by
 unfold nC
 split
 ·exact (De c u r _ x i).mono (by omega)
 ·have:=WS v r
  exact (Dg (j:=24) (fun x y=>th y x) (iq v r).1 (fun a _=>h a) x i).mono (by omega)
theorem rg {K:df} {l:List ai} (w:cz K l) (k t v:Int):(oZ K l k t v).length≤1025:=by
 have:=w.len
 cases K with
 | kv=>simp [oZ]
 | cE g=>simp [oZ]
 | dr g=>
  simp only [oZ,gM,List.length_append,List.length_map,List.length_cons,List.length_nil]
  have h1:=List.length_filter_le (j5 (eE g l k t v)) (found g l k t)
  have ae:=FJ g l k t
  omega
theorem I8 {K:df} {e:bF} {l:List ai} {r:Rec} {N:Int} (w:cz K l) (h:jz K e l r=.ok N):jA K e l r=om K l r.k r.t N∧cz K (om K l r.k r.t N):=by
 have h1:jA K e l r=om K l r.k r.t N:=by unfold jA;rw [h]
 exact ⟨h1,by rw [←h1];exact agF w r⟩
theorem ahJ {c:aZ} {K:df} {v:bu} {u:Nat} {r:Rec} {snd:Rec→bL→bL} (bE:c.cB u=some K) (h:∀ y,eK c 24 (snd y)):eK c 2100 (rT K v u snd r):=fun x i=>by
 unfold rT
 split
 ·exact (De c u r _ x i).mono (by omega)
 ·have w:=i.wf u K bE
  split
  ·exact (De c u r _ x i).mono (by omega)
  ·rename_i N kl
   have h1:=Df (c:=c) (u:=u) (l:=om K (x.1.st u) r.k r.t N) (fun uY ae=>by rw [bE] at ae;cases ae;exact (I8 w kl).2) x i
   have ae:=y5 c u (oZ K (x.1.st u) r.k r.t N) _ h1.inv
   have aA:=h ⟨r.k,N,xj K (x.1.st u) r.k r.t⟩ _ ae.inv
   have:=rg w r.k r.t N
   exact ((h1.trans ae).trans aA).mono (by omega)
theorem ahK {c:aZ} {v:bu} {u:Int} {r:Rec} {snd:Rec→bL→bL} (h:∀ y,eK c 24 (snd y)):eK c 24 (u5 c v u snd r):=fun x i=>by
 unfold u5
 split
 ·split
  ·exact h _ x i
  ·exact (De c u r _ x i).mono (by omega)
 ·exact (De c u r _ x i).mono (by omega)
theorem OR {c:aZ} {snd:Int→Rec→bL→bL} (h:∀ u y,eK c 24 (snd u y)) (f:Int) (u:Nat) (r:Rec):eK c 1 (p1 c snd f u r):=fun x i=>by
 unfold p1
 split
 ·exact De c u r _ x i
 ·rename_i aG
  obtain ⟨j,ad,hm⟩:=OQ i aG
  have fin:∀ {y:bL} {k:Nat},k≤4000→bT c k (cC x) y→bT c 1 x y:=fun hk bw=>⟨bw.inv,by have:=bw.sz;omega,bw.ms.trans (by rw [hm])⟩
  have f0:bT c 1 x (cC x):=fin (Nat.zero_le _) (bT.refl j)
  split
  ·exact f0
  ·split
   ·exact fin (by omega) (WT (fun y=>(I7 c u y).mono (by omega)) _ j)
   ·split
    ·exact fin (by omega) (WT (fun y=>h u y) _ j)
    ·split
     ·split
      ·rename_i K bE;exact fin (by omega) (ahJ bE (fun y=>h u y) _ j)
      ·exact f0
     ·split
      ·split
       ·exact fin (by omega) (ahK (fun y=>h u y) _ j)
       ·exact f0
      ·exact f0
theorem ahL {c:aZ} (aM:c.l.length≤24) (v:Int):(c.us v).length≤24:=by
 unfold aZ.us
 have h1:=AJ (v:=v) (l:=c.l) (j:=0)
 have ae:=List.length_filter_le (fun u=>c.P.getD u 0==c.part) ((ft v 0 c.l).map Int.toNat)
 rw [List.length_map] at ae
 omega
theorem xu {c:aZ} (aM:c.l.length≤24):∀ (k:Nat) (v:Int) (r:Rec),eK c 24 (mj c k v r)
 | 0,v,r=>fun x i=>(bT.refl i).mono (by omega)
 | k+1,v,r=>fun x i=>by
  have:=ahL aM v
  exact (Dg (j:=1) (fun x u=>p1 c (mj c k) v u r x) (c.us v) (fun u _=>OR (fun a y=>xu aM k a y) v u r) x i).mono (by omega)
theorem pT (c:aZ) (b:At):c.cells b=[.ag c.l.length (c.l.flatMap al),.int .i64 c.p,.ag c.P.length (aO c.P),.int .i64 c.part,.ptr b.iW 0,.map b.mp]:=rfl
theorem Ki {l:List bu} {u:Nat} {v:bu} (h:l[u]?=some v) {kk:IntKind}:∃ r,ir Tryz.prog 54 (.ag l.length (l.flatMap al)) (.int kk (u:Int))=some (.at (al v++r)) :=
 J3 hF rfl h w8
theorem I9 {x:bL} {j:Nat} (h:sz x+j≤2 ^ 30):x.2.deads.length≤2 ^ 30:=by unfold sz at h;omega
theorem WU {x:bL} {j:Nat} (h:sz x+j≤2 ^ 30):x.2.outs.length≤2 ^ 30:=by unfold sz at h;omega
section
variable {id s m:Nat} {b:At} {c:aZ}
theorem u6 {g:FuncId} (jh:bK Tryz.prog g=true) {th:Rec→bL→bL} {u:Nat} {v:bu} (aN:c.l[u]?=some v)
  (WV:∀ (y:Rec) (h:J) (aJ:cM) (x:bL),e7 h aJ id s m b c x→Inv c x→sz x+24≤2 ^ 30→ab Tryz.prog g [.ptr s 0,.int .i64 u,.agg (aD y)] h (iG id s m b c h aJ (th y x)))
  (mU:∀ y,eK c 24 (th y)) {h:J} {aJ:cM} {x:bL} (k:e7 h aJ id s m b c x) (i:Inv c x) (bz:sz x+100≤2 ^ 30) (r:Rec) :
  ab Tryz.prog 185 [.ptr s 0,.int .i64 u,.agg (aD r),.func (.func g) [.ptr s 0] []] h (iG id s m b c h aJ (nC v u th r x)):=by
 refine ab.ao (c:=_) Tryz.func185 rfl (by kernel_rfl) (by simp) ?_
 obtain ⟨cb,bX,b9,cd,ad⟩:=k.mb
 obtain ⟨H,hH⟩:∃ y,y=h.push (.cells (aD r) 38 none):=⟨_,rfl⟩
 have bq:I h H none_:=by rw [hH];exact I.push _ _ _
 have kO:H.get h.n=.cells (aD r) 38 none:=by rw [hH];exact b6
 have h9:H.n=h.n+1:=by rw [hH];rfl
 have gg:=k.aQ bq
 have gs:=(ad.aQ bq).get
 have dI:=gg.dq.get
 rw [pT] at dI
 have ld:cX (some (some 3)) (some (aD r))=some (.agg (aD r)):=rfl
 have d0:da (.cells (aD r) 38 none) 0=some (aD r):=rfl
 have cc:(V.agg (aD r)).cells=some (aD r):=rfl
 obtain ⟨hU,bR⟩:=Ki (kk:=.i64) aN
 have xq:cX (some (some 6)) (some (al v++hU))=some (.agg (al v)):=lC (hF v)
 simp only [aa]
 rw [←hH]
 clear hH
 refine aP.aY none_ [] (.q 0 (.q 1 (.q 2 (.q 3 (.q 4 (.q 5 (.q 6 (.q 7 (.q 8 (.q 9 (.q 10 (.q 11 (.c 12 (.q 13 (.q 14 (.q 15 (.q 16 (.q 17 .done)))))))))))))))))) (by kernel_rfl) (by kernel_rfl) (by kernel_rfl) ?_
 simp only [aa,bD,Nat.reduceEqDiff,Nat.reduceAdd,reduceCtorEq,CP,zZ,jH,mi,dj,ji,vO,gs,kO,ld,d0,dI,bR,xq]
 refine gE rfl rfl rfl (fun h' hk=>Zb v r h' (hk.elim (fun q=>gg.rU.aj q) fun e=>by rw [e];exact gg.rU)) ?_
 unfold xE
 simp only [aa,bD,Nat.reduceEqDiff]
 have oA:=I9 bz
 cases he:((iq v r).2 !=0)
 rotate_left
 ·have iv:(iq v r).2≠0:=by simpa using he
  simp only [aa,Nat.reduceEqDiff,reduceCtorEq,dj,kO,ld,d0]
  refine bU zX (AU gg u r (iq v r).2 oA) fun q ae ⟨ar,ie,bV,k2⟩=>?_
  subst ar
  simp only [aa,aI,Tryz.results185,kd]
  exact au ⟨rfl,ie,(eS.push k.ay bq).trans bV,by unfold nC;rw [if_pos iv];exact k2⟩
 have iv:¬(iq v r).2≠0:=by simpa using he
 have gj:nC v u th r x=(iq v r).1.foldl (fun x y=>th y x) x:=by unfold nC;rw [if_neg iv]
 have s8:=WS v r
 rw [gj]
 generalize (iq v r).1=L at s8
 clear gj he iv ad gs dI kO bR xq
 simp only [aa,Nat.reduceEqDiff,Qt]
 refine aP.bG (α:=Nat×cM) (fun y f h'=>f 0=.ptr s 0∧f 1=.int .i64 (u:Nat)∧f 3=.func (.func g) [.ptr s 0] []∧f 35=.ag L.length (L.flatMap aD)∧f 36=.int .i64 ((L.length:Nat):Int)∧f 37=.int .i64 (y.1:Nat)∧y.1≤L.length ∧
   eS id h aJ h' y.2∧e7 h' y.2 id s m b c ((L.take y.1).foldl (fun x y=>th y x) x)∧bT c (24 * y.1) x ((L.take y.1).foldl (fun x y=>th y x) x)) (fun y=>L.length - y.1) (0,aJ)
  ⟨rfl,rfl,rfl,rfl,rfl,rfl,Nat.zero_le _,eS.push k.ay bq,gg,bT.refl i⟩ ?_
 rintro ⟨t,fs⟩ f h1 ⟨f0,f1,f3,f35,f36,f37,bw,bV,kk,rW⟩
 simp only at f37 bw bV kk rW
 refine dw (by kernel_rfl) ?_
 by_cases aH:t<L.length
 ·have ar:decide ((t:Int)<((L.length:Nat):Int))=true:=decide_eq_true (by omega)
  have hw:=kf aH (by omega)
  obtain ⟨xG,dn⟩:=agM (kk:=.i64) aH
  have cS:(L.take (t+1)).foldl (fun x y=>th y x) x=th L[t] ((L.take t).foldl (fun x y=>th y x) x):=by rw [List.take_succ_eq_append_getElem aH,List.foldl_append];rfl
  generalize L[t]=Y at dn cS
  have ahM:cX (some (some 3)) (some (aD Y++xG))=some (.agg (aD Y)):=lC (CJ Y)
  have ahN:(V.agg (aD Y)).cells=some (aD Y):=rfl
  have ahO:bM (some 3) (aV.cells [V.int .i64 0,V.int .i64 0,V.int .i64 0] 38 none) 0 (aD Y)=some (.cells (aD Y) 38 none):=rfl
  have WW:da (.cells (aD Y) 38 none) 0=some (aD Y):=rfl
  have h7:cX (some (some 3)) (some (aD Y))=some (.agg (aD Y)):=rfl
  obtain ⟨H1,du⟩:∃ y,y=h1.push (.cells (aD Y) 38 none):=⟨_,rfl⟩
  have Ly:I h1 H1 none_:=by rw [du];exact I.push _ _ _
  have SD:H1.get h1.n=.cells (aD Y) 38 none:=by rw [du];exact b6
  have nJ:=kk.aQ Ly
  generalize (L.take t).foldl (fun x y=>th y x) x=X at cS kk nJ rW
  simp only [aa,Nat.reduceEqDiff,dj,tS,xP,f1,f3,f35,f36,f37,ar,dn,ahM,ahN,ahO,WW,h7]
  rw [←du]
  clear du
  refine bU jh (WV Y H1 fs X nJ rW.inv (by have:=rW.sz;omega)) fun q ae ⟨ar,ie,rX,k2⟩=>?_
  subst ar
  simp only [aa,Nat.reduceEqDiff,f37,hw]
  have WX:=rW.trans (mU Y X rW.inv)
  exact au ⟨(t+1,ie),⟨f0,f1,f3,f35,f36,rfl,aH,bV.trans ((eS.push kk.ay Ly).trans rX),by rw [cS];exact k2,by rw [cS];exact WX⟩,by simp only;omega⟩
 ·have ar:decide ((t:Int)<((L.length:Nat):Int))=false:=decide_eq_false (by omega)
  rw [List.take_of_length_le (by omega)] at kk
  simp only [aa,f36,f37,ar,mG,Tryz.results185,kd]
  exact au ⟨rfl,fs,bV,kk⟩
end
end Go.Proofs.YtedkjhifbibpmaaGreatDoor.Pk
