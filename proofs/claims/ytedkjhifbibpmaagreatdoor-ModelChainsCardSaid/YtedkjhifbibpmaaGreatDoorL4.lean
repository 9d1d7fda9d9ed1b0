/-
  What functions of the program do, told of abstract states. Conditions: as each theorem says.
-/
import Derived.Test.YtedkjhifbibpmaaGreatDoorNg
import Derived.Test.YtedkjhifbibpmaaGreatDoorNi
import Derived.Test.YtedkjhifbibpmaaGreatDoorAcD
set_option linter.unusedVariables false
set_option linter.unusedSimpArgs false
set_option maxHeartbeats 8000000
set_option maxRecDepth 10000
namespace Go.Proofs.YtedkjhifbibpmaaGreatDoor.Pk
open Go Go.Proofs Go.Proofs.YtedkjhifbibpmaaGreatDoor.Ab
abbrev nR:=List Rec×List Int
def sM (f:Rec→nR→(Int×Int)×nR):List Rec→nR→(Int×Int)×nR
 | [],s=>((-1,0),s)
 | x::l,s=>if (f x s).1.2≠0 then f x s else sM f l (f x s).2
def fZ (t:List Int) (i m:Nat):List Int:=t.set i (j2 (t.getD i 0+m))
def iz:List bC→Nat→Rec→nR→(Int×Int)×nR
 | [],_,r,s=>((-1,0),(s.1++[r],s.2))
 | v::vs,i,r,s=>
  if (gK v r).2≠0 then (((i:Int),(gK v r).2),s)
  else if 10000<(fZ s.2 i (gK v r).1.length).getD i 0 then (((i:Int),3),(s.1,fZ s.2 i (gK v r).1.length))
  else sM (iz vs (i+1)) (gK v r).1 (s.1,fZ s.2 i (gK v r).1.length)
theorem ahG (kind n:Int) (r:Rec):(hN kind n r).length≤4:=by
 unfold hN
 repeat' split
 all_goals first | (rw [EO];omega) | simp
theorem UN (v:bC) (r:Rec):(gK v r).1.length≤4:=by
 unfold gK
 repeat' split
 all_goals first | exact ahG _ _ _ | simp
theorem UO {f:Rec→nR→(Int×Int)×nR} {m:Nat} (aq:∀ x s,(f x s).2.1.length≤s.1.length+m):∀ (l:List Rec) (s:nR),(sM f l s).2.1.length≤s.1.length+l.length * m
 | [],s=>by simp [sM]
 | x::l,s=>by
  unfold sM
  have h1:=aq x s
  split
  ·simp only [List.length_cons,Nat.add_mul];omega
  ·have aa:=UO aq l (f x s).2
   simp only [List.length_cons,Nat.add_mul];omega
theorem t7:∀ (vs:List bC) (i:Nat) (r:Rec) (s:nR),(iz vs i r s).2.1.length≤s.1.length+4 ^ vs.length
 | [],i,r,s=>by simp [iz]
 | v::vs,i,r,s=>by
  have aZ:0<4 ^ (v::vs).length:=Nat.pow_pos (by decide)
  unfold iz
  split
  ·simp only;omega
  ·split
   ·simp only;omega
   ·have h1:=UO (t7 vs (i+1)) (gK v r).1 (s.1,fZ s.2 i (gK v r).1.length)
    have aa:(gK v r).1.length * 4 ^ vs.length≤4 * 4 ^ vs.length:=Nat.mul_le_mul_right _ (UN v r)
    simp only [List.length_cons,Nat.pow_succ] at *
    omega
theorem EP (t:List Int) (i m:Nat):(fZ t i m).length=t.length:=by simp [fZ]
theorem t8 {f:Rec→nR→(Int×Int)×nR} (aq:∀ x s,(f x s).2.2.length=s.2.length):∀ (l:List Rec) (s:nR),(sM f l s).2.2.length=s.2.length
 | [],s=>by simp [sM]
 | x::l,s=>by
  unfold sM
  split
  ·exact aq x s
  ·rw [t8 aq l,aq x s]
theorem UP:∀ (vs:List bC) (i:Nat) (r:Rec) (s:nR),(iz vs i r s).2.2.length=s.2.length
 | [],i,r,s=>by simp [iz]
 | v::vs,i,r,s=>by
  unfold iz
  split
  ·rfl
  ·split
   ·exact EP _ _ _
   ·rw [t8 (UP vs (i+1))];exact EP _ _ _
def ahH (n:Nat):V:=.func (.func 83) [] [.ptr n 0,.ptr (n+2) 0,.ptr (n+4) 0,.ptr (n+5) 0]
structure r1 (h0:I) (L:List bC) (s:nR) (h:I):Prop where
 k:J h0 h none_
 n:h0.n+6≤h.n
 vy:h.get h0.n=.cells [.ai L.length (L.flatMap ar)] 54 none
 go:∃ v,h.get (h0.n+2)=.cells [v] 49 none∧Own h 38 3 v (s.1.flatMap aI)∧∀ k,aV v=some k→h0.n+6≤k
 gt:h.get (h0.n+3)=.cells (aY s.2) 3 none
 gs:h.get (h0.n+4)=.cells [.bc (h0.n+3) 0 s.2.length s.2.length] 24 none
 gf:h.get (h0.n+5)=.cells [ahH h0.n] 159 none
theorem r1.on {h0 h h':I} {L:List bC} {s:nR} (a:r1 h0 L s h) (k:J h h' none_):r1 h0 L s h':=by
 have n:=a.n
 obtain ⟨v,g,o,d⟩:=a.go
 have get:∀ j,j<h.n→h'.get j=h.get j:=fun j aS=>k.get j aS (fun q=>q)
 exact ⟨a.k.trans' k,Nat.le_trans n k.n,by rw [get _ (by omega)];exact a.vy,⟨v,by rw [get _ (by omega)];exact g,o.ba k,d⟩,by rw [get _ (by omega)];exact a.gt,by rw [get _ (by omega)];exact a.gs,by rw [get _ (by omega)];exact a.gf⟩
theorem r1.out {h0 h h':I} {L:List bC} {s:nR} {v v':V} {r:Rec} (a:r1 h0 L s h) (g:h.get (h0.n+2)=.cells [v] 49 none) (d:∀ k,aV v=some k→h0.n+6≤k) (o':Own h' 38 3 v' (s.1.flatMap aI++aI r))
  (k:J h h' (bl v)) (Ca:bV h v v'):r1 h0 L (s.1++[r],s.2) (h'.set (h0.n+2) (.cells [v'] 49 none)):=by
 have n:=a.n
 have get:∀ j,j<h0.n+6→h'.get j=h.get j:=fun j aS=>k.get j (by omega) (fun q=>by have:=d j q;omega)
 have sL:∀ j,j≠h0.n+2→(h'.set (h0.n+2) (.cells [v'] 49 none)).get j=h'.get j:=fun j aS=>by simp [I.set,aS]
 have nC:∀ k,aV v'=some k→h0.n+6≤k:=fun j aS=>by
  rcases Ca with q | q
  ·exact d j (q ▸ aS)
  ·have:=q j aS;omega
 refine ⟨?_,Nat.le_trans n k.n,?_,⟨v',by simp [I.set],?_,nC⟩,?_,?_,?_⟩
 ·exact (a.k.trans k fun j aS q=>by have:=d j q;omega).iQ (by omega) _
 ·rw [sL _ (by omega),get _ (by omega)];exact a.vy
 ·simp only [List.flatMap_append,List.flatMap_cons,List.flatMap_nil,List.append_nil]
  exact o'.al (J.set h' _ _) fun j aS q=>by have:=nC j aS;omega
 ·rw [sL _ (by omega),get _ (by omega)];exact a.gt
 ·rw [sL _ (by omega),get _ (by omega)];exact a.gs
 ·rw [sL _ (by omega),get _ (by omega)];exact a.gf
theorem r1.UQ {h0 h:I} {L:List bC} {s:nR} (a:r1 h0 L s h) (t:List Int) (bq:t.length=s.2.length):r1 h0 L (s.1,t) (h.set (h0.n+3) (.cells (aY t) 3 none)):=by
 have n:=a.n
 obtain ⟨v,g,o,d⟩:=a.go
 have sL:∀ j,j≠h0.n+3→(h.set (h0.n+3) (.cells (aY t) 3 none)).get j=h.get j:=fun j aS=>by simp [I.set,aS]
 refine ⟨a.k.iQ (by omega) _,n,?_,⟨v,?_,o.al (J.set h _ _) fun j aS q=>by have:=d j aS;omega,d⟩,by simp [I.set],?_,?_⟩
 ·rw [sL _ (by omega)];exact a.vy
 ·rw [sL _ (by omega)];exact g
 ·rw [sL _ (by omega)];rw [show (s.1,t).2.length=s.2.length from bq];exact a.gs
 ·rw [sL _ (by omega)];exact a.gf
theorem UR (b N i:Nat) (hi:i<N):hA Tryz.prog 24 (.bc b 0 N N) (.int .i64 (i:Int))=some (.ptr b i):=by
 rw [F9,mF,J8,if_pos ⟨by omega,by omega⟩]
 simp
theorem US (t:List Int) (i:Nat) (hi:i<t.length) {e:TypeId}:dB (.cells (aY t) e none) i=some (.int .i64 (t.getD i 0)::aY (t.drop (i+1))):=by
 rw [F7,if_pos (by rw [pU];omega)]
 have aw:(aY t).drop i=.int .i64 t[i]::aY (t.drop (i+1)):=by
  unfold aY
  rw [←List.map_drop,List.drop_eq_getElem_cons hi,List.map_cons]
 have aW:t.getD i 0=t[i]:=by simp [List.getD_eq_getElem?_getD,List.getElem?_eq_getElem hi]
 rw [aw,aW]
theorem ahI (t:List Int) (i:Nat) (x:Int) (hi:i<t.length) {e:TypeId}:bR (some 1) (.cells (aY t) e none) i [.int .i64 x]=some (.cells (aY (t.set i x)) e none):=by
 rw [tf rfl,if_pos (by rw [pU];omega),O0]
theorem ahJ {l:List Rec} {k:Nat} (hk:k<l.length) {kk:IntKind}:hA Tryz.prog 49 (.ai l.length (l.flatMap aI)) (.int kk (k:Int))=some (.at (aI l[k]++(l.drop (k+1)).flatMap aI)):=qC AJ hk PE
theorem ahK {h:I} {e:TypeId} {sz:Nat} {v:V} {cs:List V} (o:Own h e sz v cs):v.one=true∧v.cells=some [v]:=by
 rcases o with ⟨rfl | rfl,_⟩ | ⟨i,len,cap,c,ex,rfl,_⟩<;>exact ⟨rfl,rfl⟩
theorem UT (l:List Rec):(l.flatMap aI).length=l.length * 3:=j7 AJ l
theorem ahL (h0:I) (av:ga h0) (L:List bC) (hW:L.length≤8):∀ (vs:List bC) (i:Nat),L.drop i=vs→i+vs.length=L.length→∀ (r:Rec) (s:nR),s.2.length=L.length→s.1.length+4 ^ vs.length≤65536→∀ (h:I),r1 h0 L s h →
  ae Tryz.prog 83 [.int .i64 (i:Int),.agg (aI r),.ptr h0.n 0,.ptr (h0.n+2) 0,.ptr (h0.n+4) 0,.ptr (h0.n+5) 0] h (fun q h'=>q=.tuple [.int .i64 (iz vs i r s).1.1,.int .i64 (iz vs i r s).1.2]∧r1 h0 L (iz vs i r s).2 h'):=by
 intro vs
 induction vs with
 | nil=>
  intro i hi aG r s bq U h a
  refine ae.ax (c:=_) Tryz.func83 rfl (by kernel_rfl) (by simp) ?_
  have tw:(V.agg (aI r)).cells=some (aI r):=rfl
  simp only [af,Int.reduceNeg,Nat.reduceEqDiff,reduceCtorEq,kO,tw]
  obtain ⟨H,hH⟩:∃ x,x=h.push (.cells (aI r) 38 none):=⟨_,rfl⟩
  have g3:H.get h.n=.cells (aI r) 38 none:=by rw [hH];exact cA
  have b:r1 h0 L s H:=by rw [hH];exact a.on (J.push _ _ _)
  rw [←hH]
  clear hH
  obtain ⟨v,o2,PF,KH⟩:=b.go
  have vy:=b.vy
  have c:((i:Int)==((L.length:Nat):Int))=true:=by simp only [List.length_nil,Nat.add_zero] at aG;simp [aG]
  have k9:dB (bb.cells (aI r) 38 none) 0=some (aI r):=rfl
  have wO:dv (some (some 3)) (some (aI r))=some (.agg (aI r)):=rfl
  have lit:kI Tryz.prog 49 1 [(0,.agg (aI r))] H=some (.bc H.n 0 1 1,H.push (.cells (aI r) 38 none)):=ER H r.k r.v r.t
  obtain ⟨v',h',cn,cO,fg,ju⟩:=Gx (P:=Tryz.prog) PG (by decide) PF (xs:=aI r) rfl rfl (fun m hm=>by
   rw [UT] at hm
   have hq:m * 3=s.1.length * 3+3:=hm
   simp only [List.length_nil,Nat.pow_zero] at U
   show m * 24≤140737488355328∧m≤140737488355328
   omega)
  obtain ⟨c2,bX⟩:=ahK cO
  have ahM:h'.get (h0.n+2)=.cells [v] 49 none:=by
   have:=b.n
   rw [fg.get _ (by omega) (fun q=>by have:=KH _ q;omega)]
   exact o2
  simp only [af,Int.reduceNeg,Nat.reduceEqDiff,px,dQ,UU,ahN,vy,c,o2,g3,k9,wO,lit,cn,c2,bX,ahM,aU,Tryz.results83,dn]
  exact aF ⟨by simp [iz],by simp only [iz];exact b.out o2 KH cO fg ju⟩
 | cons v vs ih=>
  intro i hi aG r s bq U h a
  refine ae.ax (c:=_) Tryz.func83 rfl (by kernel_rfl) (by simp) ?_
  have tw:(V.agg (aI r)).cells=some (aI r):=rfl
  simp only [af,Int.reduceNeg,Nat.reduceEqDiff,reduceCtorEq,kO,tw]
  obtain ⟨H,hH⟩:∃ x,x=h.push (.cells (aI r) 38 none):=⟨_,rfl⟩
  have g3:H.get h.n=.cells (aI r) 38 none:=by rw [hH];exact cA
  have b:r1 h0 L s H:=by rw [hH];exact a.on (J.push _ _ _)
  rw [←hH]
  clear hH
  have vy:=b.vy
  have gs:=b.gs
  have gt:=b.gt
  have AK:=b.n
  simp only [List.length_cons] at aG
  have kr:i<L.length:=by omega
  have aD:L[i]=v:=by
   rw [List.drop_eq_getElem_cons kr] at hi
   exact (List.cons.inj hi).1
  have ji:L.drop (i+1)=vs:=by
   rw [List.drop_eq_getElem_cons kr] at hi
   exact (List.cons.inj hi).2
  have aZ:4 ^ (v::vs).length=4 * 4 ^ vs.length:=by rw [List.length_cons,Nat.pow_succ,Nat.mul_comm]
  rw [aZ] at U
  have c:((i:Int)==((L.length:Nat):Int))=false:=by simp;omega
  have k9:dB (bb.cells (aI r) 38 none) 0=some (aI r):=rfl
  have wO:dv (some (some 3)) (some (aI r))=some (.agg (aI r)):=rfl
  have UW:hA Tryz.prog 54 (.ai L.length (L.flatMap ar)) (.int .i64 (i:Int))=some (.at (ar v++vs.flatMap ar)):=by
   have:=qC (P:=Tryz.prog) iA kr (t:=54) (kk:=.i64) xR
   rwa [aD,ji] at this
  have UX:dv (some (some 6)) (some (ar v++vs.flatMap ar))=some (.agg (ar v)):=nN (iA v)
  simp only [af,Int.reduceNeg,Nat.reduceEqDiff,px,vy,c]
  refine aX.pr [] (by kernel_rfl) (by kernel_rfl) (by kernel_rfl) ?_
  simp only [af,sH,sG,sI,sJ,lT,Bool.or_false,List.contains_nil,Nat.reduceEqDiff,Nat.reduceAdd,reduceCtorEq,nS,dQ,kO,vy,g3,UW,UX,k9,wO]
  refine afW rfl rfl rfl (UY v r H (av.al b.k)) ?_
  obtain ⟨R,z,eR⟩:∃ R z,gK v r=(R,z):=⟨_,_,rfl⟩
  have apC:R.length≤4:=by have:=UN v r;rwa [eR] at this
  rw [eR]
  by_cases bK:z=0
  rotate_left
  ·have ahO:(z !=0)=true:=by simp [bK]
   have bs:iz (v::vs) i r s=(((i:Int),z),s):=by simp [iz,eR,bK]
   simp only [af,zf,sH,sG,sI,sJ,lT,Bool.or_false,List.contains_nil,Int.reduceNeg,Nat.reduceEqDiff,Nat.reduceAdd,reduceCtorEq,wP,ahO,aU,Tryz.results83,dn]
   exact aF ⟨by rw [bs],by rw [bs];exact b⟩
  subst bK
  have hit:i<s.2.length:=by omega
  have d1:=US s.2 i hit (e:=3)
  have st1:bR (some 1) (.cells (aY s.2) 3 none) i [.int .i64 (IntKind.i64.wrap (s.2.getD i 0+(R.length:Int)))]=some (.cells (aY (fZ s.2 i R.length)) 3 none):=ahI s.2 i _ hit
  have Ms:=UR (h0.n+3) s.2.length i hit
  have bW:=b.UQ (fZ s.2 i R.length) (EP _ _ _)
  have PH:i<(fZ s.2 i R.length).length:=by rw [EP];exact hit
  have d2:=US (fZ s.2 i R.length) i PH (e:=3)
  have qp:=bW.gs
  have nT:=bW.gt
  simp only [EP] at qp nT
  obtain ⟨bP,bE⟩:∃ x,x=H.set (h0.n+3) (.cells (aY (fZ s.2 i R.length)) 3 none):=⟨_,rfl⟩
  rw [←bE] at bW qp nT
  by_cases aq:10000<(fZ s.2 i R.length).getD i 0
  ·have cf:decide (10000<(fZ s.2 i R.length).getD i 0)=true:=by simpa using aq
   have bs:iz (v::vs) i r s=(((i:Int),3),(s.1,fZ s.2 i R.length)):=by simp only [iz,eR];rw [if_neg (by simp),if_pos aq]
   simp only [af,zf,sH,sG,sI,sJ,lT,Bool.or_false,List.contains_nil,Int.reduceNeg,Nat.reduceEqDiff,Nat.reduceAdd,reduceCtorEq,KI,mW,bn,uz,wP,gs,gt,Ms,d1,st1,←bE,qp,nT,d2,cf,aU,Tryz.results83,dn]
   exact aF ⟨by rw [bs],by rw [bs];exact bW⟩
  have cf:decide (10000<(fZ s.2 i R.length).getD i 0)=false:=by simpa using aq
  have bs:iz (v::vs) i r s=sM (iz vs (i+1)) R (s.1,fZ s.2 i R.length):=by simp only [iz,eR];rw [if_neg (by simp),if_neg aq]
  rw [bs]
  simp only [af,zf,sH,sG,sI,sJ,lT,Bool.or_false,List.contains_nil,Int.reduceNeg,Nat.reduceEqDiff,Nat.reduceAdd,reduceCtorEq,KI,mW,bn,uz,wP,gs,gt,Ms,d1,st1,←bE,qp,nT,d2,cf]
  refine aX.b9 (α:=Nat×nR) (fun x f h'=>f 0=.int .i64 (i:Int)∧f 5=.ptr (h0.n+5) 0∧f 51=.ai R.length (R.flatMap aI)∧f 52=.int .i64 (R.length:Nat)∧f 53=.int .i64 (x.1:Nat)∧x.1≤R.length∧r1 h0 L x.2 h'∧x.2.2.length=L.length∧x.2.1.length≤s.1.length+x.1 * 4 ^ vs.length ∧
   sM (iz vs (i+1)) R (s.1,fZ s.2 i R.length)=sM (iz vs (i+1)) (R.drop x.1) x.2) (fun x=>R.length - x.1) (0,(s.1,fZ s.2 i R.length)) ⟨rfl,rfl,rfl,rfl,rfl,Nat.zero_le _,bW,by rw [EP];exact bq,by simp,by simp⟩ ?_
  rintro ⟨k,cK⟩ f h1 ⟨f0,f5,f51,f52,f53,hk,cG,t1,ey,hZ⟩
  simp only at f53 hk cG t1 ey hZ
  refine am (by kernel_rfl) ?_
  by_cases aN:k<R.length
  rotate_left
  ·have c3:decide ((k:Int)<((R.length:Nat):Int))=false:=by simp;omega
   have UZ:R.drop k=[]:=List.drop_of_length_le (by omega)
   rw [hZ,UZ]
   simp only [af,Int.reduceNeg,Nat.reduceEqDiff,f52,f53,c3,aU,Tryz.results83,dn]
   exact aF ⟨rfl,cG⟩
  ·have c3:decide ((k:Int)<((R.length:Nat):Int))=true:=by simp;omega
   have bX:IntKind.i64.wrap (((i:Nat):Int)+1)=((i+1:Nat):Int):=by rw [Go.IntWalk.i64_in _ (by omega)];omega
   have k8:IntKind.i64.wrap (((k:Nat):Int)+1)=((k+1:Nat):Int):=by rw [Go.IntWalk.i64_in _ (by omega)];omega
   have Mt:=ahJ aN (kk:=.i64)
   have Mu:dv (some (some 3)) (some (aI R[k]++(R.drop (k+1)).flatMap aI))=some (.agg (aI R[k])):=nN (AJ _)
   obtain ⟨x,ag⟩:∃ x,x=R[k]:=⟨_,rfl⟩
   have a7:R.drop k=x::R.drop (k+1):=by rw [ag];exact List.drop_eq_getElem_cons aN
   rw [←ag] at Mt Mu
   have apD:h1.get (h0.n+5)=.cells [.func (.func 83) [] [.ptr h0.n 0,.ptr (h0.n+2) 0,.ptr (h0.n+4) 0,.ptr (h0.n+5) 0]] 159 none:=cG.gf
   have a2:=cG.on (J.push h1 (.cells (aI x) 38 none) none_)
   have Mv:(h1.push (.cells (aI x) 38 none)).get (h0.n+5)=.cells [.func (.func 83) [] [.ptr h0.n 0,.ptr (h0.n+2) 0,.ptr (h0.n+4) 0,.ptr (h0.n+5) 0]] 159 none:=a2.gf
   have gp:cK.1.length+4 ^ vs.length≤65536:=by
    have:(k+1) * 4 ^ vs.length≤4 * 4 ^ vs.length:=Nat.mul_le_mul_right _ (by omega)
    rw [Nat.add_mul] at this
    omega
   have au:=ih (i+1) ji (by omega) x cK t1 gp _ a2
   have Gl:=t7 vs (i+1) x cK
   have ahP:=UP vs (i+1) x cK
   unfold aI at au Mv Mu
   rw [hZ,a7]
   simp only [af,Nat.reduceEqDiff,Nat.reduceAdd,Nat.reduceLeDiff,reduceCtorEq,U0,dQ,vH,m9,f0,f5,f51,f52,f53,c3,Mt,aI,Mv,bX]
   refine cy U1 au (fun q h' ⟨aw,aW⟩=>?_)
   subst aw
   by_cases he:(iz vs (i+1) x cK).1.2=0
   ·have ce:((iz vs (i+1) x cK).1.2 !=0)=false:=by simp [he]
    simp only [af,Int.reduceNeg,Nat.reduceEqDiff,f53,ce,k8]
    refine aF ⟨(k+1,(iz vs (i+1) x cK).2),⟨f0,f5,f51,f52,rfl,by simp only;omega,aW,by simp only;omega,by simp only [Nat.add_mul];omega,?_⟩,by simp only;omega⟩
    simp only [sM]
    rw [if_neg (by simp [he])]
   ·have ce:((iz vs (i+1) x cK).1.2 !=0)=true:=by simp [he]
    have lP:sM (iz vs (i+1)) (x::R.drop (k+1)) cK=iz vs (i+1) x cK:=by simp only [sM];rw [if_pos he]
    simp only [af,Int.reduceNeg,Nat.reduceEqDiff,ce,aU,Tryz.results83,dn]
    exact aF ⟨by rw [lP],by rw [lP];exact aW⟩
def Cb (L:List bC) (r:Rec):List Rec×Int×Int :=
 if (iz L 0 r ([],List.replicate L.length 0)).1.2≠0 then ([],(iz L 0 r ([],List.replicate L.length 0)).1)
 else ((iz L 0 r ([],List.replicate L.length 0)).2.1,(iz L 0 r ([],List.replicate L.length 0)).1.1,0)
def GY (p:List Rec×Int×Int):V:=.tuple [.ai p.1.length (p.1.flatMap aI),.int .i64 p.2.1,.int .i64 p.2.2]
theorem ahQ (p:List Rec×Int×Int):bj (GY p):=bj.tuple (bo.cons (Cc _) (bo.cons (bj.int _ _) (bo.cons (bj.int _ _) bo.nil)))
section
variable {h:I} {a b c d e g o:bb}
theorem ahR:(((((h.push a).push b).push c).push d).push e).get (h.n+1+1+1+1)=e:=by
 simp only [tg,eI]
 rw [if_pos trivial]
theorem ahS:(((((h.push a).push b).push c).push d).push e).set (h.n+1+1+1+1) o=((((h.push a).push b).push c).push d).push o:=by
 rw [show h.n+1+1+1+1=((((h.push a).push b).push c).push d).n from rfl,set_push]
theorem U2:((((((h.push a).push b).push c).push d).push e).push g).get (h.n+1+1+1+1+1)=g:=by
 simp only [tg,eI]
 rw [if_pos trivial]
theorem ahT:((((((h.push a).push b).push c).push d).push e).push g).set (h.n+1+1+1+1+1) o=(((((h.push a).push b).push c).push d).push e).push o:=by
 rw [show h.n+1+1+1+1+1=(((((h.push a).push b).push c).push d).push e).n from rfl,set_push]
theorem ahU:((((((h.push a).push b).push c).push d).push e).push g).get h.n=a:=by
 simp only [tg,eI]
 rw [if_neg (by omega),if_neg (by omega),if_neg (by omega),if_neg (by omega),if_neg (by omega),if_pos trivial]
theorem ahV:((((((h.push a).push b).push c).push d).push e).push g).get (h.n+1)=b:=by
 simp only [tg,eI]
 rw [if_neg (by omega),if_neg (by omega),if_neg (by omega),if_neg (by omega),if_pos trivial]
theorem ahW:((((((h.push a).push b).push c).push d).push e).push g).get (h.n+1+1)=c:=by
 simp only [tg,eI]
 rw [if_neg (by omega),if_neg (by omega),if_neg (by omega),if_pos trivial]
theorem ahX:((((((h.push a).push b).push c).push d).push e).push g).get (h.n+1+1+1)=d:=by
 simp only [tg,eI]
 rw [if_neg (by omega),if_neg (by omega),if_pos trivial]
theorem AI:((((((h.push a).push b).push c).push d).push e).push g).get (h.n+1+1+1+1)=e:=by
 simp only [tg,eI]
 rw [if_neg (by omega),if_pos trivial]
end
theorem ahY (L:List bC) (hW:L.length≤8) (r:Rec) (h:I) (av:ga h):Pure Tryz.prog 34 [.ai L.length (L.flatMap ar),.agg (aI r)] h (GY (Cb L r)):=by
 refine Pure.of (ahQ _) ?_
 refine ae.ax (c:=_) Tryz.func34 rfl (by kernel_rfl) (by simp) ?_
 have tw:(V.agg (aI r)).cells=some (aI r):=rfl
 have mk:∀ H:I,yY Tryz.prog 24 (.int .i64 ((L.length:Nat):Int)) (.int .i64 ((L.length:Nat):Int)) H=some (.bc H.n 0 L.length L.length,H.push (.cells (aY (List.replicate L.length 0)) 3 none)):=fun H=>by
  rw [OX uA (Nat.le_refl _) (by simp only;omega) (by omega),S6]
  simp [aY]
 obtain ⟨wQ,tz⟩:∃ x,x=(((((h.push (.cells [.ai L.length (L.flatMap ar)] 54 none)).push (.cells (aI r) 38 none)).push (.cells [.an] 49 none)).push (.cells (aY (List.replicate L.length 0)) 3 none)).push
  (.cells [.bc (h.n+1+1+1) 0 L.length L.length] 24 none)).push (.cells [.func (.func 83) [] [.ptr h.n 0,.ptr (h.n+1+1) 0,.ptr (h.n+1+1+1+1) 0,.ptr (h.n+1+1+1+1+1) 0]] 159 none):=⟨_,rfl⟩
 have g0:wQ.get h.n=.cells [.ai L.length (L.flatMap ar)] 54 none:=by rw [tz];exact ahU
 have g1:wQ.get (h.n+1)=.cells (aI r) 38 none:=by rw [tz];exact ahV
 have g2:wQ.get (h.n+1+1)=.cells [.an] 49 none:=by rw [tz];exact ahW
 have g3:wQ.get (h.n+1+1+1)=.cells (aY (List.replicate L.length 0)) 3 none:=by rw [tz];exact ahX
 have g4:wQ.get (h.n+1+1+1+1)=.cells [.bc (h.n+1+1+1) 0 L.length L.length] 24 none:=by rw [tz];exact AI
 have g5:wQ.get (h.n+1+1+1+1+1)=.cells [.func (.func 83) [] [.ptr h.n 0,.ptr (h.n+1+1) 0,.ptr (h.n+1+1+1+1) 0,.ptr (h.n+1+1+1+1+1) 0]] 159 none:=by rw [tz];exact U2
 have bA:J h wQ none_:=by rw [tz];exact (((((J.push _ _ _).bg _).bg _).bg _).bg _).bg _
 have j9:wQ.n=h.n+6:=by rw [tz];rfl
 have st:r1 h L ([],List.replicate L.length 0) wQ:=⟨bA,by omega,g0,⟨.an,g2,Own.an _ _ _,fun k hk=>by simp [aV] at hk⟩,g3,by simp only [List.length_replicate];exact g4,g5⟩
 have au:ae Tryz.prog 83 [.int .i64 0,.agg (aI r),.ptr h.n 0,.ptr (h.n+1+1) 0,.ptr (h.n+1+1+1+1) 0,.ptr (h.n+1+1+1+1+1) 0] wQ (fun q h'=>q=.tuple [.int .i64 (iz L 0 r ([],List.replicate L.length 0)).1.1,.int .i64 (iz L 0 r ([],List.replicate L.length 0)).1.2]∧r1 h L (iz L 0 r ([],List.replicate L.length 0)).2 h') :=
  ahL h av L hW L 0 rfl (by omega) r ([],List.replicate L.length 0) (by simp) (by
   have:4 ^ L.length≤4 ^ 8:=Nat.pow_le_pow_right (by decide) hW
   simp only [List.length_nil,Nat.zero_add]
   omega) wQ st
 have k9:dB (bb.cells (aI r) 38 none) 0=some (aI r):=rfl
 have wO:dv (some (some 3)) (some (aI r))=some (.agg (aI r)):=rfl
 simp only [af,Nat.reduceEqDiff,px,U0,dQ,kO,ahZ,U3,ah0,ah1,PI,tw,mk,ahR,ahS,U2,ahT]
 rw [←tz]
 simp only [af,Nat.reduceEqDiff,g1,k9,wO]
 refine cy U1 au (fun q h' ⟨aw,aW⟩=>?_)
 subst aw
 obtain ⟨p,aZ⟩:∃ p,p=iz L 0 r ([],List.replicate L.length 0):=⟨_,rfl⟩
 have bs:Cb L r=if p.1.2≠0 then ([],p.1) else (p.2.1,p.1.1,0):=by rw [aZ];rfl
 rw [←aZ] at aW⊢
 by_cases he:p.1.2=0
 ·have ce:(p.1.2 !=0)=false:=by simp [he]
  rw [if_neg (by simp [he])] at bs
  obtain ⟨v,o2,PF,KH⟩:=aW.go
  obtain ⟨aa,cc,kk⟩:=Acc.cast (h0:=h) ⟨PF,aW.k,fun k hk=>by have:=KH k hk;omega⟩ (n:=p.2.1.length) (UT _) (by decide)
  simp only [af,Nat.reduceEqDiff,UU,ce,o2,aU,Tryz.results34,sE]
  exact aF ⟨aa,by rw [bs];exact aM.tuple (aB.cons cc (aB.refl _ _)),kk⟩
 ·have ce:(p.1.2 !=0)=true:=by simp [he]
  rw [if_pos he] at bs
  simp only [af,Nat.reduceEqDiff,ce,aU,Tryz.results34,sE]
  exact aF ⟨_,by rw [bs];exact aM.tuple (aB.cons (aM.kN _) (aB.refl _ _)),aW.k⟩
def jJ:Nat→List bG→List bC
 | _,[]=>[]
 | i,e::r=>⟨2,[(i:Int)],e,0⟩::jJ (i+1) r
def o3 (es:List bG):List bC:=⟨1,[],.mk 0 0 [],0⟩::(jJ 0 es++[⟨10,[(es.length:Int)],.mk 0 0 [],0⟩])
theorem PJ:∀ (i:Nat) (es:List bG),(jJ i es).length=es.length
 | _,[]=>rfl
 | i,e::r=>by rw [jJ,List.length_cons,PJ (i+1) r,List.length_cons]
theorem U4 (e:bG):∀ (i:Nat) (es:List bG),jJ i (es++[e])=jJ i es++[⟨2,[((i+es.length:Nat):Int)],e,0⟩]
 | i,[]=>rfl
 | i,a::r=>by
  rw [List.cons_append,jJ,U4 e (i+1) r,jJ,List.cons_append,List.length_cons]
  congr 5
  omega
theorem PK (es:List bG):(o3 es).length=es.length+2:=by simp [o3,PJ]
def GZ (es:List bG) (j:Nat):List Nat:=((gu (j:Int) 0 (o3 es)).map Int.toNat).filter fun u=>(List.replicate (es.length+2) (0:Int)).getD u 0==0
theorem ah2 (es:List bG) (az:es.length≤6):(gE (tA (o3 es)) (es.length+2)).1=List.replicate (es.length+2) 0∧((List.range (es.length+1)).all fun j=>GZ es j==[j+1])=true∧ks (o3 es) (List.replicate (es.length+2) 0) 0 (es.length+2)=[0]:=by
 match es,az with
 | [],_=>exact ⟨by kernel_rfl,by kernel_rfl,by kernel_rfl⟩
 | [a],_=>exact ⟨by kernel_rfl,by kernel_rfl,by kernel_rfl⟩
 | [a,b],_=>exact ⟨by kernel_rfl,by kernel_rfl,by kernel_rfl⟩
 | [a,b,c],_=>exact ⟨by kernel_rfl,by kernel_rfl,by kernel_rfl⟩
 | [a,b,c,d],_=>exact ⟨by kernel_rfl,by kernel_rfl,by kernel_rfl⟩
 | [a,b,c,d,e],_=>exact ⟨by kernel_rfl,by kernel_rfl,by kernel_rfl⟩
 | [a,b,c,d,e,f],_=>exact ⟨by kernel_rfl,by kernel_rfl,by kernel_rfl⟩
 | a::b::c::d::e::f::g::r,h=>simp at h
theorem U5:∀ {i:Nat} {es:List bG} {v:bC},v ∈ jJ i es→v.kind=2∧v.n=0∧v.e ∈ es∧∃ x:Nat,v.a8=[(x:Int)]∧x<i+es.length
 | _,[],_,h=>by simp [jJ] at h
 | i,e::r,v,h=>by
  rw [jJ] at h
  rcases List.mem_cons.1 h with rfl | h
  ·exact ⟨rfl,rfl,by simp,i,rfl,by simp⟩
  ·obtain ⟨a,b,c,x,d,f⟩:=U5 h
   exact ⟨a,b,by simp [c],x,d,by rw [List.length_cons];omega⟩
theorem ah3 {es:List bG} (az:es.length≤6) (aR:∀ e ∈ es,fP e):l4 (o3 es):=by
 refine ⟨by rw [PK];omega,fun v aD=>?_⟩
 unfold o3 at aD
 rcases List.mem_cons.1 aD with rfl | aD
 ·exact ⟨ri 0 0 (by decide) (by decide),by decide,by unfold hx;decide,by unfold hx;decide,by intro f aq;simp at aq⟩
 rcases List.mem_append.1 aD with aD | aD
 ·obtain ⟨a,b,c,x,d,e⟩:=U5 aD
  refine ⟨aR _ c,by rw [d];show 1<2 ^ 47;decide,by rw [a];unfold hx;decide,by rw [b];unfold hx;decide,fun f aq=>?_⟩
  rw [d] at aq
  simp at aq
  subst aq
  unfold hx
  omega
 ·simp at aD
  subst aD
  exact ⟨ri 0 0 (by decide) (by decide),by show 1<2 ^ 47;decide,by unfold hx;show -2 ^ 63≤(10:Int)∧(10:Int)<2 ^ 63;decide,by unfold hx;show -2 ^ 63≤(0:Int)∧(0:Int)<2 ^ 63;decide,by intro f aq;simp at aq;subst aq;unfold hx;omega⟩
def pipe:List bC→Rec→Except Int Rec
 | [],r=>.ok r
 | v::vs,r=>if (gK v r).2≠0 then .error (gK v r).2 else pipe vs ((gK v r).1.headD r)
theorem PL {v:bC} {r:Rec} (hk:v.kind=10∨v.kind=2) (he:(gK v r).2=0):(gK v r).1=[(gK v r).1.headD r]:=by
 unfold gK at he⊢
 rcases hk with hk | hk
 ·rw [if_pos (.inr hk)];rfl
 ·rw [if_neg (by omega),if_pos (.inl hk)] at he⊢
  split
  ·rename_i hm
   rw [if_pos hm] at he
   split
   ·rw [hk];simp [hN]
   ·rename_i aG
    rw [aG] at he
    cases he
  ·rename_i hm
   rw [if_neg hm] at he
   cases he
def ES:List bC→Prop
 | []=>False
 | v::L=>(v.kind=10∧L=[])∨(v.kind=2∧ES L)
theorem PM:∀ {L:List bC},ES L→∀ v ∈ L,v.kind=10∨v.kind=2
 | [],h,_,aD=>by simp at aD
 | w::L,h,v,aD=>by
  rcases List.mem_cons.1 aD with rfl | aD
  ·rcases h with ⟨h,_⟩ | ⟨h,_⟩
   ·exact .inl h
   ·exact .inr h
  ·rcases h with ⟨_,rfl⟩ | ⟨_,h⟩
   ·simp at aD
   ·exact PM h v aD
theorem ah4 (es:List bG) (x:List Int):∀ i,ES (jJ i es++[⟨10,x,.mk 0 0 [],0⟩]):=by
 induction es with
 | nil=>intro i;exact .inl ⟨rfl,rfl⟩
 | cons e r ih=>intro i;exact .inr ⟨rfl,ih (i+1)⟩
def ah5 (q:Except Int Rec) (s:nR) (p:(Int×Int)×nR):Prop:=match q with
 | .ok cm=>p.1.2=0∧p.2.1=s.1++[cm]
 | .error e=>p.1.2=e∧e≠0
theorem sh:∀ (vs:List bC) (i:Nat) (r:Rec) (s:nR),(∀ v ∈ vs,v.kind=10∨v.kind=2)→(∀ j,i≤j→s.2.getD j 0=0)→ah5 (pipe vs r) s (iz vs i r s)
 | [],i,r,s,_,_=>⟨rfl,rfl⟩
 | v::vs,i,r,s,hk,bK=>by
  unfold iz pipe
  by_cases he:(gK v r).2≠0
  ·rw [if_pos he,if_pos he];exact ⟨rfl,he⟩
  rw [if_neg he,if_neg he]
  have h1:=PL (hk v (by simp)) (by simpa using he)
  generalize (gK v r).1.headD r=cm at h1
  rw [h1]
  have me:∀ j,(fZ s.2 i 1).getD j 0=if j=i∧i<s.2.length then 1 else s.2.getD j 0:=fun j=>by
   unfold fZ
   rw [bK i (Nat.le_refl _)]
   have c2:j2 (0+((1:Nat):Int))=1:=by decide
   rw [c2,List.getD,List.getD,List.getElem?_set]
   by_cases aS:i=j
   ·subst aS
    by_cases az:i<s.2.length
    ·rw [if_pos rfl,if_pos az,if_pos ⟨rfl,az⟩];rfl
    ·rw [if_pos rfl,if_neg az,if_neg (by omega),List.getElem?_eq_none (by omega)]
   ·rw [if_neg aS,if_neg (by omega)]
  have aG:¬(10000<(fZ s.2 i [cm].length).getD i 0):=by
   rw [show [cm].length=1 from rfl,me]
   have:=bK i (Nat.le_refl _)
   split<;>omega
  rw [if_neg aG]
  have ih:=sh vs (i+1) cm (s.1,fZ s.2 i [cm].length) (fun w hw=>hk w (by simp [hw])) (fun j aS=>by
   show (fZ s.2 i 1).getD j 0=0
   rw [me,if_neg (by omega)]
   exact bK j (by omega))
  unfold sM
  generalize iz vs (i+1) cm (s.1,fZ s.2 i [cm].length)=p at ih
  cases aZ:pipe vs cm with
  | error e=>
   rw [aZ] at ih
   obtain ⟨a,b⟩:=ih
   rw [if_pos (by rw [a];exact b)]
   exact ⟨a,b⟩
  | ok q=>
   rw [aZ] at ih
   obtain ⟨a,b⟩:=ih
   rw [if_neg (by rw [a];decide)]
   exact ⟨rfl,b⟩
theorem ah6 {L:List bC} (hk:∀ v ∈ L,v.kind=10∨v.kind=2) (r:Rec):match pipe L r with
  | .ok cm=>(Cb L r).1=[cm]∧(Cb L r).2.2=0
  | .error e=>(Cb L r).2.2=e∧e≠0:=by
 have h:=sh L 0 r ([],List.replicate L.length 0) hk (fun j _=>by
  rw [List.getD,List.getElem?_replicate]
  split<;>rfl)
 unfold Cb
 generalize iz L 0 r ([],List.replicate L.length 0)=p at h
 cases aZ:pipe L r with
 | error e=>
  rw [aZ] at h
  obtain ⟨a,b⟩:=h
  simp only
  rw [if_pos (by rw [a];exact b)]
  exact ⟨a,b⟩
 | ok q=>
  rw [aZ] at h
  obtain ⟨a,b⟩:=h
  simp only
  rw [if_neg (by rw [a];decide)]
  exact ⟨b,rfl⟩
def U6 (q:Except Int Rec) (x y:b3):Prop:=match q with
 | .ok cm=>(∃ u,y.2.outs=x.2.outs++[(u,cm)])∧y.2.deads=x.2.deads
 | .error e=>y.2.outs=x.2.outs∧∃ u cm,y.2.deads=x.2.deads++[(u,cm,e)]
theorem U7 {c:bp} (sf:∀ j:Nat,j+1<c.l.length→c.us (j:Int)=[j+1]):∀ (L:List bC) (i k:Nat) (r:Rec) (x:b3),L=c.l.drop (i+1)→ES L→L.length≤k→x.2.n+L.length<1000→U6 (pipe L r) x (nU c k (i:Int) r x)
 | [],_,_,_,_,_,h,_,_=>h.elim
 | v::L,i,0,_,_,_,_,h,_=>by simp at h
 | v::L,i,k+1,r,x,hW,hk,az,aG=>by
  rw [List.length_cons] at az aG
  have aN:i+1<c.l.length:=by
   have:=congrArg List.length hW
   rw [List.length_cons,List.length_drop] at this
   omega
  rw [List.drop_eq_getElem_cons aN] at hW
  injection hW with aD U8
  have te:c.l[i+1]?=some v:=by rw [aD];exact List.getElem?_eq_getElem aN
  have U:nU c (k+1) (i:Int) r x=r2 c (nU c k) (i:Int) (i+1) r x:=by
   show (c.us (i:Int)).foldl _ x=_
   rw [sf i aN]
   rfl
  rw [U]
  unfold r2
  rw [if_neg (by omega),te]
  simp only
  unfold pipe
  by_cases he:(gK v r).2≠0
  ·rw [if_pos he]
   rcases hk with ⟨hk,rfl⟩ | ⟨hk,eB⟩
   ·rw [if_pos (show v.kind=10∨v.kind=5 from .inl hk)]
    unfold o4
    rw [if_pos he]
    exact ⟨rfl,_,_,rfl⟩
   ·rw [if_neg (show ¬(v.kind=10∨v.kind=5) by omega),if_pos (show v.kind=2∨v.kind=3∨v.kind=4 from .inl hk)]
    unfold o4
    rw [if_pos he]
    exact ⟨rfl,_,_,rfl⟩
  ·rw [if_neg he]
   rcases hk with ⟨hk,rfl⟩ | ⟨hk,eB⟩
   ·rw [if_pos (show v.kind=10∨v.kind=5 from .inl hk)]
    unfold o4
    rw [if_neg he,PL (.inl hk) (by simpa using he)]
    exact ⟨⟨_,rfl⟩,rfl⟩
   ·rw [if_neg (show ¬(v.kind=10∨v.kind=5) by omega),if_pos (show v.kind=2∨v.kind=3∨v.kind=4 from .inl hk)]
    unfold o4
    rw [if_neg he,PL (.inr hk) (by simpa using he)]
    have ih:=U7 sf L (i+1) k ((gK v r).1.headD r) (c6 x) U8 eB (by omega) (by show x.2.n+1+L.length<1000;omega)
    exact ih
theorem ah7 {c:bp} {v0:bC} {L:List bC} (az:c.l=v0::L) (ch:c.ins=[0]) (dw:∀ u,c.dx u=none) (sf:∀ j:Nat,j+1<c.l.length→c.us (j:Int)=[j+1]) (hk:ES L) (lx:L.length≤8) (r:Rec) :
  (stepT c (dP.new c) 0 r).2=0∧((r.t<0∨1099511627776<r.t)→(stepT c (dP.new c) 0 r).1.2.outs=[]∧(stepT c (dP.new c) 0 r).1.2.deads.length=1) ∧
  (¬(r.t<0∨1099511627776<r.t)→U6 (pipe L r) ((dP.new c),fE.none) (stepT c (dP.new c) 0 r).1):=by
 have vh:(dP.new c).ms=[(0,0,-1)]:=by show kP 0 c.ins=_;rw [ch];rfl
 have PN:c.ins.contains 0=true:=by rw [ch];rfl
 have uB:∀ (l:List Nat) (x:b3),l.foldl (fun x u=>cU c u x) x=x:=fun l=>by
  induction l with
  | nil=>intro x;rfl
  | cons a r ih=>
   intro x
   rw [List.foldl_cons]
   have:cU c a x=x:=by unfold cU;rw [dw a]
   rw [this]
   exact ih x
 unfold stepT
 rw [if_neg (by rw [PN];decide)]
 by_cases bq:r.t<0∨1099511627776<r.t
 ·have U:(dN (dP.new c).ms 0 r.t).2=2:=by
   rw [vh];unfold dN
   show (if r.t<0∨1099511627776<r.t then (false,(2:Int)) else _).2=2
   rw [if_pos bq]
  rw [if_pos (by rw [U];decide)]
  exact ⟨rfl,fun _=>⟨rfl,rfl⟩,fun h=>absurd bq h⟩
 ·have U:dN (dP.new c).ms 0 r.t=(true,0):=by
   rw [vh];unfold dN
   show (if r.t<0∨1099511627776<r.t then (false,(2:Int)) else if r.t≤-1 then (false,0) else (true,0))=(true,0)
   rw [if_neg bq,if_neg (by omega)]
  rw [if_neg (by rw [U];decide)]
  refine ⟨rfl,fun h=>absurd h bq,fun _=>?_⟩
  simp only [uB]
  rw [U,if_pos rfl]
  exact U7 sf L 0 24 r _ (by rw [az];rfl) hk (by omega) (by show 0+L.length<1000;omega)
theorem aB.pre {xs xs2:List V} {h h1:I} (c:aB xs h xs2 h1):∀ cs:List V,aB (cs++xs) h (cs++xs2) h1
 | []=>c
 | v::r=>aB.cons (aM.refl v h) (aB.pre c r)
theorem Own.G0 {h h1:I} {e:TypeId} {sz:Nat} {v:V} {cs xs xs2:List V} {own1:Nat→Prop} (bO:cs++xs≠[]) (aR:Own h e sz v (cs++xs)) (cw:∀ z,aB (xs++z) h (xs2++z) h1) (hk:J h h1 own1) (hJ:∀ k,aV v=some k→¬own1 k) (hle:xs2.length=xs.length) (r:V) :
  ∃ aa,aM r h r aa∧Own aa e sz v (cs++xs2)∧J h1 aa (bl v):=by
 rcases aR with ⟨_,q⟩ | ⟨i,len,cap,c,ex,rfl,hi,av,hlen,bJ,dj⟩
 ·exact absurd q bO
 have ef:h1.get i=.cells c e ex:=(hk.get i hi (hJ i rfl)).trans av
 have au:c=cs++(xs++c.drop (len * sz)):=by rw [←List.append_assoc,←bJ,List.take_append_drop]
 have az:(cs++xs2).length=len * sz:=by rw [←hlen];simp [hle]
 have ht:(cs++(xs2++c.drop (len * sz))).length=c.length:=by
  conv=>rhs;rw [au]
  simp [hle]
 have wL:=aB.pre (cw (c.drop (len * sz))) cs
 rw [←au] at wL
 have kt:=aM.vR av wL ef ht r
 refine ⟨_,kt,.inr ⟨i,len,cap,_,ex,rfl,?_,aP,az,?_,?_⟩,?_⟩
 ·have:=hk.n;exact Nat.lt_of_lt_of_le hi this
 ·rw [←az,←List.append_assoc,List.take_left]
 ·rw [ht];exact dj
 ·have:=J.set h1 i (.cells (cs++(xs2++c.drop (len * sz))) e ex)
  exact this.mono fun q ad=>by simp [bl,aV,ad]
structure mG where
 k:Int
 x:Int
 id:Nat
 e:bG
 s:Bool
def pX (q:mG):List V:=if q.s then [.int .i64 0,.int .i64 0,.an] else ay q.e
def mG.ok (q:mG):Prop:=q.s=true→q.e=.mk 0 0 []
theorem ah8 (q:mG):(pX q).length=3:=by unfold pX;split;rfl;exact ot _
theorem ah9 (q:mG):(pX q).all (·.one)=true:=by
 unfold pX;split
 ·rfl
 ·obtain ⟨_,_,_,e,_⟩:=q;cases e;rfl
def gb (q:mG):List V:=[.int .i64 q.k,.bc q.id 0 1 1]++(pX q++[.int .i64 0])
def yy (q:mG):bC:=⟨q.k,[q.x],q.e,0⟩
def kQ (q:mG):List V:=[.int .i64 q.k,.ai 1 [.int .i64 q.x]]++(ay q.e++[.int .i64 0])
theorem aia (q:mG):ar (yy q)=kQ q:=by simp [ar,yy,kQ,aY]
theorem U9:∀ (cD:List mG) (h:I),(∀ q ∈ cD,q.ok∧q.id<h.n∧h.get q.id=.cells [.int .i64 q.x] 3 none)→(cD.Pairwise fun a b=>a.id≠b.id) →
  ∃ h1,(∀ z,aB (cD.flatMap gb++z) h (cD.flatMap kQ++z) h1)∧J h h1 (fun k=>∃ q ∈ cD,q.id=k)
 | [],h,_,_=>⟨h,fun z=>aB.refl _ _,J.refl _ _⟩
 | q::r,h,av,aZ=>by
  obtain ⟨a0,cG,a2⟩:=av q (by simp)
  obtain ⟨hZ,oo⟩:=List.pairwise_cons.1 aZ
  obtain ⟨aa,bD,k2⟩:=aM.own (uC (e:=3) (sz:=1) (n:=1) cG a2 rfl (by simp [b2])) (n:=1) rfl (by decide)
  obtain ⟨aC,c3,k3⟩:=U9 r aa (fun Cd dp=>by
   obtain ⟨pf,ec,bW⟩:=av Cd (by simp [dp])
   have bO:=hZ Cd dp
   refine ⟨pf,Nat.lt_of_lt_of_le ec k2.n,(k2.get Cd.id ec ?_).trans bW⟩
   simp [bl,aV]
   omega) oo
  refine ⟨aC,fun z=>?_,(k2.mono fun k hk=>?_).trans k3 fun k _ hk=>?_⟩
  ·have oL:aB (pX q++(.int .i64 0::(r.flatMap gb++z))) aa (ay q.e++(.int .i64 0::(r.flatMap kQ++z))) aC:=by
    have Va:aB (.int .i64 0::(r.flatMap gb++z)) aa (.int .i64 0::(r.flatMap kQ++z)) aC:=aB.cons (aM.refl _ _) (c3 z)
    unfold pX
    split
    ·rename_i U
     rw [a0 U,jv]
     exact aB.cons (aM.refl _ _) (aB.cons (aM.refl _ _) (aB.cons (aM.kD _) Va))
    ·exact aB.pre Va _
   have aw:(q::r).flatMap gb++z=.int .i64 q.k::.bc q.id 0 1 1::(pX q++(.int .i64 0::(r.flatMap gb++z))):=by
    rw [List.flatMap_cons];simp [gb]
   have aW:(q::r).flatMap kQ++z=.int .i64 q.k::.ai 1 [.int .i64 q.x]::(ay q.e++(.int .i64 0::(r.flatMap kQ++z))):=by
    rw [List.flatMap_cons];simp [kQ]
   rw [aw,aW]
   exact aB.cons (aM.refl _ _) (aB.cons bD oL)
  ·simp [bl,aV] at hk
   exact ⟨q,by simp,hk⟩
  ·obtain ⟨Cd,a,b⟩:=hk
   exact ⟨Cd,by simp [a],b⟩
def nV:List V:=[.int .i64 1,.an,.int .i64 0,.int .i64 0,.an,.int .i64 0]
def ET:List V:=[.int .i64 1,.ai 0 [],.int .i64 0,.int .i64 0,.ai 0 [],.int .i64 0]
structure uD (tB:bb) (h0 h:I) (E T:Nat) (cD:List mG) (u:V):Prop where
 ge:h.get E=tB
 gt:h.get T=.cells [u,.int .i64 1] 56 none
 own:Own h 29 6 u (nV++cD.flatMap gb)
 al:J h0 h none_
 ids:h0.n≤E∧h0.n≤T∧E<h.n∧T<h.n∧E≠T
 new:∀ k,aV u=some k→h0.n≤k∧k≠E∧k≠T
 zq:∀ q ∈ cD,q.ok∧h0.n≤q.id∧q.id<h.n∧h.get q.id=.cells [.int .i64 q.x] 3 none∧aV u≠some q.id∧q.id≠E∧q.id≠T
 Vb:cD.Pairwise fun a b=>a.id≠b.id
theorem Vc (q:mG):(gb q).length=6:=by simp [gb,ah8]
theorem aib (q:mG):(gb q).all (·.one)=true:=by
 unfold gb
 rw [List.all_append,List.all_append,ah9]
 rfl
theorem aic (q:mG):(kQ q).length=6:=by simp [kQ,ot]
theorem KJ:∀ cD:List mG,(cD.flatMap gb).length=cD.length * 6
 | []=>rfl
 | q::r=>by rw [List.flatMap_cons,List.length_append,KJ r,Vc,List.length_cons];omega
theorem Vd:∀ cD:List mG,(cD.flatMap kQ).length=cD.length * 6
 | []=>rfl
 | q::r=>by rw [List.flatMap_cons,List.length_append,Vd r,aic,List.length_cons];omega
theorem uD.push {tB:bb} {h0 h:I} {E T:Nat} {cD:List mG} {u:V} (b:uD tB h0 h E T cD u) (az:cD.length≤20) (k x:Int) (e:bG) (AL:Bool) (a1:AL=true→e=.mk 0 0 []) :
  ∃ v aC,ma Tryz.prog 54 54 u (.bc (h.n+1) 0 1 1) ((h.push (.cells [.int .i64 x] 3 none)).push (.cells (gb ⟨k,x,h.n,e,AL⟩) 29 none))=some (v,aC) ∧
   aC.get T=.cells [u,.int .i64 1] 56 none∧uD tB h0 (aC.set T (.cells [v,.int .i64 1] 56 none)) E T (cD++[⟨k,x,h.n,e,AL⟩]) v:=by
 obtain ⟨i1,i2,i3,i4,i5⟩:=b.ids
 have b8:J h (h.push (.cells [.int .i64 x] 3 none)) none_:=J.push _ _ _
 have aid:(h.push (.cells [.int .i64 x] 3 none)).get h.n=.cells [.int .i64 x] 3 none:=cA
 obtain ⟨v,aC,cn,cO,fg,ju⟩:=Gx (P:=Tryz.prog) Ce (by decide) (b.own.ba b8) (xs:=gb ⟨k,x,h.n,e,AL⟩) (Vc _) (aib _) (fun m hm=>by
  rw [List.length_append,KJ] at hm
  simp [nV] at hm
  have:m≤30:=by omega
  refine ⟨?_,by simp [lim];omega⟩
  simp only [lim]
  omega)
 have Dx:=b.al.n
 have Ve:∀ j,bl u j→j≠E∧j≠T:=fun j aS=>(b.new j aS).2
 have k3:J h aC (bl u):=b8.up.trans' fg
 have EU:=(k3.get T i4 fun aS=>(Ve T aS).2 rfl).trans b.gt
 have tC:=(k3.get E i3 fun aS=>(Ve E aS).1 rfl).trans b.ge
 have n3:=fg.n
 have n31:h.n+1≤aC.n:=n3
 have en:J aC (aC.set T (.cells [v,.int .i64 1] 56 none)) (·=T):=J.set _ _ _
 have aD:∀ j,aV v=some j→h0.n≤j∧j≠E∧j≠T∧(aV u=some j∨h.n+1≤j):=fun j aS=>by
  rcases ju with e | e
  ·have hu:aV u=some j:=by rw [←e];exact aS
   obtain ⟨bh,bD,c3⟩:=b.new j hu
   exact ⟨bh,bD,c3,.inl hu⟩
  ·have:=e j aS
   have h1:h.n+1≤j:=this
   exact ⟨by omega,by omega,by omega,.inr h1⟩
 have aie:aC.get h.n=.cells [.int .i64 x] 3 none:=(fg.get h.n (by show h.n<h.n+1;omega) fun aS=>by
  obtain ⟨bh,bD,c3⟩:=b.new h.n aS
  rcases b.own with ⟨e | e,_⟩ | ⟨i,len,cap,c,ex,e,hi,_⟩
  ·subst e;simp [bl,aV] at aS
  ·subst e;simp [bl,aV] at aS
  ·subst e
   simp [bl,aV] at aS
   omega).trans aid
 refine ⟨v,aC,cn,EU,?_⟩
 refine ⟨(en.get E (by omega) i5).trans tC,aP,?_,?_,⟨i1,i2,by show E<aC.n;omega,by show T<aC.n;omega,i5⟩,fun j aS=>⟨(aD j aS).1,(aD j aS).2.1,(aD j aS).2.2.1⟩,?_,?_⟩
 ·have aw:(cD++[(⟨k,x,h.n,e,AL⟩:mG)]).flatMap gb=cD.flatMap gb++gb ⟨k,x,h.n,e,AL⟩:=by simp
  rw [aw,←List.append_assoc]
  exact cO.al en fun j aS e=>(aD j aS).2.2.1 e
 ·refine (b.al.trans k3 fun j aS hi=>?_).trans en fun j aS e=>?_
  ·have:=(b.new j hi).1;omega
  ·omega
 ·intro q ad
  rcases List.mem_append.1 ad with ad | ad
  ·obtain ⟨mB,bh,bD,c3,ew,c5,jw⟩:=b.zq q ad
   refine ⟨mB,bh,by show q.id<aC.n;omega,((en.get q.id (by omega) jw).trans (k3.get q.id bD fun aS=>ew aS)).trans c3,fun e=>?_,c5,jw⟩
   rcases (aD _ e).2.2.2 with e | e
   ·exact ew e
   ·omega
  ·simp only [List.mem_singleton] at ad
   subst ad
   refine ⟨a1,Dx,by show h.n<aC.n;omega,(en.get h.n (by omega) (by omega)).trans aie,fun e=>?_,by show h.n≠E;omega,by show h.n≠T;omega⟩
   rcases (aD _ e).2.2.2 with e | e
   ·rcases b.own with ⟨dh | dh,_⟩ | ⟨i,len,cap,c,ex,dh,hi,_⟩
    ·subst dh;simp [aV] at e
    ·subst dh;simp [aV] at e
    ·subst dh
     simp [aV] at e
     omega
   ·show False
    simp only at e
    omega
 ·rw [List.pairwise_append]
  refine ⟨b.Vb,by simp,fun a aO c au=>?_⟩
  simp only [List.mem_singleton] at au
  subst au
  have:=(b.zq a aO).2.2.1
  simp only
  omega
theorem uD.fin {tB:bb} {h0 h:I} {E T:Nat} {cD:List mG} {u:V} (b:uD tB h0 h E T cD u) {vs:List bC} (ji:vs.flatMap ar=ET++cD.flatMap kQ) (hlen:vs.length=cD.length+1) :
  ∃ h',aM (.agg [u,.int .i64 1]) h (.agg (dO vs 1)) h'∧h'.get T=.cells [.ai vs.length (vs.flatMap ar),.int .i64 1] 56 none∧h'.get E=tB∧J h0 h' none_∧T<h'.n∧E<h'.n:=by
 obtain ⟨i1,i2,i3,i4,i5⟩:=b.ids
 obtain ⟨h1,bh,bB⟩:=U9 cD h (fun q ad=>⟨(b.zq q ad).1,(b.zq q ad).2.2.1,(b.zq q ad).2.2.2.1⟩) b.Vb
 have hJ:∀ k,aV u=some k→¬∃ q ∈ cD,q.id=k:=fun k hk ⟨q,ad,e⟩=>(b.zq q ad).2.2.2.2.1 (by rw [e];exact hk)
 have bO:([]:List V)++(nV++cD.flatMap gb)≠[]:=by simp [nV]
 obtain ⟨aa,kt,ei,k2⟩:=Own.G0 (cs:=[]) (xs:=nV++cD.flatMap gb) (xs2:=ET++cD.flatMap kQ) (h1:=h1) (own1:=fun k=>∃ q ∈ cD,q.id=k) bO b.own (fun z=>by
  show aB ([.int .i64 1,.an,.int .i64 0,.int .i64 0,.an,.int .i64 0]++cD.flatMap gb++z) h ([.int .i64 1,.ai 0 [],.int .i64 0,.int .i64 0,.ai 0 [],.int .i64 0]++cD.flatMap kQ++z) h1
  exact aB.cons (aM.refl _ _) (aB.cons (aM.kD _) (aB.cons (aM.refl _ _) (aB.cons (aM.refl _ _) (aB.cons (aM.kD _) (aB.cons (aM.refl _ _) (bh z))))))) bB hJ (by rw [List.length_append,List.length_append,KJ,Vd];rfl) (.agg [u,.int .i64 1])
 have Vf:¬∃ q ∈ cD,q.id=T:=fun ⟨q,ad,e⟩=>(b.zq q ad).2.2.2.2.2.2 e
 have Mw:¬bl u T:=fun aS=>(b.new T aS).2.2 rfl
 have Vg:=(bB.get T i4 Vf).trans b.gt
 have gv:=bB.n
 have Mx:=(k2.get T (by omega) Mw).trans Vg
 have wR:J h0 aa none_:=by
  refine ((b.al.trans bB fun j aS ⟨q,ad,e⟩=>?_).trans k2 fun j aS e=>?_)
  ·have:=(b.zq q ad).2.1;omega
  ·have:=(b.new j e).1;omega
 rw [List.nil_append] at ei
 rcases ei with ⟨_,e⟩ | ⟨i,len,cap,c,ex,e,hi,av,az,AM,_⟩
 ·simp [ET] at e
 subst e
 rw [←ji] at az AM
 rw [j7 iA] at az
 have yi:len=vs.length:=by omega
 subst yi
 have Vh:c=vs.flatMap ar++c.drop (vs.length * 6):=by rw [←AM,List.take_append_drop]
 have wS:aa.get i=.cells (vs.flatMap ar++c.drop (vs.length * 6)) 29 ex:=by rw [←Vh];exact av
 have qQ:=kE.own (n:=vs.length) (cap:=cap) (sz:=6) wS (j7 iA vs)
 have Vi:T≠i:=fun e=>Mw (by simp [bl,aV,e])
 have PO:J aa (aa.set i .dead) (·=i):=J.set _ _ _
 have Vj:=(PO.get T (by have:=k2.n;omega) Vi).trans Mx
 have JP:=(kE.cell qQ Mx Vj).agg (l:=[.int .i64 1])
 have Vk:E≠i:=fun e=>(b.new i rfl).2.1 e.symm
 have Vl:aa.get E=tB:=(k2.get E (by omega) (fun aS=>(b.new E aS).2.1 rfl)).trans ((bB.get E i3 fun ⟨q,ad,e⟩=>(b.zq q ad).2.2.2.2.2.1 e).trans b.ge)
 refine ⟨_,kt.trans JP.cast,aP,(kL i5).trans ((PO.get E (by have:=k2.n;omega) Vk).trans Vl),?_,by show T<aa.n;have:=k2.n;omega,by show E<aa.n;have:=k2.n;omega⟩
 have Gp:=(b.new i rfl).1
 exact (wR.trans PO fun j aS e=>by omega).trans (J.set _ _ _) fun j aS e=>by omega
theorem aif (m:List bC) (k:Nat) (hk:k≤m.length):iJ Tryz.prog 54 (.ai m.length (m.flatMap ar)) (some (.int .i64 (k:Int))) none none=some (.ai (m.drop k).length ((m.drop k).flatMap ar)):=by
 rw [OW xR (by omega) (by omega) (j7 iA m)]
 rw [List.length_drop,←vF iA]
 rfl
theorem uD.one {tB:bb} {h0 h:I} {E T:Nat} {cD:List mG} {u:V} (b:uD tB h0 h E T cD u):u.one=true:=by
 rcases b.own with ⟨e | e,_⟩ | ⟨i,len,cap,c,ex,e,_⟩<;>subst e<;>rfl
theorem uD.cls {tB:bb} {h0 h:I} {E T:Nat} {cD:List mG} {u:V} (b:uD tB h0 h E T cD u):u.cells=some [u]:=by
 rcases b.own with ⟨e | e,_⟩ | ⟨i,len,cap,c,ex,e,_⟩<;>subst e<;>rfl
theorem uD.len {tB:bb} {h0 h:I} {E T:Nat} {cD:List mG} {u:V} (b:uD tB h0 h E T cD u):dU Tryz.prog 54 u h=some (.int .i64 ((cD.length+1:Nat):Int)):=by
 have:=b.own.length (by decide) Tryz.prog px
 rw [this,List.length_append,KJ]
 rw [show (nV.length+cD.length * 6) / 6=cD.length+1 by simp [nV]]
theorem aih (h:I):kI Tryz.prog 54 1 [(0,.agg [.int .i64 1,.an,.int .i64 0,.int .i64 0,.an,.int .i64 0])] h=some (.bc h.n 0 1 1,h.push (.cells nV 29 none)):=by rw [qA Ce];rfl
theorem aii (h:I) (k i:Int) (B:Nat) (uE em:Int) (aE:List bG):kI Tryz.prog 54 1 [(0,.agg [.int .i64 k,.bc B 0 1 1,.int .i64 uE,.int .i64 em,.ai aE.length (aE.flatMap ay),.int .i64 0])] h=some (.bc h.n 0 1 1,h.push (.cells (gb ⟨k,i,B,.mk uE em aE,false⟩) 29 none)):=by
 have bF:gb ⟨k,i,B,.mk uE em aE,false⟩=[.int .i64 k,.bc B 0 1 1,.int .i64 uE,.int .i64 em,.ai aE.length (aE.flatMap ay),.int .i64 0]:=by simp [gb,pX,jv]
 rw [bF,qA Ce];rfl
theorem aij (h:I) (k i:Int) (B:Nat):kI Tryz.prog 54 1 [(0,.agg [.int .i64 k,.bc B 0 1 1,.int .i64 0,.int .i64 0,.an,.int .i64 0])] h=some (.bc h.n 0 1 1,h.push (.cells (gb ⟨k,i,B,.mk 0 0 [],true⟩) 29 none)):=by
 rw [qA Ce];rfl
theorem aik {es:List bG} {cD:List mG} (h:cD.map yy=jJ 0 es++[⟨10,[(es.length:Int)],.mk 0 0 [],0⟩]):(o3 es).flatMap ar=ET++cD.flatMap kQ:=by
 unfold o3
 rw [←h,List.flatMap_cons]
 have fi:ar ⟨1,[],.mk 0 0 [],0⟩=ET:=by simp [ar,ET,jv,aY]
 rw [fi]
 congr 1
 clear h
 induction cD with
 | nil=>rfl
 | cons q r ih=>rw [List.map_cons,List.flatMap_cons,List.flatMap_cons,ih,aia]
theorem ail (es:List bG) (he:es.length<2 ^ 47) (Vm:∀ e ∈ es,fP e) (r:Rec) (h:I) (av:pY h) :
  ae Tryz.prog 10 [.ai es.length (es.flatMap ay),.agg (aI r)] h (fun r h'=>r=.bool true):=by
 refine ae.ax (c:=_) Tryz.func10 rfl (by kernel_rfl) (by simp) ?_
 obtain ⟨b6,cT,rt⟩:=r
 simp only [aI]
 obtain ⟨H,hH⟩:∃ x,x=h.push (.cells [.int .i64 b6,.int .i64 cT,.int .i64 rt] 38 none):=⟨_,rfl⟩
 have g0:H.get h.n=.cells [.int .i64 b6,.int .i64 cT,.int .i64 rt] 38 none:=by rw [hH];exact cA
 have bA:J h H none_:=by rw [hH];exact J.push _ _ _
 have j9:H.n=h.n+1:=by rw [hH];rfl
 have AN:=av.al bA
 simp only [af]
 rw [←hH]
 clear hH
 refine bU aim (ain H AN) ?_
 simp only [af,Nat.reduceEqDiff,Nat.reduceAdd,Nat.reduceLeDiff,li,xS,nW,tD,tE,aih]
 have pf:uD (.cells [.int .i64 b6,.int .i64 cT,.int .i64 rt] 38 none) h ((H.push (.cells nV 29 none)).push (.cells [.bc H.n 0 1 1,.int .i64 1] 56 none)) h.n (H.n+1) [] (.bc H.n 0 1 1):=by
  have kk:J H ((H.push (.cells nV 29 none)).push (.cells [.bc H.n 0 1 1,.int .i64 1] 56 none)) none_:=(J.push _ _ _).bg _
  refine ⟨(kk.get h.n (by omega) (by simp [none_])).trans g0,d9,?_,bA.trans' kk,⟨by omega,by omega,by simp [I.push];omega,by simp [I.push],by omega⟩,fun j aS=>?_,fun q ad=>by simp at ad,List.Pairwise.nil⟩
  ·exact uC (n:=1) (by simp [I.push];omega) wv rfl (by simp [b2])
  ·simp [aV] at aS;omega
 generalize ((H.push (.cells nV 29 none)).push (.cells [.bc H.n 0 1 1,.int .i64 1] 56 none))=H1 at pf⊢
 generalize H.n+1=T0 at pf⊢
 obtain ⟨G1,Vn⟩:∃ x,x=h.n:=⟨_,rfl⟩
 rw [←Vn] at pf⊢
 refine aX.b9 (α:=Nat×List mG×V) (fun x f h'=>f 0=.ai es.length (es.flatMap ay)∧f 3=.ptr G1 0∧f 5=.bool true∧f 6=.ptr T0 0∧f 7=.int .i64 (x.1:Nat)∧x.1≤es.length∧x.1≤6∧x.2.1.map yy=jJ 0 (es.take x.1)∧uD (.cells [.int .i64 b6,.int .i64 cT,.int .i64 rt] 38 none) h h' G1 T0 x.2.1 x.2.2) (fun x=>6 - x.1) (0,[],_)
  ⟨rfl,rfl,rfl,rfl,rfl,Nat.zero_le _,Nat.zero_le _,rfl,pf⟩ ?_
 clear pf g0 bA j9 AN
 rintro ⟨i,cD,u⟩ f h1 ⟨f0,f3,f5,f6,f7,kr,Vo,yz,b⟩
 simp only at f7 kr Vo yz b
 have l0:cD.length=i:=by
  have:=congrArg List.length yz
  rw [List.length_map,PJ,List.length_take] at this
  omega
 refine am (by kernel_rfl) ?_
 by_cases aN:i<es.length∧i<6
 ·have d1:decide ((i:Int)<((es.length:Nat):Int))=true:=decide_eq_true (by omega)
  have d2:decide ((i:Int)<6)=true:=decide_eq_true (by omega)
  have hw:=oq aN.2 (by omega)
  have gn:=EV (kk:=.i64) aN.1
  have G2:(cD++[(⟨2,(i:Int),h1.n,es[i],false⟩:mG)]).map yy=jJ 0 (es.take (i+1)):=by
   have Vp:(es.take i).length=i:=by rw [List.length_take];omega
   rw [List.take_succ_eq_append_getElem aN.1,U4,List.map_append,yz,Vp,Nat.zero_add]
   rfl
  obtain ⟨v,aC,cn,cO,bW⟩:=b.push (by omega) 2 (i:Int) es[i] false (fun ab=>by cases ab)
  generalize es[i]=e at gn G2 cn cO bW
  generalize (es.drop (i+1)).flatMap ay=Vq at gn
  obtain ⟨uE,em,aE⟩:=e
  have bF:ay (.mk uE em aE)=[.int .i64 uE,.int .i64 em,.ai aE.length (aE.flatMap ay)]:=jv _ _ _
  rw [bF] at gn
  simp only [List.cons_append,List.nil_append] at gn
  have EU:=b.gt
  have aD:=bW.one
  have au:=bW.cls
  have Vr:=fun h=>aii h 2 (i:Int) h1.n uE em aE
  simp only [af,Nat.reduceEqDiff,reduceCtorEq,uF,f0,f7,d1,d2]
  refine aX.bk none_ [3,9,10,12] (.q 0 (.q 1 (.q 2 (.q 4 (.q 5 (.q 6 (.q 7 (.e 3 (.q 8 (.e 9 (.a 10 (.q 11 (.a 12 .done))) .stop)) .stop)))))))) (by kernel_rfl) (by kernel_rfl) (by kernel_rfl) ?_
  simp only [af,bN,Nat.reduceEqDiff,Nat.reduceAdd,Nat.reduceLeDiff,reduceCtorEq,lU,fh,kO,li,nW,KK,f0,f6,f7,EU,gn,Cf,Vr,cn,cO,aD,au,hw]
  exact aF ⟨(i+1,_,v),⟨f0,f3,f5,f6,rfl,by simp only;omega,by simp only;omega,G2,bW⟩,by simp only;omega⟩
 have tF:decide ((i:Int)<((es.length:Nat):Int))=false∨(decide ((i:Int)<((es.length:Nat):Int))=true∧decide ((i:Int)<6)=false):=by
  by_cases h1:i<es.length
  ·exact .inr ⟨decide_eq_true (by omega),decide_eq_false (by omega)⟩
  ·exact .inl (decide_eq_false (by omega))
 obtain ⟨xT,DI⟩:∃ x,x=es.take i:=⟨_,rfl⟩
 have yA:xT.length=i:=by rw [DI,List.length_take];omega
 have My:∀ e ∈ xT,fP e:=fun e h=>Vm e (List.mem_of_mem_take (DI ▸ h))
 rw [←DI] at yz
 have hlen:=b.len
 rw [l0] at hlen
 have k8:IntKind.i64.wrap (((i+1:Nat):Int) - 1)=(i:Int):=by rw [Go.IntWalk.i64_in _ (by omega)];omega
 obtain ⟨G3,aC,cg,cZ,fK⟩:=b.push (by omega) 10 (i:Int) (.mk 0 0 []) true (fun _=>rfl)
 have Mz:=fK.one
 have oK:=fK.cls
 have EU:=b.gt
 have G4:(cD++[(⟨10,(i:Int),h1.n,.mk 0 0 [],true⟩:mG)]).map yy=jJ 0 xT++[⟨10,[(xT.length:Int)],.mk 0 0 [],0⟩]:=by
  rw [List.map_append,yz,yA];rfl
 obtain ⟨bY,kt,MA,Vs,eQ,Vt,Vu⟩:=fK.fin (aik G4) (by rw [PK,List.length_append,l0,yA];rfl)
 have MB:=fun h=>aij h 10 (i:Int) h1.n
 obtain ⟨vs,ji⟩:∃ x,x=o3 xT:=⟨_,rfl⟩
 rw [←ji] at kt MA
 have rj:vs.length=i+2:=by rw [ji,PK,yA]
 have sg:l4 vs:=by rw [ji];exact ah3 (by omega) My
 obtain ⟨Vv,Vw,Vx⟩:=ah2 xT (by omega)
 obtain ⟨L,hW⟩:∃ x,x=jJ 0 xT++[(⟨10,[(xT.length:Int)],.mk 0 0 [],0⟩:bC)]:=⟨_,rfl⟩
 have DJ:vs=⟨1,[],.mk 0 0 [],0⟩::L:=by rw [ji,hW];rfl
 have dw:ES L:=by rw [hW];exact ah4 xT _ 0
 have MC:L.length≤8:=by have:=congrArg List.length DJ;rw [List.length_cons] at this;omega
 have Vy:=av.al eQ
 have vi:∀ (l:List bC) (p:Int),V.agg [.ai l.length (l.flatMap ar),.int .i64 p]=.agg (dO l p):=fun _ _=>rfl
 obtain ⟨c,au⟩:∃ c:bp,c=⟨vs,1,0⟩:=⟨_,rfl⟩
 have cw:c.l=vs:=by rw [au]
 have z0:((0:Int) !=0)=false:=rfl
 have aqg:(aC.set T0 (.cells [G3,.int .i64 1] 56 none)).get T0=.cells [G3,.int .i64 1] 56 none:=aP
 clear DI My yz G4 b fK
 rcases tF with d1 | ⟨d1,d2⟩
 all_goals
  simp only [af,Nat.reduceEqDiff,Nat.reduceAdd,Nat.reduceLeDiff,reduceCtorEq,lU,uF,kO,nX,li,nW,KK,f0,f6,f7,d1,EU,hlen,k8,Cf,MB,cg,cZ,Mz,oK]
  try simp only [af,Nat.reduceEqDiff,Nat.reduceAdd,Nat.reduceLeDiff,lU,kO,nX,li,nW,KK,f6,d2,EU,hlen,k8,Cf,MB,cg,cZ,Mz,oK]
  refine cy aio (ae.args (aB.cons kt (aB.refl _ _)) (aip vs 1 sg bY)) fun r da ⟨AL,G5,gV⟩=>?_
  subst G5
  cases AL
  ·simp only [af,Nat.reduceEqDiff,f5,aU,Tryz.results10,ac]
   exact aF rfl
  have MD:=(gV.get T0 Vt (by simp [none_])).trans MA
  have Vz:=(gV.get G1 Vu (by simp [none_])).trans Vs
  have ME:=Vy.al gV
  have n6:=gV.n
  simp only [af,Nat.reduceEqDiff,Nat.reduceAdd,nX,f6,MD,vi]
  have PQ:ae Tryz.prog 26 [.agg (dO vs 1),.int .i64 0] da (Made 1 c da (fun _=>(0,0))):=by rw [au];exact VA 1 ⟨vs,1,0⟩ sg da ME _ (fun _ _=>rfl) (by decide)
  refine cy VB PQ fun r k7 ⟨mX,a7⟩=>?_
  by_cases bF:iZ c=0
  rotate_left
  ·rcases a7 with ⟨aG,aW⟩ | ⟨h0,_⟩
   rotate_left
   ·exact absurd h0 bF
   subst aW
   have bh:(iZ c !=0)=true:=by simpa using bF
   simp only [af,Nat.reduceEqDiff,f5,bh,aU,Tryz.results10,ac]
   exact aF rfl
  rcases a7 with ⟨aG,_⟩ | ⟨_,m1,ec,apE,aW,VC,MF,VD⟩
  ·exact absurd bF aG
  subst aW
  have VE:=(mX.get T0 (by omega) (by simp [none_])).trans MD
  have MG:=(mX.get G1 (by omega) (by simp [none_])).trans Vz
  have MH:=ME.al mX
  have n7:=mX.n
  have G6:(c1 1 vs).2=0:=by
   by_cases ag:(c1 1 vs).2=0
   ·exact ag
   ·exfalso;rw [au] at bF;unfold iZ at bF;rw [if_pos ag] at bF;exact ag bF
  have G7:hO c:=by rw [au];exact ⟨G6,sg⟩
  have lP:c.P=List.replicate (i+2) 0:=by
   show iS c.p c.l=_
   rw [au]
   show iS 1 vs=_
   unfold iS
   rw [if_pos G6,rj,ji,←yA]
   exact Vv
  have PR:c.ins=[0]:=by
   show ks c.l c.P c.part c.P.length=_
   rw [lP,cw,List.length_replicate,ji,←yA,au]
   exact Vx
  have sf:∀ j:Nat,j+1<c.l.length→c.us (j:Int)=[j+1]:=fun j aS=>by
   rw [cw,rj] at aS
   have:=List.all_eq_true.1 Vw j (List.mem_range.2 (by omega))
   have aw:GZ xT j=[j+1]:=by simpa using this
   rw [←aw]
   unfold bp.us GZ
   rw [lP,cw,ji,yA,au]
  have pg:∀ u,c.dx u=none:=fun u=>by
   cases bQ:c.dx u with
   | none=>rfl
   | some K=>
    exfalso
    obtain ⟨x,ag,hk⟩:=PS bQ
    have tp:=PT hk
    have hm:=List.mem_of_getElem? ag
    rw [cw,DJ] at hm
    rcases List.mem_cons.1 hm with rfl | hm
    ·simp at tp
    ·have:=PM dw x hm;omega
  have g0:=VF G7
  obtain ⟨s1,s2,iy⟩:=ah7 (by rw [cw,DJ]) PR pg sf dw MC ⟨b6,cT,rt⟩
  have PU:=aiq G7 g0 0 ⟨b6,cT,rt⟩
  have cR:=PV G7 VC g0.aE g0.wf VD MH.1 (show (1:Nat)≠0 by decide) 0 ⟨b6,cT,rt⟩
  generalize stepT c (dP.new c) 0 ⟨b6,cT,rt⟩=Y at s1 s2 iy cR PU
  simp only [af,Nat.reduceEqDiff,Nat.reduceAdd,PW,dQ,f3,MG]
  refine cy PX cR fun r lx ⟨zr,vj,MI,MJ,f8,jx⟩=>?_
  subst zr
  have PY:(G8 Y.1.2).cells=some (zt Y.1.2):=rfl
  have VG:bR (some 4) (bb.cells [V.an,V.an,V.an,V.an] 67 none) 0 (zt Y.1.2)=some (.cells (zt Y.1.2) 67 none):=EW rfl rfl rfl rfl
  have A:=AO.push (x:=Y.1.2) MI MJ f8 jx
  have MK:=(A.al.get T0 (by omega) (by rw [MF _ (by omega)];exact Nat.zero_ne_one)).trans VE
  have yB:=(A.al.get G1 (by omega) (by rw [MF _ (by omega)];exact Nat.zero_ne_one)).trans MG
  have G9:=MH.al A.al
  have KL:=A.get
  simp only [af,Nat.reduceEqDiff,Ha,Cg,PY,VG]
  generalize lx.push (.cells (zt Y.1.2) 67 none)=PZ at A MK yB G9 KL⊢
  generalize lx.n=P0 at A KL⊢
  clear A MI jx MJ f8 cR
  have VH:iJ Tryz.prog 54 (.ai vs.length (vs.flatMap ar)) (some (.int .i64 1)) none none=some (.ai L.length (L.flatMap ar)):=by
   have:=aif vs 1 (by omega)
   rw [DJ] at this⊢
   exact this
  have ML:=fun h' wS=>ahY L MC ⟨b6,cT,rt⟩ h' wS
  have bw:=ah6 (PM dw) ⟨b6,cT,rt⟩
  generalize Cb L ⟨b6,cT,rt⟩=Hb at ML bw
  generalize pipe L ⟨b6,cT,rt⟩=air at bw iy
  refine aX.bk none_ [] (.q 0 (.q 1 (.q 2 (.q 3 (.c 4 (.q 5 (.q 6 (.q 7 (.q 8 (.q 9 (.q 10 (.q 11 .done)))))))))))) (by kernel_rfl) (by kernel_rfl) (by kernel_rfl) ?_
  simp only [af,bN,Nat.reduceEqDiff,Nat.reduceAdd,lU,dQ,kO,f3,f6,MK,yB,VH]
  refine ix rfl rfl rfl (fun h' eB=>ML h' ((G9.or G9 eB).1)) ?_
  have VI:(Y.2 !=0)=false:=by rw [s1];rfl
  simp only [GY]
  simp only [af,bN,Nat.reduceEqDiff,Nat.reduceAdd,Nat.reduceLeDiff,rk,bx,f3,VI,yB]
  have wT:PZ.get P0=.cells [.ai Y.1.2.outs.length (Y.1.2.outs.flatMap ee),.ai Y.1.2.verts.length (aY Y.1.2.verts),hj Y.1.2.chgs,.ai Y.1.2.deads.length (Y.1.2.deads.flatMap py)] 67 none:=KL
  have DK:(((0:Nat):Int)==0)=true:=rfl
  have i11:(((1:Nat):Int)==1)=true:=rfl
  by_cases bq:rt<0∨1099511627776<rt
  ·obtain ⟨js,ei⟩:=s2 bq
   have h4:Y.1.2.outs.length=0:=by rw [js];rfl
   rw [h4,ei] at wT
   by_cases DE:rt<0
   ·have t0:decide (rt<0)=true:=decide_eq_true DE
    simp only [af,Nat.reduceEqDiff,Nat.reduceAdd,Nat.reduceLeDiff,Ch,Hc,zu,Hd,Ci,He,f5,t0,wT,DK,i11,aU,Tryz.results10,ac]
    exact aF rfl
   ·have t0:decide (rt<0)=false:=decide_eq_false DE
    have t1:decide (1099511627776<rt)=true:=decide_eq_true (by omega)
    simp only [af,Nat.reduceEqDiff,Nat.reduceAdd,Nat.reduceLeDiff,rk,Ch,Hc,zu,Hd,bx,Ci,He,f3,f5,yB,t0,t1,wT,DK,i11,aU,Tryz.results10,ac]
    exact aF rfl
  have t0:decide (rt<0)=false:=decide_eq_false (by omega)
  have t1:decide (1099511627776<rt)=false:=decide_eq_false (by omega)
  have iy:=iy bq
  cases air with
  | error e=>
   obtain ⟨bh,bD⟩:=bw
   obtain ⟨js,wU,ja,ei⟩:=iy
   have js:Y.1.2.outs=[]:=js
   have ei:Y.1.2.deads=[(wU,ja,e)]:=ei
   rw [js,ei] at wT
   have AP:PZ.get P0=.cells [.ai 0 [],.ai Y.1.2.verts.length (aY Y.1.2.verts),hj Y.1.2.chgs,.ai 1 (py (wU,ja,e))] 67 none:=by rw [wT];simp
   have c3:(Hb.2.2 !=0)=true:=by rw [bh];simpa using bD
   have ew:(e==Hb.2.2)=true:=by rw [bh];simp
   have VJ:hA Tryz.prog 65 (.ai 1 (py (wU,ja,e))) (.int .i64 0)=some (.at (py (wU,ja,e))):=qC (l:=[(wU,ja,e)]) (k:=0) P1 Nat.zero_lt_one ais
   obtain ⟨cg,cZ,gl⟩:=ja
   simp only [py,aI,List.cons_append,List.nil_append] at AP VJ
   simp only [af,Nat.reduceEqDiff,Nat.reduceAdd,Nat.reduceLeDiff,rk,Ch,Hc,IT,zu,Hd,bx,KM,Ci,He,f3,f5,yB,t0,t1,c3,ew,AP,DK,i11,VJ,aU,Tryz.results10,ac]
   exact aF rfl
  | ok cm=>
   obtain ⟨bh,bD⟩:=bw
   obtain ⟨⟨wU,js⟩,ei⟩:=iy
   have js:Y.1.2.outs=[(wU,cm)]:=js
   have ei:Y.1.2.deads=[]:=ei
   rw [js,ei] at wT
   have AP:PZ.get P0=.cells [.ai 1 (ee (wU,cm)),.ai Y.1.2.verts.length (aY Y.1.2.verts),hj Y.1.2.chgs,.ai 0 []] 67 none:=by rw [wT];simp
   have c3:(Hb.2.2 !=0)=false:=by rw [bD];rfl
   obtain ⟨cg,cZ,gl⟩:=cm
   have xo:hA Tryz.prog 64 (.ai 1 (ee (wU,⟨cg,cZ,gl⟩))) (.int .i64 0)=some (.at (ee (wU,⟨cg,cZ,gl⟩))):=qC (l:=[(wU,(⟨cg,cZ,gl⟩:Rec))]) (k:=0) Cj Nat.zero_lt_one KN
   have VK:hA Tryz.prog 49 (.ai 1 (aI ⟨cg,cZ,gl⟩)) (.int .i64 0)=some (.at (aI ⟨cg,cZ,gl⟩)):=qC (l:=[(⟨cg,cZ,gl⟩:Rec)]) (k:=0) AJ Nat.zero_lt_one PE
   have VL:∀ xo yo,c0 Tryz.prog .eql 38 xo yo (.agg [.int .i64 cg,.int .i64 cZ,.int .i64 gl]) (.agg [.int .i64 cg,.int .i64 cZ,.int .i64 gl])=some (.bool true):=fun xo yo=>by
    have:=ait ⟨cg,cZ,gl⟩ ⟨cg,cZ,gl⟩ (xo:=xo) (yo:=yo);simpa using this
   simp only [ee,aI] at AP xo VK
   have c5:V.ai Hb.1.length (Hb.1.flatMap aI)=.ai 1 [.int .i64 cg,.int .i64 cZ,.int .i64 gl]:=by rw [bh];rfl
   simp only [af,Nat.reduceEqDiff,Nat.reduceAdd,Nat.reduceLeDiff,rk,bx,f3,yB,t0,t1,c3]
   refine aX.bk none_ [] (.q 0 (.q 1 (.q 2 (.q 3 (.q 4 (.q 5 (.q 6 (.q 7 (.q 8 (.q 9 (.q 10 (.q 11 (.q 12 (.q 13 (.q 14 (.q 15 (.q 16 (.q 17 (.q 18 (.q 19 (.q 20 (.q 21 (.q 22 (.q 23 (.q 24 (.q 25 (.q 26 (.q 27 (.q 28 (.q 29 .done)))))))))))))))))))))))))))))) (by kernel_rfl) (by kernel_rfl) (by kernel_rfl) ?_
   simp only [af,bN,Nat.reduceEqDiff,Nat.reduceAdd,Nat.reduceLeDiff,Ch,Hc,VM,KI,zu,Hd,dQ,Ci,He,f5,AP,DK,i11,xo,VK,c5,VL,aU,Tryz.results10,ac]
   exact aF rfl
theorem VN:∀ {es:List (List V)},(∀ x ∈ es,gr.fw EX (.ext 3) x)→∃ l:List bG,es.length=l.length∧es.flatten=l.flatMap ay∧∀ e ∈ l,fP e
 | [],_=>⟨[],rfl,rfl,by simp⟩
 | x::es,h=>by
  obtain ⟨l,h1,aa,aC⟩:=VN (es:=es) fun x ag=>h x (by simp [ag])
  obtain ⟨⟨e,he,rfl⟩,_⟩:=h x (by simp)
  exact ⟨e::l,by simp [h1],by simp [aa],by simpa using ⟨he,aC⟩⟩
end Go.Proofs.YtedkjhifbibpmaaGreatDoor.Pk
