/-
  What functions of the program do, told of abstract states. Conditions: as each theorem says.
-/
import Derived.Test.YtceanabgcnieeaaGreatDoorPB
import Derived.Test.YtceanabgcnieeaaGreatDoorAbC
import Derived.Shelf.SlSortCmp.WholeK
import Derived.Test.YtceanabgcnieeaaGreatDoorProg
import Derived.Test.YtceanabgcnieeaaGreatDoorPA
set_option linter.unusedVariables false
set_option linter.unusedSimpArgs false
set_option maxHeartbeats 4000000
set_option maxRecDepth 20000
namespace Go.Proofs.YtceanabgcnieeaaGreatDoor.Pk
open Go Go.Proofs Go.Proofs.YtceanabgcnieeaaGreatDoor.Ab
theorem ajW (h:I) (p:Int×List dn):iA Tryz.prog 40 1 [(0,.agg (b5 p))] h=some (.aj h.n 0 1 1,h.push (.cells (b5 p) 46 none)):=by rw [lN S7];rfl
theorem ajX (h:I) (p:mM):iA Tryz.prog 41 1 [(0,.agg (eV p))] h=some (.aj h.n 0 1 1,h.push (.cells (eV p) 52 none)):=by rw [lN S8];rfl
theorem ajY {ay h:I} {lm bY lc c8:Nat} {s:ky} {L T:hK} (w:rl ay h lm bY s L lc T c8) (kh:L.length≤2 ^ 30) :
  ah Tryz.prog 66 [.agg [.map lm,.map bY]] h (fun r U=>∃ out:List (Int×List dn),out.Perm (L.map fun e=>(e.2.1,s.logs e.2.1))∧(out.Pairwise fun a b=>¬b.1<a.1)∧Acc h U 46 3 r (out.flatMap b5)):=by
 obtain ⟨q,ae⟩:∃ q,eo Tryz.prog 131=some q:=by
  obtain ⟨fZ,hm,_⟩:=NT
  exact ⟨_,hm⟩
 refine ah.aH (c:=_) Tryz.func66 rfl (by kernel_rfl) (by simp) ?_
 have al:(V.agg [.map lm,.map bY]).cells=some [.map lm,.map bY]:=rfl
 have rW:(h.push (.cells [.map lm,.map bY] 134 none)).get lm=.map (fW L) lc:=(jN w.x3).trans w.cJ
 have nJ:=HK ae rW
 have gY:(L.map (·.1)).Nodup:=by
  have:=w.j0.2
  rwa [show (fW L).map (·.1)=L.map (·.1) from H4 L] at this
 have aT:=w.x3
 simp only [ao,Nat.reduceEqDiff,Nat.reduceAdd,Na,Nk,al,nJ]
 refine aZ.cu (α:=hK) (fun b1 f U=>f 8=.ptr (h.n+1) 0∧h.n+1<U.n∧U.get (h.n+1)=.iter lm lc (b1.map (·.1)) lc∧Acc h U 46 3 (f 3) ((b1.map fun e=>(e.2.1,s.logs e.2.1)).flatMap b5) ∧
  aA (f 3)≠some (h.n+1)∧(∀ e ∈ b1,e ∈ L)∧(b1.map (·.1)).Nodup) (fun b1=>(l2 (fW L) (b1.map (·.1))).length) []
  ⟨rfl,by simp only [fR];omega,by simp [I.push],Acc.nil ((aa.push _ _ _).trans' (aa.push _ _ _)),(show aA V.ag≠some (h.n+1) by simp [aA]),by simp,by simp⟩ ?_
 rintro b1 f ab ⟨f8,fw,z6,acc,jI,jZ,mH⟩
 have uE:ab.get lm=.map (fW L) lc:=(acc.au.get lm aT (by simp [none_])).trans w.cJ
 refine gn (by kernel_rfl) ?_
 simp only [ao,f8]
 refine HH z6 uE w.j0 (fun hV=>?_) fun e he=>?_
 ·have az:=kw gY mH jZ (H5 hV)
  have jj:=az.length_eq
  simp only [ao,Nat.reduceEqDiff]
  refine cC afC (ajT ab (f 3) _ acc.own (by rw [List.length_map];omega)) fun r aI ⟨aK,b2,out,pl,aj,cw⟩=>?_
  subst aK
  simp only [ao,Nat.reduceEqDiff,bd,Tryz.results66,bT]
  exact aR ⟨out,pl.trans (az.map _),aj,cw,acc.au.trans b2 fun q ae e=>by have:=acc.new q e;omega,acc.new⟩
 ·obtain ⟨x,af,rfl,lX⟩:=H6 he
  have less:=HJ he
  obtain ⟨n3,pN,wk⟩:=H7 mH jZ af lX
  obtain ⟨jk,cn,yf⟩:=w.has x.2.1 x.2.2 (fL w.ib af)
  obtain ⟨xs,hq,vz⟩:=x
  simp only at less he lX jk cn yf
  generalize hH:ab.set (h.n+1) (.iter lm lc (b1.map (·.1)++[xs]) lc)=H
  have pb:Acc h H 46 3 (f 3) ((b1.map fun e=>(e.2.1,s.logs e.2.1)).flatMap b5):=by rw [←hH];exact acc.set (by omega) jI _
  have o8:H.n=ab.n:=by rw [←hH];rfl
  have ng:H.get (h.n+1)=.iter lm lc (b1.map (·.1)++[xs]) lc:=by rw [←hH];exact e4
  have rX:H.get lm=.map (fW L) lc:=(pb.au.get lm aT (by simp [none_])).trans w.cJ
  have l0:=HI ng rX w.j0 (List.mem_filter.1 he).1
  simp only at l0
  have Jo:H.get vz=.cells (b5 (hq,s.logs hq)) 46 none:=(pb.au.get vz yf (by simp [none_])).trans jk
  have ajZ:cW (aD.cells (b5 (hq,s.logs hq)) 46 none) 0=some (b5 (hq,s.logs hq)):=rfl
  have oE:(b5 (hq,s.logs hq)).take 3=b5 (hq,s.logs hq):=rfl
  have sB:=CF (hq,s.logs hq)
  have lit:=ajW H (hq,s.logs hq)
  obtain ⟨bF,h4,hF,kG,iF,d4⟩:=bv (P:=Tryz.prog) S7 (by decide) pb.own (xs:=b5 (hq,s.logs hq)) rfl rfl (fun m hm=>by
   change m * 3=_+3 at hm
   rw [kF CF,List.length_map] at hm
   exact ⟨by simp only [lim];omega,by simp only [lim];omega⟩)
  have a4:=pb.step kG iF d4
  have Gb:=iF.n
  simp only [ao,Nat.reduceEqDiff,y4,f8,l0,Jo,ajZ,oE,sB,lit,hF]
  refine aR ⟨b1++[(xs,hq,vz)],⟨f8,by omega,?_,a4.conv ?_,?_,pN,n3⟩,?_⟩
  ·rw [iF.get (h.n+1) (by omega) (fun ad=>jI ad),ng];simp
  ·rw [List.map_append,List.flatMap_append,List.map_cons,List.map_nil]
   simp
  ·intro ad
   rcases d4 with d | d
   ·exact jI (d ▸ ad)
   ·have:=d _ ad;omega
  ·rw [List.map_append];exact less
theorem aj0 {ay h:I} {lm bY lc c8:Nat} {s:ky} {L T:hK} (w:rl ay h lm bY s L lc T c8) (kh:T.length≤2 ^ 30) :
  ah Tryz.prog 67 [.agg [.map lm,.map bY]] h (fun r U=>∃ out:List mM,out.Perm (T.map fun e=>kK e.2.1 (b8 s e.2.1))∧(out.Pairwise fun a b=>¬b.t<a.t)∧Acc h U 52 6 r (out.flatMap eV)):=by
 obtain ⟨q,ae⟩:∃ q,eo Tryz.prog 132=some q:=by
  obtain ⟨fZ,hm,_⟩:=NS
  exact ⟨_,hm⟩
 refine ah.aH (c:=_) Tryz.func67 rfl (by kernel_rfl) (by simp) ?_
 have al:(V.agg [.map lm,.map bY]).cells=some [.map lm,.map bY]:=rfl
 have rW:(h.push (.cells [.map lm,.map bY] 134 none)).get bY=.map (fW T) c8:=(jN w.x4).trans w.gt
 have nJ:=HK ae rW
 have gY:(T.map (·.1)).Nodup:=by
  have:=w.j1.2
  rwa [show (fW T).map (·.1)=T.map (·.1) from H4 T] at this
 have aT:=w.x4
 simp only [ao,Nat.reduceEqDiff,Nat.reduceAdd,Nat.reduceLeDiff,Nb,Nl,al,nJ]
 refine aZ.cu (α:=hK) (fun b1 f U=>f 9=.ptr (h.n+1) 0∧h.n+1<U.n∧U.get (h.n+1)=.iter bY c8 (b1.map (·.1)) c8∧Acc h U 52 6 (f 3) ((b1.map fun e=>kK e.2.1 (b8 s e.2.1)).flatMap eV) ∧
  aA (f 3)≠some (h.n+1)∧(∀ e ∈ b1,e ∈ T)∧(b1.map (·.1)).Nodup) (fun b1=>(l2 (fW T) (b1.map (·.1))).length) []
  ⟨rfl,by simp only [fR];omega,by simp [I.push],Acc.nil ((aa.push _ _ _).trans' (aa.push _ _ _)),(show aA V.ag≠some (h.n+1) by simp [aA]),by simp,by simp⟩ ?_
 rintro b1 f ab ⟨f9,fw,z6,acc,jI,jZ,mH⟩
 have uE:ab.get bY=.map (fW T) c8:=(acc.au.get bY aT (by simp [none_])).trans w.gt
 refine gn (by kernel_rfl) ?_
 simp only [ao,f9]
 refine HH z6 uE w.j1 (fun hV=>?_) fun e he=>?_
 ·have az:=kw gY mH jZ (H5 hV)
  have jj:=az.length_eq
  simp only [ao,Nat.reduceEqDiff]
  refine cC afD (ajV ab (f 3) _ acc.own (by rw [List.length_map];omega)) fun r aI ⟨aK,b2,out,pl,aj,cw⟩=>?_
  subst aK
  simp only [ao,Nat.reduceEqDiff,bd,Tryz.results67,bT]
  exact aR ⟨out,pl.trans (az.map _),aj,cw,acc.au.trans b2 fun q ae e=>by have:=acc.new q e;omega,acc.new⟩
 ·obtain ⟨x,af,rfl,lX⟩:=H6 he
  have less:=HJ he
  obtain ⟨n3,pN,wk⟩:=H7 mH jZ af lX
  obtain ⟨j,jk,cn,yf⟩:=w.hM x.2.1 x.2.2 (fL w.ic af)
  obtain ⟨xs,hq,vz⟩:=x
  simp only at less he lX jk cn yf
  have Vs:b8 s hq=j:=by unfold b8;rw [jk];rfl
  generalize hH:ab.set (h.n+1) (.iter bY c8 (b1.map (·.1)++[xs]) c8)=H
  have pb:Acc h H 52 6 (f 3) ((b1.map fun e=>kK e.2.1 (b8 s e.2.1)).flatMap eV):=by rw [←hH];exact acc.set (by omega) jI _
  have o8:H.n=ab.n:=by rw [←hH];rfl
  have ng:H.get (h.n+1)=.iter bY c8 (b1.map (·.1)++[xs]) c8:=by rw [←hH];exact e4
  have rX:H.get bY=.map (fW T) c8:=(pb.au.get bY aT (by simp [none_])).trans w.gt
  have l0:=HI ng rX w.j1 (List.mem_filter.1 he).1
  simp only at l0
  have Jo:H.get vz=.cells (pI hq j) 198 none:=(pb.au.get vz yf (by simp [none_])).trans cn
  obtain ⟨cA,eU⟩:∃ y,y=H.push (.cells (eV (kK hq j)) 52 none):=⟨_,rfl⟩
  have k2:aa H cA none_:=by rw [eU];exact aa.push _ _ _
  have CO:=pb.on k2
  have CP:cA.n=H.n+1:=by rw [eU];rfl
  have nU:cA.get H.n=.cells (eV (kK hq j)) 52 none:=by rw [eU];exact c4
  have lit:iA Tryz.prog 41 1 [(0,.agg [.int .i64 hq,.int .i64 j.ep,.int .i64 j.tx,.an j.bA.length (bl j.bA),.an j.ord.length (bl j.ord),.int .i64 (j.opn.length:Nat)])] cA=some (.aj cA.n 0 1 1,cA.push (.cells (eV (kK hq j)) 52 none)):=ajX cA (kK hq j)
  have mZ:H.push (.cells [.int .i64 hq,.int .i64 j.ep,.int .i64 j.tx,.an j.bA.length (bl j.bA),.an j.ord.length (bl j.ord),.int .i64 (j.opn.length:Nat)] 52 none)=cA:=by rw [eU];rfl
  obtain ⟨bF,h4,hF,kG,iF,d4⟩:=bv (P:=Tryz.prog) S8 (by decide) CO.own (xs:=eV (kK hq j)) rfl rfl (fun m hm=>by
   change m * 6=_+6 at hm
   rw [kF N6,List.length_map] at hm
   exact ⟨by simp only [lim];omega,by simp only [lim];omega⟩)
  have a4:=CO.step kG iF d4
  have Gb:=iF.n
  have g1:cA.get (h.n+1)=.iter bY c8 (b1.map (·.1)++[xs]) c8:=(k2.get (h.n+1) (by omega) (by simp [none_])).trans ng
  have aoO:=pb.au.n
  have Vt:cA.get H.n=.cells [.int .i64 hq,.int .i64 j.ep,.int .i64 j.tx,.an j.bA.length (bl j.bA),.an j.ord.length (bl j.ord),.int .i64 (j.opn.length:Nat)] 52 none:=nU
  have Vu:∀ o,(H.push o).get vz=.cells (pI hq j) 198 none:=fun o=>(jN (by omega)).trans Jo
  simp only [ao,Nat.reduceEqDiff,Nat.reduceAdd,Nat.reduceLeDiff,uv,Cr,ag0,E7,Nn,ahd,Tm,kH,ahR,f9,l0,Jo,Vu,Vt,pI,mZ,lit,hF]
  refine aR ⟨b1++[(xs,hq,vz)],⟨f9,by omega,?_,a4.conv ?_,?_,pN,n3⟩,?_⟩
  ·rw [iF.get (h.n+1) (by omega) (fun ad=>jI ad),g1];simp
  ·rw [List.map_append,List.flatMap_append,List.map_cons,List.map_nil,Vs]
   simp
  ·intro ad
   rcases d4 with d | d
   ·exact jI (d ▸ ad)
   ·have:=d _ ad;omega
  ·rw [List.map_append];exact less
theorem wm {l dN:List V} {h ab:I} (a:aS l h dN ab):aV (.agg l) h (.agg dN) ab:=fun ρ B aG w r' hw aN=>by
 cases aN with
 | agg J af=>
  rename_i xs
  obtain ⟨ρ1,fg,bK,v1⟩:=a ρ B aG w xs.toList hw ⟨by simpa using J,by simpa using af⟩
  exact ⟨ρ1,fg,bK,v1.ij.agg⟩
theorem Vv {α:Type} {key:α→Int} {l:List α} (aJ:(l.map key).Nodup) (J:l.Pairwise fun a b=>¬key b<key a):l.Pairwise fun a b=>key a<key b:=by
 have h1:l.Pairwise fun a b=>key a≠key b:=List.pairwise_map.1 aJ
 exact (h1.and J).imp fun ⟨h1,ab⟩=>by omega
theorem rl.CQ {ay h:I} {lm bY lc c8:Nat} {l:List bk} {L T:hK} (w:rl ay h lm bY (jf l) L lc T c8) {out:List (Int×List dn)} (az:out.Perm (L.map fun e=>(e.2.1,(jf l).logs e.2.1))) (J:out.Pairwise fun a b=>¬b.1<a.1):out=rn l:=by
 have aJ:(out.map (·.1)).Nodup:=by
  refine (az.map (·.1)).nodup_iff.2 ?_
  rw [List.map_map]
  exact w.ib
 refine Oa (key:=(·.1)) (fun p=>?_) (Vv (key:=fun p:Int×List dn=>p.1) aJ J) (CH l).Ut
 rw [az.mem_iff,(CH l).lm,List.mem_map]
 constructor
 ·rintro ⟨e,he,rfl⟩
  exact ⟨rfl,(w.has _ _ (fL w.ib he)).2.1⟩
 ·rintro ⟨h1,ab⟩
  cases hk:bq L p.1 with
  | none=>exact absurd (w.hL _ hk) (h1 ▸ ab)
  | some b=>
   obtain ⟨e,he,a6⟩:=zl hk
   refine ⟨e,he,?_⟩
   rw [a6,←h1]
theorem rl.z7 {ay h:I} {lm bY lc c8:Nat} {l:List bk} {L T:hK} (w:rl ay h lm bY (jf l) L lc T c8) {out:List mM} (az:out.Perm (T.map fun e=>kK e.2.1 (b8 (jf l) e.2.1))) (J:out.Pairwise fun a b=>¬b.t<a.t):out=uz l:=by
 have aJ:(out.map (·.t)).Nodup:=by
  refine (az.map (·.t)).nodup_iff.2 ?_
  rw [List.map_map]
  exact w.ic
 refine Oa (key:=(·.t)) (fun p=>?_) (Vv (key:=fun p:mM=>p.t) aJ J) (CH l).Uu
 rw [az.mem_iff,(CH l).bY,List.mem_map]
 constructor
 ·rintro ⟨e,he,rfl⟩
  obtain ⟨j,h1,_⟩:=w.hM _ _ (fL w.ic he)
  exact ⟨j,h1,by unfold b8;rw [show (kK e.2.1 ((jf l).tasks e.2.1 |>.getD rT)).t=e.2.1 from rfl,h1];rfl⟩
 ·rintro ⟨j,h1,ab⟩
  cases hk:bq T p.t with
  | none=>rw [w.hN _ hk] at h1;cases h1
  | some b=>
   obtain ⟨e,he,a6⟩:=zl hk
   refine ⟨e,he,?_⟩
   rw [a6]
   unfold b8
   rw [h1]
   exact ab.symm
theorem rl.len {ay h:I} {lm bY lc c8:Nat} {l:List bk} {L T:hK} (w:rl ay h lm bY (jf l) L lc T c8):L.length≤l.length∧T.length≤l.length:=by
 have j8:=Jb _ l rfl
 have h1:(L.map (·.2.1)).length≤(l.map (·.log)).length:=List.Nodup.length_le_of_subset w.ib fun k hk=>by
  obtain ⟨e,he,rfl⟩:=List.mem_map.1 hk
  exact j8.np _ (w.has _ _ (fL w.ib he)).2.1
 have ab:(T.map (·.2.1)).length≤(l.map (·.task)).length:=List.Nodup.length_le_of_subset w.ic fun k hk=>by
  obtain ⟨e,he,rfl⟩:=List.mem_map.1 hk
  obtain ⟨j,h1,_⟩:=w.hM _ _ (fL w.ic he)
  exact (j8.oE _ _ h1).1
 simpa using And.intro h1 ab
theorem aj1 (l:List bk) (aw:l.length≤2 ^ 30) (he:∀ x ∈ l,oA x) (h:I) (hu:qy h):Pure Tryz.prog 28 [.an l.length (l.flatMap aY)] h (.agg (ig (toldOf l))):=by
 refine Pure.of (bb.agg (Up _)) ?_
 refine ah.aH (c:=_) Tryz.func28 rfl (by kernel_rfl) (by simp) ?_
 simp only [ao,Nat.reduceEqDiff,reduceCtorEq,Fk]
 obtain ⟨er,ie⟩:∃ y,y=h.push (.cells [.ag,.ag,.int .i64 0] 43 none):=⟨_,rfl⟩
 have ez:aa h er none_:=by rw [ie];exact aa.push _ _ _
 have g0:er.get h.n=.cells [.ag,.ag,.int .i64 0] 43 none:=by rw [ie];exact c4
 have hZ:er.n=h.n+1:=by rw [ie];rfl
 rw [←ie]
 clear ie
 refine cC agG (aiV l aw he er (by unfold qy;rw [ez.glob];exact hu)) fun r h1 ⟨lm,bY,L,lc,T,c8,nh,w⟩=>?_
 subst nh
 obtain ⟨kh,cV⟩:=w.len
 have c9:=w.au.n
 have al:(V.agg [.map lm,.map bY]).cells=some [.map lm,.map bY]:=rfl
 have st:ca (some 2) (aD.cells [V.dk,.dk] 134 none) 0 [.map lm,.map bY]=some (.cells [.map lm,.map bY] 134 none):=rfl
 obtain ⟨H1,rY⟩:∃ y,y=h1.push (.cells [.map lm,.map bY] 134 none):=⟨_,rfl⟩
 have bj:aa h1 H1 none_:=by rw [rY];exact aa.push _ _ _
 have g1:H1.get h1.n=.cells [.map lm,.map bY] 134 none:=by rw [rY];exact c4
 have anv:H1.n=h1.n+1:=by rw [rY];rfl
 have Vw:H1.get h.n=_:=((w.au.trans' bj).get h.n (by omega) (by simp [none_])).trans g0
 have bK:=w.on bj
 simp only [ao,Nat.reduceEqDiff,Tg,Ny,al,st]
 rw [←rY]
 clear rY
 refine aZ.b4 none_ [1,3,7] (.q 0 (.q 2 (.q 4 (.q 5 (.e 1 (.e 3 (.q 6 (.a 7 .done)) .stop) .stop))))) (by kernel_rfl) (by kernel_rfl) (by kernel_rfl) ?_
 simp only [ao,b6,Nat.reduceEqDiff,Nat.reduceAdd,reduceCtorEq,SX,zI,g1]
 refine cC agH (ajY bK (by omega)) fun cq ab ⟨aj2,k9,s1,bC⟩=>?_
 obtain rfl:=bK.CQ k9 s1
 have bV:=bK.on bC.au
 have qd:=bC.au
 simp only [ao,b6,Nat.reduceEqDiff,qd]
 refine cC agI (aj0 bV (by omega)) fun ck aI ⟨aj3,xd,s2,a2⟩=>?_
 obtain rfl:=bV.z7 xd s2
 have lD:aa H1 aI none_:=bC.au.trans' a2.au
 have qQ:cq.one=true:=by rcases bC.own with ⟨rfl | rfl,_⟩ | ⟨_,_,_,_,_,rfl,_⟩<;>rfl
 have wb:ck.one=true:=by rcases a2.own with ⟨rfl | rfl,_⟩ | ⟨_,_,_,_,_,rfl,_⟩<;>rfl
 have qB:cq.cells=some [cq]:=by rcases bC.own with ⟨rfl | rfl,_⟩ | ⟨_,_,_,_,_,rfl,_⟩<;>rfl
 have qC:ck.cells=some [ck]:=by rcases a2.own with ⟨rfl | rfl,_⟩ | ⟨_,_,_,_,_,rfl,_⟩<;>rfl
 have Vx:ca (some 3) (aD.cells [V.ag,.ag,.int .i64 0] 43 none) 0 [cq,ck,.int .i64 (l.length:Nat)]=some (.cells [cq,ck,.int .i64 (l.length:Nat)] 43 none):=by
  rcases bC.own with ⟨rfl | rfl,_⟩ | ⟨_,_,_,_,_,rfl,_⟩<;>rcases a2.own with ⟨rfl | rfl,_⟩ | ⟨_,_,_,_,_,rfl,_⟩<;>rfl
 have Vy:aI.get h.n=.cells [.ag,.ag,.int .i64 0] 43 none:=(lD.get h.n (by omega) (by simp [none_])).trans Vw
 simp only [ao,b6,Nat.reduceEqDiff,Nat.reduceAdd,Nat.reduceLeDiff,Ns,aht,Fk,I3,lD,Vy,Vx,qB,qC,bd,Tryz.results28,xm,jP]
 obtain ⟨F,eM⟩:∃ y,y=aI.set h.n (.cells [cq,ck,.int .i64 (l.length:Nat)] 43 none):=⟨_,rfl⟩
 have hC:aa aI F (·=h.n):=by rw [eM];exact aa.set _ _ _
 have tF:aa h F none_:=(ez.trans' ((w.au.trans' bj).trans' lD)).trans (by exact hC) fun q ae ad=>by omega
 have sT:=bC.au.n
 have c0:Own F 46 3 cq ((rn l).flatMap b5):=(bC.own.cP a2.au).au hC fun q ae ad=>by have:=bC.new q ae;omega
 have cw:Own F 52 6 ck ((uz l).flatMap eV):=a2.own.au hC fun q ae ad=>by have:=a2.new q ae;omega
 obtain ⟨aoP,bf,f1⟩:=aV.own (cs:=(rn l).flatMap b5) c0 (n:=(rn l).length) (kF CF _) (by decide)
 have x2:=cw.au f1 fun q ae ad=>by have h1:=a2.new q ae;have ab:=bC.own.lt q ad;omega
 obtain ⟨aj4,bx,f2⟩:=aV.own (cs:=(uz l).flatMap eV) x2 (n:=(uz l).length) (kF N6 _) (by decide)
 rw [←eM]
 exact aR ⟨aj4,wm (aS.cons bf (aS.cons bx (aS.refl _ _))),(tF.trans f1 fun q ae ad=>by have:=bC.new q ad;omega).trans f2 fun q ae ad=>by have:=a2.new q ad;omega⟩
open Go.Shelf
def aj5:Go.Shelf.Ren:=⟨fun | 6=>161 | 15=>143 | 14=>201 | 28=>184 | 29=>185 | 20=>237 | 21=>238 | 22=>239 | 23=>240 | 24=>241 | 25=>242 | 26=>243 | 27=>244 | 46=>261 | 47=>223 | 48=>224 | 49=>262 | 50=>263 | 57=>277 | n=>n,fun | 22=>240 | 24=>224 | 25=>284 | 3=>3 | 39=>125 | 0=>0 | 53=>170 | 55=>106 | 4=>4 | 46=>310 | 45=>309 | 50=>210 | 5=>5 | 9=>9 | 66=>370 | 70=>374 | 76=>411 | 77=>286 | n=>n,fun | n=>n⟩
theorem Vz:Go.Proofs.SlLaysF0.n6 Tryz.prog aj5:={
 mixed:=by kernel_rfl
 f6:=⟨Tryz.f161.name,by decide,Tryz.func161.trans (congrArg some (by kernel_rfl))⟩
 f14:=⟨Tryz.f201.name,by decide,Tryz.func201.trans (congrArg some (by kernel_rfl))⟩
 f15:=Tryz.func143.trans (congrArg some (by kernel_rfl))
 f20:=⟨Tryz.f237.name,by decide,Tryz.func237.trans (congrArg some (by kernel_rfl))⟩
 f21:=⟨Tryz.f238.name,by decide,Tryz.func238.trans (congrArg some (by kernel_rfl))⟩
 f22:=⟨Tryz.f239.name,by decide,Tryz.func239.trans (congrArg some (by kernel_rfl))⟩
 f23:=⟨Tryz.f240.name,by decide,Tryz.func240.trans (congrArg some (by kernel_rfl))⟩
 f24:=⟨Tryz.f241.name,by decide,Tryz.func241.trans (congrArg some (by kernel_rfl))⟩
 f25:=⟨Tryz.f242.name,by decide,Tryz.func242.trans (congrArg some (by kernel_rfl))⟩
 f26:=⟨Tryz.f243.name,by decide,Tryz.func243.trans (congrArg some (by kernel_rfl))⟩
 f27:=⟨Tryz.f244.name,by decide,Tryz.func244.trans (congrArg some (by kernel_rfl))⟩
 f28:=Tryz.func184.trans (congrArg some (by kernel_rfl))
 f29:=Tryz.func185.trans (congrArg some (by kernel_rfl))
 f46:=⟨Tryz.f261.name,by decide,Tryz.func261.trans (congrArg some (by kernel_rfl))⟩
 f47:=Tryz.func223.trans (congrArg some (by kernel_rfl))
 f48:=Tryz.func224.trans (congrArg some (by kernel_rfl))
 f49:=⟨Tryz.f262.name,by decide,Tryz.func262.trans (congrArg some (by kernel_rfl))⟩
 f50:=⟨Tryz.f263.name,by decide,Tryz.func263.trans (congrArg some (by kernel_rfl))⟩
 f57:=⟨Tryz.f277.name,by decide,Tryz.func277.trans (congrArg some (by kernel_rfl))⟩
 t0:=Tryz.underlying0
 a0:=Tryz.isAgg0
 z0:=Tryz.sizeOf0
 v0:=Tryz.zeroValue0
 t3:=Tryz.underlying3
 a3:=Tryz.isAgg3
 z3:=Tryz.sizeOf3
 v3:=Tryz.zeroValue3
 t4:=Tryz.underlying4
 a4:=Tryz.isAgg4
 z4:=Tryz.sizeOf4
 v4:=Tryz.zeroValue4
 t5:=Tryz.underlying5
 a5:=Tryz.isAgg5
 z5:=Tryz.sizeOf5
 v5:=Tryz.zeroValue5
 t9:=Tryz.underlying9
 a9:=Tryz.isAgg9
 z9:=Tryz.sizeOf9
 v9:=Tryz.zeroValue9
 t22:=Tryz.underlying240
 a22:=Tryz.isAgg240
 z22:=Tryz.sizeOf240
 v22:=Tryz.zeroValue240
 t25:=Tryz.underlying284
 a25:=Tryz.isAgg284
 z25:=Tryz.sizeOf284
 v25:=Tryz.zeroValue284
 t39:=Tryz.underlying125
 a39:=Tryz.isAgg125
 z39:=Tryz.sizeOf125
 v39:=Tryz.zeroValue125
 t45:=Tryz.underlying309
 a45:=Tryz.isAgg309
 z45:=Tryz.sizeOf309
 v45:=Tryz.zeroValue309
 t46:=Tryz.underlying310
 a46:=Tryz.isAgg310
 z46:=Tryz.sizeOf310
 v46:=Tryz.zeroValue310
 t50:=Tryz.underlying210
 a50:=Tryz.isAgg210
 z50:=Tryz.sizeOf210
 v50:=Tryz.zeroValue210
 t53:=Tryz.underlying170
 a53:=Tryz.isAgg170
 z53:=Tryz.sizeOf170
 v53:=Tryz.zeroValue170
 t55:=Tryz.underlying106
 a55:=Tryz.isAgg106
 z55:=Tryz.sizeOf106
 v55:=Tryz.zeroValue106
 t66:=Tryz.underlying370
 a66:=Tryz.isAgg370
 z66:=Tryz.sizeOf370
 v66:=Tryz.zeroValue370
 t70:=Tryz.underlying374
 a70:=Tryz.isAgg374
 z70:=Tryz.sizeOf374
 v70:=Tryz.zeroValue374
 t76:=Tryz.underlying411
 a76:=Tryz.isAgg411
 z76:=Tryz.sizeOf411
 v76:=Tryz.zeroValue411
 t77:=Tryz.underlying286
 a77:=Tryz.isAgg286
 z77:=Tryz.sizeOf286
 v77:=Tryz.zeroValue286 }
open Go Go.Proofs Go.Proofs.YtceanabgcnieeaaGreatDoor.Ab Go.Sort
theorem aj6 (h:I) (x c:V) (n lim:Int) (aJ:n≤1) (ay:0≤n):Pure Tryz.prog 237 [x,.int .i64 0,.int .i64 n,c] h (.tuple []):=by
 refine Pure.val (bb.tuple aO.nil) ?_
 refine ah.aH (c:=_) Tryz.func237 rfl (by kernel_rfl) (by simp) ?_
 have bB:IntKind.i64.wrap (0+1)=1:=by decide
 simp only [ao,Nat.reduceEqDiff,bB]
 refine aZ.cu (α:=Unit) (fun _ f U=>f 8=.int .i64 1∧f 2=.int .i64 n∧U=h) (fun _=>0) () ⟨rfl,rfl,rfl⟩ ?_
 rintro _ f U ⟨f8,f2,rfl⟩
 refine gn (by kernel_rfl) ?_
 have d1:decide (1<n)=false:=decide_eq_false (by omega)
 simp only [ao,Nat.reduceEqDiff,f8,f2,d1,o0,Tryz.results237,lv]
 exact aR ⟨rfl,aa.refl _ _⟩
theorem aj7 (h:I) (x c:V) (n l:Int) (aJ:n≤1) (ay:0≤n):Pure Tryz.prog 201 [x,.int .i64 0,.int .i64 n,.int .i64 l,c] h (.tuple []):=by
 refine Pure.val (bb.tuple aO.nil) ?_
 refine ah.aH (c:=_) Tryz.func201 rfl (by kernel_rfl) (by simp) ?_
 simp only [ao]
 refine aZ.cu (α:=Unit) (fun _ f U=>f 0=x∧f 1=.int .i64 0∧f 2=.int .i64 n∧f 4=c∧U=h) (fun _=>0) () ⟨rfl,rfl,rfl,rfl,rfl⟩ ?_
 rintro _ f U ⟨f0,f1,f2,f4,rfl⟩
 refine gn (by kernel_rfl) ?_
 have hw:IntKind.i64.wrap (n - 0)=n:=by rw [Go.IntWalk.i64_in _ (by omega)];omega
 have d1:decide (n≤12)=true:=decide_eq_true (by omega)
 simp only [ao,Nat.reduceEqDiff,reduceCtorEq,f0,f1,f2,f4,hw,d1]
 refine cK agj (aj6 _ x c n 0 aJ ay) ?_
 simp only [ao,bd,Tryz.results201,lv]
 exact aR ⟨rfl,aa.refl _ _⟩
theorem aj8 (h:I) (x c:V) (n:Int) (aJ:n=0∨n=1) (aw:cE Tryz.prog 240 x h=some (.int .i64 n)):Pure Tryz.prog 161 [x,c] h (.tuple []):=by
 refine Pure.val (bb.tuple aO.nil) ?_
 refine ah.aH (c:=_) Tryz.func161 rfl (by kernel_rfl) (by simp) ?_
 have hw:IntKind.u64.wrap n=n:=by rcases aJ with rfl | rfl<;>decide
 simp only [ao,Nat.reduceEqDiff,reduceCtorEq,Nf,gG,aw,hw]
 refine cK M1 (pM h n aJ) ?_
 simp only [ao,Nat.reduceEqDiff]
 refine cK agb (aj7 h x c n n (by omega) (by omega)) ?_
 simp only [ao,o0,Tryz.results161,lv]
 exact aR ⟨rfl,aa.refl _ _⟩
theorem VA {g:FuncId} {cf:bm→bm→Int} (nc:SWO (ltOf cf)) (nb:∀ a b,ah Tryz.prog g [.agg (aP a),.agg (aP b)] qX fun r _=>r=.int .i64 (cf a b))
  (F8:∀ args w,(callFunc g args).run Tryz.prog w=.ok (.enter g args) w) (h:I) (x:V) (l:List bm) (av:Own h 224 3 x (l.flatMap aP)) (aw:l.length≤2 ^ 40) :
  ah Tryz.prog 161 [x,.func (.func g) [] []] h fun r U=>r=.tuple []∧aa h U (aW x)∧∃ b7:List bm,b7.Perm l∧(b7.Pairwise fun a b=>ltOf cf b a=false)∧Own U 224 3 x (b7.flatMap aP):=by
 refine Mx (by decide) se (fun x=>rfl) Jm nc nb
  (fun n enc hk h1 cf nc kp cap d w al hH ar J=>AnyQ.slices_SortFunc Vz 3 Tryz.isAgg224 Tryz.sizeOf224 enc hk h1 cf nc g #[] kp 0 cap d w F8 al hH ar J) (fun aJ=>?_) av (by omega)
 subst aJ
 have hlen:cE Tryz.prog 240 x h=some (.int .i64 0):=by
  rcases av with ⟨rfl | rfl,_⟩ | ⟨i,len,cap,c,ex,rfl,_,_,aw,_⟩
  ·exact B2 xM
  ·exact Du xM
  ·have:len=0:=by simp at aw;omega
   subst this
   exact B1 xM
 exact aj8 h x _ 0 (.inl rfl) hlen
def kN (x y:Int):Int:=if x<y then -1 else if y<x then 1 else 0
theorem VB (h:I) (x:Int):Pure Tryz.prog 144 [.int .i64 x] h (.bool false):=by
 refine Pure.val (bb.bool _) ?_
 refine ah.aH (c:=_) Tryz.func144 rfl (by kernel_rfl) (by simp) ?_
 have e:(x !=x)=false:=by simp
 simp only [ao,Nat.reduceEqDiff,reduceCtorEq,bd,Tryz.results144,bT]
 exact aR ⟨rfl,aa.refl _ _⟩
theorem VC (h:I) (x y:Int):Pure Tryz.prog 106 [.int .i64 x,.int .i64 y] h (.int .i64 (kN x y)):=by
 refine Pure.val (bb.int _ _) ?_
 refine ah.aH (c:=_) Tryz.func106 rfl (by kernel_rfl) (by simp) ?_
 simp only [ao,Int.reduceNeg,Nat.reduceEqDiff,reduceCtorEq]
 refine cK IH (VB h x) ?_
 simp only [ao,Int.reduceNeg,Nat.reduceEqDiff]
 refine cK IH (VB h y) ?_
 by_cases h1:x<y
 ·have d1:decide (x<y)=true:=decide_eq_true h1
  simp only [ao,Int.reduceNeg,Nat.reduceEqDiff,reduceCtorEq,d1,bd,Tryz.results106,bT]
  exact aR ⟨by rw [kN,if_pos h1],aa.refl _ _⟩
 ·have d1:decide (x<y)=false:=decide_eq_false h1
  by_cases ab:y<x
  ·have d2:decide (y<x)=true:=decide_eq_true ab
   simp only [ao,Int.reduceNeg,Nat.reduceEqDiff,reduceCtorEq,d1,d2,bd,Tryz.results106,bT]
   exact aR ⟨by rw [kN,if_neg h1,if_pos ab],aa.refl _ _⟩
  ·have d2:decide (y<x)=false:=decide_eq_false ab
   simp only [ao,Int.reduceNeg,Nat.reduceEqDiff,reduceCtorEq,d1,d2,bd,Tryz.results106,bT]
   exact aR ⟨by rw [kN,if_neg h1,if_neg ab],aa.refl _ _⟩
theorem aj9 (a b:bm) (h:I):Pure Tryz.prog 236 [.agg (aP a),.agg (aP b)] h (.int .i64 (kN a.at_ b.at_)):=by
 refine Pure.val (bb.int _ _) ?_
 refine ah.aH (c:=_) Tryz.func236 rfl (by kernel_rfl) (by simp) ?_
 have fv:(V.agg (aP a)).cells=some (aP a):=rfl
 have fQ:(V.agg (aP b)).cells=some (aP b):=rfl
 have F9:cW (aD.cells (aP a) 224 none) 0=some (aP a):=rfl
 have Ga:cW (aD.cells (aP b) 224 none) 0=some (aP b):=rfl
 have tk:hI (some none) (some (aP a))=some (.int .i64 a.at_):=rfl
 have wc:hI (some none) (some (aP b))=some (.int .i64 b.at_):=rfl
 have k2:aa h ((h.push (.cells (aP a) 224 none)).push (.cells (aP b) 224 none)) none_:=(aa.push _ _ _).trans' (aa.push _ _ _)
 simp only [ao,Nat.reduceEqDiff,E2,bz,fv,fQ,F9,Ga,tk,wc]
 refine cK IG (VC _ a.at_ b.at_) ?_
 simp only [ao,Nat.reduceEqDiff,bd,Tryz.results236,bT]
 exact aR ⟨rfl,k2⟩
theorem aka (h:I) (x:V) (l:List bm) (av:Own h 224 3 x (l.flatMap aP)) (aw:l.length≤2 ^ 40) :
  ah Tryz.prog 161 [x,.func (.func 236) [] []] h fun r U=>r=.tuple []∧aa h U (aW x)∧∃ b7:List bm,b7.Perm l∧(b7.Pairwise fun a b=>¬b.at_<a.at_)∧Own U 224 3 x (b7.flatMap aP):=by
 have e:∀ a b:bm,ltOf (fun a b:bm=>kN a.at_ b.at_) a b=decide (a.at_<b.at_):=fun a b=>by
  unfold ltOf kN
  rw [Bool.eq_iff_iff]
  simp only [decide_eq_true_eq]
  split<;>(try split)<;>omega
 refine (VA (cf:=fun a b=>kN a.at_ b.at_) ⟨fun a=>by rw [e];simp,fun a b c h1 ab=>by rw [e] at *;simp at *;omega,fun a b c h1 ab=>by rw [e] at *;simp at *;omega⟩
  (fun a b=>(aj9 a b qX).mono fun r U ad=>ad.1) (enters_of Tryz.func236 (by kernel_rfl) rfl) h x l av aw).mono fun r U ⟨h1,ab,b7,az,J,av⟩=>⟨h1,ab,b7,az,J.imp fun {a b} iX=>by rw [e] at iX;simpa using iX,av⟩
theorem akb (h:I) (c:bm):iA Tryz.prog 240 1 [(0,.agg (aP c))] h=some (.aj h.n 0 1 1,h.push (.cells (aP c) 224 none)):=by rw [lN Fi];rfl
theorem Ox (h:I) (a m k:Nat) (s:gP) (d:lk h a m k s.1 s.2.1 s.2.2) (w:jH s) (kh:s.2.1.length≤2 ^ 30) :
  ah Tryz.prog 200 [.ptr a 0] h (fun r U=>∃ out:List bm,out.Perm (s.2.1.map (·.2.2))∧(out.Pairwise fun a b=>¬b.at_<a.at_)∧Acc h U 224 3 r (out.flatMap aP)):=by
 obtain ⟨ep,es,a1⟩:=s
 have st:=w.st
 have VD:=w.nd
 have KE:=w.nW
 simp only at d st VD KE kh⊢
 have v0:=d.get
 have nJ:=HK Fe d.map
 have gY:(es.map (·.1)).Nodup:=by
  have:=st.2
  rwa [show (cx (V.int .i64) kM es).map (·.1)=es.map (·.1) from H4 es] at this
 have gi:=d.wh
 refine ah.aH (c:=_) Tryz.func200 rfl (by kernel_rfl) (by simp) ?_
 simp only [ao,Nat.reduceEqDiff,Nat.reduceAdd,Nat.reduceLeDiff,reduceCtorEq,EY,E9,v0,nJ]
 refine aZ.cu (α:=mO) (fun b1 f U=>f 10=.ptr h.n 0∧h.n<U.n∧U.get h.n=.iter m a1 (b1.map (·.1)) a1∧Acc h U 224 3 (f 3) ((b1.map (·.2.2)).flatMap aP) ∧
  aA (f 3)≠some h.n∧(∀ e ∈ b1,e ∈ es)∧(b1.map (·.1)).Nodup) (fun b1=>(l2 (cx (V.int .i64) kM es) (b1.map (·.1))).length) []
  ⟨rfl,by simp only [fR];omega,by simp [I.push],Acc.nil (aa.push _ _ _),(show aA V.ag≠some h.n by simp [aA]),by simp,by simp⟩ ?_
 rintro b1 f ab ⟨f10,fw,z6,acc,jI,jZ,mH⟩
 have uE:ab.get m=.map (cx (V.int .i64) kM es) a1:=(acc.au.get m gi (fun h=>h)).trans d.map
 refine gn (by kernel_rfl) ?_
 simp only [ao,f10]
 refine HH z6 uE st (fun hV=>?_) fun e he=>?_
 ·have az:=kw gY mH jZ (H5 hV)
  have jj:=az.length_eq
  simp only [ao,Nat.reduceEqDiff]
  refine cC Sy (aka ab (f 3) _ acc.own (by rw [List.length_map];omega)) fun r aI ⟨aK,b2,out,pl,aj,cw⟩=>?_
  subst aK
  simp only [ao,Nat.reduceEqDiff,bd,Tryz.results200,bT]
  exact aR ⟨out,pl.trans (az.map _),aj,cw,acc.au.trans b2 fun q ae e=>by have:=acc.new q e;omega,acc.new⟩
 ·obtain ⟨x,af,rfl,lX⟩:=H6 he
  have less:=HJ he
  obtain ⟨n3,pN,wk⟩:=H7 mH jZ af lX
  obtain ⟨xs,hq,rq⟩:=x
  obtain ⟨uA,_⟩:=KE _ af
  simp only at less he lX uA
  generalize hH:ab.set h.n (.iter m a1 (b1.map (·.1)++[xs]) a1)=H
  have pb:Acc h H 224 3 (f 3) ((b1.map (·.2.2)).flatMap aP):=by rw [←hH];exact acc.set (Nat.le_refl _) jI _
  have o8:H.n=ab.n:=by rw [←hH];rfl
  have ng:H.get h.n=.iter m a1 (b1.map (·.1)++[xs]) a1:=by rw [←hH];exact e4
  have rX:H.get m=.map (cx (V.int .i64) kM es) a1:=(pb.au.get m gi (fun h=>h)).trans d.map
  have l0:=HI ng rX st (List.mem_filter.1 he).1
  simp only at l0
  have mD:(kM rq).cells=some (aP rq):=rfl
  have bZ:ca (some 3) (aD.cells [.int .i64 0,.int .i64 0,.ag] 224 none) 0 (aP rq)=some (.cells (aP rq) 224 none):=by
   rw [uf (n:=3) rfl rfl,if_pos (by decide)];rfl
  have kr:cW (.cells (aP rq) 224 none) 0=some (aP rq):=rfl
  have hy:hI (some (some 3)) (some (aP rq))=some (.agg (aP rq)):=rfl
  simp only [ao,Nat.reduceEqDiff,sc,rb,d8,f10,l0,mD,bZ,kr,hy]
  generalize rY:H.push (.cells (aP rq) 224 none)=H1
  have bj:aa H H1 none_:=by rw [←rY];exact aa.push _ _ _
  have anw:H1.n=H.n+1:=by rw [←rY];rfl
  have KF:=pb.on bj
  have VE:=(bj.get h.n (by omega) (fun h=>h)).trans ng
  refine cK afI (F0 rq H1 (by omega)) ?_
  have lit:=akb H1 rq
  obtain ⟨bF,h4,hF,kG,iF,d4⟩:=bv (P:=Tryz.prog) Fi (by decide) KF.own (xs:=aP rq) rfl rfl (fun m hm=>by
   change m * 3=_+3 at hm
   rw [kF se,List.length_map] at hm
   exact ⟨by simp only [lim];omega,by simp only [lim];omega⟩)
  have a4:=KF.step kG iF d4
  have Gb:=iF.n
  simp only [ao,Nat.reduceEqDiff,lit,hF]
  refine aR ⟨b1++[(xs,hq,rq)],⟨f10,by omega,?_,a4.conv ?_,?_,pN,n3⟩,?_⟩
  ·rw [iF.get h.n (by omega) (fun ad=>jI ad),VE];simp
  ·rw [List.map_append,List.flatMap_append,List.map_cons,List.map_nil]
   simp
  ·intro ad
   rcases d4 with d | d
   ·exact jI (d ▸ ad)
   ·have:=d _ ad;omega
  ·rw [List.map_append];exact less
def iw (s:gP) (ep:Int):Option Int:=if nq ep=false then some 2 else if ep≤s.1 then some 7 else none
def cj (ep:Int):Act:=⟨2,ep,0,[]⟩
theorem Oy (h:I) (a:Nat) (ep:Int):aS [.ptr a 0,.agg [.int .i64 2,.int .i64 ep,.int .i64 0,.ag]] h [.ptr a 0,.agg (bI (cj ep))] h :=
 aS.cons (aV.refl _ _) (aS.cons (aV.agg (aS.cons (aV.refl _ _) (aS.cons (aV.refl _ _) (aS.cons (aV.refl _ _) (aS.cons (aV.la h) (aS.refl _ _)))))) (aS.refl _ _))
theorem akc (h:I) (a m k j i:Nat) (room safe bQ:Int) (bs:List Nat) (v pv:V) (l:List (List Nat)) (s:gP) (d:IsNode h a m k j i room bs safe v pv l bQ s) (w:jH s) (aw:l.length≤2 ^ 30) (kh:s.2.1.length≤2 ^ 30) (ep:Int) :
  ah Tryz.prog 157 [.ptr a 0,.int .i64 ep] h (fun r U=>match iw s ep with
   | some e=>r=.tuple [.ag,.int .i64 e]∧IsNode U a m k j i room bs safe v pv l bQ s∧aa h U none_
   | none=>if hc room bs (bw (cj ep))=0 then ∃ (v' bS rv:V) (out:List bm),r=.tuple [rv,.int .i64 0]∧IsNode U a m k j i room (bs++frame (bw (cj ep))) ((bs++frame (bw (cj ep))).length:Nat) v' bS (l++[bw (cj ep)]) bQ (fl s (cj ep)) ∧
     out.Perm (s.2.1.map (·.2.2))∧(out.Pairwise fun a b=>¬b.at_<a.at_)∧Own U 224 3 rv (out.flatMap aP)∧(∀ q,aA rv=some q→h.n≤q∧¬lG a m k j i v' bS q) ∧
     mj h i v v'∧(aA bS=aA pv∨∀ y,aA bS=some y→h.n≤y)∧aa h U (lG a m k j i v pv)
    else r=.tuple [.ag,.int .i64 (hc room bs (bw (cj ep)))]∧IsNode U a m k j i room bs safe v pv l bQ s∧aa h U none_):=by
 have v0:=d.oH.get
 refine ah.aH (c:=_) Tryz.func157 rfl (by kernel_rfl) (by simp) ?_
 simp only [ao,Nat.reduceEqDiff,reduceCtorEq,SU]
 refine cK Ss (Ol ep h) ?_
 cases hm:nq ep
 ·have hT:iw s ep=some 2:=by unfold iw;rw [if_pos hm]
  simp only [ao,Nat.reduceEqDiff,bd,Tryz.results157,ha]
  rw [hT]
  exact aR ⟨rfl,d,aa.refl _ _⟩
 by_cases hle:ep≤s.1
 ·have hT:iw s ep=some 7:=by unfold iw;rw [if_neg (by rw [hm];decide),if_pos hle]
  simp only [ao,Nat.reduceEqDiff,Nat.reduceAdd,Nat.reduceLeDiff,reduceCtorEq,tn,bz,v0,hle,bd,Tryz.results157,ha]
  rw [hT]
  exact aR ⟨rfl,d,aa.refl _ _⟩
 have hT:iw s ep=none:=by unfold iw;rw [if_neg (by rw [hm];decide),if_neg hle]
 have aU:wi (cj ep):=by
  unfold nq at hm
  simp only [Bool.and_eq_true,decide_eq_true_eq] at hm
  exact ⟨by simp only [cj];omega,by simp only [cj];omega,by simp only [cj];omega,by simp [cj]⟩
 simp only [ao,Nat.reduceEqDiff,Nat.reduceAdd,Nat.reduceLeDiff,reduceCtorEq,tn,bz,IX,zJ,v0,hle]
 refine cC M3 (ah.args (Oy h a ep) (F5 h a m k j i room safe bQ bs v pv l s d aw (cj ep) aU)) fun cq h1 ⟨aK,az⟩=>?_
 subst aK
 by_cases c7:hc room bs (bw (cj ep))=0
 case neg=>
  have bf:(hc room bs (bw (cj ep)) !=0)=true:=by simp [c7]
  rw [if_neg c7] at az
  simp only [ao,Nat.reduceEqDiff,bf,bd,Tryz.results157,ha]
  rw [hT]
  refine aR ?_
  show if hc room bs (bw (cj ep))=0 then _ else _
  rw [if_neg c7]
  exact ⟨rfl,az⟩
 rw [if_pos c7] at az
 obtain ⟨v1,qH,d1,c9,k9,bj⟩:=az
 have bf:((0:Int) !=0)=false:=rfl
 have c2:=bj.n
 have bK:jH (fl s (cj ep)):=⟨w.st,w.nd,w.nW⟩
 have bx:(hc room bs (bw (cj ep)) !=0)=false:=by rw [c7];rfl
 simp only [ao,Nat.reduceEqDiff,reduceCtorEq,bx]
 refine cC aga (Ox h1 a m k (fl s (cj ep)) d1.oH bK kh) fun ck ab ⟨out,pl,aj,ac⟩=>?_
 simp only [ao,Nat.reduceEqDiff,bd,Tryz.results157,ha]
 rw [hT]
 refine aR ?_
 show if hc room bs (bw (cj ep))=0 then _ else _
 rw [if_pos c7]
 exact ⟨v1,qH,ck,out,rfl,d1.cP ac.au,pl,aj,ac.own,fun q ae=>⟨by have:=ac.new q ae;omega,fun ad=>by have:=ac.new q ae;have:=d1.iO q ad;omega⟩,c9,k9,bj.trans (ac.au.mono fun _ h=>False.elim h) fun _ _ h=>h⟩
def mn:Nat→List Nat→List Int→List Int×List Nat×Nat
 | 0,rest,acc=>(acc,rest,0)
 | k+1,rest,acc=>
  if (dec rest 0 0).2.2≠0 then ([],[],(dec rest 0 0).2.2)
  else if dZ (dec rest 0 0).1 < -2147483648∨2147483647<dZ (dec rest 0 0).1 then ([],[],2)
  else mn k (rest.drop (dec rest 0 0).2.1) (acc++[dZ (dec rest 0 0).1])
def h2 (bs:List Nat) (most:Int):List Int×List Nat×Nat :=
 if (dec bs 0 0).2.2≠0 then ([],bs,(dec bs 0 0).2.2)
 else if most<0∨most<((dec bs 0 0).1:Nat) then ([],bs,2)
 else if (mn (dec bs 0 0).1 (bs.drop (dec bs 0 0).2.1) []).2.2≠0 then ([],bs,(mn (dec bs 0 0).1 (bs.drop (dec bs 0 0).2.1) []).2.2)
 else mn (dec bs 0 0).1 (bs.drop (dec bs 0 0).2.1) []
theorem Gc {rest:List Nat} (ar:∀ b ∈ rest,b<256) (h:(dec rest 0 0).2.2=0):1≤(dec rest 0 0).2.1∧(dec rest 0 0).2.1≤rest.length:=by
 have h1:=(NN rest 0 0 (dec rest 0 0).1 (dec rest 0 0).2.1 ar (by
  have q:dec rest 0 0=((dec rest 0 0).1,(dec rest 0 0).2.1,(dec rest 0 0).2.2):=rfl
  rw [h] at q
  exact q)).1
 have ab:=I4 rest 0 0
 omega
theorem akd (h:I) (a:Int):iA Tryz.prog 50 1 [(0,.int .i64 a)] h=some (.aj h.n 0 1 1,h.push (.cells [.int .i64 a] 3 none)):=by rw [lN xQ];rfl
theorem uF {P:Nat→Prop} {l:List Nat} (h:∀ b ∈ l,P b) (k:Nat):∀ b ∈ l.drop k,P b:=fun b ar=>h b (List.mem_of_mem_drop ar)
theorem VF (p:V) (i:Nat) (bs:List Nat) (most:Int) (h:I) (aq:ef h p i bs) (ar:∀ b ∈ bs,b<256) (al:bs.length≤2 ^ 47) (pj:bs.length≤2 ^ 40∨most≤2 ^ 40) (hm:-2 ^ 63≤most∧most<2 ^ 63) :
  ah Tryz.prog 120 [p,.int .i64 most] h (fun r U=>r=.tuple [.an (h2 bs most).1.length (bl (h2 bs most).1),.int .i64 ((h2 bs most).2.2:Nat)]∧ef U p i (h2 bs most).2.1∧aa h U (·=i)):=by
 refine ah.cast ?_
 refine ah.aH (c:=_) Tryz.func120 rfl (by kernel_rfl) (by simp) ?_
 have gO:=aq.2.1
 simp only [ao,Int.reduceNeg,Nat.reduceEqDiff,reduceCtorEq]
 refine cK II (rest h p i bs aq) ?_
 simp only [ao,Int.reduceNeg,Nat.reduceEqDiff,S1,Th,ahN]
 have ez:aa h (h.push (.cells [.an bs.length (bp bs)] 165 none)) none_:=aa.push _ _ _
 have o2:ef (h.push (.cells [.an bs.length (bp bs)] 165 none)) (.ptr h.n 0) h.n bs:=⟨rfl,by rw [fR];omega,c4⟩
 refine cC Cn (Cz _ h.n bs _ o2 ar (by omega)) fun r h1 ⟨aK,cq,bj⟩=>?_
 subst aK
 have eu:aa h h1 none_:=ez.trans bj fun k hk hi=>by omega
 have nu:=aq.au eu (by simp [none_])
 have mv:h.n<h1.n:=cq.2.1
 have aT:=dec_lt bs 0 0 (by omega) (by decide) ar
 by_cases cN:(dec bs 0 0).2.2=0
 rotate_left
 ·have bc:((((dec bs 0 0).2.2:Nat):Int) !=0)=true:=by simp;omega
  have fk:h2 bs most=([],bs,(dec bs 0 0).2.2):=by unfold h2;rw [if_pos cN]
  simp only [ao,Int.reduceNeg,Nat.reduceEqDiff,bc,bd,Tryz.results120,ha]
  exact aR ⟨_,_,em _ _,by rw [fk];rfl,by rw [fk];exact nu,eu.up⟩
 ·have bc:((((dec bs 0 0).2.2:Nat):Int) !=0)=false:=by simp [cN]
  have bZ:=Gc ar cN
  have zk:(decide (most<(0:Int))=true∨(decide (most<(0:Int))=false∧decide (IntKind.u64.wrap most<(((dec bs 0 0).1:Nat):Int))=decide (most<(((dec bs 0 0).1:Nat):Int)))):=by
   by_cases ay:most<0
   ·left;simpa using ay
   ·right
    refine ⟨by simp;omega,?_⟩
    rw [IntKind.wrap_u64,Int.emod_eq_of_lt (by omega) (by omega)]
  by_cases oI:most<0∨most<(((dec bs 0 0).1:Nat):Int)
  ·have fk:h2 bs most=([],bs,2):=by unfold h2;rw [if_neg (by omega),if_pos oI]
   rcases zk with bf | ⟨bf,bx⟩
   ·simp only [ao,Int.reduceNeg,Nat.reduceEqDiff,bc,bf,bd,Tryz.results120,ha]
    exact aR ⟨_,_,em _ _,by rw [fk];rfl,by rw [fk];exact nu,eu.up⟩
   ·have c3:decide (most<(((dec bs 0 0).1:Nat):Int))=true:=by
     rcases oI with ay | ay
     ·simp at bf;omega
     ·simpa using ay
    simp only [ao,Int.reduceNeg,Nat.reduceEqDiff,bc,bf,bx,c3,js gG jS,bd,Tryz.results120,ha]
    exact aR ⟨_,_,em _ _,by rw [fk];rfl,by rw [fk];exact nu,eu.up⟩
  ·have bf:decide (most<(0:Int))=false:=by simp;omega
   have bx:decide (IntKind.u64.wrap most<(((dec bs 0 0).1:Nat):Int))=false:=by
    rw [IntKind.wrap_u64,Int.emod_eq_of_lt (by omega) (by omega)]
    simp;omega
   simp only [ao,Int.reduceNeg,Nat.reduceEqDiff,bc,bf,bx,js gG jS]
   refine aZ.cu (α:=V×Nat×List Nat×List Int) (fun x f U=>f 0=p∧f 6=.ptr h.n 0∧f 9=x.1∧f 30=.int .u64 ((dec bs 0 0).1:Nat)∧f 31=.int .u64 (x.2.1:Nat) ∧
     Own U 3 1 x.1 (bl x.2.2.2)∧(∀ k,aA x.1=some k→h1.n≤k)∧aa h1 U (·=h.n)∧ef U (.ptr h.n 0) h.n x.2.2.1 ∧
     mn ((dec bs 0 0).1 - x.2.1) x.2.2.1 x.2.2.2=mn (dec bs 0 0).1 (bs.drop (dec bs 0 0).2.1) []∧x.2.1≤(dec bs 0 0).1∧(x.2.2.2.length+x.2.2.1.length≤bs.length∧x.2.2.2.length≤x.2.1)∧∀ b ∈ x.2.2.1,b<256)
    (fun x=>(dec bs 0 0).1 - x.2.1) (.ag,0,bs.drop (dec bs 0 0).2.1,[])
    ⟨rfl,rfl,rfl,rfl,rfl,Own.ag _ _ _,by simp [aA],aa.refl _ _,cq,by simp,Nat.zero_le _,⟨by simp,by simp⟩,uF ar _⟩ ?_
   rintro ⟨v,k,rest,acc⟩ f ab ⟨f0,f6,f9,f30,f31,av,cO,hk,h9,lz,wO,⟨hlen,Jp⟩,eC⟩
   simp only at f9 f31 av cO h9 lz wO hlen Jp eC
   have ake:acc.length≤2 ^ 40:=by rcases pj with pj | pj<;>omega
   refine gn (by kernel_rfl) ?_
   have rr:aa h ab none_:=eu.trans hk fun k hk hi=>by omega
   by_cases cb:k<(dec bs 0 0).1
   ·have d1:decide ((k:Int)<(((dec bs 0 0).1:Nat):Int))=true:=by simp;omega
    have gj:IntKind.u64.wrap ((k:Int)+1)=((k+1:Nat):Int):=by rw [IntKind.wrap_u64];omega
    rw [show (dec bs 0 0).1 - k=((dec bs 0 0).1 - (k+1))+1 by omega,mn] at lz
    simp only [ao,Int.reduceNeg,Nat.reduceEqDiff,f6,f30,f31,d1]
    refine cC Su (Fp _ _ rest ab h9 eC (by omega)) fun r aI ⟨dB,hh,b2⟩=>?_
    subst dB
    have sq:aa h aI none_:=rr.trans b2 fun k hk hi=>by omega
    have kW:Own aI 3 1 v (bl acc):=av.au b2 fun k hk hi=>by have:=cO k hk;omega
    have Gd:=aq.au sq (by simp [none_])
    by_cases sr:(dec rest 0 0).2.2=0
    rotate_left
    ·have tM:((((dec rest 0 0).2.2:Nat):Int) !=0)=true:=by simp;omega
     rw [if_pos sr] at lz
     have fk:h2 bs most=([],bs,(dec rest 0 0).2.2):=by
      unfold h2;rw [if_neg (by omega),if_neg oI,←lz,if_pos sr]
     simp only [ao,Int.reduceNeg,Nat.reduceEqDiff,tM,bd,Tryz.results120,ha]
     exact aR ⟨_,_,em _ _,by rw [fk];rfl,by rw [fk];exact Gd,sq.up⟩
    ·have tM:((((dec rest 0 0).2.2:Nat):Int) !=0)=false:=by simp [sr]
     rw [if_neg (by omega)] at lz
     have wj:=Gc eC sr
     by_cases nJ:dZ (dec rest 0 0).1 < -2147483648∨2147483647<dZ (dec rest 0 0).1
     ·rw [if_pos nJ] at lz
      have fk:h2 bs most=([],bs,2):=by
       unfold h2;rw [if_neg (by omega),if_neg oI,←lz];rfl
      by_cases sC:dZ (dec rest 0 0).1 < -2147483648
      ·have g1:decide (dZ (dec rest 0 0).1<(-2147483648:Int))=true:=by simpa using sC
       simp only [ao,Int.reduceNeg,Nat.reduceEqDiff,tM,g1,bd,Tryz.results120,ha]
       exact aR ⟨_,_,em _ _,by rw [fk];rfl,by rw [fk];exact Gd,sq.up⟩
      ·have g1:decide (dZ (dec rest 0 0).1<(-2147483648:Int))=false:=by simpa using sC
       have g2:decide ((2147483647:Int)<dZ (dec rest 0 0).1)=true:=by simp;omega
       simp only [ao,Int.reduceNeg,Nat.reduceEqDiff,tM,g1,g2,bd,Tryz.results120,ha]
       exact aR ⟨_,_,em _ _,by rw [fk];rfl,by rw [fk];exact Gd,sq.up⟩
     ·rw [if_neg nJ] at lz
      have g1:decide (dZ (dec rest 0 0).1<(-2147483648:Int))=false:=by simp;omega
      have g2:decide ((2147483647:Int)<dZ (dec rest 0 0).1)=false:=by simp;omega
      obtain ⟨v4,h4,c2,eE,jt,o7⟩:=HF (P:=Tryz.prog) xQ (by decide) kW (xs:=[.int .i64 (dZ (dec rest 0 0).1)]) rfl rfl (by simp [l9,lim];omega) (by simp [l9,lim];omega)
      simp only [ao,Int.reduceNeg,Nat.reduceEqDiff,f9,f31,tM,g1,g2,akd,c2,gj]
      have pg:¬aW v h.n:=fun ad=>by have:=cO _ ad;omega
      refine aR ⟨(v4,k+1,rest.drop (dec rest 0 0).2.1,acc++[dZ (dec rest 0 0).1]),⟨f0,f6,rfl,f30,rfl,?_,?_,?_,hh.au jt pg,lz,by simp only;omega,?_,uF eC _⟩,by simp only;omega⟩
      ·simp only [bl,List.map_append,List.map_cons,List.map_nil];exact eE
      ·intro k' cF
       rcases o7 with o7 | o7
       ·exact cO k' (by rw [←o7];exact cF)
       ·have:=o7 k' cF;have:=hk.n;have:=b2.n;omega
      ·refine (hk.trans' b2).trans jt fun k' cF hi=>?_
       have:=cO k' hi;omega
      ·simp only [List.length_append,List.length_drop,List.length_cons,List.length_nil];omega
   ·have d1:decide ((k:Int)<(((dec bs 0 0).1:Nat):Int))=false:=by simp;omega
    rw [show (dec bs 0 0).1 - k=0 by omega,mn] at lz
    have fk:h2 bs most=(acc,rest,0):=by
     unfold h2;rw [if_neg (by omega),if_neg oI,←lz];rfl
    have Ge:=aq.au rr (by simp [none_])
    obtain ⟨rfl,_,rJ⟩:=Ge
    obtain ⟨_,_,VG⟩:=h9
    simp only [ao,Int.reduceNeg,Nat.reduceEqDiff,reduceCtorEq,EZ,lB,vY,f0,f6,f9,f30,f31,d1,rJ,VG,bd,Tryz.results120,ha]
    have Bt:aa ab (ab.set i (.cells [.an rest.length (bp rest)] 165 none)) (·=i):=aa.set _ _ _
    have iz:Own (ab.set i (.cells [.an rest.length (bp rest)] 165 none)) 3 1 v (bl acc):=av.au Bt fun k' cF hi=>by have:=cO k' cF;omega
    obtain ⟨h5,c5,jF⟩:=aV.own iz (n:=acc.length) (by rw [l9,Nat.mul_one]) (by omega)
    have pg:¬aW v i:=fun ad=>by have:=cO _ ad;omega
    have Jq:ef (ab.set i (.cells [.an rest.length (bp rest)] 165 none)) (.ptr i 0) i rest:=⟨rfl,by rw [kE];exact Nat.lt_of_lt_of_le gO rr.n,e4⟩
    refine aR ⟨_,h5,aV.tuple (aS.cons c5 (aS.refl _ _)),by rw [fk];rfl,by rw [fk];exact Jq.au jF pg,?_⟩
    refine (rr.up.trans' Bt).trans jF fun k' cF hi=>?_
    have:=cO k' hi;omega
theorem akf (x r:List Nat) (af:x.length<2 ^ 64):mJ (kI x++r)=(x,r,0):=by
 unfold mJ kI
 rw [List.append_assoc,CB _ af]
 simp
theorem VH (r:List Nat):∀ (l acc:List Int),(∀ n ∈ l,-2147483648≤n∧n≤2147483647)→mn l.length ((l.flatMap fun n=>enc (iE n))++r) acc=(acc++l,r,0)
 | [],acc,_=>by simp [mn]
 | n::l,acc,h=>by
  have h1:=h n (by simp)
  have bB:iE n<2 ^ 64:=by unfold iE;split<;>omega
  rw [List.length_cons,mn,List.flatMap_cons,List.append_assoc,CB _ bB]
  simp only [TI]
  rw [if_neg (by simp),if_neg (by omega),List.drop_left,VH r l (acc++[n]) fun m hm=>h m (by simp [hm])]
  simp
theorem Jr (p:List Nat):(fB p).length=4:=rfl
theorem akg (p r:List Nat) (az:p.length≤4096):kL (frame p++r)=(p,(frame p).length,0):=by
 have he:=hB p.length (by omega)
 have ar:frame p++r=enc p.length++(p++(fB p++r)):=by unfold frame kI;simp [List.append_assoc]
 have bM:(frame p++r).take 10=enc p.length++(p++(fB p++r)).take (10 - (enc p.length).length):=by
  rw [ar,List.take_append,List.take_of_length_le (by omega)]
 have a7:dec ((frame p++r).take 10) 0 0=(p.length,(enc p.length).length,0):=by rw [bM];exact CB _ (by omega) _
 have hlen:(frame p).length=(enc p.length).length+p.length+4:=by
  unfold frame kI
  rw [List.length_append,List.length_append,Jr]
 have yg:(frame p++r).drop (enc p.length).length=p++(fB p++r):=by
  rw [ar,List.drop_left]
 have jj:((frame p++r).drop (enc p.length).length).take p.length=p:=by
  rw [yg,List.take_left]
 have Gf:((frame p++r).drop ((enc p.length).length+p.length)).take 4=fB p:=by
  rw [←List.drop_drop,yg,List.drop_left]
  exact List.take_left (l₁:=fB p)
 unfold kL
 rw [a7]
 simp only
 rw [if_neg (by simp),if_neg (by omega),if_neg (by rw [List.length_append,hlen];omega),jj,if_pos Gf,hlen]
theorem VI (p:List Nat):0<(frame p).length:=by
 unfold frame
 rw [List.length_append,Jr]
 omega
theorem VJ:∀ (l:List (List Nat)) (k:Nat),(∀ p ∈ l,p.length≤4096)→l.length≤k→gI k (l.flatMap frame)=(l,(l.flatMap frame).length)
 | [],0,_,_=>rfl
 | [],k+1,_,_=>by unfold gI;rw [if_pos (.inl rfl)];rfl
 | p::l,0,_,hk=>by simp at hk
 | p::l,k+1,aw,hk=>by
  have av:=akg p (l.flatMap frame) (aw p (by simp))
  have ih:=VJ l k (fun q ae=>aw q (by simp [ae])) (by simp at hk;omega)
  have ar:(p::l).flatMap frame=frame p++l.flatMap frame:=rfl
  have bc:frame p++l.flatMap frame≠[]:=fun ad=>by
   have h1:=congrArg List.length ad
   rw [List.length_append,List.length_nil] at h1
   have:=VI p
   omega
  unfold gI
  rw [ar,av,if_neg (by simp [bc]),List.drop_left,ih]
  simp
theorem VK (l:List (List Nat)):l.length≤(l.flatMap frame).length:=by
 induction l with
 | nil=>simp
 | cons p l ih=>
  have:=VI p
  rw [List.flatMap_cons,List.length_append,List.length_cons]
  omega
theorem akh (l:List (List Nat)) (aw:∀ p ∈ l,p.length≤4096):gI (l.flatMap frame).length (l.flatMap frame)=(l,(l.flatMap frame).length):=VJ l _ aw (VK l)
theorem Gg (n:Nat) (r:List Nat) (aJ:n≤1048576):dD (enc n++r)=n∧bX (enc n++r)=r:=by
 have a7:=CB n (by omega) r
 constructor
 ·unfold dD;rw [a7];rw [if_neg (by simp;omega)]
 ·unfold bX;rw [a7];exact List.drop_left
theorem aki (ep:Nat) (h:ep≤1048576):pK (bw (cj ep))=(cj ep,true):=by
 have az:bw (cj ep)=enc 2++(enc ep++[]):=by unfold bw cj;simp
 obtain ⟨bC,a2⟩:=Gg 2 (enc ep++[]) (by omega)
 obtain ⟨hW,cZ⟩:=Gg ep [] h
 unfold pK
 rw [az,bC,a2,hW,cZ,if_pos rfl]
 simp [cj,nq]
 omega
theorem akj (ep at_:Nat) (b:List Nat) (hm:lQ ⟨1,ep,at_,b⟩=true):pK (bw ⟨1,ep,at_,b⟩)=(⟨1,ep,at_,b⟩,true):=by
 have fE:=hm
 unfold lQ nq at fE
 simp only [Bool.and_eq_true,decide_eq_true_eq] at fE
 obtain ⟨⟨⟨m1,m2⟩,m3,m4⟩,m5⟩:=fE
 have az:bw ⟨1,ep,at_,b⟩=enc 1++(enc ep++(enc at_++(kI b++[]))):=by unfold bw;simp
 obtain ⟨bC,a2⟩:=Gg 1 (enc ep++(enc at_++(kI b++[]))) (by omega)
 obtain ⟨hW,cZ⟩:=Gg ep (enc at_++(kI b++[])) (by omega)
 obtain ⟨bf,bx⟩:=Gg at_ (kI b++[]) (by omega)
 have aE:=akf b [] (by omega)
 unfold pK
 rw [az,bC,a2,hW,cZ,bf,bx,aE,if_neg (by decide),if_pos rfl]
 simp only [Prod.mk.injEq] at *
 simp [hm]
theorem jH.nil:jH (0,[],0):=⟨dw.nil _,dJ.nil,by simp⟩
theorem jH.Gh {s:gP} (w:jH s) (ep:Int):jH (fl s (cj ep)):=⟨w.st,w.nd,w.nW⟩
theorem VL {κ α:Type} [DecidableEq κ]:∀ {l:List (Nat×κ×α)} {a1:Nat} {k:κ} {a:α} {e:Nat×κ×α},e ∈ cm a1 l k a→(e.2.1=k∧e.2.2=a)∨e ∈ l
 | [],a1,k,a,e,he=>by
  simp [cm] at he
  subst he
  exact .inl ⟨rfl,rfl⟩
 | x::l,a1,k,a,e,he=>by
  unfold cm at he
  split at he
  ·rcases List.mem_cons.1 he with rfl | he
   ·exact .inl ⟨rfl,rfl⟩
   ·exact .inr (List.mem_cons_of_mem _ he)
  ·rcases List.mem_cons.1 he with rfl | he
   ·exact .inr (List.mem_cons_self ..)
   ·exact (VL he).imp id (List.mem_cons_of_mem _)
theorem jH.write {s:gP} (w:jH s) (ep at_:Int) (b:List Nat) (ar:∀ n ∈ b,n<256) (hm:lQ ⟨1,ep,at_,b⟩=true):jH (fl s ⟨1,ep,at_,b⟩):=by
 unfold lQ nq at hm
 simp only [Bool.and_eq_true,decide_eq_true_eq] at hm
 obtain ⟨⟨⟨m1,m2⟩,m3,m4⟩,m5⟩:=hm
 refine ⟨dw.cm w.st at_ ⟨at_,ep,b⟩,w.nd.set _ at_ ⟨at_,ep,b⟩,fun e he=>?_⟩
 rcases VL he with ⟨h1,ab⟩ | he
 ·rw [ab,h1];exact ⟨m5,ar,m1,m2,rfl⟩
 ·exact w.nW e he
theorem Oz (l:List (List Nat)) (p:List Nat):eA (l++[p])=ka (eA l) p:=by unfold eA;rw [List.foldl_append];rfl
theorem VM (s:gP) (ep:Nat) (h:ep≤1048576) (J:s.1<ep):ka s (bw (cj ep))=fl s (cj ep):=by
 unfold ka
 rw [aki ep h]
 have aB:j9 s.1 s.2.1 (cj ep)=true:=by unfold j9 cj;rw [if_pos rfl];simpa using J
 simp only [aB,Bool.and_self,if_true]
 rfl
theorem VN (s:gP) (ep at_:Nat) (b:List Nat) (hw:gl s ep at_ b=none):ka s (bw ⟨1,ep,at_,b⟩)=fl s ⟨1,ep,at_,b⟩:=by
 have hm:lQ ⟨1,ep,at_,b⟩=true:=by
  cases hm:lQ ⟨1,ep,at_,b⟩
  ·unfold gl at hw;rw [if_pos hm] at hw;cases hw
  ·rfl
 have aB:j9 s.1 s.2.1 ⟨1,ep,at_,b⟩=true:=by
  unfold gl at hw
  rw [if_neg (by rw [hm];decide)] at hw
  split at hw
  ·cases hw
  rename_i aT
  unfold j9
  rw [if_neg (show ¬((1:Int)=2) by decide),decide_eq_true (show s.1≤(ep:Int) by omega),Bool.true_and]
  simp only
  cases aE:bq s.2.1 (at_:Int) with
  | none=>rfl
  | some c=>
   rw [aE] at hw
   simp only at hw⊢
   split at hw
   ·split at hw<;>cases hw
   ·rename_i ad
    rw [decide_eq_true_iff]
    omega
 unfold ka
 rw [akj ep at_ b hm]
 simp only [aB,Bool.and_self,if_true]
 rfl
structure OA (ay h:I) (a m k j i:Nat) (room:Int) (v pv:V) (l:List (List Nat)) (bQ:Int):Prop where
 nd:IsNode h a m k j i room (l.flatMap frame) ((l.flatMap frame).length:Nat) v pv l bQ (eA l)
 ok:jH (eA l)
 pl:∀ p ∈ l,p.length≤4096∧∀ x ∈ p,x<256
 new:∀ q,lG a m k j i v pv q→ay.n≤q
 au:aa ay h none_
theorem OA.len {ay h:I} {a m k j i:Nat} {room bQ:Int} {v pv:V} {l:List (List Nat)} (d:OA ay h a m k j i room v pv l bQ):l.length≤1048576:=by
 have h1:=d.nd.ye.oG.len
 have ab:=d.nd.ye.oG.most
 have aI:=VK l
 rw [wg] at h1
 omega
theorem akk {κ α:Type} [DecidableEq κ] (l:List (Nat×κ×α)) (a1:Nat) (k:κ) (a:α):(cm a1 l k a).length≤l.length+1:=by
 rw [Rn];split<;>omega
theorem OB:∀ (l:List (List Nat)) (s:gP),(l.foldl ka s).2.1.length≤s.2.1.length+l.length
 | [],s=>by simp
 | p::l,s=>by
  have ih:=OB l (ka s p)
  have h1:(ka s p).2.1.length≤s.2.1.length+1:=by
   unfold ka
   split
   ·simp only [mm]
    split
    ·omega
    ·exact akk _ _ _ _
   ·omega
  rw [List.foldl_cons,List.length_cons]
  omega
theorem akl {s:gP} (w:jH s) {at_:Int} {c:bm} (aE:bq s.2.1 at_=some c):c.bytes.length≤2048∧(∀ n ∈ c.bytes,n<256)∧c.at_=at_:=by
 obtain ⟨e,he,ab⟩:=zl aE
 obtain ⟨s1,s2,_,_,Js⟩:=w.nW e he
 obtain ⟨aK,a6,dB⟩:=e
 simp only [Prod.mk.injEq] at ab s1 s2 Js
 obtain ⟨rfl,rfl⟩:=ab
 exact ⟨s1,s2,Js⟩
theorem VO (x:Act) (av:wi x) (ar:∀ n ∈ x.bytes,n<256):(bw x).length≤4096∧∀ y ∈ bw x,y<256:=by
 obtain ⟨h1,ab,aI,h4⟩:=av
 have aK:=hB x.kind.toNat (by omega)
 have a6:=hB x.aF.toNat (by omega)
 have dB:=hB x.at_.toNat (by omega)
 have hj:=hB x.bytes.length (by omega)
 have fg:=v7 x.kind.toNat x.kind.toNat (Nat.le_refl _)
 have dN:=v7 x.aF.toNat x.aF.toNat (Nat.le_refl _)
 have jM:=v7 x.at_.toNat x.at_.toNat (Nat.le_refl _)
 have EO:=v7 x.bytes.length x.bytes.length (Nat.le_refl _)
 unfold bw kI
 split
 ·refine ⟨by simp only [List.length_append];omega,fun y aX=>?_⟩
  rcases List.mem_append.1 aX with aX | aX
  ·exact fg y aX
  ·exact dN y aX
 ·refine ⟨by simp only [List.length_append];omega,fun y aX=>?_⟩
  simp only [List.mem_append] at aX
  rcases aX with ((aX | aX) | aX) | aX | aX
  ·exact fg y aX
  ·exact dN y aX
  ·exact jM y aX
  ·exact EO y aX
  ·exact ar y aX
theorem VP {s:gP} {ep at_:Int} {b:List Nat} (hw:gl s ep at_ b=none):lQ ⟨1,ep,at_,b⟩=true:=by
 cases hm:lQ ⟨1,ep,at_,b⟩
 ·unfold gl at hw;rw [if_pos hm] at hw;cases hw
 ·rfl
theorem VQ {ep at_:Int} {b:List Nat} (hm:lQ ⟨1,ep,at_,b⟩=true):(0≤at_∧at_<4096)∧(0≤ep∧ep≤1048576)∧b.length≤2048:=by
 unfold lQ nq at hm
 simp only [Bool.and_eq_true,decide_eq_true_eq] at hm
 obtain ⟨⟨⟨m1,m2⟩,m3,m4⟩,m5⟩:=hm
 exact ⟨⟨m1,m2⟩,⟨m3,m4⟩,m5⟩
theorem KG {room:Int} {bs:List Nat} {x:Act} (av:wi x) (aB:(bs.length:Int)+60+x.bytes.length≤room):hc room bs (bw x)=0:=by
 obtain ⟨h1,ab,aI,h4⟩:=av
 have aK:=hB x.kind.toNat (by omega)
 have a6:=hB x.aF.toNat (by omega)
 have dB:=hB x.at_.toNat (by omega)
 have hj:=hB x.bytes.length (by omega)
 have az:(bw x).length≤40+x.bytes.length:=by
  unfold bw kI
  split<;>simp only [List.length_append]<;>omega
 have j5:=hB (bw x).length (by omega)
 have eM:(frame (bw x)).length≤14+(bw x).length:=by
  unfold frame kI
  rw [List.length_append,List.length_append,Jr]
  omega
 unfold hc
 rw [if_neg (by omega),if_pos (by omega)]
theorem VR (x:Act) (av:wi x):(frame (bw x)).length≤54+x.bytes.length:=by
 obtain ⟨h1,ab,aI,h4⟩:=av
 have aK:=hB x.kind.toNat (by omega)
 have a6:=hB x.aF.toNat (by omega)
 have dB:=hB x.at_.toNat (by omega)
 have hj:=hB x.bytes.length (by omega)
 have az:(bw x).length≤40+x.bytes.length:=by
  unfold bw kI
  split<;>simp only [List.length_append]<;>omega
 have j5:=hB (bw x).length (by omega)
 unfold frame kI
 rw [List.length_append,List.length_append,Jr]
 omega
theorem CR (c:bm):(V.agg (aP c)).cells=some (aP c):=rfl
theorem VS {l:List bm} {k:Nat} (hk:k<l.length) {kk:IntKind}:ik Tryz.prog 240 (.an l.length (l.flatMap aP)) (.int kk (k:Int))=some (.at (aP l[k]++(l.drop (k+1)).flatMap aP)):=xt se hk Td
theorem OC (c:bm) (r:List V):(if 3≤(aP c++r).length then some (V.agg (List.take 3 (aP c++r))) else none)=some (.agg (aP c)):=by rw [if_pos (by rw [List.length_append,se];omega)];rfl
theorem Jt (c:bm):(if 3≤(aP c).length then some (V.agg (List.take 3 (aP c))) else none)=some (.agg (aP c)):=rfl
theorem akm (c:bm) (r:List V):hI (some none) (some (aP c++r))=some (.int .i64 c.at_):=rfl
theorem OD (c:bm):hI (some none) (some (aP c))=some (.int .i64 c.at_):=rfl
theorem akn (c:bm):(if 1≤(aP c).length then some (List.drop 1 (aP c)) else none)=some [.int .i64 c.aF,.an c.bytes.length (bp c.bytes)]:=rfl
theorem VT (c:bm):(if 2≤(aP c).length then some (List.drop 2 (aP c)) else none)=some [.an c.bytes.length (bp c.bytes)]:=rfl
theorem Gi (c:bm):ca (some 3) (aD.cells [V.int .i64 0,V.int .i64 0,V.ag] 224 none) 0 (aP c)=some (.cells (aP c) 224 none):=rfl
theorem VU (h:I) (c:bm):iA Tryz.prog 240 1 [(0,.agg (aP c))] h=some (.aj h.n 0 1 1,h.push (.cells (aP c) 224 none)):=by rw [lN Fi];rfl
theorem ako (a b:bm) (h:I):Pure Tryz.prog 159 [.agg (aP a),.agg (aP b)] h (.bool (decide (b.aF<a.aF))):=by
 refine Pure.val (bb.bool _) ?_
 refine ah.aH (c:=_) Tryz.func159 rfl (by kernel_rfl) (by simp) ?_
 have cc:=CR
 have f1:=akn
 have fg:∀ c:bm,List.drop 1 (aP c)=[.int .i64 c.aF,.an c.bytes.length (bp c.bytes)]:=fun _=>rfl
 have a1:=se
 simp only [ao,Nat.reduceEqDiff,Nat.reduceLeDiff,E3,bz,cc,fg,a1,bd,Tryz.results159,bT]
 exact aR ⟨rfl,(aa.push _ _ _).cB _⟩
theorem OE (c:bm) (aw:c.bytes.length≤2 ^ 40) (h:I):Pure Tryz.prog 160 [.agg (aP c)] h (.agg (aP c)):=by
 refine Pure.of (bb.agg (Jm _)) ?_
 refine ah.aH (c:=_) Tryz.func160 rfl (by kernel_rfl) (by simp) ?_
 have cc:=CR
 have f2:=VT
 have dN:∀ c:bm,List.drop 2 (aP c)=[.an c.bytes.length (bp c.bytes)]:=fun _=>rfl
 have a1:=se
 simp only [ao,Nat.reduceEqDiff,Nat.reduceLeDiff,Cs,lB,rb,cc,dN,a1]
 refine cK ET (zW c.bytes aw _) ?_
 have oE:List.take 3 (aP c)=aP c:=rfl
 have s2:ca (some 1) (aD.cells (aP c) 224 none) 2 [.an c.bytes.length (bp c.bytes)]=some (.cells (aP c) 224 none):=rfl
 have st:=Gi
 have ld:=Jt
 simp only [ao,Nat.reduceEqDiff,Cs,sc,d8,vY,cc,a1,s2,st,oE,bd,Tryz.results160,xm,jP]
 exact aR ⟨_,aV.refl _ _,(aa.push _ _ _).cB _⟩
def uG (t:Option bm) (c:bm):Option bm:=match t with
 | none=>some c
 | some t=>if t.aF<c.aF then some c else some t
def kb (l:List bm):Option bm:=l.foldl uG none
theorem OG (l:List bm) (c:bm):kb (l++[c])=uG (kb l) c:=by unfold kb;rw [List.foldl_append];rfl
theorem VV (t:Option bm) (c:bm):∃ d,uG t c=some d:=by
 cases t with
 | none=>exact ⟨c,rfl⟩
 | some t=>unfold uG;simp only;split<;>exact ⟨_,rfl⟩
def mo:bm:=⟨0,0,[]⟩
def kO (o:Option bm):List V:=match o with
 | none=>[.int .i64 0,.int .i64 0,.ag]
 | some c=>aP c
theorem akp (o:Option bm) (b:Bool) (h:I):aV (.tuple [.agg (kO o),.bool b]) h (.tuple [.agg (aP (o.getD mo)),.bool b]) h:=by
 cases o with
 | some c=>exact aV.refl _ _
 | none=>
  refine aV.tuple (aS.cons ?_ (aS.refl _ _))
  exact aei (aS.cons (aV.refl _ _) (aS.cons (aV.refl _ _) (aS.cons (aV.la h) (aS.refl _ _))))
theorem akq (l:List bm) (aw:l.length≤2 ^ 40) (h:I):Pure Tryz.prog 158 [.an l.length (l.flatMap aP),.func (.func 159) [] []] h (.tuple [.agg (aP ((kb l).getD mo)),.bool (decide (0<l.length))]):=by
 refine Pure.of (bb.tuple (aO.cons (bb.agg (Jm _)) (aO.cons (bb.bool _) aO.nil))) ?_
 refine ah.aH (c:=_) Tryz.func158 rfl (by kernel_rfl) (by simp) ?_
 simp only [ao,Nat.reduceEqDiff,reduceCtorEq,xM,rb]
 have cc:∀ o,(V.agg (kO o)).cells=some (kO o):=fun _=>rfl
 have Gj:=CR
 have aoQ:∀ o,(kO o).length=3:=fun o=>by cases o<;>rfl
 have VW:∀ o,(if 3≤(kO o).length then some (V.agg (List.take 3 (kO o))) else none)=some (.agg (kO o)):=fun o=>by cases o<;>rfl
 have st:∀ o c,ca (some 3) (aD.cells (kO o) 224 none) 0 (aP c)=some (.cells (aP c) 224 none):=fun o c=>by cases o<;>rfl
 have st2:∀ o,ca (some 3) (aD.cells [V.int .i64 0,V.int .i64 0,V.ag] 224 none) 0 (kO o)=some (.cells (kO o) 224 none):=fun o=>by cases o<;>rfl
 have VX:=Gi
 have Gk:=Jt
 refine aZ.cu (α:=Nat) (fun i f U=>f 0=.an l.length (l.flatMap aP)∧f 1=.func (.func 159) [] []∧f 4=.ptr h.n 0∧f 6=.ptr (h.n+1) 0∧f 9=.an l.length (l.flatMap aP)∧f 10=.int .i64 (l.length:Nat)∧f 11=.int .i64 (i:Nat)∧i≤l.length∧aa h U none_∧h.n+1<U.n ∧
   U.get h.n=.cells [.int .i64 0,.int .i64 0,.ag] 224 none∧U.get (h.n+1)=.cells (kO (kb (l.take i))) 224 none) (fun i=>l.length - i) 0
  ⟨rfl,rfl,rfl,rfl,rfl,rfl,rfl,Nat.zero_le _,(aa.push _ _ _).cB _,Nat.lt_succ_self _,(jN (Nat.lt_succ_self _)).trans c4,c4⟩ ?_
 rintro i f h1 ⟨f0,f1,f4,f6,f9,f10,f11,hi,bj,c9,g4,g6⟩
 refine gn (by kernel_rfl) ?_
 by_cases aT:i<l.length
 ·have d1:decide ((i:Int)<((l.length:Nat):Int))=true:=decide_eq_true (by omega)
  have hw:IntKind.i64.wrap ((i:Int)+1)=((i+1:Nat):Int):=by rw [Go.IntWalk.i64_in _ (by omega)];omega
  have fM:=VS (kk:=.i64) aT
  have ar:=OG (l.take i) l[i]
  rw [←List.take_succ_eq_append_getElem aT] at ar
  have ld:=OC
  generalize al:l[i]=c at fM ar
  have gN:=bj.cB (.cells (aP c) 224 none)
  have nU:(h1.push (.cells (aP c) 224 none)).get h1.n=.cells (aP c) 224 none:=c4
  have Bu:=(jN (o:=.cells (aP c) 224 none) (show h.n<h1.n by omega)).trans g4
  have rZ:=(jN (o:=.cells (aP c) 224 none) c9).trans g6
  have CP:(h1.push (.cells (aP c) 224 none)).n=h1.n+1:=rfl
  simp only [ao,Nat.reduceEqDiff,sc,rb,d8,f9,f10,f11,d1,fM,ld,Gj,VX]
  generalize h1.push (.cells (aP c) 224 none)=c7 at gN nU Bu rZ CP⊢
  by_cases ay:i=0
  ·subst ay
   have gx:((((0:Nat):Int))==0)=true:=rfl
   rw [List.take_zero] at ar rZ
   have h7:kb (l.take (0+1))=some c:=ar
   have dY:∀ o,aa h (c7.set (h.n+1) o) none_:=fun o=>gN.kq (by omega) o
   simp only [ao,Nat.reduceEqDiff,sc,d8,f6,f11,gx,nU,rZ,Gk,Gj,st,hw]
   exact aR ⟨1,⟨f0,f1,f4,f6,f9,f10,rfl,aT,dY _,by show h.n+1<c7.n;omega,(nS (by omega)).trans Bu,by rw [h7];exact e4⟩,by omega⟩
  ·have gx:((i:Int)==0)=false:=by simp;omega
   obtain ⟨t,bM⟩:∃ t,kb (l.take i)=some t:=by
    obtain ⟨j,rfl⟩:∃ j,i=j+1:=⟨i - 1,by omega⟩
    rw [List.take_succ_eq_append_getElem (by omega),OG]
    exact VV _ _
   rw [bM] at rZ ar
   have Mp:kO (some t)=aP t:=rfl
   rw [Mp] at rZ
   have tG:∀ t c,ca (some 3) (aD.cells (aP t) 224 none) 0 (aP c)=some (.cells (aP c) 224 none):=fun t c=>rfl
   simp only [ao,Nat.reduceEqDiff,sc,f1,f6,gx,nU,rZ,Gk]
   refine cK af1 (ako c t c7) ?_
   by_cases aJ:t.aF<c.aF
   ·have d2:decide (t.aF<c.aF)=true:=decide_eq_true aJ
    have h7:kb (l.take (i+1))=some c:=by rw [ar];unfold uG;simp [aJ]
    have dY:∀ o,aa h (c7.set (h.n+1) o) none_:=fun o=>gN.kq (by omega) o
    simp only [ao,Nat.reduceEqDiff,sc,d8,f6,f11,nU,rZ,Gk,Gj,tG,d2,hw]
    exact aR ⟨i+1,⟨f0,f1,f4,f6,f9,f10,rfl,aT,dY _,by show h.n+1<c7.n;omega,(nS (by omega)).trans Bu,by rw [h7];exact e4⟩,by omega⟩
   ·have d2:decide (t.aF<c.aF)=false:=decide_eq_false aJ
    have h7:kb (l.take (i+1))=some t:=by rw [ar];unfold uG;simp [aJ]
    simp only [ao,Nat.reduceEqDiff,f11,d2,hw]
    exact aR ⟨i+1,⟨f0,f1,f4,f6,f9,f10,rfl,aT,gN,by omega,Bu,by rw [h7];exact rZ⟩,by omega⟩
 ·have d1:decide ((i:Int)<((l.length:Nat):Int))=false:=decide_eq_false (by omega)
  rw [List.take_of_length_le (by omega)] at g6
  have dY:∀ o,aa h (h1.set h.n o) none_:=fun o=>bj.kq (by omega) o
  have a6:decide ((0:Int)<((l.length:Nat):Int))=decide (0<l.length):=by rw [Bool.eq_iff_iff];simp
  simp only [ao,Nat.reduceEqDiff,reduceCtorEq,xM,sc,d8,f0,f4,f6,f10,f11,d1,g6,g4,VW,cc,st2,a6,bd,Tryz.results158,qi,mF,jP,qh]
  exact aR ⟨_,akp _ _ _,dY _⟩
theorem OH (a b:bm) (h:I):Pure Tryz.prog 162 [.agg (aP a),.agg (aP b)] h (.int .i64 (kN a.at_ b.at_)):=by
 refine Pure.val (bb.int _ _) ?_
 refine ah.aH (c:=_) Tryz.func162 rfl (by kernel_rfl) (by simp) ?_
 have cc:=CR
 have lj:=OD
 have kk:aa h ((h.push (.cells (aP a) 224 none)).push (.cells (aP b) 224 none)) none_:=(aa.push _ _ _).cB _
 simp only [ao,Nat.reduceEqDiff,E2,bz,cc,lj]
 refine cK IG (VC _ _ _) ?_
 simp only [ao,Nat.reduceEqDiff,bd,Tryz.results162,bT]
 exact aR ⟨rfl,kk⟩
theorem VY (n:Int) (ay:0≤n) (h1:n≤2 ^ 60) (h:I):Pure Tryz.prog 198 [.int .i64 n] h (.int .i64 (n / 2+1)):=by
 refine Pure.val (bb.int _ _) ?_
 refine ah.aH (c:=_) Tryz.func198 rfl (by kernel_rfl) (by simp) ?_
 have aK:(if n<0 then (0:Int) else n)=n:=if_neg (by omega)
 have a6:n.tdiv 2=n / 2:=Int.tdiv_eq_ediv_of_nonneg ay
 have dB:IntKind.i64.wrap (n / 2)=n / 2:=Go.IntWalk.i64_in _ (by omega)
 have hj:IntKind.i64.wrap (n / 2+1)=n / 2+1:=Go.IntWalk.i64_in _ (by omega)
 have j5:max n 0=n:=by omega
 simp only [ao,Nat.reduceEqDiff,reduceCtorEq,abA (show (2:Int)≠0 by decide),a6,dB,hj,j5,bd,Tryz.results198,bT]
 exact aR ⟨rfl,aa.refl _ _⟩
abbrev kP:=List (Nat×Int×(V×List bm))
def qI (m:kP):List (Nat×V×V):=cx (V.int .i64) Prod.fst m
def et (cs:List bm) (k:Int):List bm:=cs.filter fun c=>c.at_==k
theorem VZ (cs:List bm) (c:bm) (k:Int):et (cs++[c]) k=if c.at_=k then et cs k++[c] else et cs k:=by
 unfold et
 rw [List.filter_append]
 by_cases h:c.at_=k<;>simp [h]
theorem Gl:∃ fZ,eo Tryz.prog 280=some (3,fZ,.int .i64)∧jg Tryz.prog fZ=some (.slice none 0 0):=by
 have h:(eo Tryz.prog 280).map (fun q=>(q.1,q.2.1))=some (3,240):=by kernel_rfl
 have hu:Tryz.prog.underlying 3=some (.int .i64):=Tryz.underlying3
 cases hm:eo Tryz.prog 280 with
 | none=>rw [hm] at h;cases h
 | some q=>
  rw [hm] at h
  obtain ⟨a,b,d⟩:=q
  simp only [Option.map_some,Option.some.injEq,Prod.mk.injEq] at h
  obtain ⟨rfl,rfl⟩:=h
  have:=(uc hm).2
  rw [hu] at this
  cases this
  exact ⟨_,rfl,by kernel_rfl⟩
def cur (m:kP) (k:Int):V×List bm:=(bq m k).getD (.ag,[])
theorem akr {h:I} {i a1:Nat} (m:kP) (k:Int) (aE:h.get i=.map (qI m) a1):nM Tryz.prog 280 (.map i) (.int .i64 k) false h=some (cur m k).1:=by
 obtain ⟨fZ,hm,bB⟩:=Gl
 have:=D4 (enc:=(Prod.fst:V×List bm→V)) (ok:=false) (fT.ofInt hm) (k:=k) hm bB aE
 rw [this]
 unfold cur
 cases bq m k<;>rfl
theorem OI {h:I} {i a1:Nat} (m:kP) (k:Int) (v:V) (l:List bm) (aE:h.get i=.map (qI m) a1):qS Tryz.prog 280 (.map i) (.int .i64 k) v h=some (h.set i (.map (qI (cm a1 m k (v,l))) (e5 a1 m k))):=by
 obtain ⟨fZ,hm,bB⟩:=Gl
 exact HX (enc:=(Prod.fst:V×List bm→V)) (fT.ofInt hm) (k:=k) hm aE rfl
structure mP (ay h:I) (nv:Nat) (cs:List bm) (m:kP) (a1:Nat):Prop where
 au:aa ay h none_
 lo:ay.n≤nv
 lt:nv<h.n
 get:h.get nv=.map (qI m) a1
 st:dw (qI m) a1
 nd:dJ m
 own:∀ k a,bq m k=some a→Own h 224 3 a.1 (a.2.flatMap aP)∧(∀ i,aA a.1=some i→ay.n≤i∧i≠nv)
 apart:∀ k k' a du i,bq m k=some a→bq m k'=some du→k≠k'→aA a.1=some i→aA du.1≠some i
 has:∀ k a,bq m k=some a→a.2=et cs k∧a.2≠[]
 va:∀ k,bq m k=none→et cs k=[]
 len:m.length≤cs.length
theorem mP.start {ay h:I} (k:aa ay h none_):mP ay (h.push (.map [] 0)) h.n [] [] 0 :=
 ⟨k.cB _,k.n,Nat.lt_succ_self _,c4,dw.nil 0,dJ.nil,fun _ _ h=>(by cases h),fun _ _ _ _ _ h=>(by cases h),fun _ _ h=>(by cases h),fun _ _=>rfl,Nat.le_refl _⟩
theorem mP.on {ay h U:I} {nv a1:Nat} {cs:List bm} {m:kP} (w:mP ay h nv cs m a1) (k:aa h U none_):mP ay U nv cs m a1 :=
 ⟨w.au.trans' k,w.lo,Nat.lt_of_lt_of_le w.lt k.n,(k.get nv w.lt (fun h=>h)).trans w.get,w.st,w.nd,fun q a ae=>⟨(w.own q a ae).1.cP k,(w.own q a ae).2⟩,w.apart,w.has,w.va,w.len⟩
theorem mP.ru {ay h:I} {nv a1:Nat} {cs:List bm} {m:kP} (w:mP ay h nv cs m a1) (k:Int):Own h 224 3 (cur m k).1 ((cur m k).2.flatMap aP)∧(cur m k).2=et cs k∧(∀ i,aA (cur m k).1=some i→ay.n≤i∧i≠nv):=by
 unfold cur
 cases hk:bq m k with
 | none=>exact ⟨Own.ag _ _ _,(w.va k hk).symm,fun i hi=>by cases hi⟩
 | some a=>exact ⟨(w.own k a hk).1,(w.has k a hk).1,(w.own k a hk).2⟩
theorem mP.add {ay h U:I} {nv a1:Nat} {cs:List bm} {m:kP} (w:mP ay h nv cs m a1) (c:bm) {v:V} (eu:aa h U (aW (cur m c.at_).1)) (o:Own U 224 3 v (((cur m c.at_).2++[c]).flatMap aP)) (eR:nP h (cur m c.at_).1 v) :
  mP ay (U.set nv (.map (qI (cm a1 m c.at_ (v,(cur m c.at_).2++[c]))) (e5 a1 m c.at_))) nv (cs++[c]) (cm a1 m c.at_ (v,(cur m c.at_).2++[c])) (e5 a1 m c.at_):=by
 obtain ⟨V0,gr,i0⟩:=w.ru c.at_
 have dY:∀ o,aa U (U.set nv o) (fun q=>q=nv):=fun o=>aa.set _ _ _
 have aN:∀ i,aA v=some i→ay.n≤i∧i≠nv:=fun i hi=>by
  rcases eR with e | e
  ·exact i0 i (e ▸ hi)
  ·have:=e i hi;have:=w.au.n;have:=w.lt;omega
 have other:∀ k a,bq m k=some a→k≠c.at_→∀ i,aA a.1=some i→aA (cur m c.at_).1≠some i:=fun k a hk bc i hi=>by
  unfold cur
  cases al:bq m c.at_ with
  | none=>simp [aA]
  | some b=>exact w.apart k c.at_ a b i hk al bc hi
 have rr:aa ay (U.set nv (.map (qI (cm a1 m c.at_ (v,(cur m c.at_).2++[c]))) (e5 a1 m c.at_))) none_ :=
  (w.au.trans eu fun q ae e=>by have:=(i0 q e).1;omega).trans (dY _) fun q ae e=>by have:=w.lo;omega
 refine ⟨rr,w.lo,Nat.lt_of_lt_of_le w.lt (Nat.le_trans eu.n (dY (.map (qI (cm a1 m c.at_ (v,(cur m c.at_).2++[c]))) (e5 a1 m c.at_))).n),e4,w.st.cm _ _,w.nd.set _ _ _,fun k a hk=>?_,fun k k' a du i hk cF bc hi=>?_,fun k a hk=>?_,fun k hk=>?_,?_⟩
 ·rw [tc] at hk
  split at hk
  ·cases hk
   exact ⟨o.au (dY _) fun i hi e=>(aN i hi).2 e,aN⟩
  ·rename_i bc
   obtain ⟨c0,i1⟩:=w.own k a hk
   exact ⟨(c0.au eu fun i hi e=>other k a hk bc i hi e).au (dY _) fun i hi e=>(i1 i hi).2 e,i1⟩
 ·rw [tc] at hk cF
  split at hk
  ·rename_i aK
   split at cF
   ·rename_i a6;exact absurd (aK.trans a6.symm) bc
   ·rename_i a6
    cases hk
    intro hD
    rcases eR with e | e
    ·exact other k' du cF a6 i hD (e ▸ hi)
    ·have:=e i hi
     have:=(w.own k' du cF).1.lt i hD
     omega
  ·rename_i aK
   split at cF
   ·cases cF
    intro hD
    rcases eR with e | e
    ·exact other k a hk aK i hi (e ▸ hD)
    ·have:=e i hD
     have:=(w.own k a hk).1.lt i hi
     omega
   ·exact w.apart k k' a du i hk cF bc hi
 ·rw [tc] at hk
  rw [VZ]
  split at hk
  ·rename_i aK
   cases hk
   rw [if_pos aK.symm,aK,gr]
   exact ⟨rfl,by simp⟩
  ·rename_i aK
   rw [if_neg fun e=>aK e.symm]
   exact w.has k a hk
 ·rw [tc] at hk
  rw [VZ]
  split at hk
  ·cases hk
  ·rename_i aK
   rw [if_neg fun e=>aK e.symm]
   exact w.va k hk
 ·rw [Rn,List.length_append]
  have:=w.len
  split<;>simp<;>omega
structure ln (cs out:List bm):Prop where
 mem:∀ c,c ∈ out↔kb (et cs c.at_)=some c
 up:out.Pairwise fun a b=>a.at_<b.at_
theorem aks {t:Option bm} {c d:bm} (h:uG t c=some d):d=c∨t=some d:=by
 cases t with
 | none=>left;exact (Option.some.inj h).symm
 | some t=>
  unfold uG at h
  simp only at h
  split at h
  ·left;exact (Option.some.inj h).symm
  ·right;exact h
theorem V1:∀ (l:List bm) (t:Option bm) {d:bm},l.foldl uG t=some d→d ∈ l∨t=some d
 | [],t,d,h=>.inr h
 | c::l,t,d,h=>by
  rcases V1 l (uG t c) h with h | h
  ·exact .inl (List.mem_cons_of_mem _ h)
  ·rcases aks h with h | h
   ·exact .inl (by rw [h];exact List.mem_cons_self)
   ·exact .inr h
theorem Gm {l:List bm} {d:bm} (h:kb l=some d):d ∈ l:=by
 rcases V1 l none h with h | h
 ·exact h
 ·cases h
theorem Ju {l:List bm} (h:l≠[]):∃ d,kb l=some d:=by
 obtain ⟨q,c,rfl⟩:∃ q c,l=q++[c]:=⟨l.dropLast,l.getLast h,(List.dropLast_concat_getLast h).symm⟩
 rw [OG]
 exact VV _ _
theorem Jv {cs:List bm} {k:Int} {c:bm}:c ∈ et cs k↔c ∈ cs∧c.at_=k:=by unfold et;rw [List.mem_filter];simp
theorem akt {cs:List bm} {m b1:kP} (st:dJ m) (has:∀ k a,bq m k=some a→a.2=et cs k∧a.2≠[]) (va:∀ k,bq m k=none→et cs k=[]) (az:b1.Perm m) {out:List bm}
  (av:out.Perm (b1.map fun e=>(kb e.2.2.2).getD mo)) (J:out.Pairwise fun a b=>¬b.at_<a.at_):ln cs out:=by
 have key:∀ e ∈ m,∃ d,kb e.2.2.2=some d∧d.at_=e.2.1∧e.2.2.2=et cs e.2.1:=fun e he=>by
  obtain ⟨h1,ab⟩:=has e.2.1 e.2.2 (fL st he)
  obtain ⟨d,a7⟩:=Ju ab
  have:=Gm a7
  rw [h1] at this
  exact ⟨d,a7,(Jv.1 this).2,h1⟩
 have ew:∀ c,c ∈ out↔kb (et cs c.at_)=some c:=fun c=>by
  rw [av.mem_iff,List.mem_map]
  constructor
  ·rintro ⟨e,he,rfl⟩
   obtain ⟨d,a7,h1,ab⟩:=key e (az.subset he)
   rw [a7]
   show kb (et cs d.at_)=some d
   rw [h1,←ab,a7]
  ·intro h
   cases hk:bq m c.at_ with
   | none=>
    rw [va c.at_ hk] at h
    cases h
   | some a=>
    obtain ⟨e,he,sJ⟩:=zl hk
    have aK:e.2.1=c.at_:=congrArg Prod.fst sJ
    obtain ⟨d,a7,h1,ab⟩:=key e he
    refine ⟨e,az.symm.subset he,?_⟩
    rw [a7]
    rw [aK] at ab
    rw [ab,h] at a7
    exact (Option.some.inj a7).symm
 refine ⟨ew,?_⟩
 have nd:(out.map (·.at_)).Nodup:=by
  rw [(av.map (·.at_)).nodup_iff,List.map_map]
  have aK:b1.map ((fun c:bm=>c.at_) ∘ fun e=>(kb e.2.2.2).getD mo)=b1.map (·.2.1):=by
   apply List.map_congr_left
   intro e he
   obtain ⟨d,a7,h1,_⟩:=key e (az.subset he)
   show ((kb e.2.2.2).getD mo).at_=e.2.1
   rw [a7];exact h1
  rw [aK]
  exact ((az.map (fun e:Nat×Int×(V×List bm)=>e.2.1)).nodup_iff).2 st
 exact (J.and (List.pairwise_map.1 nd)).imp fun {a b} ⟨h1,ab⟩=>by omega
theorem V2 {κ α:Type} [DecidableEq κ]:∀ {q:List (Nat×κ×α)},dJ q→∀ {x y},x ∈ q→y ∈ q→x.2.1=y.2.1→x=y
 | [],_,x,y,af,_,_=>by cases af
 | z::q,ae,x,y,af,aX,e=>by
  have dp:=List.nodup_cons.1 ae
  rcases List.mem_cons.1 af with h1 | h1
  ·rcases List.mem_cons.1 aX with ab | ab
   ·rw [h1,ab]
   ·exact absurd (List.mem_map.2 ⟨y,ab,by rw [←e,h1]⟩) dp.1
  ·rcases List.mem_cons.1 aX with ab | ab
   ·exact absurd (List.mem_map.2 ⟨x,h1,by rw [e,ab]⟩) dp.1
   ·exact V2 dp.2 h1 ab e
def gd (l:List bm):List V:=[.an l.length (l.flatMap aP)]
theorem pm (l:List bm):(gd l).length=1:=rfl
theorem aku {rows:List (List bm)} {k:Nat} (hk:k<rows.length) {kk:IntKind}:ik Tryz.prog 236 (.an rows.length (rows.flatMap gd)) (.int kk (k:Int))=some (.at (gd rows[k]++(rows.drop (k+1)).flatMap gd)):=xt (enc:=gd) (sz:=1) pm hk ahy
theorem akv (l:List bm) (r:List V):hI (some none) (some (gd l++r))=some (.an l.length (l.flatMap aP)):=rfl
def OJ (cs:List bm):Prop:=cs.length≤2 ^ 30∧∀ c ∈ cs,c.bytes.length≤2 ^ 40
theorem akw (h:I) (x:V) (l:List bm) (av:Own h 224 3 x (l.flatMap aP)) (aw:l.length≤2 ^ 40) :
  ah Tryz.prog 161 [x,.func (.func 162) [] []] h fun r U=>r=.tuple []∧aa h U (aW x)∧∃ b7:List bm,b7.Perm l∧(b7.Pairwise fun a b=>¬b.at_<a.at_)∧Own U 224 3 x (b7.flatMap aP):=by
 have e:∀ a b:bm,ltOf (fun a b:bm=>kN a.at_ b.at_) a b=decide (a.at_<b.at_):=fun a b=>by
  unfold ltOf kN
  rw [Bool.eq_iff_iff]
  simp only [decide_eq_true_eq]
  split<;>(try split)<;>omega
 refine (VA (cf:=fun a b=>kN a.at_ b.at_) ⟨fun a=>by rw [e];simp,fun a b c h1 ab=>by rw [e] at *;simp at *;omega,fun a b c h1 ab=>by rw [e] at *;simp at *;omega⟩
  (fun a b=>(OH a b qX).mono fun r U ad=>ad.1) (enters_of Tryz.func162 (by kernel_rfl) rfl) h x l av aw).mono fun r U ⟨h1,ab,b7,az,J,av⟩=>⟨h1,ab,b7,az,J.imp fun {a b} iX=>by rw [e] at iX;simpa using iX,av⟩
theorem akx {h:I} {v:V} {l:List bm} (o:Own h 224 3 v (l.flatMap aP)) (aw:l.length≤2 ^ 40) :
  ah Tryz.prog 158 [v,.func (.func 159) [] []] h fun r U=>r=.tuple [.agg (aP ((kb l).getD mo)),.bool (decide (0<l.length))]∧aa h U (aW v):=by
 obtain ⟨ab,c,k⟩:=aV.own o (n:=l.length) (kF se l) (by decide)
 exact (ah.args (aS.cons c (aS.refl _ _)) (akq l aw ab)).mono fun r U ⟨e,a6⟩=>⟨e,a6 ▸ k⟩
theorem merge (rows:List (List bm)) (J:OJ rows.flatten) (aq:rows.length≤2 ^ 30) (h:I):ah Tryz.prog 127 [.an rows.length (rows.flatMap gd)] h (fun r U=>∃ out,ln rows.flatten out∧Acc h U 224 3 r (out.flatMap aP)):=by
 refine ah.aH (c:=_) Tryz.func127 rfl (by kernel_rfl) (by simp) ?_
 simp only [ao,Nat.reduceEqDiff,reduceCtorEq,ag6]
 refine aZ.cu (α:=Nat×kP×Nat) (fun x f U=>f 3=.map h.n∧f 14=.an rows.length (rows.flatMap gd)∧f 15=.int .i64 (rows.length:Nat)∧f 16=.int .i64 (x.1:Nat)∧x.1≤rows.length∧mP h U h.n (rows.take x.1).flatten x.2.1 x.2.2) (fun x=>rows.length - x.1) (0,[],0)
  ⟨rfl,rfl,rfl,rfl,Nat.zero_le _,mP.start (aa.refl _ _)⟩ ?_
 rintro ⟨i,m,a1⟩ f h1 ⟨f3,f14,f15,f16,hi,w⟩
 simp only at f16 hi w
 refine gn (by kernel_rfl) ?_
 by_cases aT:i<rows.length
 ·have d1:decide ((i:Int)<((rows.length:Nat):Int))=true:=decide_eq_true (by omega)
  have hw:IntKind.i64.wrap ((i:Int)+1)=((i+1:Nat):Int):=by rw [Go.IntWalk.i64_in _ (by omega)];omega
  have fM:=aku (kk:=.i64) aT
  have bM:(rows.take (i+1)).flatten=(rows.take i).flatten++rows[i]:=by rw [List.take_succ_eq_append_getElem aT,List.flatten_append];simp
  have vJ:∀ c ∈ rows[i],c ∈ rows.flatten:=fun c al=>List.mem_flatten.2 ⟨_,List.getElem_mem _,al⟩
  have hlen:(rows.take i).flatten.length+rows[i].length≤2 ^ 30:=by
   have:(rows.take (i+1)).flatten.length≤rows.flatten.length:=by
    conv=>rhs;rw [←List.take_append_drop (i+1) rows,List.flatten_append,List.length_append]
    omega
   rw [bM,List.length_append] at this
   have:=J.1
   omega
  generalize rows[i]=l at fM bM vJ hlen
  generalize (rows.take i).flatten=cs at w bM hlen
  have ld:=akv
  simp only [ao,Nat.reduceEqDiff,xM,ag9,f14,f15,f16,d1,fM,ld]
  refine aZ.cu (α:=Nat×kP×Nat) (fun x f U=>f 3=.map h.n∧f 14=.an rows.length (rows.flatMap gd)∧f 15=.int .i64 (rows.length:Nat)∧f 16=.int .i64 (i:Nat)∧f 20=.an l.length (l.flatMap aP)∧f 21=.int .i64 (l.length:Nat)∧f 22=.int .i64 (x.1:Nat)∧x.1≤l.length∧mP h U h.n (cs++l.take x.1) x.2.1 x.2.2) (fun x=>l.length - x.1) (0,m,a1)
   ⟨f3,f14,f15,f16,rfl,rfl,rfl,Nat.zero_le _,by rw [List.take_zero,List.append_nil];exact w⟩ ?_
  clear f3 f14 f15 f16 w
  rintro ⟨j,m,a1⟩ f h1 ⟨f3,f14,f15,f16,f20,f21,f22,aC,w⟩
  simp only at f22 aC w
  refine gn (by kernel_rfl) ?_
  by_cases Gn:j<l.length
  ·have d2:decide ((j:Int)<((l.length:Nat):Int))=true:=decide_eq_true (by omega)
   have eS:IntKind.i64.wrap ((j:Int)+1)=((j+1:Nat):Int):=by rw [Go.IntWalk.i64_in _ (by omega)];omega
   have oJ:=VS (l:=l) (kk:=.i64) Gn
   have sU:cs++l.take (j+1)=cs++l.take j++[l[j]]:=by rw [List.take_succ_eq_append_getElem Gn,List.append_assoc]
   have oS:(cs++l.take j).length≤2 ^ 30:=by rw [List.length_append,List.length_take];omega
   generalize l[j]=c at oJ sU
   generalize cs++l.take j=anx at w oS sU
   have cc:=CR
   have st:=Gi
   have Gp:=Jt
   have V3:=OD
   have Gq:=OC
   have yh:=w.on (aa.push h1 (.cells (aP c) 224 none) none_)
   have nU:(h1.push (.cells (aP c) 224 none)).get h1.n=.cells (aP c) 224 none:=c4
   simp only [ao,Nat.reduceEqDiff,sc,rb,d8,f20,f21,f22,d2,oJ,Gq,cc,st]
   obtain ⟨V0,gr,i0⟩:=w.ru c.at_
   have aky:(cur m c.at_).2.length≤2 ^ 30:=by
    rw [gr];unfold et
    exact Nat.le_trans (List.length_filter_le _ _) oS
   obtain ⟨c0,_,_⟩:=yh.ru c.at_
   have nI:=akr m c.at_ yh.get
   have m1:¬aA (cur m c.at_).1=some h.n:=fun e=>(i0 _ e).2 rfl
   have m2:¬aA (cur m c.at_).1=some h1.n:=fun e=>by have:=V0.lt _ e;omega
   generalize ct:h1.push (.cells (aP c) 224 none)=c7 at yh nU nI c0⊢
   obtain ⟨v,ab,hF,cw,u3,oB⟩:=bv (P:=Tryz.prog) Fi (by decide) c0 (xs:=aP c) rfl rfl (fun m hm=>by
    change m * 3=_+3 at hm
    rw [kF se] at hm
    exact ⟨by simp only [lim];omega,by simp only [lim];omega⟩)
   have lit:=VU c7 c
   refine aZ.b4 (fun x=>aA (cur m c.at_).1=some x) [8,9,10] (.q 0 (.q 1 (.q 2 (.q 3 (.q 4 (.q 5 (.q 6 (.q 7 (.e 8 (.e 9 (.a 10 .done) .stop) .stop))))))))) (by kernel_rfl) (by kernel_rfl) (by kernel_rfl) ?_
   simp only [ao,b6,gV,aek,Nat.reduceEqDiff,E2,sc,bz,f3,nU,V3,Gp,nI,lit,hF,m1,m2]
   refine ⟨u3,?_⟩
   have V4:ab.get h.n=.map (qI m) a1:=(u3.get h.n yh.lt (fun ad=>m1 ad)).trans yh.get
   have hu:=OI m c.at_ v ((cur m c.at_).2++[c]) V4
   have Jw:=yh.add c u3 (by rw [List.flatMap_append];simpa using cw) oB
   simp only [ao,b6,gV,Nat.reduceEqDiff,hu,f22,eS]
   exact aR ⟨(j+1,cm a1 m c.at_ (v,(cur m c.at_).2++[c]),e5 a1 m c.at_),⟨f3,f14,f15,f16,f20,f21,rfl,Gn,by rw [sU];exact Jw⟩,by simp only;omega⟩
  ·have d2:decide ((j:Int)<((l.length:Nat):Int))=false:=decide_eq_false (by omega)
   rw [List.take_of_length_le (by omega),←bM] at w
   simp only [ao,Nat.reduceEqDiff,reduceCtorEq,f16,f21,f22,d2,hw]
   exact aR ⟨(i+1,m,a1),⟨f3,f14,f15,rfl,aT,w⟩,by simp only;omega⟩
 ·have d1:decide ((i:Int)<((rows.length:Nat):Int))=false:=decide_eq_false (by omega)
  rw [List.take_of_length_le (by omega)] at w
  obtain ⟨q,ae⟩:∃ q,eo Tryz.prog 280=some q:=by
   obtain ⟨fZ,hm,_⟩:=Gl
   exact ⟨_,hm⟩
  have nJ:=HK ae w.get
  have gY:(m.map (·.1)).Nodup:=by
   have:=w.st.2
   rwa [show (qI m).map (·.1)=m.map (·.1) from H4 m] at this
  have gi:m.length≤2 ^ 30:=Nat.le_trans w.len J.1
  have p3:∀ e ∈ m,∀ c ∈ e.2.2.2,c.bytes.length≤2 ^ 40:=fun e he c al=>by
   rw [(w.has e.2.1 e.2.2 (fL w.nd he)).1] at al
   exact J.2 c (Jv.1 al).1
  have Jx:∀ e ∈ m,e.2.2.2.length≤2 ^ 30:=fun e he=>by
   rw [(w.has e.2.1 e.2.2 (fL w.nd he)).1]
   unfold et
   exact Nat.le_trans (List.length_filter_le _ _) J.1
  have Ec:=w.lt
  simp only [ao,Nat.reduceEqDiff,f3,f15,f16,d1,nJ]
  refine aZ.cu (α:=kP) (fun b1 f U=>f 39=.ptr h1.n 0∧h1.n<U.n∧U.get h1.n=.iter h.n a1 (b1.map (·.1)) a1∧U.get h.n=.map (qI m) a1∧Acc h U 224 3 (f 8) ((b1.map fun e=>(kb e.2.2.2).getD mo).flatMap aP) ∧
   aA (f 8)≠some h1.n∧aA (f 8)≠some h.n∧(∀ e ∈ b1,e ∈ m)∧(b1.map (·.1)).Nodup∧(∀ e ∈ m,e.1 ∉ b1.map (·.1)→Own U 224 3 e.2.2.1 (e.2.2.2.flatMap aP)∧∀ i,aA e.2.2.1=some i→aA (f 8)≠some i)) (fun b1=>(l2 (qI m) (b1.map (·.1))).length) []
   ⟨rfl,by simp only [fR];omega,c4,(jN w.lt).trans w.get,Acc.nil (w.au.cB _),(show aA V.ag≠some h1.n by simp [aA]),(show aA V.ag≠some h.n by simp [aA]),by simp,by simp,
    fun e he _=>⟨((w.own e.2.1 e.2.2 (fL w.nd he)).1).cP (aa.push _ _ _),fun i _=>(show aA V.ag≠some i by simp [aA])⟩⟩ ?_
  rintro b1 f ab ⟨f39,fw,z6,uE,acc,jI,qs,jZ,mH,gW⟩
  refine gn (by kernel_rfl) ?_
  simp only [ao,f39]
  refine HH z6 uE w.st (fun hV=>?_) fun e he=>?_
  ·have az:=kw gY mH jZ (H5 hV)
   have jj:=az.length_eq
   simp only [ao,Nat.reduceEqDiff]
   refine cC Sy (akw ab (f 8) _ acc.own (by rw [List.length_map];omega)) fun r aI ⟨aK,b2,out,pl,aj,cw⟩=>?_
   subst aK
   simp only [ao,Nat.reduceEqDiff,bd,Tryz.results127,bT]
   exact aR ⟨out,akt w.nd w.has w.va az pl aj,cw,acc.au.trans b2 fun q ae e=>by have:=acc.new q e;omega,acc.new⟩
  ·obtain ⟨x,af,rfl,lX⟩:=H6 he
   have less:=HJ he
   obtain ⟨n3,pN,wk⟩:=H7 mH jZ af lX
   obtain ⟨Gr,idx⟩:=gW x af lX
   obtain ⟨jk,cn⟩:=w.has x.2.1 x.2.2 (fL w.nd af)
   have V5:=Jx x af
   have KH:=p3 x af
   have KI:∀ e ∈ m,e.1 ∉ (b1++[x]).map (·.1)→∀ i,aA e.2.2.1=some i→aA x.2.2.1≠some i:=fun e he aJ i hi=>by
    refine w.apart e.2.1 x.2.1 e.2.2 x.2.2 i (fL w.nd he) (fL w.nd af) (fun hk=>?_) hi
    have h1:=fL w.nd he
    have:e=x:=V2 w.nd he af hk
    subst this
    exact aJ (by simp)
   obtain ⟨xs,hq,o1,uA⟩:=x
   simp only at less he lX Gr idx jk cn V5 KH KI
   generalize hH:ab.set h1.n (.iter h.n a1 (b1.map (·.1)++[xs]) a1)=H
   have km:h.n≤h1.n:=by omega
   have Gs:aa ab H (fun q=>q=h1.n):=by rw [←hH];exact aa.set _ _ _
   have Bv:∀ i,aA o1=some i→i≠h1.n∧i≠h.n:=fun i hi=>by
    have h5:=(w.own hq (o1,uA) (fL w.nd af)).1.lt i hi
    have dT:=(w.own hq (o1,uA) (fL w.nd af)).2 i hi
    omega
   have pb:Acc h H 224 3 (f 8) ((b1.map fun e=>(kb e.2.2.2).getD mo).flatMap aP):=by rw [←hH];exact acc.set km jI _
   have o8:H.n=ab.n:=by rw [←hH];rfl
   have ng:H.get h1.n=.iter h.n a1 (b1.map (·.1)++[xs]) a1:=by rw [←hH];exact e4
   have rX:H.get h.n=.map (qI m) a1:=by rw [←hH];exact (nS (by omega)).trans uE
   have l0:=HI ng rX w.st (List.mem_filter.1 he).1
   simp only at l0
   have OK:=Gr.au Gs fun i hi e=>(Bv i hi).1 e
   simp only [ao,Nat.reduceEqDiff,f39,l0]
   refine cC af0 (akx OK (by omega)) fun r aI ⟨nh,b2⟩=>?_
   subst nh
   obtain ⟨b,ar⟩:=Ju cn
   have lA:b.bytes.length≤2 ^ 40:=KH b (Gm ar)
   have KJ:(kb uA).getD mo=b:=by rw [ar];rfl
   rw [KJ]
   have cc:=CR
   have st:=Gi
   have Gp:=Jt
   have V6:∀ q,aW o1 q→q≠h1.n∧q≠h.n:=fun q ae=>Bv q ae
   have a3:Acc h aI 224 3 (f 8) ((b1.map fun e=>(kb e.2.2.2).getD mo).flatMap aP) :=
    ⟨pb.own.au b2 fun i hi e=>idx i e hi,pb.au.trans b2 fun q ae e=>by have:=(w.own hq (o1,uA) (fL w.nd af)).2 q e;omega,pb.new⟩
   have anz:=b2.n
   have CO:=a3.on (aa.push aI (.cells (aP b) 224 none) none_)
   have g3:=(b2.get h1.n (by omega) (fun ad=>(Bv _ ad).1 rfl)).trans ng
   have V7:=(b2.get h.n (by omega) (fun ad=>(Bv _ ad).2 rfl)).trans rX
   have nU:(aI.push (.cells (aP b) 224 none)).get h1.n=.iter h.n a1 (b1.map (·.1)++[xs]) a1:=(jN (by omega)).trans g3
   have KK:(aI.push (.cells (aP b) 224 none)).get h.n=.map (qI m) a1:=(jN (by omega)).trans V7
   have Jl:(aI.push (.cells (aP b) 224 none)).get aI.n=.cells (aP b) 224 none:=c4
   have CP:(aI.push (.cells (aP b) 224 none)).n=aI.n+1:=rfl
   have gN:aa H (aI.push (.cells (aP b) 224 none)) (aW o1):=b2.cB _
   simp only [ao,Nat.reduceEqDiff,sc,rb,d8,cc,st,Gp]
   generalize aI.push (.cells (aP b) 224 none)=c7 at CO nU KK Jl CP gN⊢
   refine cK af2 (OE b lA c7) ?_
   have lit:=VU c7 b
   obtain ⟨bF,h4,hF,kG,iF,d4⟩:=bv (P:=Tryz.prog) Fi (by decide) CO.own (xs:=aP b) rfl rfl (fun m hm=>by
    change m * 3=_+3 at hm
    rw [kF se,List.length_map] at hm
    exact ⟨by simp only [lim];omega,by simp only [lim];omega⟩)
   have a4:=CO.step kG iF d4
   have Gb:=iF.n
   have bc:∀ k,k<c7.n→aA (f 8)≠some k→aA bF≠some k:=fun k hk ad e=>by
    rcases d4 with d | d
    ·exact ad (d ▸ e)
    ·have:=d _ e;omega
   simp only [ao,Nat.reduceEqDiff,lit,hF]
   refine aR ⟨b1++[(xs,hq,o1,uA)],⟨f39,by omega,?_,(iF.get h.n (by omega) (fun ad=>qs ad)).trans KK,?_,bc h1.n (by omega) jI,bc h.n (by omega) qs,pN,n3,fun e ph Gt=>?_⟩,?_⟩
   ·rw [iF.get h1.n (by omega) (fun ad=>jI ad),nU];simp
   ·refine a4.conv ?_
    rw [List.map_append,List.flatMap_append,List.map_cons,List.map_nil,KJ]
    simp
   ·obtain ⟨akz,LJ⟩:=gW e ph (fun ad=>Gt (by rw [List.map_append];exact List.mem_append_left _ ad))
    have KL:∀ i,aA e.2.2.1=some i→i<h1.n∧i≠h.n:=fun i hi=>by
     have h5:=(w.own e.2.1 e.2.2 (fL w.nd ph)).1.lt i hi
     have dT:=(w.own e.2.1 e.2.2 (fL w.nd ph)).2 i hi
     omega
    refine ⟨((akz.au Gs fun i hi a6=>by have:=(KL i hi).1;omega).au gN fun i hi a6=>KI e ph Gt i hi a6).au iF fun i hi a6=>LJ i hi a6,fun i hi=>bc i (by have:=(KL i hi).1;omega) (LJ i hi)⟩
   ·rw [List.map_append];exact less
theorem akA (rows:List (List bm)) (J:OJ rows.flatten) (aq:rows.length≤2 ^ 30) (h:I):ah Tryz.prog 127 [.an rows.length (rows.flatMap gd)] h (fun r U=>∃ out,ln rows.flatten out∧aa h U none_∧r=.an out.length (out.flatMap aP)) :=
 ah.cast ((merge rows J aq h).mono fun r U ⟨out,io,acc⟩=>by
  obtain ⟨ab,c,k2⟩:=acc.cast (n:=out.length) (kF se _) (by decide)
  exact ⟨_,ab,c,out,io,k2,rfl⟩)
theorem ln.sub {cs out:List bm} (w:ln cs out):∀ c ∈ out,c ∈ cs:=fun c al=>(Jv.1 (Gm ((w.mem c).1 al))).1
theorem akB (a b:List bm) (k:Int):et (a++b) k=et a k++et b k:=List.filter_append ..
abbrev cD:=List (List Nat)
def cellAt (l:cD) (k:Int):Option bm:=bq (eA l).2.1 k
def gJ (l:cD):Int:=(eA l).1
def used (l:cD):Nat:=(l.flatMap frame).length
def eR (room:Int) (ep at_:Int) (b:List Nat) (l:cD):cD×Int :=
 match gl (eA l) ep at_ b with
 | some e=>(l,e)
 | none=>if hc room (l.flatMap frame) (bw ⟨1,ep,at_,b⟩)=0 then (l++[bw ⟨1,ep,at_,b⟩],0) else (l,hc room (l.flatMap frame) (bw ⟨1,ep,at_,b⟩))
def cL (room:Int) (ep:Int) (l:cD):cD×Int :=
 match iw (eA l) ep with
 | some e=>(l,e)
 | none=>if hc room (l.flatMap frame) (bw (cj ep))=0 then (l++[bw (cj ep)],0) else (l,hc room (l.flatMap frame) (bw (cj ep)))
theorem V8 (l:cD) (p:List Nat):used (l++[p])=used l+(frame p).length:=by
 unfold used
 rw [List.flatMap_append,List.length_append]
 simp
theorem akC {l:cD} {ep at_:Int} {b:List Nat} (hw:gl (eA l) ep at_ b=none):eA (l++[bw ⟨1,ep,at_,b⟩])=fl (eA l) ⟨1,ep,at_,b⟩:=by
 obtain ⟨cq,ck,hh⟩:=VQ (VP hw)
 obtain ⟨aK,rfl⟩:∃ q:Nat,ep=q:=⟨ep.toNat,by omega⟩
 obtain ⟨a6,rfl⟩:∃ q:Nat,at_=q:=⟨at_.toNat,by omega⟩
 rw [Oz]
 exact VN _ aK a6 b hw
theorem V9 {s:gP} {ep:Int} (J:iw s ep=none):(0≤ep∧ep≤1048576)∧s.1<ep:=by
 unfold iw at J
 split at J
 ·cases J
 split at J
 ·cases J
 ·rename_i h1 ab
  have hm:nq ep=true:=by simpa using h1
  unfold nq at hm
  simp only [Bool.and_eq_true,decide_eq_true_eq] at hm
  exact ⟨hm,by omega⟩
theorem Wa {l:cD} {ep:Int} (J:iw (eA l) ep=none):eA (l++[bw (cj ep)])=fl (eA l) (cj ep):=by
 obtain ⟨cq,ck⟩:=V9 J
 obtain ⟨aK,rfl⟩:∃ q:Nat,ep=q:=⟨ep.toNat,by omega⟩
 rw [Oz]
 exact VM _ aK (by omega) ck
theorem akD (s:gP) (ep at_:Int) (b:List Nat):(fl s ⟨1,ep,at_,b⟩).1=s.1∧∀ k,bq (fl s ⟨1,ep,at_,b⟩).2.1 k=if k=at_ then some ⟨at_,ep,b⟩ else bq s.2.1 k:=by
 refine ⟨by unfold fl nt;simp,fun k=>?_⟩
 unfold fl mm
 simp only
 rw [if_neg (by decide),tc]
theorem Wb (s:gP) (ep:Int):(fl s (cj ep)).1=ep∧(fl s (cj ep)).2.1=s.2.1:=by
 unfold fl nt mm cj
 simp
theorem Jy (room ep at_:Int) (b:List Nat) (l:cD) :
  gJ (eR room ep at_ b l).1=gJ l∧(∀ k,k≠at_→cellAt (eR room ep at_ b l).1 k=cellAt l k) ∧
  (cellAt (eR room ep at_ b l).1 at_=cellAt l at_∨(cellAt (eR room ep at_ b l).1 at_=some ⟨at_,ep,b⟩∧∀ c,cellAt l at_=some c→c.aF<ep)) ∧
  ((eR room ep at_ b l).2=0→∃ c,cellAt (eR room ep at_ b l).1 at_=some c∧c.aF=ep∧c.bytes=b):=by
 unfold eR
 cases hw:gl (eA l) ep at_ b with
 | some e=>
  refine ⟨rfl,fun _ _=>rfl,.inl rfl,fun he=>?_⟩
  simp only at he
  subst he
  unfold gl at hw
  split at hw
  ·cases hw
  split at hw
  ·cases hw
  split at hw
  ·rename_i c al
   split at hw
   ·split at hw
    ·rename_i h1;exact ⟨c,al,h1.1,h1.2⟩
    ·cases hw
   ·cases hw
  ·cases hw
 | none=>
  simp only
  split
  ·have ed:=akC hw
   obtain ⟨bC,a2⟩:=akD (eA l) ep at_ b
   refine ⟨?_,fun k hk=>?_,.inr ⟨?_,fun c al=>?_⟩,fun _=>⟨⟨at_,ep,b⟩,?_,rfl,rfl⟩⟩
   ·unfold gJ;rw [ed,bC]
   ·unfold cellAt;rw [ed,a2,if_neg hk]
   ·unfold cellAt;rw [ed,a2,if_pos rfl]
   ·unfold cellAt at al
    unfold gl at hw
    rw [al] at hw
    simp only at hw
    split at hw
    ·cases hw
    split at hw
    ·cases hw
    split at hw
    ·split at hw<;>cases hw
    ·omega
   ·unfold cellAt;rw [ed,a2,if_pos rfl]
  ·rename_i c7
   exact ⟨rfl,fun _ _=>rfl,.inl rfl,fun he=>absurd he c7⟩
theorem akE {room ep at_:Int} {b:List Nat} {l:cD} (h1:gJ l≤ep) (ab:0≤ep∧ep≤1048576) (aI:0≤at_∧at_<4096) (h4:b.length≤2048) (h5:∀ c,cellAt l at_=some c→c.aF<ep) (dT:(used l:Int)+60+b.length≤room) :
  (eR room ep at_ b l).2=0∧used (eR room ep at_ b l).1≤used l+54+b.length:=by
 have hm:lQ ⟨1,ep,at_,b⟩=true:=by
  unfold lQ nq
  simp only [Bool.and_eq_true,decide_eq_true_eq]
  exact ⟨⟨aI,ab⟩,h4⟩
 have hw:gl (eA l) ep at_ b=none:=by
  unfold gl
  rw [if_neg (by rw [hm];decide),if_neg (by unfold gJ at h1;omega)]
  cases al:bq (eA l).2.1 at_ with
  | none=>rfl
  | some c=>simp only;rw [if_neg (by have:=h5 c al;omega)]
 have av:wi ⟨1,ep,at_,b⟩:=⟨by simp only;omega,by simp only;omega,by simp only;omega,h4⟩
 have c7:hc room (l.flatMap frame) (bw ⟨1,ep,at_,b⟩)=0:=KG av (by unfold used at dT;simp only;omega)
 have eM:=VR _ av
 unfold eR
 rw [hw]
 simp only
 rw [if_pos c7]
 refine ⟨rfl,?_⟩
 simp only at eM⊢
 rw [V8]
 omega
theorem Wc (room ep:Int) (l:cD) :
  (∀ k,cellAt (cL room ep l).1 k=cellAt l k)∧(gJ (cL room ep l).1=gJ l∨gJ (cL room ep l).1=ep):=by
 unfold cL
 cases J:iw (eA l) ep with
 | some e=>exact ⟨fun _=>rfl,.inl rfl⟩
 | none=>
  simp only
  split
  ·have ed:=Wa J
   obtain ⟨bC,a2⟩:=Wb (eA l) ep
   exact ⟨fun k=>by unfold cellAt;rw [ed,a2],.inr (by unfold gJ;rw [ed,bC])⟩
  ·exact ⟨fun _=>rfl,.inl rfl⟩
theorem Wd {room ep:Int} {l:cD} (h1:gJ l<ep) (ab:0≤ep∧ep≤1048576) (dT:(used l:Int)+60≤room) :
  (cL room ep l).2=0∧used (cL room ep l).1≤used l+54∧gJ (cL room ep l).1=ep:=by
 have J:iw (eA l) ep=none:=by
  unfold iw nq
  rw [if_neg (by simp [ab]),if_neg (by unfold gJ at h1;omega)]
 have av:wi (cj ep):=⟨by simp only [cj];omega,by simp only [cj];omega,by simp only [cj];omega,by simp [cj]⟩
 have c7:hc room (l.flatMap frame) (bw (cj ep))=0:=KG av (by unfold used at dT;simp only [cj,List.length_nil];omega)
 have eM:=VR _ av
 have ed:=Wa J
 obtain ⟨bC,a2⟩:=Wb (eA l) ep
 unfold cL
 rw [J]
 simp only
 rw [if_pos c7]
 simp only [cj,List.length_nil] at eM
 refine ⟨rfl,by simp only;rw [V8];simp only [cj];omega,?_⟩
 unfold gJ
 rw [ed,bC]
def b9 (P:Nat→Bool):Nat→Nat
 | 0=>0
 | i+1=>b9 P i+if P i=true then 1 else 0
theorem OL (P:Nat→Bool):∀ n,b9 P n≤n
 | 0=>Nat.le_refl _
 | i+1=>by have:=OL P i;unfold b9;split<;>omega
theorem Gu {P Q:Nat→Bool}:∀ {n},(∀ q,q<n→P q=true→Q q=true)→b9 P n≤b9 Q n
 | 0,_=>Nat.le_refl _
 | i+1,h=>by
  have ih:=Gu (P:=P) (Q:=Q) (n:=i) fun q ae=>h q (by omega)
  have h1:=h i (by omega)
  unfold b9
  by_cases az:P i=true
  ·rw [if_pos az,if_pos (h1 az)];omega
  ·rw [if_neg az];omega
theorem We {P Q:Nat→Bool} {n:Nat} (h:∀ q,q<n→P q=Q q):b9 P n=b9 Q n :=
 Nat.le_antisymm (Gu fun q ae az=>by rw [←h q ae];exact az) (Gu fun q ae az=>by rw [h q ae];exact az)
abbrev dM:=Nat→cD
def cT (f:cD→cD×Int) (rc:Nat→Bool) (i:Nat) (nd:dM):dM:=fun q=>if q<i∧rc q=true then (f (nd q)).1 else nd q
def ek (f:cD→cD×Int) (rc:Nat→Bool) (nd:dM) (q:Nat):Bool:=rc q&&((f (nd q)).2==0)
theorem Wf {f:cD→cD×Int} {rc:Nat→Bool} {nd:dM} {q:Nat} (h:ek f rc nd q=true):rc q=true∧(f (nd q)).2=0:=by
 unfold ek at h
 simpa using h
theorem Wg (f:cD→cD×Int) (rc:Nat→Bool) (nd:dM):cT f rc 0 nd=nd:=by
 funext q;unfold cT;rw [if_neg (by omega)]
theorem Wh (f:cD→cD×Int) (rc:Nat→Bool) (i:Nat) (nd:dM):cT f rc i nd i=nd i:=by
 unfold cT;rw [if_neg (by omega)]
theorem Wi (f:cD→cD×Int) (rc:Nat→Bool) (i:Nat) (nd:dM):cT f rc (i+1) nd=if rc i=true then fun q=>if q=i then (f (nd i)).1 else cT f rc i nd q else cT f rc i nd:=by
 funext q
 by_cases aq:rc i=true
 ·rw [if_pos aq]
  by_cases ae:q=i
  ·subst ae
   unfold cT
   simp only [if_true]
   rw [if_pos ⟨by omega,aq⟩]
  ·simp only [if_neg ae]
   unfold cT
   by_cases ab:q<i
   ·by_cases aI:rc q=true
    ·rw [if_pos ⟨by omega,aI⟩,if_pos ⟨ab,aI⟩]
    ·rw [if_neg fun h=>aI h.2,if_neg fun h=>aI h.2]
   ·rw [if_neg fun h=>by omega,if_neg fun h=>ab h.1]
 ·rw [if_neg aq]
  unfold cT
  by_cases ae:q=i
  ·subst ae;rw [if_neg fun h=>aq h.2,if_neg fun h=>aq h.2]
  ·by_cases ab:q<i
   ·by_cases aI:rc q=true
    ·rw [if_pos ⟨by omega,aI⟩,if_pos ⟨ab,aI⟩]
    ·rw [if_neg fun h=>aI h.2,if_neg fun h=>aI h.2]
   ·rw [if_neg fun h=>by omega,if_neg fun h=>ab h.1]
theorem tN {f:cD→cD×Int} {rc:Nat→Bool} {n q:Nat} {nd:dM} (ae:q<n):cT f rc n nd q=if rc q=true then (f (nd q)).1 else nd q:=by
 unfold cT
 by_cases h:rc q=true
 ·rw [if_pos ⟨ae,h⟩,if_pos h]
 ·rw [if_neg fun ad=>h ad.2,if_neg h]
def dR (room:Int) (n:Nat) (ep at_:Int) (b:List Nat) (rc:Nat→Bool) (nd:dM):dM×Bool :=
 (cT (eR room ep at_ b) rc n nd,decide (n / 2+1≤b9 (ek (eR room ep at_ b) rc nd) n))
def gX (room:Int) (n:Nat) (ep:Int) (rc:Nat→Bool):List (List Nat)→Nat→dM→dM×Bool
 | [],_,nd=>(nd,true)
 | b::r,at_,nd=>if (dR room n ep (at_:Int) b rc nd).2=true then gX room n ep rc r (at_+1) (dR room n ep (at_:Int) b rc nd).1 else ((dR room n ep (at_:Int) b rc nd).1,false)
def uH (P:Nat→Bool) (nd:dM) (k:Int):Nat→List bm
 | 0=>[]
 | i+1=>uH P nd k i++if P i=true then (cellAt (nd i) k).toList else []
theorem OM {P:Nat→Bool} {nd:dM} {k:Int} {c:bm}:∀ {n},c ∈ uH P nd k n↔∃ q,q<n∧P q=true∧cellAt (nd q) k=some c
 | 0=>by simp [uH]
 | i+1=>by
  unfold uH
  rw [List.mem_append,OM (n:=i)]
  constructor
  ·rintro (⟨q,h1,ab⟩ | h)
   ·exact ⟨q,by omega,ab⟩
   ·split at h
    ·rename_i az
     exact ⟨i,by omega,az,by simpa using h⟩
    ·cases h
  ·rintro ⟨q,h1,ab,aI⟩
   by_cases ae:q=i
   ·subst ae
    right;rw [if_pos ab,aI];simp
   ·exact .inl ⟨q,by omega,ab,aI⟩
structure Wj (tO:Int→List bm) (row:List (List Nat)):Prop where
 is:∀ k:Nat,(h:k<row.length)→row[k]=match kb (tO (k:Int)) with | some c=>c.bytes | none=>[]
 no:∀ k:Nat,row.length≤k→tO (k:Int)=[]
 top:row=[]∨tO ((row.length - 1:Nat):Int)≠[]
structure hd where
 nd:dM
 op:Bool
 ep:Int
 row:List (List Nat)
def qJ (room:Int) (n:Nat) (rc:Nat→Bool) (s bF:hd) (e:Int):Prop :=
 if n / 2+1≤b9 (ek (cL room (s.ep+1)) rc s.nd) n then
  ∃ row,Wj (fun k=>uH (ek (cL room (s.ep+1)) rc s.nd) s.nd k n) row ∧
   if (gX room n (s.ep+1) rc row 0 (cT (cL room (s.ep+1)) rc n s.nd)).2=true then bF=⟨(gX room n (s.ep+1) rc row 0 (cT (cL room (s.ep+1)) rc n s.nd)).1,true,s.ep+1,row⟩∧e=0
   else bF=⟨(gX room n (s.ep+1) rc row 0 (cT (cL room (s.ep+1)) rc n s.nd)).1,false,s.ep+1,s.row⟩∧e=8
 else bF=⟨cT (cL room (s.ep+1)) rc n s.nd,false,s.ep+1,s.row⟩∧e=8
def eG (room:Int) (n:Nat) (rc:Nat→Bool) (b:List Nat) (s:hd):hd×Nat×Int :=
 if s.op=false then (s,0,8) else
 if b.length=0∨2048<b.length then (s,0,2) else
 if 4096≤s.row.length then (s,0,3) else
 if (dR room n s.ep (s.row.length:Nat) b rc s.nd).2=true then (⟨(dR room n s.ep (s.row.length:Nat) b rc s.nd).1,true,s.ep,s.row++[b]⟩,s.row.length,0)
 else (⟨(dR room n s.ep (s.row.length:Nat) b rc s.nd).1,false,s.ep,s.row⟩,0,8)
structure yi (n:Nat) (ep:Int) (at_:Int) (b:List Nat) (nd nK:dM):Prop where
 other:∀ q,q<n→∀ k,k≠at_→cellAt (nK q) k=cellAt (nd q) k
 at_:∀ q,q<n→cellAt (nK q) at_=cellAt (nd q) at_∨(cellAt (nK q) at_=some ⟨at_,ep,b⟩∧∀ c,cellAt (nd q) at_=some c→c.aF<ep)
theorem ON (room:Int) (n:Nat) (ep at_:Int) (b:List Nat) (rc:Nat→Bool) (nd:dM):yi n ep at_ b nd (dR room n ep at_ b rc nd).1:=by
 constructor
 ·intro q ae k hk
  unfold dR
  simp only
  rw [tN ae]
  split
  ·exact (Jy room ep at_ b (nd q)).2.1 k hk
  ·rfl
 ·intro q ae
  unfold dR
  simp only
  rw [tN ae]
  split
  ·exact (Jy room ep at_ b (nd q)).2.2.1
  ·exact .inl rfl
theorem yi.step {n:Nat} {ep at_:Int} {b:List Nat} {nd nK:dM} (ws:yi n ep at_ b nd nK) {q:Nat} (ae:q<n) {k:Int} {c:bm} (al:cellAt (nK q) k=some c):cellAt (nd q) k=some c∨(k=at_∧c=⟨at_,ep,b⟩):=by
 by_cases hk:k=at_
 ·subst hk
  rcases ws.at_ q ae with e | ⟨e,_⟩
  ·rw [e] at al;exact .inl al
  ·rw [e] at al;exact .inr ⟨rfl,(Option.some.inj al).symm⟩
 ·rw [ws.other q ae k hk] at al;exact .inl al
structure Good (n:Nat) (nd:dM) (E:Int) (R:List (List Nat)) (B:Nat):Prop where
 ep:∀ q,q<n→gJ (nd q)≤E
 pO:∀ q,q<n→used (nd q)≤B
 r0:∀ q,q<n→∀ k c,cellAt (nd q) k=some c→∃ i:Nat,∃ h:i<R.length,k=(i:Int)∧c.bytes=R[i]∧c.aF≤E
def Full (R:List (List Nat)) (l:cD):Prop:=∀ i:Nat,i<R.length→∃ c,cellAt l (i:Int)=some c
theorem Good.Gv {n:Nat} {nd:dM} {E w8:Int} {R:List (List Nat)} {B HG:Nat} (w:Good n nd E R B) (h:E≤w8) (b3:B≤HG):Good n nd w8 R HG :=
 ⟨fun q ae=>Int.le_trans (w.ep q ae) h,fun q ae=>Nat.le_trans (w.pO q ae) b3,fun q ae k c al=>by
  obtain ⟨i,h1,ab,aI,h4⟩:=w.r0 q ae k c al
  exact ⟨i,h1,ab,aI,by omega⟩⟩
theorem Good.start (n:Nat) (nd:dM) (R:List (List Nat)) (h:∀ q,q<n→(∀ k,cellAt (nd q) k=none)∧gJ (nd q)≤0∧used (nd q)≤0):Good n nd 0 R 0 :=
 ⟨fun q ae=>(h q ae).2.1,fun q ae=>(h q ae).2.2,fun q ae k c al=>by rw [(h q ae).1] at al;cases al⟩
theorem akF {room:Int} {n:Nat} {E at_:Int} {b:List Nat} {rc:Nat→Bool} {nd:dM} {B:Nat} (h1:∀ q,q<n→gJ (nd q)≤E) (ab:0≤E∧E≤1048576) (aI:0≤at_∧at_<4096) (h4:b.length≤2048)
  (h5:∀ q,q<n→∀ c,cellAt (nd q) at_=some c→c.aF<E) (dT:∀ q,q<n→used (nd q)≤B) (lP:(B:Int)+60+b.length≤room) :
  b9 (ek (eR room E at_ b) rc nd) n=b9 rc n∧(∀ q,q<n→used ((dR room n E at_ b rc nd).1 q)≤B+54+b.length) ∧
  (∀ q,q<n→gJ ((dR room n E at_ b rc nd).1 q)≤E)∧(∀ q,q<n→rc q=true→∃ c,cellAt ((dR room n E at_ b rc nd).1 q) at_=some c):=by
 have key:∀ q,q<n→(eR room E at_ b (nd q)).2=0∧used (eR room E at_ b (nd q)).1≤used (nd q)+54+b.length:=fun q ae=>
  akE (h1 q ae) ab aI h4 (h5 q ae) (by have:=dT q ae;omega)
 refine ⟨We fun q ae=>?_,fun q ae=>?_,fun q ae=>?_,fun q ae aq=>?_⟩
 ·unfold ek;rw [(key q ae).1];simp
 ·unfold dR;simp only;rw [tN ae]
  have tr:=dT q ae
  have NK:=(key q ae).2
  split<;>omega
 ·unfold dR;simp only;rw [tN ae]
  split
  ·rw [(Jy room E at_ b (nd q)).1];exact h1 q ae
  ·exact h1 q ae
 ·unfold dR;simp only;rw [tN ae,if_pos aq]
  obtain ⟨c,al,_⟩:=(Jy room E at_ b (nd q)).2.2.2 (key q ae).1
  exact ⟨c,al⟩
theorem yi.full {n:Nat} {ep at_:Int} {b:List Nat} {nd nK:dM} (ws:yi n ep at_ b nd nK) {q:Nat} (ae:q<n) {k:Int} {c:bm} (al:cellAt (nd q) k=some c):∃ c,cellAt (nK q) k=some c:=by
 by_cases hk:k=at_
 ·subst hk
  rcases ws.at_ q ae with e | ⟨e,_⟩
  ·exact ⟨c,by rw [e];exact al⟩
  ·exact ⟨_,e⟩
 ·exact ⟨c,by rw [ws.other q ae k hk];exact al⟩
theorem Good.write {room:Int} {n:Nat} {nd:dM} {E:Int} {R:List (List Nat)} {B M:Nat} (w:Good n nd E R B) {at_:Nat} {b:List Nat} {rc:Nat→Bool} (dH:0≤E∧E≤1048576) (aL:at_<R.length) (ar:R[at_]=b) (h4:b.length≤M) (td:M≤2048) (aI:at_<4096)
  (h5:∀ q,q<n→∀ c,cellAt (nd q) (at_:Int)=some c→c.aF<E) (lP:((B+(60+M):Nat):Int)≤room) :
  b9 (ek (eR room E (at_:Int) b) rc nd) n=b9 rc n∧Good n (dR room n E (at_:Int) b rc nd).1 E R (B+(54+M))∧(∀ q,q<n→rc q=true→∃ c,cellAt ((dR room n E (at_:Int) b rc nd).1 q) (at_:Int)=some c):=by
 obtain ⟨bC,a2,a3,a4⟩:=akF (room:=room) (rc:=rc) (at_:=(at_:Int)) (b:=b) w.ep dH ⟨by omega,by omega⟩ (by omega) h5 w.pO (by omega)
 refine ⟨bC,⟨a3,fun q ae=>by have:=a2 q ae;omega,fun q ae k c al=>?_⟩,a4⟩
 rcases (ON room n E (at_:Int) b rc nd).step ae al with h | ⟨aK,rfl⟩
 ·exact w.r0 q ae k c h
 ·exact ⟨at_,aL,aK,ar.symm,Int.le_refl _⟩
theorem Wk {room:Int} {n:Nat} {E:Int} {rc:Nat→Bool} {R:List (List Nat)} {M:Nat} (td:M≤2048) (dH:0≤E∧E≤1048576) (ed:R.length≤4096) (ar:∀ b ∈ R,b.length≤M) (ae:n / 2+1≤b9 rc n) :
  ∀ (r pre:List (List Nat)) (nd:dM) (B:Nat),R=pre++r→Good n nd E R B→((B+r.length * (54+M)+(60+M):Nat):Int)≤room →
   (∀ q,q<n→∀ k c,cellAt (nd q) k=some c→(pre.length:Int)≤k→c.aF<E)→(∀ q,q<n→rc q=true→∀ i:Nat,i<pre.length→∃ c,cellAt (nd q) (i:Int)=some c) →
   (gX room n E rc r pre.length nd).2=true∧Good n (gX room n E rc r pre.length nd).1 E R (B+r.length * (54+M))∧(∀ q,q<n→rc q=true→Full R ((gX room n E rc r pre.length nd).1 q)) ∧
   (∀ q,q<n→∀ k c,cellAt (nd q) k=some c→∃ c,cellAt ((gX room n E rc r pre.length nd).1 q) k=some c)
 | [],pre,nd,B,aq,w,b3,lo,fu=>by
  rw [List.append_nil] at aq
  subst aq
  exact ⟨rfl,w.Gv (Int.le_refl _) (Nat.le_add_right _ _),fu,fun q ae k c al=>⟨c,al⟩⟩
 | b::r,pre,nd,B,aq,w,b3,lo,fu=>by
  have aT:pre.length<R.length:=by rw [aq];simp
  have kg:R[pre.length]=b:=by
   subst aq
   rw [List.getElem_append_right (Nat.le_refl _)]
   simp
  rw [List.length_cons,Nat.succ_mul] at b3
  generalize mZ:r.length * (54+M)=X at b3
  obtain ⟨bC,a2,a3⟩:=w.write (room:=room) (rc:=rc) dH aT kg (ar b (by rw [aq];simp)) td (by omega) (fun q ae c al=>lo q ae _ c al (Int.le_refl _)) (by omega)
  have ws:=ON room n E (pre.length:Nat) b rc nd
  have aU:(dR room n E (pre.length:Nat) b rc nd).2=true:=by
   unfold dR
   simp only [decide_eq_true_eq]
   rw [bC];exact ae
  have aw:(pre++[b]).length=pre.length+1:=by simp
  obtain ⟨bf,bx,c3,kl⟩:=Wk (room:=room) (rc:=rc) td dH ed ar ae r (pre++[b]) (dR room n E (pre.length:Nat) b rc nd).1 (B+(54+M)) (by rw [aq];simp) a2 (by rw [mZ];omega)
   (fun q ae k c al hk=>by
    rw [aw] at hk
    rcases ws.step ae al with h | ⟨e,rfl⟩
    ·exact lo q ae k c h (by omega)
    ·omega)
   (fun q ae aq i hi=>by
    rw [aw] at hi
    by_cases eN:i<pre.length
    ·obtain ⟨c,al⟩:=fu q ae aq i eN
     exact ws.full ae al
    ·have:i=pre.length:=by omega
     subst this
     exact a3 q ae aq)
  unfold gX
  rw [if_pos aU]
  rw [aw] at bf bx c3 kl
  exact ⟨bf,bx.Gv (Int.le_refl _) (by rw [List.length_cons,Nat.succ_mul,mZ];omega),c3,fun q ae k c al=>by
   obtain ⟨d,a7⟩:=ws.full ae al
   exact kl q ae k d a7⟩
theorem Good.open_ {room:Int} {n:Nat} {rc:Nat→Bool} {s bF:hd} {e:Int} {R:List (List Nat)} {B M:Nat} (w:Good n s.nd s.ep R B) (h:qJ room n rc s bF e) (td:M≤2048) (dH:0≤s.ep∧s.ep<1048576) (ed:R.length≤4096) (ar:∀ b ∈ R,b.length≤M)
  (ae:n / 2+1≤b9 rc n) (aB:R=[]∨∃ q,q<n∧rc q=true∧Full R (s.nd q)) (b3:((B+54+R.length * (54+M)+(60+M):Nat):Int)≤room) :
  e=0∧bF.row=R∧bF.op=true∧bF.ep=s.ep+1∧Good n bF.nd (s.ep+1) R (B+54+R.length * (54+M))∧(∀ q,q<n→rc q=true→Full R (bF.nd q))∧(∀ q,q<n→Full R (s.nd q)→Full R (bF.nd q)):=by
 have key:∀ q,q<n→(cL room (s.ep+1) (s.nd q)).2=0∧used (cL room (s.ep+1) (s.nd q)).1≤used (s.nd q)+54∧gJ (cL room (s.ep+1) (s.nd q)).1=s.ep+1:=fun q ae=>
  Wd (by have:=w.ep q ae;omega) ⟨by omega,by omega⟩ (by have:=w.pO q ae;generalize R.length * (54+M)=X at b3;omega)
 have OO:b9 (ek (cL room (s.ep+1)) rc s.nd) n=b9 rc n:=We fun q ae=>by unfold ek;rw [(key q ae).1];simp
 have same:∀ q,q<n→∀ k,cellAt (cT (cL room (s.ep+1)) rc n s.nd q) k=cellAt (s.nd q) k:=fun q ae k=>by
  rw [tN ae]
  split
  ·exact (Wc room (s.ep+1) (s.nd q)).1 k
  ·rfl
 have bK:Good n (cT (cL room (s.ep+1)) rc n s.nd) (s.ep+1) R (B+54):=by
  refine ⟨fun q ae=>?_,fun q ae=>?_,fun q ae k c al=>?_⟩
  ·rw [tN ae]
   split
   ·rw [(key q ae).2.2];exact Int.le_refl _
   ·have:=w.ep q ae;omega
  ·rw [tN ae]
   have:=w.pO q ae
   have:=(key q ae).2.1
   split<;>omega
  ·rw [same q ae] at al
   obtain ⟨i,h1,ab,aI,h4⟩:=w.r0 q ae k c al
   exact ⟨i,h1,ab,aI,by omega⟩
 unfold qJ at h
 rw [if_pos (by rw [OO];exact ae)] at h
 obtain ⟨row,Cm,h⟩:=h
 have aN:∀ (k:Int) (c:bm),c ∈ uH (ek (cL room (s.ep+1)) rc s.nd) s.nd k n→∃ i:Nat,∃ h:i<R.length,k=(i:Int)∧c.bytes=R[i]:=fun k c al=>by
  obtain ⟨q,h1,_,aI⟩:=OM.1 al
  obtain ⟨i,fM,oJ,kQ,_⟩:=w.r0 q h1 k c aI
  exact ⟨i,fM,oJ,kQ⟩
 have gU:row=R:=by
  have hle:∀ i:Nat,i<R.length→∃ c,c ∈ uH (ek (cL room (s.ep+1)) rc s.nd) s.nd (i:Int) n:=fun i hi=>by
   rcases aB with rfl | ⟨q,h1,ab,aI⟩
   ·cases hi
   ·obtain ⟨c,al⟩:=aI i hi
    exact ⟨c,OM.2 ⟨q,h1,by unfold ek;rw [ab,(key q h1).1];rfl,al⟩⟩
  have fg:R.length≤row.length:=by
   rcases Nat.lt_or_ge row.length R.length with h | h
   ·obtain ⟨c,al⟩:=hle row.length h
    rw [Cm.no row.length (Nat.le_refl _)] at al
    cases al
   ·exact h
  have dN:row.length≤R.length:=by
   rcases Cm.top with h | h
   ·rw [h];simp
   ·obtain ⟨d,a7⟩:=List.exists_mem_of_ne_nil _ h
    obtain ⟨i,h1,ab,_⟩:=aN _ d a7
    omega
  refine List.ext_getElem (by omega) fun i h1 ab=>?_
  obtain ⟨c,al⟩:=hle i ab
  obtain ⟨x,af⟩:=Ju (List.ne_nil_of_mem al)
  have eh:=Cm.is i h1
  simp only [af] at eh
  rw [eh]
  obtain ⟨j,wo,aoR,y3⟩:=aN _ x (Gm af)
  have:j=i:=by omega
  subst this
  exact y3
 subst gU
 obtain ⟨bf,bx,c3,kl⟩:=Wk (room:=room) (rc:=rc) (n:=n) (E:=s.ep+1) td ⟨by omega,by omega⟩ ed ar ae row [] (cT (cL room (s.ep+1)) rc n s.nd) (B+54) rfl bK b3
  (fun q ae k c al _=>by
   rw [same q ae] at al
   obtain ⟨i,h1,ab,aI,h4⟩:=w.r0 q ae k c al
   omega)
  (fun q ae aq i hi=>absurd hi (by simp))
 simp only [List.length_nil] at bf bx c3 kl
 rw [if_pos bf] at h
 obtain ⟨rfl,rfl⟩:=h
 exact ⟨rfl,rfl,rfl,rfl,bx,c3,fun q ae Wl i hi=>by
  obtain ⟨c,al⟩:=Wl i hi
  exact kl q ae _ c (by rw [same q ae];exact al)⟩
theorem Good.app {room:Int} {n:Nat} {rc:Nat→Bool} {s:hd} {b:List Nat} {B M:Nat} (w:Good n s.nd s.ep s.row B) (av:s.op=true) (td:M≤2048) (dH:0≤s.ep∧s.ep≤1048576) (ay:b.length≠0) (h1:b.length≤M) (aw:s.row.length<4096) (b3:((B+(60+M):Nat):Int)≤room) :
  Good n (eG room n rc b s).1.nd s.ep (s.row++[b]) (B+(54+M))∧(∀ q,q<n→rc q=true→Full s.row (s.nd q)→Full (s.row++[b]) ((eG room n rc b s).1.nd q))∧(eG room n rc b s).1.ep=s.ep ∧
  if n / 2+1≤b9 rc n then (eG room n rc b s).2=(s.row.length,0)∧(eG room n rc b s).1.row=s.row++[b]∧(eG room n rc b s).1.op=true
  else (eG room n rc b s).2=(0,8)∧(eG room n rc b s).1.row=s.row∧(eG room n rc b s).1.op=false:=by
 have bV:Good n s.nd s.ep (s.row++[b]) B:=⟨w.ep,w.pO,fun q ae k c al=>by
  obtain ⟨i,h1,ab,aI,h4⟩:=w.r0 q ae k c al
  exact ⟨i,by rw [List.length_append];omega,ab,by rw [List.getElem_append_left h1];exact aI,h4⟩⟩
 have h6:∀ q,q<n→∀ c,cellAt (s.nd q) (s.row.length:Nat)=some c→c.aF<s.ep:=fun q ae c al=>by
  obtain ⟨i,h1,ab,aI,h4⟩:=w.r0 q ae _ c al
  omega
 obtain ⟨bC,a2,a3⟩:=bV.write (room:=room) (rc:=rc) (at_:=s.row.length) (b:=b) dH (by simp) (by rw [List.getElem_append_right (Nat.le_refl _)];simp) h1 td aw h6 b3
 have ws:=ON room n s.ep (s.row.length:Nat) b rc s.nd
 have fu:∀ q,q<n→rc q=true→Full s.row (s.nd q)→Full (s.row++[b]) ((dR room n s.ep (s.row.length:Nat) b rc s.nd).1 q):=fun q ae aq aB i hi=>by
  by_cases eN:i<s.row.length
  ·obtain ⟨c,al⟩:=aB i eN
   exact ws.full ae al
  ·have:i=s.row.length:=by rw [List.length_append] at hi;simp at hi;omega
   subst this
   exact a3 q ae aq
 unfold eG
 rw [if_neg (by rw [av];decide),if_neg (by omega),if_neg (by omega)]
 have aU:(dR room n s.ep (s.row.length:Nat) b rc s.nd).2=decide (n / 2+1≤b9 rc n):=by unfold dR;simp only;rw [bC]
 by_cases ae:n / 2+1≤b9 rc n
 ·rw [if_pos (by rw [aU];simpa using ae),if_pos ae]
  exact ⟨a2,fu,rfl,rfl,rfl,rfl⟩
 ·rw [if_neg (by rw [aU];simpa using ae),if_neg ae]
  exact ⟨a2,fu,rfl,rfl,rfl,rfl⟩
theorem akG {room:Int} {n:Nat} {rc:Nat→Bool} {s bF:hd} {e:Int} (h:qJ room n rc s bF e) (ae:¬n / 2+1≤b9 rc n):e=8∧bF.op=false∧bF.row=s.row:=by
 unfold qJ at h
 rw [if_neg (fun ad=>ae (Nat.le_trans ad (Gu fun q _ az=>(Wf az).1)))] at h
 obtain ⟨rfl,rfl⟩:=h
 exact ⟨rfl,rfl,rfl⟩
theorem Wm {room:Int} {n:Nat} {rc:Nat→Bool} {s:hd} {b:List Nat} (h:s.op=false):eG room n rc b s=(s,0,8):=by
 unfold eG;rw [if_pos h]
theorem Wn {room:Int} {n:Nat} {rc:Nat→Bool} {s:hd} {b:List Nat} (h:s.op=true) (ar:b.length=0∨2048<b.length):eG room n rc b s=(s,0,2):=by
 unfold eG;rw [if_neg (by rw [h];decide),if_pos ar]
theorem Wo:l4 Tryz.prog 231:=⟨_,Tryz.func231,by kernel_rfl,by kernel_rfl,by kernel_rfl,by kernel_rfl,382,2,by kernel_rfl,by decide⟩
theorem Wp:l3 Tryz.prog 232:=⟨_,Tryz.func232,by kernel_rfl,by kernel_rfl,by kernel_rfl,by kernel_rfl,382,by kernel_rfl⟩
theorem Gw (h:I) (i:Nat) (x y:Int) (g:h.get i=.cells [.int .i64 x] 331 none) :
  ah Tryz.prog 196 [.ptr i 0,.int .i64 y] h (fun r U=>r=.int .i64 (IntKind.i64.wrap (x+y))∧U=h.set i (.cells [.int .i64 (IntKind.i64.wrap (x+y))] 331 none)):=by
 refine ah.aH (c:=_) Tryz.func196 rfl (by kernel_rfl) (by simp) ?_
 have aL:pk h [.ptr i 0,.int .i64 y]=some (.int .i64 (IntKind.i64.wrap (x+y)),h.set i (.cells [.int .i64 (IntKind.i64.wrap (x+y))] 331 none)):=by
  unfold pk;simp only [g];rfl
 simp only [ao,Nat.reduceEqDiff,reduceCtorEq,SL]
 refine abg ahf Wo aL ?_
 simp only [ao,Nat.reduceEqDiff,bd,Tryz.results196,bT]
 exact aR ⟨rfl,rfl⟩
theorem Wq (h:I) (i:Nat) (x:Int) (g:h.get i=.cells [.int .i64 x] 331 none):Pure Tryz.prog 197 [.ptr i 0] h (.int .i64 x):=by
 refine ah.aH (c:=_) Tryz.func197 rfl (by kernel_rfl) (by simp) ?_
 have aL:rI h [.ptr i 0]=some (.int .i64 x):=by unfold rI;simp only [g];rfl
 simp only [ao,Nat.reduceEqDiff,reduceCtorEq,SL]
 refine abf ahg Wp aL ?_
 simp only [ao,Nat.reduceEqDiff,bd,Tryz.results197,bT]
 exact aR ⟨rfl,rfl⟩
structure eg where
 a:Nat
 m:Nat
 k:Nat
 j:Nat
 i:Nat
 v:V
 pv:V
 bQ:Int
def fc (r:eg):Nat→Prop:=lG r.a r.m r.k r.j r.i r.v r.pv
structure gK (h:I) (room:Int) (r:eg) (l:cD):Prop where
 nd:IsNode h r.a r.m r.k r.j r.i room (l.flatMap frame) ((l.flatMap frame).length:Nat) r.v r.pv l r.bQ (eA l)
 ok:jH (eA l)
 pl:∀ p ∈ l,p.length≤4096∧∀ x ∈ p,x<256
theorem gK.au {h U:I} {room:Int} {r:eg} {l:cD} (d:gK h room r l) {own:Nat→Prop} (hk:aa h U own) (bc:∀ q,fc r q→¬own q):gK U room r l:=⟨d.nd.au hk bc,d.ok,d.pl⟩
theorem gK.lt {h:I} {room:Int} {r:eg} {l:cD} (d:gK h room r l):∀ q,fc r q→q<h.n:=d.nd.iO
def jJ (h U:I) (r r':eg):Prop:=r'.a=r.a∧r'.i=r.i∧aa h U (fc r)∧∀ q,fc r' q→fc r q∨h.n≤q
theorem jJ.of {h U:I} {r:eg} (k:aa h U none_):jJ h U r r:=⟨rfl,rfl,k.mono fun _ h=>h.elim,fun _ h=>.inl h⟩
theorem gK.Gx {h:I} {room:Int} {r:eg} {l:cD} (d:gK h room r l):OA ⟨0,fun _=>.dead,h.glob⟩ h r.a r.m r.k r.j r.i room r.v r.pv l r.bQ :=
 ⟨d.nd,d.ok,d.pl,fun _ _=>Nat.zero_le _,⟨Nat.zero_le _,fun _ ad=>absurd ad (Nat.not_lt_zero _),rfl⟩⟩
theorem gK.step {h U:I} {room:Int} {r:eg} {v' bS:V} {l:cD} {x:Act} (d:gK h room r l)
  (c9:IsNode U r.a r.m r.k r.j r.i room (l.flatMap frame++frame (bw x)) ((l.flatMap frame++frame (bw x)).length:Nat) v' bS (l++[bw x]) r.bQ (fl (eA l) x)) (fw:mj h r.i r.v v') (n3:aA bS=aA r.pv∨∀ y,aA bS=some y→h.n≤y) (n4:aa h U (lG r.a r.m r.k r.j r.i r.v r.pv))
  (af:ka (eA l) (bw x)=fl (eA l) x) (hw:jH (fl (eA l) x)) (az:(bw x).length≤4096∧∀ y ∈ bw x,y<256):gK U room { r with v:=v',pv:=bS } (l++[bw x])∧jJ h U r { r with v:=v',pv:=bS }:=by
 have ed:eA (l++[bw x])=fl (eA l) x:=by rw [Oz,af]
 have eM:(l++[bw x]).flatMap frame=l.flatMap frame++frame (bw x):=by simp
 refine ⟨⟨by rw [ed,eM];exact c9,by rw [ed];exact hw,fun p Wr=>?_⟩,rfl,rfl,n4,fun q ae=>?_⟩
 ·rcases List.mem_append.1 Wr with h1 | h1
  ·exact d.pl p h1
  ·simp at h1;subst h1;exact az
 ·rcases ae with ae | ae | ae | ae | ae | ae | ae
  ·exact .inl (.inl ae)
  ·exact .inl (.inr (.inl ae))
  ·exact .inl (.inr (.inr (.inl ae)))
  ·exact .inl (.inr (.inr (.inr (.inl ae))))
  ·exact .inl (.inr (.inr (.inr (.inr (.inl ae)))))
  ·rcases fw with fw | fw
   ·exact .inl (.inr (.inr (.inr (.inr (.inr (.inl (fw ▸ ae)))))))
   ·exact .inr (fw q ae)
  ·rcases n3 with n3 | n3
   ·exact .inl (.inr (.inr (.inr (.inr (.inr (.inr (n3 ▸ ae)))))))
   ·exact .inr (n3 q ae)
theorem akH {h:I} {room:Int} {r:eg} {l:cD} (d:gK h room r l) (ep at_:Int) (b:List Nat) (ar:∀ n ∈ b,n<256) (lA:b.length≤2 ^ 50) :
  ah Tryz.prog 164 [.ptr r.a 0,.int .i64 ep,.int .i64 at_,.an b.length (bp b)] h (fun x U=>x=.int .i64 (eR room ep at_ b l).2∧∃ r',gK U room r' (eR room ep at_ b l).1∧jJ h U r r'):=by
 refine (ajG h r.a r.m r.k r.j r.i room _ r.bQ _ r.v r.pv l (eA l) d.nd (by have:=d.Gx.len;omega) ep at_ b ar lA (fun c al=>(akl d.ok al).2.1)).mono fun x U az=>?_
 unfold eR
 cases hw:gl (eA l) ep at_ b with
 | some e=>
  rw [hw] at az
  exact ⟨az.1,r,⟨az.2.1,d.ok,d.pl⟩,jJ.of az.2.2⟩
 | none=>
  rw [hw] at az
  obtain ⟨e,az⟩:=az
  have hm:=VP hw
  obtain ⟨cq,ck,hh⟩:=VQ hm
  by_cases c7:hc room (l.flatMap frame) (bw ⟨1,ep,at_,b⟩)=0
  ·rw [if_pos c7] at az⊢
   obtain ⟨v',bS,c9,fw,n3,n4⟩:=az
   refine ⟨by rw [e,c7],_,d.step c9 fw n3 n4 ?_ (d.ok.write ep at_ b ar hm) (VO _ ⟨by simp only;omega,by simp only;omega,by simp only;omega,hh⟩ ar)⟩
   obtain ⟨aK,rfl⟩:∃ q:Nat,ep=q:=⟨ep.toNat,by omega⟩
   obtain ⟨a6,rfl⟩:∃ q:Nat,at_=q:=⟨at_.toNat,by omega⟩
   exact VN _ aK a6 b hw
  ·rw [if_neg c7] at az⊢
   exact ⟨e,r,⟨az.1,d.ok,d.pl⟩,jJ.of az.2⟩
theorem akI {h:I} {room:Int} {r:eg} {l:cD} (d:gK h room r l) (ep:Int) :
  ah Tryz.prog 157 [.ptr r.a 0,.int .i64 ep] h (fun x U=>∃ rv,x=.tuple [rv,.int .i64 (cL room ep l).2]∧((cL room ep l).2≠0→rv=.ag)∧∃ r',gK U room r' (cL room ep l).1∧jJ h U r r' ∧
   ((cL room ep l).2=0→∃ out:List bm,out.Perm ((eA l).2.1.map (·.2.2))∧(out.Pairwise fun a b=>¬b.at_<a.at_)∧Own U 224 3 rv (out.flatMap aP)∧(∀ q,aA rv=some q→h.n≤q∧¬fc r' q))):=by
 have hll:=d.Gx.len
 have jG:=OB l (0,[],0)
 refine (akc h r.a r.m r.k r.j r.i room _ r.bQ _ r.v r.pv l (eA l) d.nd d.ok (by omega) (by unfold eA;simp only [List.length_nil] at jG;omega) ep).mono fun x U az=>?_
 unfold cL
 cases J:iw (eA l) ep with
 | some e=>
  rw [J] at az
  refine ⟨.ag,az.1,fun _=>rfl,r,⟨az.2.1,d.ok,d.pl⟩,jJ.of az.2.2,fun he=>?_⟩
  simp only at he
  subst he
  unfold iw at J
  split at J
  ·cases J
  split at J<;>cases J
 | none=>
  rw [J] at az
  obtain ⟨hm,aT⟩:=V9 J
  by_cases c7:hc room (l.flatMap frame) (bw (cj ep))=0
  ·simp only at az⊢
   rw [if_pos c7] at az⊢
   obtain ⟨v',bS,rv,out,e,c9,c0,cw,o3,kG,fw,n3,n4⟩:=az
   have st:=d.step c9 fw n3 n4 (by
    obtain ⟨aK,rfl⟩:∃ q:Nat,ep=q:=⟨ep.toNat,by omega⟩
    exact VM _ aK (by omega) aT) (d.ok.Gh ep) (VO _ ⟨by simp only [cj];omega,by simp only [cj];omega,by simp only [cj];omega,by simp [cj]⟩ (by simp [cj]))
   exact ⟨rv,e,fun ad=>absurd rfl ad,_,st.1,st.2,fun _=>⟨out,c0,cw,o3,kG⟩⟩
  ·simp only at az⊢
   rw [if_neg c7] at az⊢
   exact ⟨.ag,az.1,fun _=>rfl,r,⟨az.2.1,d.ok,d.pl⟩,jJ.of az.2.2,fun he=>absurd he c7⟩
theorem akJ {h:I} {room safe:Int} {i:Nat} {v:V} {l:cD} (a7:cz h (.ptr i 0) room (lF (l.flatMap frame)) safe i v) (ok:jH (eA l)) (pl:∀ p ∈ l,p.length≤4096∧∀ x ∈ p,x<256) :
  ah Tryz.prog 51 [.ptr i 0] h (fun x U=>∃ r',x=.ptr r'.a 0∧gK U room r' l∧r'.i=i∧aa h U (nV i v)∧∀ q,fc r' q→nV i v q∨h.n≤q):=by
 have ar:∀ x ∈ l.flatMap frame,x<256:=fun x af=>by
  obtain ⟨p,az,af⟩:=List.mem_flatMap.1 af
  have he:=v7 p.length p.length (Nat.le_refl _)
  unfold frame kI at af
  rcases List.mem_append.1 af with af | af
  ·rcases List.mem_append.1 af with af | af
   ·exact he x af
   ·exact (pl p az).2 x af
  ·simp only [fB,List.mem_cons,List.not_mem_nil,or_false] at af
   rcases af with rfl | rfl | rfl | rfl<;>exact aiY _ _
 have J:=akh l (fun p az=>(pl p az).1)
 refine (ajC h i room (l.flatMap frame) ar _ v a7).mono fun x U ⟨du,e0,k',Ih,v2,Gy,e,c9,i1,aL,hm,cF,aC,az,eu⟩=>?_
 rw [J] at c9
 simp only [List.take_length,Int.sub_self] at c9
 refine ⟨⟨du,e0,k',Ih,i,v2,Gy,0⟩,e,⟨c9,ok,pl⟩,rfl,eu,fun q ae=>?_⟩
 rcases ae with ae | ae | ae | ae | ae | ae | ae
 ·right;simp only at ae;omega
 ·right;simp only at ae;omega
 ·right;simp only at ae;omega
 ·right;simp only at ae;omega
 ·exact .inl (.inl ae)
 ·exact .inl (.inr (by rw [←i1];exact ae))
 ·exact .inr (az q ae)
def dx (f:Nat→Nat) (n:Nat):List V:=(List.range n).map fun q=>V.ptr (f q) 0
theorem Gz (f:Nat→Nat) (n:Nat):(dx f n).length=n:=by simp [dx]
theorem akK {f:Nat→Nat} {n k:Nat} (hk:k<(dx f n).length):(dx f n)[k]=V.ptr (f k) 0:=by simp [dx]
theorem CS {f g:Nat→Nat} {n:Nat} (h:∀ q,q<n→f q=g q):dx f n=dx g n:=by
 unfold dx
 refine List.map_congr_left fun q ae=>?_
 rw [h q (by simpa using ae)]
structure cU (h:I) (room:Int) (n:Nat) (rs:Nat→eg) (nd:dM) (ow:Nat→Nat):Prop where
 nd:∀ q,q<n→gK h room (rs q) (nd q)
 iG:∀ q,q<n→∀ x,fc (rs q) x→ow x=q+5
 bt:∀ x,ow x≠0→x<h.n
open Classical in
noncomputable def oK (ow:Nat→Nat) (hZ:Nat) (P:Nat→Prop) (t:Nat):Nat→Nat:=fun x=>if x<hZ then ow x else if P x then t else 0
theorem Jz {ow:Nat→Nat} {hZ:Nat} {P:Nat→Prop} {t x:Nat} (h:x<hZ):oK ow hZ P t x=ow x:=by unfold oK;rw [if_pos h]
theorem akL {ow:Nat→Nat} {hZ:Nat} {P:Nat→Prop} {t x:Nat} (h:hZ≤x) (az:P x):oK ow hZ P t x=t:=by unfold oK;rw [if_neg (by omega),if_pos az]
theorem akM {ow:Nat→Nat} {hZ c9:Nat} {P:Nat→Prop} {t:Nat} (aJ:hZ≤c9) (az:∀ x,P x→x<c9):∀ x,oK ow hZ P t x≠0→x<c9:=fun x af=>by
 unfold oK at af
 split at af
 ·omega
 ·split at af
  ·rename_i ad;exact az x ad
  ·exact absurd rfl af
theorem cU.on {h U:I} {room:Int} {n:Nat} {rs:Nat→eg} {nd:dM} {ow:Nat→Nat} (w:cU h room n rs nd ow) {own:Nat→Prop} (k:aa h U own) (aJ:∀ x,own x→ow x<5):cU U room n rs nd ow :=
 ⟨fun q ae=>(w.nd q ae).au k fun x af ad=>by have:=w.iG q ae x af;have:=aJ x ad;omega,w.iG,fun x af=>Nat.lt_of_lt_of_le (w.bt x af) k.n⟩
def gg {α:Type} (f:Nat→α) (q:Nat) (a:α):Nat→α:=fun x=>if x=q then a else f x
theorem pP {α:Type} {f:Nat→α} {q:Nat} {a:α}:gg f q a q=a:=by unfold gg;rw [if_pos rfl]
theorem lR {α:Type} {f:Nat→α} {q x:Nat} {a:α} (h:x≠q):gg f q a x=f x:=by unfold gg;rw [if_neg h]
theorem cU.step {h U:I} {room:Int} {n:Nat} {rs:Nat→eg} {nd:dM} {ow:Nat→Nat} (w:cU h room n rs nd ow) {q:Nat} (ae:q<n) {r':eg} {b7:cD} (d:gK U room r' b7) (hk:aa h U (fc (rs q))) (af:∀ x,fc r' x→fc (rs q) x∨h.n≤x) :
  cU U room n (gg rs q r') (gg nd q b7) (oK ow h.n (fc r') (q+5))∧aa h U (fun x=>5≤ow x):=by
 refine ⟨⟨fun p az=>?_,fun p az x cn=>?_,akM hk.n d.lt⟩,hk.mono fun x ad=>by have:=w.iG q ae x ad;omega⟩
 ·by_cases e:p=q
  ·subst e;rw [pP,pP];exact d
  ·rw [lR e,lR e]
   exact (w.nd p az).au hk fun x h1 ab=>by have:=w.iG p az x h1;have:=w.iG q ae x ab;omega
 ·by_cases e:p=q
  ·subst e
   rw [pP] at cn
   rcases af x cn with h1 | h1
   ·rw [Jz ((w.nd p az).lt x h1)];exact w.iG p az x h1
   ·exact akL h1 cn
  ·rw [lR e] at cn
   rw [Jz ((w.nd p az).lt x cn)];exact w.iG p az x cn
structure gh (h U:I) (n:Nat) (rs db:Nat→eg) (ow ow':Nat→Nat):Prop where
 au:aa h U (fun x=>5≤ow x)
 a:∀ q,q<n→(db q).a=(rs q).a
 i:∀ q,q<n→(db q).i=(rs q).i
 ow:∀ x,x<h.n→ow' x=ow x
theorem gh.refl (h:I) (n:Nat) (rs:Nat→eg) (ow:Nat→Nat):gh h h n rs rs ow ow:=⟨aa.refl _ _,fun _ _=>rfl,fun _ _=>rfl,fun _ _=>rfl⟩
theorem gh.trans {h h1 ab:I} {n:Nat} {rs eW tP:Nat→eg} {ow ea ow2:Nat→Nat} (a:gh h h1 n rs eW ow ea) (b:gh h1 ab n eW tP ea ow2):gh h ab n rs tP ow ow2 :=
 ⟨a.au.trans b.au fun x af ad=>by rw [a.ow x af] at ad;exact ad,fun q ae=>(b.a q ae).trans (a.a q ae),fun q ae=>(b.i q ae).trans (a.i q ae),fun x af=>(b.ow x (Nat.lt_of_lt_of_le af a.au.n)).trans (a.ow x af)⟩
theorem gh.on {h h1 ab:I} {n:Nat} {rs eW:Nat→eg} {ow ea:Nat→Nat} (a:gh h h1 n rs eW ow ea) {own:Nat→Prop} (k:aa h1 ab own) (aJ:∀ x,x<h.n→¬own x):gh h ab n rs eW ow ea :=
 ⟨a.au.trans k fun x af ad=>absurd ad (aJ x af),a.a,a.i,a.ow⟩
theorem OP {h:I} {room:Int} {r:eg} {l:cD} (d:gK h room r l) {L bf bx c3:Nat} {dv bL pv op:V} {ep at_:Int} {b:List Nat} (ar:∀ n ∈ b,n<256) (lA:b.length≤2 ^ 40)
  (jU:h.get L=.cells [dv,bL,op,.int .i64 ep,pv] 115 none) (g1:h.get bf=.cells [.ptr L 0] 67 none) (g2:h.get bx=.cells [.int .i64 at_] 3 none) (g3:h.get c3=.cells [.an b.length (bp b)] 56 none) (akN:¬fc r L) (c9:¬fc r bf) (fw:¬fc r bx) (n3:¬fc r c3) :
  ah Tryz.prog 163 [.ptr r.a 0,.ptr bf 0,.ptr bx 0,.ptr c3 0] h (fun x U=>x=.int .i64 (eR room ep at_ b l).2∧∃ r',gK U room r' (eR room ep at_ b l).1∧jJ h U r r'):=by
 have d3:cW (aD.cells [dv,bL,op,.int .i64 ep,pv] 115 none) 3=some [.int .i64 ep,pv]:=rfl
 refine ah.aH (c:=_) Tryz.func163 rfl (by kernel_rfl) (by simp) ?_
 simp only [ao]
 refine aZ.b4 (fun x=>fc r x) [7] (.q 0 (.q 1 (.q 2 (.q 3 (.q 4 (.q 5 (.q 6 (.a 7 (.q 8 .done))))))))) (by kernel_rfl) (by kernel_rfl) (by kernel_rfl) ?_
 simp only [ao,b6,gV,Nat.reduceEqDiff,reduceCtorEq,M9,bz,lB,xP,jU,g1,g2,g3,d3,akN,c9,fw,n3]
 refine cC af4 (akH d ep at_ b ar (Nat.le_trans lA (by decide))) fun x U ⟨e,r',hU,st⟩=>?_
 subst e
 simp only [ao,b6,gV,Nat.reduceEqDiff,bd,Tryz.results163,bT]
 exact aR ⟨rfl,r',hU,st⟩
theorem Ws {h:I} {t e:TypeId} {v:V} {f:Nat→Nat} {n:Nat} (J:ee Tryz.prog t=some 1) (o:Own h e 1 v (dx f n)) {k:Nat} (hk:k<n) :
  ∃ i q,ik Tryz.prog t v (.int .i64 (k:Int))=some (.ptr i k)∧aA v=some i∧cW (h.get i) k=some (V.ptr (f k) 0::q):=by
 have cF:k<(dx f n).length:=by rw [Gz];exact hk
 obtain ⟨j,fM,oJ,⟨pQ,kQ⟩,JA⟩:=y2 (P:=Tryz.prog) (t:=t) (kk:=.i64) J o (k:=k) cF
 exact ⟨j,pQ,fM,oJ,by rw [kQ,akK cF]⟩
def vb (b:Bool):List V:=[.bool b]
def oL (l:List Bool):List V:=l.flatMap vb
def bH (l:List Bool) (q:Nat):Bool:=l.getD q false
theorem Wt {l:List Bool} {q:Nat} (h:q<l.length):bH l q=l[q]:=by unfold bH;rw [List.getD_eq_getElem?_getD,List.getElem?_eq_getElem h];rfl
theorem Wu {l:List Bool} {q:Nat} (h:l.length≤q):bH l q=false:=by unfold bH;rw [List.getD_eq_getElem?_getD,List.getElem?_eq_none h];rfl
theorem akO {l:List Bool} {k:Nat} (hk:k<l.length):ik Tryz.prog 34 (.an l.length (oL l)) (.int .i64 (k:Int))=some (.at (vb l[k]++(l.drop (k+1)).flatMap vb)):=xt (enc:=vb) (sz:=1) (fun _=>rfl) hk Nu
structure e7 (h:I) (ow:Nat→Nat) (rv:V) (l:List Bool):Prop where
 v:rv=.an l.length (oL l)∨Own h 4 1 rv (oL l)
 ow:∀ x,aA rv=some x→ow x=0
theorem Wv (l:List Bool):(oL l).length=l.length:=by
 have:=kF (enc:=vb) (sz:=1) (fun _=>rfl) l
 rwa [Nat.mul_one] at this
theorem akP {l:List Bool} {i:Nat} (h:i<(oL l).length) (ab:i<l.length):(oL l)[i]=.bool l[i]:=by
 have e:oL l=l.map V.bool:=by
  unfold oL vb
  clear h ab
  induction l with
  | nil=>rfl
  | cons b l ih=>simp [ih]
 simp only [e,List.getElem_map]
theorem e7.len {h:I} {ow:Nat→Nat} {rv:V} {l:List Bool} (r:e7 h ow rv l):cE Tryz.prog 34 rv h=some (.int .i64 (l.length:Nat)):=by
 rcases r.v with e | o
 ·rw [e];exact Dt xN
 ·have:=o.length (by decide) Tryz.prog (t:=34) xN
  rw [Nat.div_one,Wv] at this
  exact this
theorem e7.gm {h:I} {ow:Nat→Nat} {rv:V} {l:List Bool} (r:e7 h ow rv l) {i:Nat} (hi:i<l.length):∃ p pQ,ik Tryz.prog 34 rv (.int .i64 (i:Int))=some p∧mT h p=some (V.bool l[i]::pQ):=by
 rcases r.v with e | o
 ·rw [e];exact ⟨_,_,akO hi,rfl⟩
 ·have cF:i<(oL l).length:=by rw [Wv];exact hi
  obtain ⟨j,fM,oJ,⟨pQ,kQ⟩,_⟩:=y2 (P:=Tryz.prog) (t:=34) (kk:=.i64) Nu o (k:=i) cF
  rw [akP cF hi] at kQ
  exact ⟨_,pQ,fM,by rw [QB];exact kQ⟩
theorem e7.on {h U:I} {ow ow':Nat→Nat} {rv:V} {l:List Bool} (r:e7 h ow rv l) {own:Nat→Prop} (k:aa h U own) (aJ:∀ x,x<h.n→ow x=0→¬own x) (av:∀ x,x<h.n→ow x=0→ow' x=0):e7 U ow' rv l:=by
 rcases r.v with e | o
 ·exact ⟨.inl e,fun x af=>by rw [e] at af;cases af⟩
 ·exact ⟨.inr (o.au k fun x af=>aJ x (o.lt x af) (r.ow x af)),fun x af=>av x (o.lt x af) (r.ow x af)⟩
theorem akQ {h:I} {room:Int} {n:Nat} {rs:Nat→eg} {nd:dM} {ow:Nat→Nat} (w:cU h room n rs nd ow) {L bf bx c3:Nat} {dv bL pv op:V} {ep at_:Int} {b:List Nat} (ar:∀ n ∈ b,n<256) (lA:b.length≤2 ^ 40)
  (jU:h.get L=.cells [dv,bL,op,.int .i64 ep,pv] 115 none) (g1:h.get bf=.cells [.ptr L 0] 67 none) (g2:h.get bx=.cells [.int .i64 at_] 3 none) (g3:h.get c3=.cells [.an b.length (bp b)] 56 none)
  (pc:L<h.n∧ow L<5) (fg:bf<h.n∧ow bf<5) (dN:bx<h.n∧ow bx<5) (jM:c3<h.n∧ow c3<5) (mq:Own h 119 1 bL (dx (fun q=>(rs q).a) n)) (r1:∀ x,aA bL=some x→ow x<5) (aJ:n≤2 ^ 30) (reach:List Bool) {rv:V} (hf:e7 h ow rv reach) (aq:reach.length≤2 ^ 47) :
  ah Tryz.prog 155 [.ptr L 0,rv,.func (.func 163) [] [.ptr bf 0,.ptr bx 0,.ptr c3 0]] h (fun x U=>x=.bool (dR room n ep at_ b (bH reach) nd).2 ∧
   ∃ db ow',cU U room n db (dR room n ep at_ b (bH reach) nd).1 ow'∧gh h U n rs db ow ow'):=by
 have xl:ow h.n=0:=by
  cases ae:ow h.n with
  | zero=>rfl
  | succ k=>have:=w.bt h.n (by omega);omega
 have gN:aa h (h.push (.cells [.int .i64 0] 331 none)) none_:=aa.push _ _ _
 have aoS:h.get L=.cells [dv,bL,op,.int .i64 ep,pv] 115 none:=jU
 have rV:cW (aD.cells [dv,bL,op,.int .i64 ep,pv] 115 none) 1=some [bL,op,.int .i64 ep,pv]:=rfl
 have GA:(h.push (.cells [.int .i64 0] 331 none)).get L=.cells [dv,bL,op,.int .i64 ep,pv] 115 none:=(jN pc.1).trans jU
 have hlen:∀ {h1:I} {eW:Nat→eg},Own h1 119 1 bL (dx (fun q=>(eW q).a) n)→cE Tryz.prog 112 bL h1=some (.int .i64 (n:Nat)):=fun {h1 eW} o=>by
  have:=o.length (by decide) Tryz.prog (t:=112) SS
  rw [Gz,Nat.div_one] at this
  exact this
 have OQ:=mq.cP gN
 have z8:=hlen OQ
 refine ah.aH (c:=_) Tryz.func155 rfl (by kernel_rfl) (by simp) ?_
 simp only [ao,Nat.reduceEqDiff,reduceCtorEq,Cp,E8,Tk,GA,rV,z8]
 refine aZ.cu (α:=Nat×(Nat→eg)×(Nat→Nat)) (fun x f h1=>f 0=.ptr L 0∧f 1=rv∧f 2=.func (.func 163) [] [.ptr bf 0,.ptr bx 0,.ptr c3 0]∧f 7=.ptr h.n 0∧f 13=bL∧f 14=.int .i64 (n:Nat)∧f 15=.int .i64 (x.1:Nat)∧x.1≤n ∧
   cU h1 room n x.2.1 (cT (eR room ep at_ b) (bH reach) x.1 nd) x.2.2∧gh h h1 n rs x.2.1 ow x.2.2∧h1.get h.n=.cells [.int .i64 (b9 (ek (eR room ep at_ b) (bH reach) nd) x.1:Nat)] 331 none∧x.2.2 h.n=0∧h.n<h1.n) (fun x=>n - x.1) (0,rs,ow)
  ⟨rfl,rfl,rfl,rfl,rfl,rfl,rfl,Nat.zero_le _,(by rw [Wg];exact w.on gN (fun x af=>af.elim)),(gh.refl h n rs ow).on gN (fun x _ af=>af),c4,xl,Nat.lt_succ_self _⟩ ?_
 rintro ⟨i,eW,ea⟩ f h1 ⟨f0,f1,f2,f7,f13,f14,f15,hi,bK,s1,gc,c0,c9⟩
 simp only at f15 hi bK s1 gc c0
 have nw:∀ x,x<h.n→ow x<5→h1.get x=h.get x:=fun x af av=>s1.au.get x af (by omega)
 have yj:=(nw L pc.1 pc.2).trans jU
 have yk:Own h1 119 1 bL (dx (fun q=>(eW q).a) n):=by
  rw [CS (f:=fun q=>(eW q).a) (g:=fun q=>(rs q).a) fun q ae=>s1.a q ae]
  exact mq.au s1.au fun x af ad=>by have:=r1 x af;omega
 have yl:=hf.on (ow':=ea) s1.au (fun x af ay=>by rw [ay];decide) (fun x af ay=>(s1.ow x af).trans ay)
 have pR:=yl.len
 refine gn (by kernel_rfl) ?_
 by_cases aT:i<n
 ·have jA:decide ((i:Int)<((n:Nat):Int))=true:=decide_eq_true (by omega)
  obtain ⟨j,q,fM,oJ,kQ⟩:=Ws (t:=112) Tb yk aT
  have hw:IntKind.i64.wrap ((i:Int)+1)=((i+1:Nat):Int):=by rw [Go.IntWalk.i64_in _ (by omega)];rfl
  have oU:=Wi (eR room ep at_ b) (bH reach) i nd
  by_cases mA:i<reach.length
  ·have qK:decide ((i:Int)<((reach.length:Nat):Int))=true:=decide_eq_true (by omega)
   obtain ⟨nu,pQ,wo,kB⟩:=yl.gm mA
   have eh:=Wt mA
   cases eC:reach[i] with
   | false=>
    rw [eC] at kB eh
    have aK:cT (eR room ep at_ b) (bH reach) (i+1) nd=cT (eR room ep at_ b) (bH reach) i nd:=by rw [oU,if_neg (by rw [eh];decide)]
    have a6:b9 (ek (eR room ep at_ b) (bH reach) nd) (i+1)=b9 (ek (eR room ep at_ b) (bH reach) nd) i:=by
     show _+_=_
     rw [if_neg (by unfold ek;rw [eh];simp)]
     all_goals rfl
    simp only [ao,Nat.reduceEqDiff,Ct,iN,f1,f13,f14,f15,jA,pR,qK,fM,kQ,wo,kB,hw]
    exact aR ⟨(i+1,eW,ea),⟨f0,f1,f2,f7,f13,f14,rfl,aT,by rw [aK];exact bK,s1,by rw [a6];exact gc,c0,c9⟩,by simp only;omega⟩
   | true=>
    rw [eC] at kB eh
    have d0:=bK.nd i aT
    rw [Wh] at d0
    have wq:∀ x,x<h.n→ow x<5→¬fc (eW i) x:=fun x af av ad=>by have:=bK.iG i aT x ad;have:=s1.ow x af;omega
    simp only [ao,Nat.reduceEqDiff,Ct,iN,f1,f2,f13,f14,f15,jA,pR,qK,fM,kQ,wo,kB]
    refine cC af3 (OP d0 ar lA yj ((nw bf fg.1 fg.2).trans g1) ((nw bx dN.1 dN.2).trans g2) ((nw c3 jM.1 jM.2).trans g3) (wq L pc.1 pc.2) (wq bf fg.1 fg.2) (wq bx dN.1 dN.2) (wq c3 jM.1 jM.2)) fun x ab ⟨ex,r',hU,st⟩=>?_
    subst ex
    obtain ⟨st1,st2,tG,tH⟩:=st
    obtain ⟨bV,k2⟩:=bK.step aT hU tG tH
    have aK:cT (eR room ep at_ b) (bH reach) (i+1) nd=gg (cT (eR room ep at_ b) (bH reach) i nd) i (eR room ep at_ b (nd i)).1:=by rw [oU,if_pos eh];rfl
    rw [←aK] at bV
    have s2:gh h ab n rs (gg eW i r') ow (oK ea h1.n (fc r') (i+5)):=s1.trans ⟨k2,fun q ae=>by
      by_cases e:q=i
      ·subst e;rw [pP];exact st1
      ·rw [lR e],fun q ae=>by
      by_cases e:q=i
      ·subst e;rw [pP];exact st2
      ·rw [lR e],fun x af=>Jz af⟩
    have ym:=(k2.get h.n c9 (by rw [c0];omega)).trans gc
    have fw:=k2.n
    have cw:oK ea h1.n (fc r') (i+5) h.n=0:=by rw [Jz c9];exact c0
    by_cases bB:(eR room ep at_ b (nd i)).2=0
    ·have a6:b9 (ek (eR room ep at_ b) (bH reach) nd) (i+1)=b9 (ek (eR room ep at_ b) (bH reach) nd) i+1:=by
      show _+_=_
      rw [if_pos (by unfold ek;rw [eh,bB];rfl)]
     have Ww:=OL (ek (eR room ep at_ b) (bH reach) nd) i
     have GB:IntKind.i64.wrap (((b9 (ek (eR room ep at_ b) (bH reach) nd) i:Nat):Int)+1)=((b9 (ek (eR room ep at_ b) (bH reach) nd) (i+1):Nat):Int):=by
      rw [a6,Go.IntWalk.i64_in _ (by omega)];rfl
     have qu:((0:Int)==0)=true:=rfl
     rw [bB]
     simp only [ao,Nat.reduceEqDiff,f7]
     refine cC SA (Gw ab h.n _ 1 ym) fun x aI ⟨ex,OR⟩=>?_
     subst ex;subst OR
     rw [GB]
     have dY:∀ o,aa ab (ab.set h.n o) (·=h.n):=fun o=>aa.set _ _ _
     simp only [ao,Nat.reduceEqDiff,f15,hw]
     exact aR ⟨(i+1,gg eW i r',oK ea h1.n (fc r') (i+5)),⟨f0,f1,f2,f7,f13,f14,rfl,aT,bV.on (dY _) (fun x af=>by subst af;rw [cw];omega),s2.on (dY _) (fun x af ad=>by omega),e4,cw,by simp only [kE];omega⟩,by simp only;omega⟩
    ·have a6:b9 (ek (eR room ep at_ b) (bH reach) nd) (i+1)=b9 (ek (eR room ep at_ b) (bH reach) nd) i:=by
      show _+_=_
      rw [if_neg (by unfold ek;simp [bB])]
      all_goals rfl
     have qu:((eR room ep at_ b (nd i)).2==0)=false:=by simp [bB]
     simp only [ao,Nat.reduceEqDiff,f15,qu,hw]
     exact aR ⟨(i+1,gg eW i r',oK ea h1.n (fc r') (i+5)),⟨f0,f1,f2,f7,f13,f14,rfl,aT,bV,s2,by rw [a6];exact ym,cw,by omega⟩,by simp only;omega⟩
  ·have qK:decide ((i:Int)<((reach.length:Nat):Int))=false:=decide_eq_false (by omega)
   have eh:=Wu (l:=reach) (q:=i) (by omega)
   have aK:cT (eR room ep at_ b) (bH reach) (i+1) nd=cT (eR room ep at_ b) (bH reach) i nd:=by rw [oU,if_neg (by rw [eh];decide)]
   have a6:b9 (ek (eR room ep at_ b) (bH reach) nd) (i+1)=b9 (ek (eR room ep at_ b) (bH reach) nd) i:=by
    show _+_=_
    rw [if_neg (by unfold ek;rw [eh];simp)]
    all_goals rfl
   simp only [ao,Nat.reduceEqDiff,Ct,f1,f13,f14,f15,jA,pR,qK,fM,kQ,hw]
   exact aR ⟨(i+1,eW,ea),⟨f0,f1,f2,f7,f13,f14,rfl,aT,by rw [aK];exact bK,s1,by rw [a6];exact gc,c0,c9⟩,by simp only;omega⟩
 ·have jA:decide ((i:Int)<((n:Nat):Int))=false:=decide_eq_false (by omega)
  have gO:i=n:=by omega
  subst gO
  have pM:=hlen yk
  have fin:decide (((i:Nat):Int) / 2+1≤((b9 (ek (eR room ep at_ b) (bH reach) nd) i:Nat):Int))=(dR room i ep at_ b (bH reach) nd).2:=by
   unfold dR
   rw [Bool.eq_iff_iff,decide_eq_true_iff,decide_eq_true_iff]
   omega
  simp only [ao,f14,f15,jA]
  refine aZ.b4 none_ [] (.c 0 (.q 1 (.q 2 (.q 3 (.q 4 (.q 5 (.c 6 (.q 7 (.q 8 .done))))))))) (by kernel_rfl) (by kernel_rfl) (by kernel_rfl) ?_
  refine jQ (v:=.int .i64 (b9 (ek (eR room ep at_ b) (bH reach) nd) i:Nat)) rfl rfl rfl (fun U hk=>?_) ?_
  ·show Ab.Pure Tryz.prog 197 [f 7] U _
   rw [f7]
   refine Wq U h.n _ ?_
   rcases hk with hk | hk
   ·exact (hk.get h.n c9 (fun ad=>ad)).trans gc
   ·rw [hk];exact gc
  simp only [ao,b6,Nat.reduceEqDiff,reduceCtorEq,Cp,E8,f0,yj,rV,pM]
  refine jQ rfl rfl rfl (fun U _=>VY (i:Int) (by omega) (by omega) U) ?_
  simp only [ao,b6,Nat.reduceEqDiff,fin,bd,Tryz.results155,bT]
  exact aR ⟨rfl,eW,ea,bK,s1⟩
theorem Wx:∀ {es:mO},dJ es→(∀ e ∈ es,e.2.2.at_=e.2.1)→∀ k,et (es.map (·.2.2)) k=(bq es k).toList
 | [],_,_,k=>rfl
 | e::es,aJ,aL,k=>by
  have jh:=List.nodup_cons.1 aJ
  have ih:=Wx (es:=es) jh.2 (fun x af=>aL x (by simp [af])) k
  have ay:=aL e (by simp)
  unfold et at ih⊢
  rw [List.map_cons,List.filter_cons]
  unfold bq
  by_cases hk:k=e.2.1
  ·rw [if_pos (by rw [ay,hk];simp),if_pos hk,ih]
   have:bq es k=none:=m0.2 fun x af ad=>jh.1 (List.mem_map.2 ⟨x,af,by rw [ad,hk]⟩)
   rw [this];rfl
  ·rw [if_neg (by rw [ay];simpa using fun h=>hk h.symm),if_neg hk,ih]
theorem akR {l:cD} (w:jH (eA l)) {out:List bm} (p:out.Perm ((eA l).2.1.map (·.2.2))) (k:Int):et out k=(cellAt l k).toList:=by
 have h1:(et out k).Perm (et ((eA l).2.1.map (·.2.2)) k):=by unfold et;exact p.filter _
 rw [Wx w.nd (fun e he=>(w.nW e he).2.2.2.2)] at h1
 show _=(bq (eA l).2.1 k).toList
 cases aE:bq (eA l).2.1 k with
 | none=>rw [aE] at h1;exact h1.eq_nil
 | some c=>rw [aE] at h1;exact List.perm_singleton.1 h1
theorem akS {l:cD} (w:jH (eA l)) {out:List bm} (p:out.Perm ((eA l).2.1.map (·.2.2))):∀ c ∈ out,(c.bytes.length≤2048∧∀ x ∈ c.bytes,x<256)∧0≤c.at_∧c.at_<4096:=fun c al=>by
 obtain ⟨e,he,rfl⟩:=List.mem_map.1 (p.mem_iff.1 al)
 obtain ⟨s1,s2,h0,gp,Js⟩:=w.nW e he
 rw [Js]
 exact ⟨⟨s1,s2⟩,h0,gp⟩
theorem akT {h:I} {room:Int} {r:eg} {l:cD} (d:gK h room r l) {out:List bm} (p:out.Perm ((eA l).2.1.map (·.2.2))):out.length≤1048576:=by
 have h1:=p.length_eq
 rw [List.length_map] at h1
 have ab:=OB l (0,[],0)
 have aI:=d.Gx.len
 unfold eA at h1
 simp only [List.length_nil] at ab
 omega
theorem akU {h:I} {room:Int} {r:eg} {l:cD} (d:gK h room r l) (ep:Int) :
  ah Tryz.prog 157 [.ptr r.a 0,.int .i64 ep] h (fun x U=>∃ out:List bm,x=.tuple [.an out.length (out.flatMap aP),.int .i64 (cL room ep l).2]∧((cL room ep l).2=0→out.Perm ((eA l).2.1.map (·.2.2)))∧∃ r',gK U room r' (cL room ep l).1∧jJ h U r r'):=by
 refine ah.cast ((akI d ep).mono fun x U ⟨rv,e,J,r',hU,st,bB⟩=>?_)
 subst e
 by_cases ay:(cL room ep l).2=0
 ·obtain ⟨out,c0,cw,o3,kG⟩:=bB ay
  obtain ⟨ab,c,k⟩:=aV.own o3 (n:=out.length) (kF se _) (by decide)
  have bc:∀ q,fc r' q→¬aW rv q:=fun q ae ad=>(kG q ad).2 ae
  obtain ⟨s1,s2,h0,gp⟩:=st
  exact ⟨_,ab,aV.tuple (aS.cons c (aS.refl _ _)),out,rfl,fun _=>c0,r',hU.au k bc,s1,s2,h0.trans k fun q ae ad=>by have:=(kG q ad).1;omega,gp⟩
 ·have:=J ay
  subst this
  exact ⟨_,_,aV.tuple (aS.cons (aV.la _) (aS.refl _ _)),[],rfl,fun ad=>absurd ad ay,r',hU,st⟩
theorem OS {h:I} {room:Int} {r:eg} {l:cD} (d:gK h room r l) {L bf hg:Nat} {dv bL pv op mQ:V} {ep:Int} {rows:List (List bm)} (jG:rows.length≤2 ^ 20)
  (jU:h.get L=.cells [dv,bL,op,.int .i64 ep,pv] 115 none) (g1:h.get bf=.cells [.ptr L 0] 67 none) (g6:h.get hg=.cells [mQ] 236 none) (yn:hg<h.n) (Aa:Own h 240 1 mQ (rows.flatMap gd))
  (n6:¬fc r hg) (yp:∀ x,aA mQ=some x→¬fc r x∧x≠hg) :
  ah Tryz.prog 156 [.ptr r.a 0,.ptr bf 0,.ptr hg 0] h (fun x U=>x=.int .i64 (cL room ep l).2∧∃ r' lH rows',gK U room r' (cL room ep l).1∧r'.a=r.a∧r'.i=r.i∧(∀ q,fc r' q→fc r q∨h.n≤q) ∧
   aa h U (fun x=>fc r x∨x=hg∨aA mQ=some x)∧U.get hg=.cells [lH] 236 none∧Own U 240 1 lH (rows'.flatMap gd)∧(aA lH=aA mQ∨∀ x,aA lH=some x→h.n≤x∧¬fc r' x)∧(∀ x,aA lH=some x→x≠hg∧x<U.n) ∧
   (((cL room ep l).2≠0∧rows'=rows)∨((cL room ep l).2=0∧∃ out:List bm,rows'=rows++[out]∧out.Perm ((eA l).2.1.map (·.2.2))))):=by
 have d3:cW (aD.cells [dv,bL,op,.int .i64 ep,pv] 115 none) 3=some [.int .i64 ep,pv]:=rfl
 refine ah.aH (c:=_) Tryz.func156 rfl (by kernel_rfl) (by simp) ?_
 simp only [ao,Nat.reduceEqDiff,reduceCtorEq,M9,bz,xP,jU,g1,d3]
 refine cC afZ (akU d ep) fun x h1 ⟨out,e,av,r',hU,s1,s2,h0,gp⟩=>?_
 subst e
 have Bw:h1.get hg=.cells [mQ] 236 none:=(h0.get hg yn n6).trans g6
 have GC:Own h1 240 1 mQ (rows.flatMap gd):=Aa.au h0 fun x af ad=>(yp x af).1 ad
 have Wy:=h0.n
 by_cases ay:(cL room ep l).2=0
 case neg=>
  have jA:((cL room ep l).2==0)=false:=by simp [ay]
  simp only [ao,Nat.reduceEqDiff,jA,bd,Tryz.results156,bT]
  exact aR ⟨rfl,r',mQ,rows,hU,s1,s2,gp,h0.mono fun _ ad=>.inl ad,Bw,GC,.inl rfl,fun x af=>⟨(yp x af).2,by have:=GC.lt x af;omega⟩,.inl ⟨ay,rfl⟩⟩
 have jA:((cL room ep l).2==0)=true:=by simp [ay]
 obtain ⟨v,ab,hF,cw,k2,oB⟩:=bv (P:=Tryz.prog) S6 (by decide) GC (xs:=gd out) rfl rfl (fun m hm=>by
  have aK:(rows.flatMap gd).length=rows.length * 1:=kF pm _
  change m * 1=_+1 at hm
  rw [aK] at hm
  exact ⟨by simp only [lim];omega,by simp only [lim];omega⟩)
 obtain ⟨Ac,v1⟩:=we cw
 have lit:iA Tryz.prog 236 1 [(0,.an out.length (out.flatMap aP))] h1=some (.aj h1.n 0 1 1,h1.push (.cells (gd out) 240 none)):=by rw [lN S6];rfl
 have GD:hg<h1.n:=by omega
 have nU:(h1.push (.cells (gd out) 240 none)).get hg=.cells [mQ] 236 none:=(jN GD).trans Bw
 have Wz:¬aW mQ hg:=fun ad=>(yp hg ad).2 rfl
 have WA:ab.get hg=.cells [mQ] 236 none:=(k2.get hg GD Wz).trans Bw
 have KM:=k2.n
 have dY:∀ o,aa ab (ab.set hg o) (·=hg):=fun o=>aa.set _ _ _
 have KN:∀ x,aA v=some x→x≠hg:=fun x af ad=>by
  rcases oB with e | e
  ·rw [e] at af;exact (yp x af).2 ad
  ·have:=e x af;omega
 have zU:gK (ab.set hg (.cells [v] 236 none)) room r' (cL room ep l).1:=(hU.au k2 fun x af ad=>by
   rcases gp x af with h5 | h5
   ·exact (yp x ad).1 h5
   ·have:=Aa.lt x ad;omega).au (dY _) fun x af ad=>by
   subst ad
   rcases gp _ af with h5 | h5
   ·exact n6 h5
   ·omega
 simp only [ao,Nat.reduceEqDiff,SY,ahO,jA,Bw,lit,hF,WA,Ac,v1,bd,Tryz.results156,bT]
 refine aR ⟨rfl,r',v,rows++[out],zU,s1,s2,gp,?_,e4,?_,?_,fun x af=>⟨KN x af,cw.lt x af⟩,.inr ⟨ay,out,rfl,av ay⟩⟩
 ·refine ((h0.mono fun _ ad=>Or.inl ad).trans k2 fun q ae ad=>.inr (.inr ad)).trans (dY _) fun q ae ad=>.inr (.inl ad)
 ·refine (?_:Own ab 240 1 v ((rows++[out]).flatMap gd)).au (dY _) fun x af ad=>KN x af ad
  rw [List.flatMap_append]
  simpa using cw
 ·rcases oB with e | e
  ·exact .inl e
  ·exact .inr fun x af=>⟨by have:=e x af;omega,fun ad=>by have:=e x af;have:=hU.lt x ad;omega⟩
def GF:Nat:=1048576
structure mR (P:Nat→Bool) (nd:dM) (n:Nat) (rows:List (List bm)):Prop where
 at_:∀ k,et rows.flatten k=uH P nd k n
 len:rows.flatten.length≤n * GF
 sg:rows.length≤n
 nW:∀ c ∈ rows.flatten,(c.bytes.length≤2048∧∀ x ∈ c.bytes,x<256)∧0≤c.at_∧c.at_<4096
theorem mR.nil (P:Nat→Bool) (nd:dM):mR P nd 0 []:=⟨fun _=>rfl,Nat.zero_le _,Nat.le_refl _,fun c al=>by cases al⟩
theorem mR.skip {P:Nat→Bool} {nd:dM} {n:Nat} {rows:List (List bm)} (w:mR P nd n rows) (h:P n=false):mR P nd (n+1) rows :=
 ⟨fun k=>by unfold uH;rw [if_neg (by rw [h];decide),List.append_nil];exact w.at_ k,by rw [Nat.succ_mul];exact Nat.le_trans w.len (Nat.le_add_right _ _),by have:=w.sg;omega,w.nW⟩
theorem mR.more {P:Nat→Bool} {nd:dM} {n:Nat} {rows:List (List bm)} (w:mR P nd n rows) (h:P n=true) {out:List bm} (av:∀ k,et out k=(cellAt (nd n) k).toList) (aw:out.length≤GF) (J:∀ c ∈ out,(c.bytes.length≤2048∧∀ x ∈ c.bytes,x<256)∧0≤c.at_∧c.at_<4096):mR P nd (n+1) (rows++[out]):=by
 have aB:(rows++[out]).flatten=rows.flatten++out:=by simp
 refine ⟨fun k=>?_,?_,?_,fun c al=>?_⟩
 ·unfold uH
  rw [if_pos h,aB,akB,w.at_,av]
 ·rw [aB,List.length_append,Nat.succ_mul];exact Nat.add_le_add w.len aw
 ·rw [List.length_append];have:=w.sg;simp;omega
 ·rw [aB] at al
  rcases List.mem_append.1 al with h1 | h1
  ·exact w.nW c h1
  ·exact J c h1
open Classical in
noncomputable def iY (ow:Nat→Nat) (hZ:Nat) (P:Nat→Prop) (t:Nat) (tQ:Nat→Prop) (t2:Nat):Nat→Nat:=fun x=>if x<hZ then ow x else if P x then t else if tQ x then t2 else 0
theorem JB {ow:Nat→Nat} {hZ:Nat} {P tQ:Nat→Prop} {t t2 x:Nat} (h:x<hZ):iY ow hZ P t tQ t2 x=ow x:=by unfold iY;rw [if_pos h]
theorem akV {ow:Nat→Nat} {hZ:Nat} {P tQ:Nat→Prop} {t t2 x:Nat} (h:hZ≤x) (az:P x):iY ow hZ P t tQ t2 x=t:=by unfold iY;rw [if_neg (by omega),if_pos az]
theorem akW {ow:Nat→Nat} {hZ:Nat} {P tQ:Nat→Prop} {t t2 x:Nat} (h:hZ≤x) (aJ:¬P x) (az:tQ x):iY ow hZ P t tQ t2 x=t2:=by unfold iY;rw [if_neg (by omega),if_neg aJ,if_pos az]
theorem akX {ow:Nat→Nat} {hZ c9:Nat} {P tQ:Nat→Prop} {t t2:Nat} (aJ:hZ≤c9) (az:∀ x,P x→x<c9) (xG:∀ x,tQ x→x<c9):∀ x,iY ow hZ P t tQ t2 x≠0→x<c9:=fun x af=>by
 unfold iY at af
 split at af
 ·omega
 split at af
 ·rename_i ad;exact az x ad
 split at af
 ·rename_i ad;exact xG x ad
 ·exact absurd rfl af
theorem cU.stepG {h U:I} {room:Int} {n:Nat} {rs:Nat→eg} {nd:dM} {ow:Nat→Nat} (w:cU h room n rs nd ow) {q:Nat} (ae:q<n) {r':eg} {b7:cD} (d:gK U room r' b7) {own:Nat→Prop} (hk:aa h U own) (av:∀ x,own x→∀ p,p<n→p≠q→ow x≠p+5) (af:∀ x,fc r' x→fc (rs q) x∨h.n≤x)
  {ow2:Nat→Nat} (c0:∀ x,x<h.n→ow2 x=ow x) (cw:∀ x,h.n≤x→fc r' x→ow2 x=q+5) (o3:∀ x,ow2 x≠0→x<U.n):cU U room n (gg rs q r') (gg nd q b7) ow2:=by
 refine ⟨fun p az=>?_,fun p az x cn=>?_,o3⟩
 ·by_cases e:p=q
  ·subst e;rw [pP,pP];exact d
  ·rw [lR e,lR e]
   exact (w.nd p az).au hk fun x h1 ab=>av x ab p az e (w.iG p az x h1)
 ·by_cases e:p=q
  ·subst e
   rw [pP] at cn
   rcases af x cn with h1 | h1
   ·rw [c0 x ((w.nd p az).lt x h1)];exact w.iG p az x h1
   ·exact cw x h1 cn
  ·rw [lR e] at cn
   rw [c0 x ((w.nd p az).lt x cn)];exact w.iG p az x cn
theorem akY {h:I} {room:Int} {n:Nat} {rs:Nat→eg} {nd:dM} {ow:Nat→Nat} (w:cU h room n rs nd ow) {L bf hg:Nat} {dv bL pv op:V} {ep:Int}
  (jU:h.get L=.cells [dv,bL,op,.int .i64 ep,pv] 115 none) (g1:h.get bf=.cells [.ptr L 0] 67 none) (g6:h.get hg=.cells [.ag] 236 none)
  (pc:L<h.n∧ow L<5) (fg:bf<h.n∧ow bf<5) (yn:hg<h.n∧ow hg=n+5) (mq:Own h 119 1 bL (dx (fun q=>(rs q).a) n)) (r1:∀ x,aA bL=some x→ow x<5) (aJ:n≤2 ^ 10) (reach:List Bool) {rv:V} (hf:e7 h ow rv reach) (aq:reach.length≤2 ^ 47) :
  ah Tryz.prog 155 [.ptr L 0,rv,.func (.func 156) [] [.ptr bf 0,.ptr hg 0]] h (fun x U=>x=.bool (decide (n / 2+1≤b9 (ek (cL room ep) (bH reach) nd) n)) ∧
   ∃ db ow' mQ rows,cU U room n db (cT (cL room ep) (bH reach) n nd) ow'∧gh h U n rs db ow ow'∧U.get hg=.cells [mQ] 236 none∧Own U 240 1 mQ (rows.flatMap gd)∧(∀ x,aA mQ=some x→h.n≤x∧ow' x=n+5)∧mR (ek (cL room ep) (bH reach) nd) nd n rows):=by
 have xl:ow h.n=0:=by
  cases ae:ow h.n with
  | zero=>rfl
  | succ k=>have:=w.bt h.n (by omega);omega
 have gN:aa h (h.push (.cells [.int .i64 0] 331 none)) none_:=aa.push _ _ _
 have rV:cW (aD.cells [dv,bL,op,.int .i64 ep,pv] 115 none) 1=some [bL,op,.int .i64 ep,pv]:=rfl
 have GA:(h.push (.cells [.int .i64 0] 331 none)).get L=.cells [dv,bL,op,.int .i64 ep,pv] 115 none:=(jN pc.1).trans jU
 have hlen:∀ {h1:I} {eW:Nat→eg},Own h1 119 1 bL (dx (fun q=>(eW q).a) n)→cE Tryz.prog 112 bL h1=some (.int .i64 (n:Nat)):=fun {h1 eW} o=>by
  have:=o.length (by decide) Tryz.prog (t:=112) SS
  rw [Gz,Nat.div_one] at this
  exact this
 have OQ:=mq.cP gN
 have z8:=hlen OQ
 refine ah.aH (c:=_) Tryz.func155 rfl (by kernel_rfl) (by simp) ?_
 simp only [ao,Nat.reduceEqDiff,reduceCtorEq,Cp,E8,Tk,GA,rV,z8]
 refine aZ.cu (α:=Nat×(Nat→eg)×(Nat→Nat)×V×List (List bm)) (fun x f h1=>f 0=.ptr L 0∧f 1=rv∧f 2=.func (.func 156) [] [.ptr bf 0,.ptr hg 0]∧f 7=.ptr h.n 0∧f 13=bL∧f 14=.int .i64 (n:Nat)∧f 15=.int .i64 (x.1:Nat)∧x.1≤n ∧
   cU h1 room n x.2.1 (cT (cL room ep) (bH reach) x.1 nd) x.2.2.1∧gh h h1 n rs x.2.1 ow x.2.2.1∧h1.get h.n=.cells [.int .i64 (b9 (ek (cL room ep) (bH reach) nd) x.1:Nat)] 331 none∧x.2.2.1 h.n=0∧h.n<h1.n ∧
   h1.get hg=.cells [x.2.2.2.1] 236 none∧Own h1 240 1 x.2.2.2.1 (x.2.2.2.2.flatMap gd)∧(∀ y,aA x.2.2.2.1=some y→h.n≤y∧x.2.2.1 y=n+5)∧mR (ek (cL room ep) (bH reach) nd) nd x.1 x.2.2.2.2) (fun x=>n - x.1) (0,rs,ow,.ag,[])
  ⟨rfl,rfl,rfl,rfl,rfl,rfl,rfl,Nat.zero_le _,(by rw [Wg];exact w.on gN (fun x af=>af.elim)),(gh.refl h n rs ow).on gN (fun x _ af=>af),c4,xl,Nat.lt_succ_self _,(jN yn.1).trans g6,Own.ag _ _ _,(fun y aX=>by cases aX),mR.nil _ _⟩ ?_
 rintro ⟨i,eW,ea,mQ,rows⟩ f h1 ⟨f0,f1,f2,f7,f13,f14,f15,hi,bK,s1,gc,c0,c9,ng,ry,qL,nu⟩
 simp only at f15 hi bK s1 gc c0 ng ry qL nu
 have nw:∀ x,x<h.n→ow x<5→h1.get x=h.get x:=fun x af av=>s1.au.get x af (by omega)
 have yj:=(nw L pc.1 pc.2).trans jU
 have yk:Own h1 119 1 bL (dx (fun q=>(eW q).a) n):=by
  rw [CS (f:=fun q=>(eW q).a) (g:=fun q=>(rs q).a) fun q ae=>s1.a q ae]
  exact mq.au s1.au fun x af ad=>by have:=r1 x af;omega
 have yl:=hf.on (ow':=ea) s1.au (fun x af ay=>by rw [ay];omega) (fun x af ay=>(s1.ow x af).trans ay)
 have pR:=yl.len
 refine gn (by kernel_rfl) ?_
 by_cases aT:i<n
 ·have jA:decide ((i:Int)<((n:Nat):Int))=true:=decide_eq_true (by omega)
  obtain ⟨j,q,fM,oJ,kQ⟩:=Ws (t:=112) Tb yk aT
  have hw:IntKind.i64.wrap ((i:Int)+1)=((i+1:Nat):Int):=by rw [Go.IntWalk.i64_in _ (by omega)];rfl
  have oU:=Wi (cL room ep) (bH reach) i nd
  have skip:bH reach i=false→cT (cL room ep) (bH reach) (i+1) nd=cT (cL room ep) (bH reach) i nd∧b9 (ek (cL room ep) (bH reach) nd) (i+1)=b9 (ek (cL room ep) (bH reach) nd) i∧mR (ek (cL room ep) (bH reach) nd) nd (i+1) rows:=fun eh=>by
   have aB:ek (cL room ep) (bH reach) nd i=false:=by unfold ek;rw [eh];simp
   refine ⟨by rw [oU,if_neg (by rw [eh];decide)],?_,nu.skip aB⟩
   show _+_=_
   rw [if_neg (by rw [aB];decide)]
   all_goals rfl
  by_cases mA:i<reach.length
  ·have qK:decide ((i:Int)<((reach.length:Nat):Int))=true:=decide_eq_true (by omega)
   obtain ⟨anA,pQ,wo,kB⟩:=yl.gm mA
   have eh:=Wt mA
   cases eC:reach[i] with
   | false=>
    rw [eC] at kB eh
    obtain ⟨aK,a6,dB⟩:=skip eh
    simp only [ao,Nat.reduceEqDiff,Ct,iN,f1,f13,f14,f15,jA,pR,qK,fM,kQ,wo,kB,hw]
    exact aR ⟨(i+1,eW,ea,mQ,rows),⟨f0,f1,f2,f7,f13,f14,rfl,aT,by rw [aK];exact bK,s1,by rw [a6];exact gc,c0,c9,ng,ry,qL,dB⟩,by simp only;omega⟩
   | true=>
    rw [eC] at kB eh
    have d0:=bK.nd i aT
    rw [Wh] at d0
    have t6:ea hg=n+5:=(s1.ow hg yn.1).trans yn.2
    have OT:¬fc (eW i) hg:=fun ad=>by have:=bK.iG i aT hg ad;omega
    have WB:hg<h1.n:=by have:=s1.au.n;have:=yn.1;omega
    simp only [ao,Nat.reduceEqDiff,Ct,iN,f1,f2,f13,f14,f15,jA,pR,qK,fM,kQ,wo,kB]
    refine cC afY (OS d0 (by have:=nu.sg;omega) yj ((nw bf fg.1 fg.2).trans g1) ng WB ry OT (fun x af=>⟨fun ad=>by have:=bK.iG i aT x ad;have:=(qL x af).2;omega,fun ad=>by have:=(qL x af).1;have:=yn.1;omega⟩)) fun x ab ⟨ex,r',lH,rows',hU,st1,st2,tH,k2,KO,or',WC,WD,pQ⟩=>?_
    subst ex
    have fw:=k2.n
    have KQ:aa h1 ab (fun x=>5≤ea x):=k2.mono fun x ad=>by
     rcases ad with ad | ad | ad
     ·have:=bK.iG i aT x ad;omega
     ·subst ad;omega
     ·have:=(qL x ad).2;omega
    have aK:cT (cL room ep) (bH reach) (i+1) nd=gg (cT (cL room ep) (bH reach) i nd) i (cL room ep (nd i)).1:=by rw [oU,if_pos eh];rfl
    have bV:=bK.stepG aT hU k2 (fun x ad p az anB=>by
     rcases ad with ad | ad | ad
     ·have:=bK.iG i aT x ad;omega
     ·subst ad;omega
     ·have:=(qL x ad).2;omega) tH (ow2:=iY ea h1.n (fc r') (i+5) (aW lH) (n+5)) (fun x af=>JB af) (fun x af az=>akV af az) (akX fw hU.lt fun x af=>(WD x af).2)
    rw [←aK] at bV
    have s2:gh h ab n rs (gg eW i r') ow (iY ea h1.n (fc r') (i+5) (aW lH) (n+5)):=s1.trans ⟨KQ,fun q ae=>by
      by_cases e:q=i
      ·subst e;rw [pP];exact st1
      ·rw [lR e],fun q ae=>by
      by_cases e:q=i
      ·subst e;rw [pP];exact st2
      ·rw [lR e],fun x af=>JB af⟩
    have Ad:∀ y,aA lH=some y→h.n≤y∧iY ea h1.n (fc r') (i+5) (aW lH) (n+5) y=n+5:=fun y aX=>by
     rcases WC with e | e
     ·rw [e] at aX
      obtain ⟨bC,a2⟩:=qL y aX
      exact ⟨bC,by rw [JB (ry.lt y aX)];exact a2⟩
     ·obtain ⟨bC,a2⟩:=e y aX
      exact ⟨by omega,akW bC a2 aX⟩
    have ym:ab.get h.n=.cells [.int .i64 (b9 (ek (cL room ep) (bH reach) nd) i:Nat)] 331 none:=(KQ.get h.n c9 (by rw [c0];omega)).trans gc
    have cw:iY ea h1.n (fc r') (i+5) (aW lH) (n+5) h.n=0:=by rw [JB c9];exact c0
    rcases pQ with ⟨bB,rfl⟩ | ⟨bB,out,rfl,GG⟩
    ·have aB:ek (cL room ep) (bH reach) nd i=false:=by unfold ek;simp [bB]
     have a6:b9 (ek (cL room ep) (bH reach) nd) (i+1)=b9 (ek (cL room ep) (bH reach) nd) i:=by
      show _+_=_
      rw [if_neg (by rw [aB];decide)]
      all_goals rfl
     have qu:((cL room ep (nd i)).2==0)=false:=by simp [bB]
     simp only [ao,Nat.reduceEqDiff,f15,qu,hw]
     exact aR ⟨(i+1,gg eW i r',iY ea h1.n (fc r') (i+5) (aW lH) (n+5),lH,rows'),⟨f0,f1,f2,f7,f13,f14,rfl,aT,bV,s2,by rw [a6];exact ym,cw,by omega,KO,or',Ad,nu.skip aB⟩,by simp only;omega⟩
    ·have aB:ek (cL room ep) (bH reach) nd i=true:=by unfold ek;rw [eh,bB];rfl
     have a6:b9 (ek (cL room ep) (bH reach) nd) (i+1)=b9 (ek (cL room ep) (bH reach) nd) i+1:=by
      show _+_=_
      rw [if_pos aB]
     have Ww:=OL (ek (cL room ep) (bH reach) nd) i
     have GB:IntKind.i64.wrap (((b9 (ek (cL room ep) (bH reach) nd) i:Nat):Int)+1)=((b9 (ek (cL room ep) (bH reach) nd) (i+1):Nat):Int):=by
      rw [a6,Go.IntWalk.i64_in _ (by omega)];rfl
     have qu:((0:Int)==0)=true:=rfl
     rw [bB]
     simp only [ao,Nat.reduceEqDiff,f7]
     refine cC SA (Gw ab h.n _ 1 ym) fun x aI ⟨ex,OR⟩=>?_
     subst ex;subst OR
     rw [GB]
     have dY:∀ o,aa ab (ab.set h.n o) (·=h.n):=fun o=>aa.set _ _ _
     have Ge:=nu.more aB (akR d0.ok GG) (akT d0 GG) (akS d0.ok GG)
     have GD:=yn.1
     simp only [ao,Nat.reduceEqDiff,f15,hw]
     exact aR ⟨(i+1,gg eW i r',iY ea h1.n (fc r') (i+5) (aW lH) (n+5),lH,rows++[out]),⟨f0,f1,f2,f7,f13,f14,rfl,aT,bV.on (dY _) (fun x af=>by subst af;rw [cw];omega),s2.on (dY _) (fun x af ad=>by omega),e4,cw,by simp only [kE];omega,(nS (by omega)).trans KO,or'.au (dY _) (fun x af ad=>by have:=Ad x af;subst ad;omega),Ad,Ge⟩,by simp only;omega⟩
  ·have qK:decide ((i:Int)<((reach.length:Nat):Int))=false:=decide_eq_false (by omega)
   obtain ⟨aK,a6,dB⟩:=skip (Wu (l:=reach) (q:=i) (by omega))
   simp only [ao,Nat.reduceEqDiff,Ct,f1,f13,f14,f15,jA,pR,qK,fM,kQ,hw]
   exact aR ⟨(i+1,eW,ea,mQ,rows),⟨f0,f1,f2,f7,f13,f14,rfl,aT,by rw [aK];exact bK,s1,by rw [a6];exact gc,c0,c9,ng,ry,qL,dB⟩,by simp only;omega⟩
 ·have jA:decide ((i:Int)<((n:Nat):Int))=false:=decide_eq_false (by omega)
  have gO:i=n:=by omega
  subst gO
  have pM:=hlen yk
  have fin:decide (((i:Nat):Int) / 2+1≤((b9 (ek (cL room ep) (bH reach) nd) i:Nat):Int))=decide (i / 2+1≤b9 (ek (cL room ep) (bH reach) nd) i):=by
   rw [Bool.eq_iff_iff,decide_eq_true_iff,decide_eq_true_iff]
   omega
  simp only [ao,f14,f15,jA]
  refine aZ.b4 none_ [] (.c 0 (.q 1 (.q 2 (.q 3 (.q 4 (.q 5 (.c 6 (.q 7 (.q 8 .done))))))))) (by kernel_rfl) (by kernel_rfl) (by kernel_rfl) ?_
  refine jQ (v:=.int .i64 (b9 (ek (cL room ep) (bH reach) nd) i:Nat)) rfl rfl rfl (fun U hk=>?_) ?_
  ·show Ab.Pure Tryz.prog 197 [f 7] U _
   rw [f7]
   refine Wq U h.n _ ?_
   rcases hk with hk | hk
   ·exact (hk.get h.n c9 (fun ad=>ad)).trans gc
   ·rw [hk];exact gc
  simp only [ao,b6,Nat.reduceEqDiff,reduceCtorEq,Cp,E8,f0,yj,rV,pM]
  refine jQ rfl rfl rfl (fun U _=>VY (i:Int) (by omega) (by omega) U) ?_
  simp only [ao,b6,Nat.reduceEqDiff,fin,bd,Tryz.results155,bT]
  exact aR ⟨rfl,eW,ea,mQ,rows,bK,s1,ng,ry,qL,nu⟩
theorem cU.zero {h:I} {room:Int} {n:Nat} {rs:Nat→eg} {nd:dM} {ow:Nat→Nat} (w:cU h room n rs nd ow) {x:Nat} (af:h.n≤x):ow x=0:=by
 cases ae:ow x with
 | zero=>rfl
 | succ k=>have:=w.bt x (by omega);omega
theorem WE {h:I} {room:Int} {n:Nat} {rs:Nat→eg} {nd:dM} {ow:Nat→Nat} (w:cU h room n rs nd ow) {L:Nat} {dv bL pv op:V} {ep:Int} (at_:Int) {b:List Nat} (ar:∀ n ∈ b,n<256) (lA:b.length≤2 ^ 40)
  (jU:h.get L=.cells [dv,bL,op,.int .i64 ep,pv] 115 none) (pc:L<h.n∧ow L<5) (mq:Own h 119 1 bL (dx (fun q=>(rs q).a) n)) (r1:∀ x,aA bL=some x→ow x<5) (aJ:n≤2 ^ 10) (reach:List Bool) {rv:V} (hf:e7 h ow rv reach) (aq:reach.length≤2 ^ 47) :
  ah Tryz.prog 128 [.ptr L 0,.int .i64 at_,.an b.length (bp b),rv] h (fun x U=>x=.bool (dR room n ep at_ b (bH reach) nd).2 ∧
   ∃ db ow',cU U room n db (dR room n ep at_ b (bH reach) nd).1 ow'∧gh h U n rs db ow ow'):=by
 have gN:aa h (((h.push (.cells [.ptr L 0] 67 none)).push (.cells [.int .i64 at_] 3 none)).push (.cells [.an b.length (bp b)] 56 none)) none_:=((aa.push _ _ _).cB _).cB _
 have z0:=w.zero (Nat.le_refl _)
 have qu:ow (h.n+1)=0:=w.zero (Nat.le_succ h.n)
 have z2:ow (h.n+2)=0:=w.zero (by omega)
 have c2:(((h.push (.cells [.ptr L 0] 67 none)).push (.cells [.int .i64 at_] 3 none)).push (.cells [.an b.length (bp b)] 56 none)).get h.n=.cells [.ptr L 0] 67 none:=(jN (by simp only [fR];omega)).trans ((jN (by simp only [fR];omega)).trans c4)
 have eE:(((h.push (.cells [.ptr L 0] 67 none)).push (.cells [.int .i64 at_] 3 none)).push (.cells [.an b.length (bp b)] 56 none)).get (h.n+1)=.cells [.int .i64 at_] 3 none:=(jN (by simp only [fR];omega)).trans c4
 have jt:(((h.push (.cells [.ptr L 0] 67 none)).push (.cells [.int .i64 at_] 3 none)).push (.cells [.an b.length (bp b)] 56 none)).get (h.n+2)=.cells [.an b.length (bp b)] 56 none:=c4
 have jE:(((h.push (.cells [.ptr L 0] 67 none)).push (.cells [.int .i64 at_] 3 none)).push (.cells [.an b.length (bp b)] 56 none)).n=h.n+3:=rfl
 refine ah.aH (c:=_) Tryz.func128 rfl (by kernel_rfl) (by simp) ?_
 simp only [ao,Nat.reduceEqDiff,xP,c2]
 generalize ((h.push (.cells [.ptr L 0] 67 none)).push (.cells [.int .i64 at_] 3 none)).push (.cells [.an b.length (bp b)] 56 none)=H at gN c2 eE jt jE⊢
 refine cC Sx (akQ (w.on gN fun x af=>af.elim) ar lA ((gN.get L pc.1 fun ad=>ad).trans jU) c2 eE jt ⟨by omega,pc.2⟩ ⟨by omega,by omega⟩ ⟨by omega,by omega⟩ ⟨by omega,by omega⟩ (mq.cP gN) r1 (by omega) reach (hf.on gN (fun _ _ _ ad=>ad) (fun _ _ ay=>ay)) aq) fun x U ⟨e,db,ow',w',bF⟩=>?_
 subst e
 simp only [ao,Nat.reduceEqDiff,bd,Tryz.results128,bT]
 exact aR ⟨rfl,db,ow',w',⟨gN.up.trans bF.au fun _ _ ad=>ad,bF.a,bF.i,fun x af=>bF.ow x (by omega)⟩⟩
theorem akZ {h:I} {room:Int} {n:Nat} {rs:Nat→eg} {nd:dM} {ow:Nat→Nat} (w:cU h room n rs nd ow) {L:Nat} {dv bL pv op:V} {ep:Int}
  (jU:h.get L=.cells [dv,bL,op,.int .i64 ep,pv] 115 none) (pc:L<h.n∧ow L<5) (mq:Own h 119 1 bL (dx (fun q=>(rs q).a) n)) (r1:∀ x,aA bL=some x→ow x<5∧x<h.n) (aJ:n≤2 ^ 10) (reach:List Bool) {rv:V} (hf:e7 h ow rv reach) (aq:reach.length≤2 ^ 47) :
  ah Tryz.prog 125 [.ptr L 0,rv] h (fun x U=>∃ rows:List (List bm),x=.tuple [.an rows.length (rows.flatMap gd),.bool (decide (n / 2+1≤b9 (ek (cL room ep) (bH reach) nd) n))] ∧
   ∃ db ow',cU U room n db (cT (cL room ep) (bH reach) n nd) ow'∧gh h U n rs db ow ow'∧mR (ek (cL room ep) (bH reach) nd) nd n rows):=by
 refine ah.cast ?_
 have gN:aa h ((h.push (.cells [.ptr L 0] 67 none)).push (.cells [.ag] 236 none)) none_:=(aa.push _ _ _).cB _
 have z0:=w.zero (Nat.le_refl _)
 have c2:((h.push (.cells [.ptr L 0] 67 none)).push (.cells [.ag] 236 none)).get h.n=.cells [.ptr L 0] 67 none:=(jN (by simp only [fR];omega)).trans c4
 have eE:((h.push (.cells [.ptr L 0] 67 none)).push (.cells [.ag] 236 none)).get (h.n+1)=.cells [.ag] 236 none:=c4
 have jE:((h.push (.cells [.ptr L 0] 67 none)).push (.cells [.ag] 236 none)).n=h.n+2:=rfl
 refine ah.aH (c:=_) Tryz.func125 rfl (by kernel_rfl) (by simp) ?_
 simp only [ao,Nat.reduceEqDiff,xP,ahG,c2]
 generalize (h.push (.cells [.ptr L 0] 67 none)).push (.cells [.ag] 236 none)=H at gN c2 eE jE⊢
 have yh:=w.on gN fun x af=>af.elim
 have bV:cU H room n rs nd (gg ow (h.n+1) (n+5)):=⟨yh.nd,fun q ae x af=>by
   have h1:=w.iG q ae x af
   rw [lR fun e=>by subst e;rw [w.zero (Nat.le_succ _)] at h1;omega]
   exact h1,fun x af=>by
   by_cases e:x=h.n+1
   ·omega
   ·rw [lR e] at af;have:=w.bt x af;omega⟩
 have kh:=pc.1
 refine cC Sx (akY bV ((gN.get L pc.1 fun ad=>ad).trans jU) c2 eE ⟨by omega,by rw [lR (by omega)];exact pc.2⟩ ⟨by omega,by rw [lR (by omega)];omega⟩ ⟨by omega,pP⟩ (mq.cP gN) (fun x af=>by rw [lR fun e=>by have:=(r1 x af).2;omega];exact (r1 x af).1) aJ reach (hf.on gN (fun _ _ _ ad=>ad) (fun x af ay=>by rw [lR (by omega)];exact ay)) aq) fun x U ⟨e,db,ow',mQ,rows,w',bF,g6,Aa,t6,nu⟩=>?_
 subst e
 have aoT:=bF.au.n
 simp only [ao,Nat.reduceEqDiff,SY,g6,bd,Tryz.results125,ha]
 obtain ⟨ab,c,k2⟩:=aV.own Aa (n:=rows.length) (kF pm _) (by decide)
 refine aR ⟨_,ab,aV.tuple (aS.cons c (aS.refl _ _)),rows,rfl,db,ow',⟨fun q ae=>(w'.nd q ae).au k2 fun x af ad=>by have:=w'.iG q ae x af;have:=(t6 x ad).2;omega,w'.iG,fun x af=>Nat.lt_of_lt_of_le (w'.bt x af) k2.n⟩,⟨?_,bF.a,bF.i,fun x af=>?_⟩,nu⟩
 ·exact ((gN.up (o:=fun x=>5≤ow x)).trans bF.au fun x af ad=>by
   rw [lR (by omega)] at ad
   exact ad).trans k2 fun x af ad=>by have:=(t6 x ad).1;omega
 ·rw [bF.ow x (by omega),lR (by omega)]
end Go.Proofs.YtceanabgcnieeaaGreatDoor.Pk
