/-
  What functions of the program do, told of abstract states. Conditions: as each theorem says.
-/
import Derived.Test.YtemdgidnhgcafaaGreatDoorNf
import Derived.Test.YtemdgidnhgcafaaGreatDoorNe
import Derived.Test.YtemdgidnhgcafaaGreatDoorAcD
open Nat renaming lt_of_lt_of_le->IS,le_trans->ajy,reduceEqDiff->ds,reduceAdd->AS,reduceLeDiff->By,zero_le->Dy,le_refl->BY
open Go.Proofs.Tryz renaming prog->mc,results153->aGk,results155->aEz,results156->aEA,results119->az5
open List renaming length_append->Dx,length_replicate->aBg,take_succ_eq_append_getElem->azi,take_of_length_le->ajz,length_cons->axW,length_nil->ayK,length_map->axT,length_filter_le->azK,foldl_append->aAU,getD->ayO,getElem?_eq_getElem->IA,getElem_mem->ayM,getElem?_eq_some_iff->are
open Int renaming toNat->azk
open Go renaming IntKind->aOT
set_option linter.unusedVariables false
set_option linter.unusedSimpArgs false
set_option maxHeartbeats 8000000
set_option maxRecDepth 10000
namespace Go.Proofs.YtemdgidnhgcafaaGreatDoor.Pk
open Go Go.Proofs Go.Proofs.YtemdgidnhgcafaaGreatDoor.Ab
def gr(v:V):List Nat:=(aU v).toList
theorem cy{v:V}{q:Nat}:q∈gr v↔aU v=some q:=by
 unfold gr;cases h:aU v<;>simp[eq_comm]
theorem Ri{h:I}{v v':V}(d:cu h v v'):e8 h (gr v) (gr v'):=λq a=>by
 rcases d with d|d
 ·exact .inl (cy.2 (by rw[<-d];exact cy.1 a))
 ·exact .inr (d q (cy.1 a))
def iw(o:Int×Rec):List V:=.int .i64 o.1::aK o.2
def q6(o:Int×Rec×Int):List V:=.int .i64 o.1::(aK o.2.1++[.int .i64 o.2.2])
theorem Rj(o:Int×Rec):(iw o).length=4:=rfl
theorem Rk(o:Int×Rec×Int):(q6 o).length=5:=rfl
theorem aun(o:Int×Rec):(iw o).all (·.one)=true:=rfl
theorem auo(o:Int×Rec×Int):(q6 o).all (·.one)=true:=rfl
structure jW(h:I)(ow:cT)(id s m:Nat)(x:fR)(cq cG cY c7:V):Prop where
 lt:s<h.n
 get:h.get s=.cells [.ptr m 0,cq,cG,cY,c7,.int .i64 (x.n:Nat)] 163 none
 own:ow s=(id,5)
 o:Own h 173 4 cq (x.outs.flatMap iw)
 v:Own h 3 1 cG (ao x.verts)
 c:Own h 110 5 cY (x.chgs.flatMap aQ)
 d:Own h 177 5 c7 (x.deads.flatMap q6)
 gT:nF ow (id,6) (gr cq)
 cG:nF ow (id,7) (gr cG)
 cc:nF ow (id,8) (gr cY)
 n2:nF ow (id,9) (gr c7)
section
variable {h h':I} {ow ow':cT} {id s m:Nat} {x:fR} {cq cG cY c7:V}
theorem jW.ai{M:Nat->Prop}(k:jW h ow id s m x cq cG cY c7)(j:J h h' M)(u:∀q,q<h.n->M q->∀t,5<=t->t<=9->ow q≠(id,t))(z:∀q,q<h.n->ow' q=ow q):jW h' ow' id s m x cq cG cY c7:=by
 have A:∀{e sz B v},Own h e sz v B->∀q∈gr v,q<h.n:=λo q i=>o.lt q (cy.1 i);exact⟨IS k.lt j.n,(j.get _ k.lt λU=>u _ k.lt U 5 (by omega) (by omega) k.own).trans k.get,(z _ k.lt).trans k.own,
  k.o.ai j λq i U=>u q (k.o.lt q i) U 6 (by omega) (by omega) (k.gT q (cy.2 i)),
  k.v.ai j λq i U=>u q (k.v.lt q i) U 7 (by omega) (by omega) (k.cG q (cy.2 i)),
  k.c.ai j λq i U=>u q (k.c.lt q i) U 8 (by omega) (by omega) (k.cc q (cy.2 i)),
  k.d.ai j λq i U=>u q (k.d.lt q i) U 9 (by omega) (by omega) (k.n2 q (cy.2 i)),
  k.gT.bD (A k.o) z,k.cG.bD (A k.v) z,k.cc.bD (A k.c) z,k.n2.bD (A k.d) z⟩
theorem jW.ba(k:jW h ow id s m x cq cG cY c7)(i:J h h' none_):jW h' ow id s m x cq cG cY c7:=k.ai i (λ_ _ U=>by simp[none_]at U) λ_ _=>rfl
end
theorem jW.XR{h h':I}{ow ow':cT}{id s m:Nat}{x:fR}{cq cG B C j:V}{l:List (Int×Rec×Int)}(k:jW h ow id s m x cq cG B C)(u:J h h' (λq=>q=s\/a7 C q))(z:∀q,q<h.n->ow' q=ow q)
  (g:h'.get s=.cells [.ptr m 0,cq,cG,B,j,.int .i64 (x.n:Nat)] 163 none) (n2:nF ow' (id,9) (gr j)) (d:Own h' 177 5 j (l.flatMap q6)):jW h' ow' id s m { x with deads:=l } cq cG B j:=by
 have D:∀{e sz F v},Own h e sz v F->∀q∈gr v,q<h.n:=λo q i=>o.lt q (cy.1 i);have E:∀{q t},ow q=(id,t)->t≠5->t≠9->¬(q=s\/a7 C q):=λ{q t} A G H U=>by
  rcases U with rfl|U
  ·rw[k.own]at A;simp at A;omega
  ·rw[k.n2 q (cy.2 U)]at A;simp at A;omega
 exact⟨IS k.lt u.n,g,(z _ k.lt).trans k.own,
  k.o.ai u λq i=>E (k.gT q (cy.2 i)) (by decide) (by decide),k.v.ai u λq i=>E (k.cG q (cy.2 i)) (by decide) (by decide),k.c.ai u λq i=>E (k.cc q (cy.2 i)) (by decide) (by decide),d,
  k.gT.bD (D k.o) z,k.cG.bD (D k.v) z,k.cc.bD (D k.c) z,n2⟩
structure hn(h:I)(ow:cT)(id s m:Nat)(b:At)(c:bw)(x:cd):Prop where
 eb:hf h ow id m b c x.1
 pX:∃cq cG cY c7,jW h ow id s m x.2 cq cG cY c7
 aX:Fr h ow
 w2:hB h
 nS:id≠0
section
variable {h h':I} {ow ow':cT} {id s m:Nat} {b:At} {c:bw} {x:cd}
theorem hn.ba(k:hn h ow id s m b c x)(i:J h h' none_):hn h' ow id s m b c x:=by
 obtain⟨cq,cG,j,u,z⟩:=k.pX;exact⟨k.eb.ba i,⟨cq,cG,j,u,z.ba i⟩,λq A=>k.aX q (ajy i.n A),k.w2.ai i,k.nS⟩
end
def lz(id s m:Nat)(b:At)(c:bw)(h:I)(ow:cT)(y:cd):V->I->Prop:=λr h'=>r=.tuple []/\∃a,gF id h ow h' a/\hn h' a id s m b c y
theorem XS(h:I)(o:Int×Rec×Int):h3 mc 99 1 [(0,.agg (q6 o))] h=some (.bg h.n 0 1 1,h.push (.cells (q6 o) 177 none)):=by rw[mD abZ];rfl
theorem XT(h:I)(o:Int×Rec):h3 mc 98 1 [(0,.agg (iw o))] h=some (.bg h.n 0 1 1,h.push (.cells (iw o) 173 none)):=by rw[mD abY];rfl
theorem Rl{P:Program}{t:TypeId}{T:lM}(z:gp P t=some T)(q:0<T.sz){α:Type}{enc:α->List V}(i:∀a,(enc a).length=T.sz)(A:∀a,(enc a).all (·.one)=true)(B:et P t=some 1)(L:T.sz*8=T.aq)(M:T.sz<=8)
  {h:I} {s:V} {cs:List α} (o:Own h T.e T.sz s (cs.flatMap enc)) (N:cs.length<=2^40) (c:α) :
  ∃j h',ki P t t s (.bg h.n 0 1 1) (h.push (.cells (enc c) T.e none))=some (j,h')/\Own h' T.e T.sz j ((cs++[c]).flatMap enc)/\J (h.push (.cells (enc c) T.e none)) h' (a7 s)/\cu (h.push (.cells (enc c) T.e none)) s j:=by
 have k:J h (h.push (.cells (enc c) T.e none)) none_:=J.push _ _ _;have C:Own (h.push (.cells (enc c) T.e none)) T.e T.sz (.bg h.n 0 1 1) (enc c):=Own.e4 _ 1 (by rw[i];omega) (by decide)
 have D:=tc (P:=P) (t:=t) B C (n:=1) (by rw[i];omega) q (A c)
 obtain⟨j,h',E,F,G,H⟩:=sj (P:=P) (t:=t) (tx:=t) z q (o.ba k) D (by rw[i];omega) (λm u=>by
  rw[fJ i,i]at u;have:m=cs.length+1:=Nat.eq_of_mul_eq_mul_right q (by rw[u,Nat.add_mul];omega)
  subst this;have:T.aq<=64:=by omega
  have Q:(cs.length+1)*T.aq<=(2^40+1)*64:=Nat.mul_le_mul (by omega) this
  exact⟨by simp only[lim];omega,by simp only[lim];omega⟩)
 refine⟨j,h',E,?_,G,H⟩;rw[List.flatMap_append];simpa using F
theorem G0{h:I}{ow:cT}{id s m:Nat}{b:At}{c:bw}{x:cd}(k:hn h ow id s m b c x)(u:Int)(r:Rec)(e:Int)(ax:x.2.deads.length<=2^30) :
  au mc 85 [.ptr s 0,.int .i64 u,.agg (aK r),.int .i64 e] h (lz id s m b c h ow (q5 u r e x)):=by
 refine bd Tryz.func85 rfl ?_;obtain⟨A,B,C,E,z⟩:=k.pX;obtain⟨H,hH,O,ji,ib⟩:=b0 h (.cells (aK r) 45 none);have F:=z.ba O;have Q:=F.get;have ld:cJ (some (some 3)) (some (aK r))=some (.agg (aK r)):=rfl;have d0:cO (.cells (aK r) 45 none) 0=some (aK r):=rfl;have cc:(V.agg (aK r)).cells=some (aK r):=rfl;simp only[ae];rw[<-hH];clear hH;have EW:(if(aK r).length=3 then if 5<=(tA [V.int aOT.i64 u,V.int aOT.i64 0,V.int aOT.i64 0,V.int aOT.i64 0,V.int aOT.i64 0] 1 (aK r)).length then some ((tA [V.int aOT.i64 u,V.int aOT.i64 0,V.int aOT.i64 0,V.int aOT.i64 0,V.int aOT.i64 0] 1 (aK r)).set 4 (V.int aOT.i64 e))else none else none)=some (q6 (u,r,e)):=rfl
 obtain⟨j,D,q,M,R,S⟩:=Rl (P:=mc) (t:=99) abZ (by decide) Rk auo abK (by decide) (by decide) F.d (cs:=x.2.deads) (ajy ax (by decide)) (u,r,e)
 have G:J H (H.push (.cells (q6 (u,r,e)) 177 none)) none_:=J.push _ _ _;have w3:=(R.get s (IS F.lt G.n) (λU=>by have:=z.n2 s (cy.2 U);rw[z.own]at this;simp at this)).trans ((G.get s F.lt (by simp[none_])).trans Q)
 have T:a7 E s=False:=eq_false λU=>by have:=z.n2 s (cy.2 U);rw[z.own]at this;simp at this
 have f2:a7 E h.n=False:=eq_false λU=>by have:=z.d.lt _ U;omega
 have W:J H D (λx=>a7 E x):=G.up.trans' R;have k9:j.one=true:=by
  rcases M with⟨rfl|rfl,_⟩|⟨_,_,_,_,_,rfl,_⟩<;>rfl
 have jb:j.cells=some [j]:=by
  rcases M with⟨rfl|rfl,_⟩|⟨_,_,_,_,_,rfl,_⟩<;>rfl
 have dA:bA (some 1) (aR.cells [.ptr m 0,A,B,C,E,.int .i64 (x.2.n:Nat)] 163 none) 4 [j]=some (.cells [.ptr m 0,A,B,C,j,.int .i64 (x.2.n:Nat)] 163 none):=by rw[rA k9];rfl
 refine aS.cS (λx=>a7 E x) [10,11,15] (.q 0 (.q 1 (.q 2 (.q 3 (.q 4 (.q 5 (.q 6 (.q 7 (.q 8 (.q 9 (.e 10 (.e 11 (.q 12 (.q 13 (.q 14 (.a 15 .done)))) .stop) .stop))))))))))) ?_;simp only[ae,bt,fo,ds,AS,By,reduceCtorEq,Vt,Ed,dM,VP,ap7,ab2,aqR,Q,ji,ld,d0,cc,EW,XS,q,w3,T,f2,W,jb,dA,k6,Tryz.results85,hK];have L:J h (D.set s (.cells [.ptr m 0,A,B,C,j,.int .i64 (x.2.n:Nat)] 163 none)) (λq=>q=s\/a7 E q) :=
  (O.up.trans' (W.mono λq i=>.inr i)).trans' ((J.set _ _ _).mono λq i=>.inl i)
 have n3:(D.set s (.cells [.ptr m 0,A,B,C,j,.int .i64 (x.2.n:Nat)] 163 none)).n=D.n:=rfl;have X:(D.set s (.cells [.ptr m 0,A,B,C,j,.int .i64 (x.2.n:Nat)] 163 none)).get s=.cells [.ptr m 0,A,B,C,j,.int .i64 (x.2.n:Nat)] 163 none:=aL;have N:Own (D.set s (.cells [.ptr m 0,A,B,C,j,.int .i64 (x.2.n:Nat)] 163 none)) 177 5 j ((x.2.deads++[(u,r,e)]).flatMap q6):=Own.ai M (J.set _ _ _) λq i U=>by
  subst U;rcases S with d|d
  ·rw[d]at i;exact T.mp i
  ·have Y:(H.push (.cells (q6 (u,r,e)) 177 none)).n<=q:=d q i;have:=F.lt;have:=G.n;omega
 have EX:e8 h (gr E) (gr j):=λq i=>by
  rcases Ri S q i with U|U
  ·exact .inl U
  ·exact .inr (by have:=G.n;have:(H.push (.cells (q6 (u,r,e)) 177 none)).n<=q:=U;omega)
 generalize D.set s (.cells [.ptr m 0,A,B,C,j,.int .i64 (x.2.n:Nat)] 163 none)=aC at L n3 X N⊢;have Z:∀q,q<h.n->(q=s\/a7 E q)->∃t,ow q=(id,t)/\5<=t/\t<=9:=λq i U=>by
  rcases U with rfl|U
  ·exact⟨5,z.own,by omega,by omega⟩
  ·exact⟨9,z.n2 q (cy.2 U),by omega,by omega⟩
 have bF:=gF.dF (id:=id) k.aX L (λq i U=>by obtain⟨t,Y,D,_⟩:=Z q i U;unfold cP;rw[Y];exact⟨rfl,D⟩) (id,9)
 exact ar ⟨rfl,_,bF,k.eb.part L Z bF.bD,⟨A,B,C,j,z.XR L bF.bD X (z.n2.new (λq i=>z.d.lt q (cy.1 i)) EX λq i=>N.lt q (cy.1 i)) N⟩,bF.aX,k.w2.ai L,k.nS⟩
theorem jW.XV{h h':I}{ow ow':cT}{id s m:Nat}{x:fR}{cq cG B C j:V}{l:List (Int×Rec)}(k:jW h ow id s m x cq cG B C)(u:J h h' (λq=>q=s\/a7 cq q))(z:∀q,q<h.n->ow' q=ow q)
  (g:h'.get s=.cells [.ptr m 0,j,cG,B,C,.int .i64 (x.n:Nat)] 163 none) (gT:nF ow' (id,6) (gr j)) (o:Own h' 173 4 j (l.flatMap iw)):jW h' ow' id s m { x with outs:=l } j cG B C:=by
 have D:∀{e sz F v},Own h e sz v F->∀q∈gr v,q<h.n:=λo q i=>o.lt q (cy.1 i);have E:∀{q t},ow q=(id,t)->t≠5->t≠6->¬(q=s\/a7 cq q):=λ{q t} A G H U=>by
  rcases U with rfl|U
  ·rw[k.own]at A;simp at A;omega
  ·rw[k.gT q (cy.2 U)]at A;simp at A;omega
 exact⟨IS k.lt u.n,g,(z _ k.lt).trans k.own,
  o,k.v.ai u λq i=>E (k.cG q (cy.2 i)) (by decide) (by decide),k.c.ai u λq i=>E (k.cc q (cy.2 i)) (by decide) (by decide),k.d.ai u λq i=>E (k.n2 q (cy.2 i)) (by decide) (by decide),
  gT,k.cG.bD (D k.v) z,k.cc.bD (D k.c) z,k.n2.bD (D k.d) z⟩
theorem NC{h:I}{ow:cT}{id s m:Nat}{b:At}{c:bw}{x:cd}(k:hn h ow id s m b c x)(u:Int)(r:Rec)(ax:x.2.outs.length<=2^30) :
  au mc 154 [.ptr s 0,.int .i64 u,.agg (aK r)] h (lz id s m b c h ow (pW u r x)):=by
 refine bd Tryz.func154 rfl ?_;obtain⟨E,A,B,C,z⟩:=k.pX;obtain⟨H,hH,O,ji,ib⟩:=b0 h (.cells (aK r) 45 none);have F:=z.ba O;have Q:=F.get;have ld:cJ (some (some 3)) (some (aK r))=some (.agg (aK r)):=rfl;have d0:cO (.cells (aK r) 45 none) 0=some (aK r):=rfl;have cc:(V.agg (aK r)).cells=some (aK r):=rfl;simp only[ae];rw[<-hH];clear hH;have EW:(if(aK r).length=3 then some (tA [V.int aOT.i64 u,V.int aOT.i64 0,V.int aOT.i64 0,V.int aOT.i64 0] 1 (aK r))else none)=some (iw (u,r)):=rfl
 obtain⟨j,D,q,M,R,S⟩:=Rl (P:=mc) (t:=98) abY (by decide) Rj aun abJ (by decide) (by decide) F.o (cs:=x.2.outs) (ajy ax (by decide)) (u,r)
 have G:J H (H.push (.cells (iw (u,r)) 173 none)) none_:=J.push _ _ _;have w3:=(R.get s (IS F.lt G.n) (λU=>by have:=z.gT s (cy.2 U);rw[z.own]at this;simp at this)).trans ((G.get s F.lt (by simp[none_])).trans Q)
 have T:a7 E s=False:=eq_false λU=>by have:=z.gT s (cy.2 U);rw[z.own]at this;simp at this
 have f2:a7 E h.n=False:=eq_false λU=>by have:=z.o.lt _ U;omega
 have W:J H D (λx=>a7 E x):=G.up.trans' R;have k9:j.one=true:=by
  rcases M with⟨rfl|rfl,_⟩|⟨_,_,_,_,_,rfl,_⟩<;>rfl
 have jb:j.cells=some [j]:=by
  rcases M with⟨rfl|rfl,_⟩|⟨_,_,_,_,_,rfl,_⟩<;>rfl
 have dA:bA (some 1) (aR.cells [.ptr m 0,E,A,B,C,.int .i64 (x.2.n:Nat)] 163 none) 1 [j]=some (.cells [.ptr m 0,j,A,B,C,.int .i64 (x.2.n:Nat)] 163 none):=by rw[rA k9];rfl
 refine aS.cS (λx=>a7 E x) [9,10,14] (.q 0 (.q 1 (.q 2 (.q 3 (.q 4 (.q 5 (.q 6 (.q 7 (.q 8 (.e 9 (.e 10 (.q 11 (.q 12 (.q 13 (.a 14 .done)))) .stop) .stop)))))))))) ?_;simp only[ae,bt,fo,ds,AS,By,reduceCtorEq,abk,Ed,dM,abQ,ap6,ab1,aqQ,Q,ji,ld,d0,cc,EW,XT,q,w3,T,f2,W,jb,dA,k6,Tryz.results154,hK];have L:J h (D.set s (.cells [.ptr m 0,j,A,B,C,.int .i64 (x.2.n:Nat)] 163 none)) (λq=>q=s\/a7 E q) :=
  (O.up.trans' (W.mono λq i=>.inr i)).trans' ((J.set _ _ _).mono λq i=>.inl i)
 have n3:(D.set s (.cells [.ptr m 0,j,A,B,C,.int .i64 (x.2.n:Nat)] 163 none)).n=D.n:=rfl;have X:(D.set s (.cells [.ptr m 0,j,A,B,C,.int .i64 (x.2.n:Nat)] 163 none)).get s=.cells [.ptr m 0,j,A,B,C,.int .i64 (x.2.n:Nat)] 163 none:=aL;have N:Own (D.set s (.cells [.ptr m 0,j,A,B,C,.int .i64 (x.2.n:Nat)] 163 none)) 173 4 j ((x.2.outs++[(u,r)]).flatMap iw):=Own.ai M (J.set _ _ _) λq i U=>by
  subst U;rcases S with d|d
  ·rw[d]at i;exact T.mp i
  ·have Y:(H.push (.cells (iw (u,r)) 173 none)).n<=q:=d q i;have:=F.lt;have:=G.n;omega
 have EX:e8 h (gr E) (gr j):=λq i=>by
  rcases Ri S q i with U|U
  ·exact .inl U
  ·exact .inr (by have:=G.n;have:(H.push (.cells (iw (u,r)) 173 none)).n<=q:=U;omega)
 generalize D.set s (.cells [.ptr m 0,j,A,B,C,.int .i64 (x.2.n:Nat)] 163 none)=aC at L n3 X N⊢;have Z:∀q,q<h.n->(q=s\/a7 E q)->∃t,ow q=(id,t)/\5<=t/\t<=9:=λq i U=>by
  rcases U with rfl|U
  ·exact⟨5,z.own,by omega,by omega⟩
  ·exact⟨6,z.gT q (cy.2 U),by omega,by omega⟩
 have bF:=gF.dF (id:=id) k.aX L (λq i U=>by obtain⟨t,Y,D,_⟩:=Z q i U;unfold cP;rw[Y];exact⟨rfl,D⟩) (id,6)
 exact ar ⟨rfl,_,bF,k.eb.part L Z bF.bD,⟨j,A,B,C,z.XV L bF.bD X (z.gT.new (λq i=>z.o.lt q (cy.1 i)) EX λq i=>N.lt q (cy.1 i)) N⟩,bF.aX,k.w2.ai L,k.nS⟩
theorem jW.XW{h h':I}{ow ow':cT}{id s m:Nat}{x:fR}{cq cG B C j:V}{l:List Int}(k:jW h ow id s m x cq cG B C)(u:J h h' (λq=>q=s\/a7 cG q))(z:∀q,q<h.n->ow' q=ow q)
  (g:h'.get s=.cells [.ptr m 0,cq,j,B,C,.int .i64 (x.n:Nat)] 163 none) (F:nF ow' (id,7) (gr j)) (G:Own h' 3 1 j (ao l)):jW h' ow' id s m { x with verts:=l } cq j B C:=by
 have D:∀{e sz H v},Own h e sz v H->∀q∈gr v,q<h.n:=λo q i=>o.lt q (cy.1 i);have E:∀{q t},ow q=(id,t)->t≠5->t≠7->¬(q=s\/a7 cG q):=λ{q t} A L M U=>by
  rcases U with rfl|U
  ·rw[k.own]at A;simp at A;omega
  ·rw[k.cG q (cy.2 U)]at A;simp at A;omega
 exact⟨IS k.lt u.n,g,(z _ k.lt).trans k.own,
  k.o.ai u λq i=>E (k.gT q (cy.2 i)) (by decide) (by decide),G,k.c.ai u λq i=>E (k.cc q (cy.2 i)) (by decide) (by decide),k.d.ai u λq i=>E (k.n2 q (cy.2 i)) (by decide) (by decide),k.gT.bD (D k.o) z,F,k.cc.bD (D k.c) z,k.n2.bD (D k.d) z⟩
theorem jW.XX{h h':I}{ow ow':cT}{id s m:Nat}{x:fR}{cq cG B C j:V}{l:List an}(k:jW h ow id s m x cq cG B C)(u:J h h' (λq=>q=s\/a7 B q))(z:∀q,q<h.n->ow' q=ow q)
  (g:h'.get s=.cells [.ptr m 0,cq,cG,j,C,.int .i64 (x.n:Nat)] 163 none) (F:nF ow' (id,8) (gr j)) (G:Own h' 110 5 j (l.flatMap aQ)):jW h' ow' id s m { x with chgs:=l } cq cG j C:=by
 have D:∀{e sz H v},Own h e sz v H->∀q∈gr v,q<h.n:=λo q i=>o.lt q (cy.1 i);have E:∀{q t},ow q=(id,t)->t≠5->t≠8->¬(q=s\/a7 B q):=λ{q t} A L M U=>by
  rcases U with rfl|U
  ·rw[k.own]at A;simp at A;omega
  ·rw[k.cc q (cy.2 U)]at A;simp at A;omega
 exact⟨IS k.lt u.n,g,(z _ k.lt).trans k.own,
  k.o.ai u λq i=>E (k.gT q (cy.2 i)) (by decide) (by decide),k.v.ai u λq i=>E (k.cG q (cy.2 i)) (by decide) (by decide),G,k.d.ai u λq i=>E (k.n2 q (cy.2 i)) (by decide) (by decide),k.gT.bD (D k.o) z,k.cG.bD (D k.v) z,F,k.n2.bD (D k.d) z⟩
theorem afJ(l:List Int):l.flatMap (λa=>[V.int .i64 a])=ao l:=by
 induction l with
 | nil=>rfl
 | cons a r ih=>rw[List.flatMap_cons,ih];rfl
theorem XY(h:I)(u:Int):h3 mc 46 1 [(0,.int .i64 u)] h=some (.bg h.n 0 1 1,h.push (.cells [.int .i64 u] 3 none)):=by rw[mD oQ];rfl
theorem w4{h:I}{e:TypeId}{sz:Nat}{v:V}{cs:List V}(o:Own h e sz v cs):v.one=true/\v.cells=some [v]:=by
 rcases o with⟨rfl|rfl,_⟩|⟨_,_,_,_,_,rfl,_⟩<;>exact⟨rfl,rfl⟩
theorem aup(u:Int)(cs:List an)(c:an)(x:cd):l9 u [c] (l9 u cs x)=l9 u (cs++[c]) x:=by
 unfold l9;simp[List.append_assoc,List.replicate_succ']
theorem JG{h:I}{ow:cT}{id s m:Nat}{b:At}{c:bw}{x:cd}(k:hn h ow id s m b c x)(u:Int)(cs:List an)(ax:x.2.verts.length+x.2.chgs.length+cs.length<=2^30) :
  au mc 86 [.ptr s 0,.int .i64 u,kF cs] h (lz id s m b c h ow (l9 u cs x)):=by
 unfold kF;refine bd Tryz.func86 rfl ?_;simp only[ae,wF];refine aS.bI (α:=Nat×cT) (λy f h'=>f 0=.ptr s 0/\f 1=.int .i64 u/\f 8=.af cs.length (cs.flatMap aQ)/\f 9=.int .i64 (cs.length:Int)/\f 10=.int .i64 (y.1:Nat)/\y.1<=cs.length/\gF id h ow h' y.2/\hn h' y.2 id s m b c (l9 u (cs.take y.1) x)) (λy=>cs.length-y.1) (0,ow)
  ⟨rfl,rfl,rfl,rfl,rfl,Dy _,gF.refl k.aX,by simpa [l9]using k⟩ ?_
 rintro⟨t,W⟩ f E ⟨f0,f1,f8,f9,L,bB,bF,kk⟩
 simp only at L bB bF kk;refine wpS ?_;by_cases Y:t<cs.length
 ·have d1:=dV (a:=t) (b:=cs.length) (by omega)
  have hw:=mQ Y (by omega)
  obtain⟨gU,bV⟩:=W9 (kk:=.i64) Y;have fF:(x.2.verts++List.replicate (cs.take t).length u).length<=2^30/\(x.2.chgs++cs.take t).length<=2^30:=by
   simp only[Dx,aBg,List.length_take];omega
  have cr:l9 u (cs.take (t+1)) x=l9 u [cs[t]] (l9 u (cs.take t) x):=by rw[aup,azi Y]
  generalize cs[t]=C at bV cr;obtain⟨A,M,z,B,F⟩:=kk.pX;obtain⟨X,Z⟩:∃X,X=l9 u (cs.take t) x:=⟨_,rfl⟩;have D7:X.2.verts.length<=2^30:=by rw[Z];exact fF.1
  have qt:X.2.chgs.length<=2^30:=by rw[Z];exact fF.2
  rw[<-Z]at kk F cr;clear Z;have cc:(V.agg (aQ C)).cells=some (aQ C):=rfl;have st:bA (some 5) (aR.cells [V.int .i64 0,V.int .i64 0,V.int .i64 0,V.int .i64 0,V.bool false] 110 none) 0 (aQ C)=some (.cells (aQ C) 110 none):=rfl;have ld:cJ (some (some 5)) (some (aQ C++gU))=some (.agg (aQ C)):=be (qh C);obtain⟨H,hH,bo,ji,ib⟩:=b0 E (.cells (aQ C) 110 none);have Q:=F.ba bo;have gs:=Q.get;simp only[ae,ds,AS,reduceCtorEq,Vs,Ed,ou,hL,oR,qS,f0,f8,f9,L,d1,bV,ld,cc,st];rw[<-hH];clear hH;have lH:Own H 3 1 M (X.2.verts.flatMap λa=>[V.int .i64 a]):=by rw[afJ];exact Q.v
  obtain⟨j,D,q,ec,k2,dd⟩:=Rl (P:=mc) (t:=46) (enc:=λa:Int=>[V.int .i64 a]) oQ (by decide) (λ_=>rfl) (λ_=>rfl) fB (by decide) (by decide) lH (cs:=X.2.verts) (ajy D7 (by decide)) u
  have hx:J H (H.push (.cells [.int .i64 u] 3 none)) none_:=J.push _ _ _;have ag:ki mc 46 46 M (.bg H.n 0 1 1) (H.push (.cells [.int .i64 u] 3 none))=some (j,D):=q;have Tb:a7 M s=False:=eq_false λU=>by have:=F.cG s (cy.2 U);rw[F.own]at this;simp at this
  have ah:a7 M E.n=False:=eq_false λU=>by have:=F.v.lt _ U;omega
  have rX:J H D (λx=>a7 M x):=hx.up.trans' k2;have w3:=(rX.get s Q.lt (λU=>Tb.mp U)).trans gs;have nT:=(rX.get E.n (by omega) (λU=>ah.mp U)).trans ji
  obtain⟨k9,jb⟩:=w4 ec;have dA:bA (some 1) (aR.cells [.ptr m 0,A,M,z,B,.int .i64 (X.2.n:Nat)] 163 none) 2 [j]=some (.cells [.ptr m 0,A,j,z,B,.int .i64 (X.2.n:Nat)] 163 none):=by rw[rA k9];rfl
  simp only[ae,ds,AS,By,Vs,Ed,Gm,f1,gs,XY,ag,w3,jb,dA];have R:J H (D.set s (.cells [.ptr m 0,A,j,z,B,.int .i64 (X.2.n:Nat)] 163 none)) (λq=>q=s\/a7 M q) :=
   (rX.mono λq i=>.inr i).trans' ((J.set _ _ _).mono λq i=>.inl i)
  have bH:E.n≠s:=by have:=F.lt;omega
  have nn:(D.set s (.cells [.ptr m 0,A,j,z,B,.int .i64 (X.2.n:Nat)] 163 none)).get E.n=.cells (aQ C) 110 none:=by rw[n1 bH];exact nT
  have g3:(D.set s (.cells [.ptr m 0,A,j,z,B,.int .i64 (X.2.n:Nat)] 163 none)).get s=(.cells [.ptr m 0,A,j,z,B,.int .i64 (X.2.n:Nat)] 163 none):=aL;have lx:Own (D.set s (.cells [.ptr m 0,A,j,z,B,.int .i64 (X.2.n:Nat)] 163 none)) 3 1 j (ao (X.2.verts++[u])):=by
   have Aw:Own D 3 1 j (ao (X.2.verts++[u])):=by rw[<-afJ];exact ec
   refine Aw.ai (J.set _ _ _) λq i U=>?_;subst U;rcases dd with d|d
   ·rw[d]at i;exact Tb.mp i
   ·have E:(H.push (.cells [.int .i64 u] 3 none)).n<=q:=d q i;have:=Q.lt;have:=hx.n;omega
  have EX:e8 H (gr M) (gr j):=λq i=>by
   rcases Ri dd q i with U|U
   ·exact .inl U
   ·exact .inr (by have:=hx.n;have:(H.push (.cells [.int .i64 u] 3 none)).n<=q:=U;omega)
  have n3:(D.set s (.cells [.ptr m 0,A,j,z,B,.int .i64 (X.2.n:Nat)] 163 none)).n=D.n:=rfl;generalize D.set s (.cells [.ptr m 0,A,j,z,B,.int .i64 (X.2.n:Nat)] 163 none)=G at R n3 g3 lx nn⊢;have iz:=kk.ba bo;have lv:∀q,q<H.n->(q=s\/a7 M q)->∃t,W q=(id,t)/\5<=t/\t<=9:=λq i U=>by
   rcases U with rfl|U
   ·exact⟨5,F.own,by omega,by omega⟩
   ·exact⟨7,F.cG q (cy.2 U),by omega,by omega⟩
  have oI:=gF.dF (id:=id) iz.aX R (λq i U=>by obtain⟨t,E,D,_⟩:=lv q i U;unfold cP;rw[E];exact⟨rfl,D⟩) (id,7)
  have O:=Q.XW R oI.bD g3 (F.cG.new (λq i=>Q.v.lt q (cy.1 i)) EX λq i=>lx.lt q (cy.1 i)) lx;have aq:=iz.eb.part R lv oI.bD;have aw:=iz.w2.ai R;have rY:=(gF.push (id:=id) kk.aX bo).trans oI;have aM:=R.n;have eT:E.n<G.n:=by omega
  obtain⟨N,S,CO,qX,cx,n4⟩:=Rl (P:=mc) (t:=52) Em (by decide) qh Ww wF (by decide) (by decide) O.c (cs:=X.2.chgs) (ajy qt (by decide)) C
  have XZ:J G (G.push (.cells (aQ C) 110 none)) none_:=J.push _ _ _;have NF:a7 z s=False:=eq_false λU=>by have:=F.cc s (cy.2 U);rw[F.own]at this;simp at this
  have az:a7 z E.n=False:=eq_false λU=>by have:=F.c.lt _ U;omega
  have X0:J G S (λx=>a7 z x):=XZ.up.trans' cx;have aB:=(X0.get s O.lt (λU=>NF.mp U)).trans g3;obtain⟨Rm,NG⟩:=w4 qX;have Rn:bA (some 1) (.cells [.ptr m 0,A,j,z,B,.int .i64 (X.2.n:Nat)] 163 none) 3 [N]=some (.cells [.ptr m 0,A,j,N,B,.int .i64 (X.2.n:Nat)] 163 none):=by rw[rA Rm];rfl
  have d0:cO (.cells (aQ C) 110 none) 0=some (aQ C):=rfl;have kS:cJ (some (some 5)) (some (aQ C))=some (.agg (aQ C)):=rfl;refine aS.cS (λx=>a7 z x) [7,8,12] (.q 0 (.q 1 (.q 2 (.q 3 (.q 4 (.q 5 (.q 6 (.e 7 (.e 8 (.q 9 (.q 10 (.q 11 (.a 12 .done)))) .stop) .stop)))))))) ?_;simp only[ae,bt,fo,ds,AS,By,reduceCtorEq,abl,Ed,ou,abP,aqP,f0,L,g3,nn,d0,kS,MB,CO,NF,az,X0,aB,NG,Rn,hw];have T:J G (S.set s (.cells [.ptr m 0,A,j,N,B,.int .i64 (X.2.n:Nat)] 163 none)) (λq=>q=s\/a7 z q) :=
   (X0.mono λq i=>.inr i).trans' ((J.set _ _ _).mono λq i=>.inl i)
  have g5:(S.set s (.cells [.ptr m 0,A,j,N,B,.int .i64 (X.2.n:Nat)] 163 none)).get s=(.cells [.ptr m 0,A,j,N,B,.int .i64 (X.2.n:Nat)] 163 none):=aL;have G2:Own (S.set s (.cells [.ptr m 0,A,j,N,B,.int .i64 (X.2.n:Nat)] 163 none)) 110 5 N ((X.2.chgs++[C]).flatMap aQ):=Own.ai qX (J.set _ _ _) λq i U=>by
   subst U;rcases n4 with d|d
   ·rw[d]at i;exact NF.mp i
   ·have E:(G.push (.cells (aQ C) 110 none)).n<=q:=d q i;have:=O.lt;have:=XZ.n;omega
  have aG:e8 G (gr z) (gr N):=λq i=>by
   rcases Ri n4 q i with U|U
   ·exact .inl U
   ·exact .inr (by have:=XZ.n;have:(G.push (.cells (aQ C) 110 none)).n<=q:=U;omega)
  generalize S.set s (.cells [.ptr m 0,A,j,N,B,.int .i64 (X.2.n:Nat)] 163 none)=bM at T g5 G2⊢;have Tc:∀q,q<G.n->(q=s\/a7 z q)->∃t,dF W H.n G.n (id,7) q=(id,t)/\5<=t/\t<=9:=λq i U=>by
   rcases U with rfl|U
   ·exact⟨5,O.own,by omega,by omega⟩
   ·exact⟨8,O.cc q (cy.2 U),by omega,by omega⟩
  have vb:=gF.dF (id:=id) oI.aX T (λq i U=>by obtain⟨t,E,D,_⟩:=Tc q i U;unfold cP;rw[E];exact⟨rfl,D⟩) (id,8)
  have NI:=O.XX T vb.bD g5 (O.cc.new (λq i=>O.c.lt q (cy.1 i)) aG λq i=>G2.lt q (cy.1 i)) G2;have aI:=aq.part T Tc vb.bD;have aJ:hn bM (dF (dF W H.n G.n (id,7)) G.n bM.n (id,8)) id s m b c (l9 u [C] X):=⟨aI,⟨_,_,_,_,NI⟩,vb.aX,aw.ai T,kk.nS⟩;exact ar ⟨(t+1,_),⟨f0,f1,f8,f9,rfl,Y,bF.trans (rY.trans vb),by rw[cr];exact aJ⟩,by simp only;omega⟩
 ·have d1:=eC (a:=t) (b:=cs.length) (by omega)
  rw[ajz (by omega)]at kk
  simp only[ae,f9,L,d1,k6,Tryz.results86,hK];exact ar ⟨rfl,W,bF,kk⟩
def sz(x:cd):Nat:=x.2.outs.length+x.2.verts.length+x.2.chgs.length+x.2.deads.length+4000*(1000-x.2.n)
structure Inv(c:bw)(x:cd):Prop where
 n:x.2.n<=1000
 wf:∀u K,c.ee u=some K->dX K (x.1.st u)
structure cK(c:bw)(j:Nat)(x y:cd):Prop where
 inv:Inv c y
 sz:sz y<=sz x+j
 ms:y.1.ms=x.1.ms
def ho(c:bw)(j:Nat)(F:cd->cd):Prop:=∀x,Inv c x->cK c j x (F x)
theorem cK.refl{c:bw}{x:cd}(i:Inv c x):cK c 0 x x:=⟨i,BY _,rfl⟩
theorem cK.trans{c:bw}{j k:Nat}{x y z:cd}(a:cK c j x y)(b:cK c k y z):cK c (j+k) x z:=⟨b.inv,by have:=a.sz;have:=b.sz;omega,b.ms.trans a.ms⟩
theorem cK.mono{c:bw}{j k:Nat}{x y:cd}(a:cK c j x y)(h:j<=k):cK c k x y:=⟨a.inv,by have:=a.sz;omega,a.ms⟩
theorem ho.mono{c:bw}{j k:Nat}{F:cd->cd}(a:ho c j F)(h:j<=k):ho c k F:=λx i=>(a x i).mono h
theorem JH(c:bw)(u:Int)(r:Rec)(e:Int):ho c 1 (q5 u r e):=λx i=>⟨⟨i.n,i.wf⟩,by simp only[sz,q5,Dx,axW,ayK];omega,rfl⟩
theorem X1(c:bw)(u:Int)(r:Rec):ho c 1 (pW u r):=λx i=>⟨⟨i.n,i.wf⟩,by simp only[sz,pW,Dx,axW,ayK];omega,rfl⟩
theorem JI(c:bw)(u:Int)(cs:List an):ho c (2*cs.length) (l9 u cs):=λx i=>⟨⟨i.n,i.wf⟩,by simp only[sz,l9,Dx,aBg];omega,rfl⟩
theorem afR{c:bw}{x:cd}(i:Inv c x)(h:x.2.n≠1000):Inv c (du x)/\sz (du x)+4000=sz x/\(du x).1=x.1:=by
 have a:=i.n;refine⟨⟨by simp only[du];omega,i.wf⟩,?_,rfl⟩
 simp only[sz,du];omega
theorem NJ{c:bw}{u:Nat}{l:List an}(j:∀K,c.ee u=some K->dX K l):ho c 0 (ma u l):=λx i=>⟨⟨i.n,λv K a=>by
 simp only[ma];split
 ·rename_i e;subst e;exact j K a
 ·exact i.wf v K a⟩,BY _,rfl⟩
theorem NK{c:bw}{α:Type}{j:Nat}(f:cd->α->cd):∀(l:List α),(∀a∈l,ho c j λx=>f x a)->ho c (j*l.length) λx=>l.foldl f x
 | [],_=>λx i=>cK.refl i
 | a::r,h=>λx i=>by
  have m:=h a (by simp) x i
  have q:=NK f r (λb ak=>h b (by simp[ak])) (f x a) m.inv
  have s:=m.trans q;exact s.mono (by rw[axW,Nat.mul_add];omega)
theorem afS(v:bz)(r:Rec):(qj v r).1.length<=4:=by
 unfold qj;split
 ·simp
 ·split
  ·split
   ·split
    ·simp only[kR];split
     ·simp
     ·split
      ·simp
      ·split
       ·split<;>simp
       ·split
        ·rw[Nz];omega
        ·simp
    ·simp
   ·simp
  ·simp
theorem afT{c:bw}{v:bz}{u:Int}{r:Rec}{th:Rec->cd->cd}(h:∀y,ho c 24 (th y)):ho c 96 (sF v u th r):=λx i=>by
 unfold sF;split
 ·exact(JH c u r _ x i).mono (by omega)
 ·have:=afS v r;exact(NK (j:=24) (λx y=>th y x) (qj v r).1 (λa _=>h a) x i).mono (by omega)
theorem afU{K:fc}{l:List an}(w:dX K l)(k t v:Int):(um K l k t v).length<=1025:=by
 have:=w.len;cases K with
 | kv=>simp[um]
 | dW g=>simp[um]
 | fi g=>
  simp only[um,jE,Dx,axT,axW,ayK];have a:=azK (ce (fK g l k t v)) (found g l k t);have i:=MP g l k t;omega
theorem afV{K:fc}{e:b6}{l:List an}{r:Rec}{N:Int}(w:dX K l)(h:nR K e l r=.ok N):oC K e l r=uo K l r.k r.t N/\dX K (uo K l r.k r.t N):=by
 have a:oC K e l r=uo K l r.k r.t N:=by unfold oC;rw[h]
 exact⟨a,by rw[<-a];exact ato w r⟩
theorem aur{c:bw}{K:fc}{v:bz}{u:Nat}{r:Rec}{a:Rec->cd->cd}(m:c.ee u=some K)(h:∀y,ho c 24 (a y)):ho c 2100 (w0 K v u a r):=λx i=>by
 unfold w0;split
 ·exact(JH c u r _ x i).mono (by omega)
 ·have w:=i.wf u K m;split
  ·exact(JH c u r _ x i).mono (by omega)
  ·rename_i N s;have q:=NJ (c:=c) (u:=u) (l:=uo K (x.1.st u) r.k r.t N) (λA j=>by rw[m]at j;cases j;exact(afV w s).2) x i
   have j:=JI c u (um K (x.1.st u) r.k r.t N) _ q.inv;have z:=h ⟨r.k,N,C5 K (x.1.st u) r.k r.t⟩ _ j.inv;have:=afU w r.k r.t N;exact((q.trans j).trans z).mono (by omega)
theorem aus{c:bw}{v:bz}{u:Int}{r:Rec}{a:Rec->cd->cd}(h:∀y,ho c 24 (a y)):ho c 24 (m7 c v u a r):=λx i=>by
 unfold m7;split
 ·split
  ·exact h _ x i
  ·exact(JH c u r _ x i).mono (by omega)
 ·exact(JH c u r _ x i).mono (by omega)
theorem afW{c:bw}{m:Int->Rec->cd->cd}(h:∀u y,ho c 24 (m u y))(f:Int)(u:Nat)(r:Rec):ho c 1 (uy c m f u r):=λx i=>by
 unfold uy;split
 ·exact JH c u r _ x i
 ·rename_i z;obtain⟨j,C,A⟩:=afR i z;have a:∀{y:cd} {k:Nat},k<=4000->cK c k (du x) y->cK c 1 x y:=λD s=>⟨s.inv,by have:=s.sz;omega,s.ms.trans (by rw[A])⟩
  have q:cK c 1 x (du x):=a (Dy _) (cK.refl j);split
  ·exact q
  ·split
   ·exact a (by omega) (afT (λy=>(X1 c u y).mono (by omega)) _ j)
   ·split
    ·exact a (by omega) (afT (λy=>h u y) _ j)
    ·split
     ·split
      ·rename_i K B;exact a (by omega) (aur B (λy=>h u y) _ j)
      ·exact q
     ·split
      ·split
       ·exact a (by omega) (aus (λy=>h u y) _ j)
       ·exact q
      ·exact q
theorem aut{c:bw}(i:c.l.length<=24)(v:Int):(c.us v).length<=24:=by
 unfold bw.us;have m:=GQ (v:=v) (l:=c.l) (j:=0);have a:=azK (λu=>c.P.getD u 0==c.part) ((hU v 0 c.l).map azk);rw[axT]at a;omega
theorem JJ{c:bw}(m:c.l.length<=24):∀(k:Nat) (v:Int) (r:Rec),ho c 24 (tl c k v r)
 | 0,v,r=>λx i=>(cK.refl i).mono (by omega)
 | k+1,v,r=>λx i=>by
  have:=aut m v;exact(NK (j:=1) (λx u=>uy c (tl c k) v u r x) (c.us v) (λu _=>afW (λa y=>JJ m k a y) v u r) x i).mono (by omega)
theorem vP(c:bw)(b:At):c.cells b=[.af c.l.length (c.l.flatMap al),.int .i64 c.p,.af c.P.length (ao c.P),.int .i64 c.part,.ptr b.lR 0,.map b.mp]:=rfl
theorem JK{l:List bz}{u:Nat}{v:bz}(h:l[u]?=some v){kk:aOT}:∃r,gP mc 22 (.af l.length (l.flatMap al)) (.int kk (u:Int))=some (.at (al v++r)) :=
 P4 la rfl h En
theorem Ro{x:cd}{j:Nat}(h:sz x+j<=2^30):x.2.deads.length<=2^30:=by unfold sz at h;omega
theorem afX{x:cd}{j:Nat}(h:sz x+j<=2^30):x.2.outs.length<=2^30:=by unfold sz at h;omega
section
variable {id s m:Nat} {b:At} {c:bw}
theorem Ax{g:FuncId}(ij:mC mc g=true){th:Rec->cd->cd}{u:Nat}{v:bz}(aI:c.l[u]?=some v)
  (M:∀(y:Rec) (h:I) (ow:cT) (x:cd),hn h ow id s m b c x->Inv c x->sz x+24<=2^30->au mc g [.ptr s 0,.int .i64 u,.agg (aK y)] h (lz id s m b c h ow (th y x)))
  (qH:∀y,ho c 24 (th y)) {h:I} {ow:cT} {x:cd} (k:hn h ow id s m b c x) (i:Inv c x) (bl:sz x+100<=2^30) (r:Rec) :
  au mc 153 [.ptr s 0,.int .i64 u,.agg (aK r),.func (.func g) [.ptr s 0] []] h (lz id s m b c h ow (sF v u th r x)):=by
 refine bd Tryz.func153 rfl ?_;obtain⟨cq,cG,cY,c7,aa⟩:=k.pX;obtain⟨H,hH,D,N,ib⟩:=b0 h (.cells (aK r) 45 none);have B:=k.ba D;have gs:=(aa.ba D).get;have O:=B.eb.get;rw[vP]at O;have ld:cJ (some (some 3)) (some (aK r))=some (.agg (aK r)):=rfl;have d0:cO (.cells (aK r) 45 none) 0=some (aK r):=rfl;have cc:(V.agg (aK r)).cells=some (aK r):=rfl;obtain⟨gU,bV⟩:=JK (kk:=.i64) aI;have Dh:cJ (some (some 6)) (some (al v++gU))=some (.agg (al v)):=be (la v);simp only[ae];rw[<-hH];clear hH;refine aS.cS none_ [] (.q 0 (.q 1 (.q 2 (.q 3 (.q 4 (.q 5 (.q 6 (.q 7 (.q 8 (.q 9 (.q 10 (.q 11 (.c 12 (.q 13 (.q 14 (.q 15 (.q 16 (.q 17 .done)))))))))))))))))) ?_;simp only[ae,bt,ds,AS,reduceCtorEq,Je,Gb,km,kH,dM,pN,zU,gs,N,ld,d0,O,bV,Dh];refine fA rfl rfl rfl (λh' hk=>aum v r h' (hk.elim (λq=>B.w2.ai q) λe=>by rw[e];exact B.w2)) ?_
 unfold H0;simp only[ae,bt,ds];have sG:=Ro bl;cases Q:((qj v r).2 !=0);rotate_left
 ·have E:(qj v r).2≠0:=by simpa using Q
  simp only[ae,ds,reduceCtorEq,dM,N,ld,d0];refine cA (G0 B u r (qj v r).2 sG) λq ad ⟨ay,R,bF,S⟩=>?_;subst ay;simp only[ae,aP,aGk,hK];exact ar ⟨rfl,R,(gF.push k.aX D).trans bF,by unfold sF;rw[if_pos E];exact S⟩
 have E:¬(qj v r).2≠0:=by simpa using Q
 have lF:sF v u th r x=(qj v r).1.foldl (λx y=>th y x) x:=by unfold sF;rw[if_neg E]
 have pJ:=afS v r;rw[lF];generalize(qj v r).1=L at pJ;clear lF Q E aa gs O N bV Dh;simp only[ae,ds,rL];refine aS.bI (α:=Nat×cT) (λy f h'=>f 0=.ptr s 0/\f 1=.int .i64 (u:Nat)/\f 3=.func (.func g) [.ptr s 0] []/\f 35=.af L.length (L.flatMap aK)/\f 36=.int .i64 (L.length:Int)/\f 37=.int .i64 (y.1:Nat)/\y.1<=L.length /\
   gF id h ow h' y.2/\hn h' y.2 id s m b c ((L.take y.1).foldl (λx y=>th y x) x)/\cK c (24*y.1) x ((L.take y.1).foldl (λx y=>th y x) x)) (λy=>L.length-y.1) (0,ow)
  ⟨rfl,rfl,rfl,rfl,rfl,rfl,Dy _,gF.push k.aX D,B,cK.refl i⟩ ?_
 rintro⟨t,eh⟩ f h1 ⟨f0,f1,f3,C,z,j,bB,bF,kk,A⟩
 simp only at j bB bF kk A;refine wpS ?_;by_cases F:t<L.length
 ·have ay:=dV (a:=t) (b:=L.length) (by omega)
  have hw:=mQ F (by omega)
  obtain⟨H2,eM⟩:=atu (kk:=.i64) F;have G:(L.take (t+1)).foldl (λx y=>th y x) x=th L[t] ((L.take t).foldl (λx y=>th y x) x):=by rw[azi F,aAU];rfl
  generalize L[t]=Y at eM G;have T:cJ (some (some 3)) (some (aK Y++H2))=some (.agg (aK Y)):=be (Ae Y);have W:(V.agg (aK Y)).cells=some (aK Y):=rfl;have Z:bA (some 3) (aR.cells [V.int .i64 0,V.int .i64 0,V.int .i64 0] 45 none) 0 (aK Y)=some (.cells (aK Y) 45 none):=rfl;have ab:cO (.cells (aK Y) 45 none) 0=some (aK Y):=rfl;have kS:cJ (some (some 3)) (some (aK Y))=some (.agg (aK Y)):=rfl;obtain⟨H1,fg,vc,ah,_⟩:=b0 h1 (.cells (aK Y) 45 none);have o6:=kk.ba vc;generalize(L.take t).foldl (λx y=>th y x) x=X at G kk o6 A;simp only[ae,ds,dM,tg,vz,f1,f3,C,z,j,ay,eM,T,W,Z,ab,kS];rw[<-fg];clear fg;refine Uq ij (M Y H1 eh X o6 A.inv (by have:=A.sz;omega)) λq ad ⟨ay,R,w5,S⟩=>?_
  subst ay;simp only[ae,ds,j,hw];have ag:=A.trans (qH Y X A.inv);exact ar ⟨(t+1,R),⟨f0,f1,f3,C,z,rfl,F,bF.trans ((gF.push kk.aX vc).trans w5),by rw[G];exact S,by rw[G];exact ag⟩,by simp only;omega⟩
 ·have ay:=eC (a:=t) (b:=L.length) (by omega)
  rw[ajz (by omega)]at kk
  simp only[ae,z,j,ay,k6,aGk,hK];exact ar ⟨rfl,eh,bF,kk⟩
end
theorem hf.at{h:I}{ow:cT}{id m:Nat}{b:At}{c:bw}{s:fs}(k:hf h ow id m b c s){u:Nat}{K:fc}(H:c.ee u=Option.some K){v:bz}(L:c.l[u]?=Option.some v) :
  ∃a O,eu b.es (u:Int)=Option.some a/\iA h a O K v.e v.n (s.st u)/\dj v.e=true/\nF ow (id,10+u) O /\
   ∀(h':I) (A:List Nat) (D:List an),J h h' (·∈O)->e8 h O A->iA h' a A K v.e v.n D->hf h' (dF ow h.n h'.n (id,10+u)) id m b c { s with st:=λw=>if w=u then D else s.st w }:=by
 obtain⟨a,O,x,M,N,Q,B,R⟩:=k.some u K H;rw[L]at N;cases N;refine⟨a,O,M,Q,R,B,λh' A D i Z S=>?_⟩;obtain⟨ay,E,F,ph,g1,g2,st⟩:=k.marks;have C:∀q t,q<h.n->ow q=(id,t)->t≠10+u->h'.get q=h.get q:=λq t j T bB=>i.get q j λU=>by rw[B q U]at T;simp at T;omega
 have z:∀q,q<h.n->dF ow h.n h'.n (id,10+u) q=ow q:=λq j=>Av j;refine⟨IS k.lt i.n,(C _ _ k.lt k.own (by omega)).trans k.get,(z _ k.lt).trans k.own,⟨ay,IS E i.n,IS F i.n,ph,(C _ _ E k.hF.1 (by omega)).trans g1,(C _ _ F k.hF.2 (by omega)).trans g2,st⟩,
  ⟨(z _ E).trans k.hF.1,(z _ F).trans k.hF.2⟩,IS k.lS i.n,(C _ _ k.lS k.nj (by omega)).trans k.map,(z _ k.lS).trans k.nj,λw Bk G=>?_,k.none⟩
 by_cases W:w=u
 ·subst W;rw[H]at G;cases G;exact⟨a,A,v,M,L,by simpa using S,B.new Q.lt Z S.lt,R⟩
 ·obtain⟨a2,xN,eM,cB,de,X,Y,vC⟩:=k.some w Bk G;refine⟨a2,xN,eM,cB,de,?_,Y.bD X.lt z,vC⟩;simp only[if_neg W];exact X.ai i λq j U=>by have ay:=Y q j;rw[B q U]at ay;simp at ay;omega
theorem hn.at{h:I}{ow:cT}{id s m:Nat}{b:At}{c:bw}{x:cd}(k:hn h ow id s m b c x){u:Nat}{K:fc}(C:c.ee u=some K){v:bz}(D:c.l[u]?=some v) :
  ∃a O,eu b.es (u:Int)=some a/\iA h a O K v.e v.n (x.1.st u)/\dj v.e=true/\(∀q∈O,ow q=(id,10+u)) /\
   ∀(h':I) (i:List Nat) (j:List an),J h h' (·∈O)->e8 h O i->iA h' a i K v.e v.n j->∃ow',gF id h ow h' ow'/\hn h' ow' id s m b c (ma u j x):=by
 obtain⟨a,O,E,F,G,A,B⟩:=k.eb.at C D;refine⟨a,O,E,F,G,A,λh' i j z H L=>?_⟩;obtain⟨cq,cG,M,N,Q⟩:=k.pX;have bF:=gF.dF (id:=id) k.aX z (λq R U=>by unfold cP;rw[A q U];exact⟨rfl,by show 5<=10+u;omega⟩) (id,10+u)
 exact⟨_,bF,B h' i j z H L,⟨cq,cG,M,N,Q.ai z (λq R U t B S e=>by rw[A q U]at e;simp at e;omega) bF.bD⟩,bF.aX,k.w2.ai z,k.nS⟩
theorem gF.step{id:Nat}{h i j:I}{ow ow':cT}(f:Fr h ow)(k:J h i none_)(e:gF id i ow j ow'):gF id h ow j ow':=(gF.push f k).trans e
theorem af1{K:fc}{e:b6}{l:List an}{r:Rec}{c:Int}(h:nR K e l r=.error c):c≠0:=by
 unfold nR at h;split at h
 ·cases h;decide
 ·split at h
  ·cases h;decide
  ·split at h
   ·cases h;decide
   ·cases h
theorem auy{h h':I}{p:V}{l:Seen}{i j cl:Nat}(k:wX h p l i j cl)(a:J h h' none_\/h'=h):wX h' p l i j cl:=by
 rcases a with a|rfl
 ·obtain⟨ay,m,q,s,u,z,A⟩:=k;exact⟨ay,IS m a.n,IS q a.n,s,(a.get _ m (by simp[none_])).trans u,(a.get _ q (by simp[none_])).trans z,A⟩
 ·exact k
theorem af2{h h':I}{a:Nat}{O:List Nat}{K:fc}{e:b6}{n:Int}{l:List an}(s:iA h a O K e n l)(i:J h h' none_\/h'=h):iA h' a O K e n l:=by
 rcases i with i|rfl
 ·exact s.ba i
 ·exact s
section
variable {id s m:Nat} {b:At} {c:bw}
theorem X2{u:Nat}{v:bz}(aI:c.l[u]?=some v){K:fc}(R:c.ee u=some K){j:Rec->cd->cd}
  (od:∀(y:Rec) (h:I) (ow:cT) (x:cd),hn h ow id s m b c x->Inv c x->sz x+24<=2^30->au mc 88 [.ptr s 0,.int .i64 u,.agg (aK y)] h (lz id s m b c h ow (j y x)))
  {h:I} {ow:cT} {x:cd} (k:hn h ow id s m b c x) (i:Inv c x) (bl:sz x+2100<=2^30) (r:Rec) :
  au mc 155 [.ptr s 0,.int .i64 u,.agg (aK r)] h (lz id s m b c h ow (w0 K v u j r x)):=by
 refine bd Tryz.func155 rfl ?_;obtain⟨cq,cG,cY,c7,aa⟩:=k.pX;obtain⟨H,hH,D,G,ib⟩:=b0 h (.cells (aK r) 45 none);have B:=k.ba D;have gs:=(aa.ba D).get;have S:=B.eb.get;rw[vP]at S;have L:cJ (some (some 3)) (some (aK r))=some (.agg (aK r)):=rfl;have M:cO (.cells (aK r) 45 none) 0=some (aK r):=rfl;obtain⟨a,O,aT,iH,lE,lu,yy⟩:=B.at R aI;have jj:=lookup_int (P:=mc) (ok:=false) (k:=(u:Int)) ut Qw B.eb.map;rw[aT]at jj;have w6:nB mc 148 (.map b.mp) (.int .i64 (u:Int)) false H=some (.ptr a 0):=jj;have uY:=B.eb.marks;simp only[ae,ds,reduceCtorEq,Gb,zU];rw[<-hH];clear hH;simp only[ae,ds,AS,By,Ga,Gg,gs,S,w6];refine aS.cS none_ [] (.q 0 (.q 1 (.q 2 (.q 3 (.q 4 (.q 5 (.q 6 (.q 7 (.q 8 (.c 9 (.c 10 .done))))))))))) ?_;simp only[ae,bt,ds,AS,By,reduceCtorEq,F9,Gb,Gf,dM,zU,gs,G,L,M,S];refine fA rfl rfl rfl (λh' W=>Nq h' _ _ _ _ _ (auy uY W)) ?_;simp only[bt];refine fA rfl rfl rfl (λh' W=>atq (af2 iH W) r (leastOf x.1.ms)) ?_;simp only[ae,bt,ds];have sG:=Ro bl;cases fF:Q3 K r (leastOf x.1.ms);rotate_left
 ·simp only[ae,ds,reduceCtorEq,dM,G,L,M];refine cA (G0 B u r 13 sG) λq z ⟨ay,fh,bF,A⟩=>?_;subst ay;simp only[ae,aP,aEz,hK];exact ar ⟨rfl,fh,gF.step k.aX D bF,by unfold w0;rw[if_pos fF];exact A⟩
 have bq:w0 K v u j r x=(match nR K v.e (x.1.st u) r with
   | .error e=>q5 u r e x
   | .ok N=>j ⟨r.k,N,C5 K (x.1.st u) r.k r.t⟩ (l9 u (um K (x.1.st u) r.k r.t N) (ma u (uo K (x.1.st u) r.k r.t N) x))):=by
  unfold w0;rw[if_neg (by rw[fF];decide)];cases nR K v.e (x.1.st u) r<;>rfl
 rw[bq];simp only[ae,ds,dM,G,L,M];refine cA (atp iH lE B.w2 r) λq z ⟨fQ,ay,X,nl,cv⟩=>?_;subst ay;obtain⟨fh,w5,A⟩:=yy z fQ _ X nl cv;have ag:H.n=h.n+1:=ib;have nT:=(X.get h.n (by omega) (λU=>by
  have ay:=lu _ U;have bc:=k.aX h.n (BY _);rw[bc]at ay;simp at ay;exact absurd ay.1.symm k.nS)).trans G
 have w:=i.wf u K R;cases E:nR K v.e (x.1.st u) r with
 | error e=>
  have Y:rV K v.e (x.1.st u) r=sq e:=by unfold rV;rw[E]
  have Z:ma u (oC K v.e (x.1.st u) r) x=x:=by
   have:oC K v.e (x.1.st u) r=x.1.st u:=by unfold oC;rw[E]
   rw[this];unfold ma;have:(λw=>if w=u then x.1.st u else x.1.st w)=x.1.st:=by funext w;split;rename_i e;rw[e];rfl
   rw[this]
  rw[Z]at A;have bH:(e !=0)=true:=by
   have:=af1 E;simpa using this
  rw[Y];unfold sq;obtain⟨ca,F,C,_,_⟩:=b0 z (aR.cells [V.int .i64 0,V.int .i64 0,V.int .i64 0] 45 none);have nn:=(C.get h.n (by have:=X.n;omega) (by simp[none_])).trans nT
  simp only[ae,ds,AS,reduceCtorEq,dM,tg,vz,bH];rw[<-F];clear F;simp only[ae,ds,nn,L,M];refine cA (G0 (A.ba C) u r e sG) λq aC ⟨ay,hC,Q,k3⟩=>?_;subst ay;simp only[ae,aP,aEz,hK];exact ar ⟨rfl,hC,gF.step k.aX D (w5.trans (gF.step A.aX C Q)),k3⟩
 | ok N=>
  have Y:rV K v.e (x.1.st u) r=lN r.k N (C5 K (x.1.st u) r.k r.t) (kF (um K (x.1.st u) r.k r.t N)):=by unfold rV;rw[E]
  obtain⟨Z,ab⟩:=afV w E;rw[Z]at A;rw[Y];unfold lN;have t1:=NJ (c:=c) (u:=u) (l:=uo K (x.1.st u) r.k r.t N) (λBk z=>by rw[R]at z;cases z;exact ab) x i
  have t2:=JI c u (um K (x.1.st u) r.k r.t N) _ t1.inv;have cM:=afU w r.k r.t N;have ak:(ma u (uo K (x.1.st u) r.k r.t N) x).2.verts.length+(ma u (uo K (x.1.st u) r.k r.t N) x).2.chgs.length+(um K (x.1.st u) r.k r.t N).length<=2^30:=by
   have:=t1.sz;unfold sz at this bl;omega
  have mh:sz (l9 u (um K (x.1.st u) r.k r.t N) (ma u (uo K (x.1.st u) r.k r.t N) x))+24<=2^30:=by
   have:=t1.sz;have:=t2.sz;omega
  generalize C5 K (x.1.st u) r.k r.t=T at *;obtain⟨ca,F,C,Rp,dd⟩:=b0 z (aR.cells [V.int .i64 r.k,V.int .i64 N,V.int .i64 T] 45 none);simp only[ae,ds,AS,reduceCtorEq,tg,vz];rw[<-F];clear F;refine cA (JG (A.ba C) u _ ak) λq aC ⟨ay,hC,Q,k3⟩=>?_;subst ay;have B1:=(Q.ai.get z.n (by omega) (λU=>by
   unfold cP at U;rw[A.aX z.n (BY _)]at U;exact k.nS U.1.symm)).trans Rp
  simp only[ae,ds,AS,reduceCtorEq,dM,B1];refine cA (od ⟨r.k,N,T⟩ aC hC _ k3 t2.inv mh) λq bn ⟨ay,e1,fL,cx⟩=>?_;subst ay;simp only[ae,k6,aEz,hK];exact ar ⟨rfl,e1,gF.step k.aX D (w5.trans ((gF.step A.aX C Q).trans fL)),cx⟩
end
theorem af3(h:I):Pure mc 120 [.dx] h (.bool true):=by
 refine bd Tryz.func120 rfl ?_;simp only[ae,ds,reduceCtorEq,abH,aP,Tryz.results120,ac];exact ar ⟨rfl,rfl⟩
theorem auA(key:Int)(h:I):Pure mc 176 [.dx,.int .i64 key] h (.int .i64 0):=by
 refine bd Tryz.func176 rfl ?_;simp only[ae,ds,reduceCtorEq];refine bO (af3 _) ?_;simp only[ae,ds,aP,Tryz.results176,ac];exact ar ⟨rfl,rfl⟩
theorem af4(m:Int)(h:I):Pure mc 89 [.dx,.int .i64 m] h .ag:=by
 refine bd Tryz.func89 rfl ?_;simp only[ae,ds,reduceCtorEq];refine bO (af3 _) ?_;simp only[ae,ds,aP,Tryz.results89,ac];exact ar ⟨rfl,rfl⟩
theorem hn.sH{h h':I}{ow:cT}{id s m t:Nat}{b:At}{c:bw}{x:cd}(k:hn h ow id s m b c x)(i:J h h' (·=t))(j:ow t=(0,0)):hn h' ow id s m b c x:=by
 obtain⟨cq,cG,u,z,A⟩:=k.pX;refine⟨k.eb.ai i (λq _ U=>by subst U;rw[j];exact λe=>k.nS e.symm) λ_ _=>rfl,⟨cq,cG,u,z,A.ai i (λq _ U C _ _ e=>?_) λ_ _=>rfl⟩,λq B=>k.aX q (ajy i.n B),k.w2.ai i,k.nS⟩
 subst U;rw[j]at e;exact k.nS (by simpa using(congrArg Prod.fst e).symm)
section
variable {id s m:Nat} {b:At} {c:bw}
theorem auB{u:Nat}{v:bz}(aI:c.l[u]?=some v)(az:v.bj.length=2)(zQ:∀f∈v.bj,0<=f){z:Rec->cd->cd}
  (od:∀(y:Rec) (h:I) (ow:cT) (x:cd),hn h ow id s m b c x->Inv c x->sz x+24<=2^30->au mc 88 [.ptr s 0,.int .i64 u,.agg (aK y)] h (lz id s m b c h ow (z y x)))
  {h:I} {ow:cT} {x:cd} (k:hn h ow id s m b c x) (i:Inv c x) (bl:sz x+24<=2^30) (r:Rec) :
  au mc 156 [.ptr s 0,.int .i64 u,.agg (aK r)] h (lz id s m b c h ow (m7 c v u z r x)):=by
 refine bd Tryz.func156 rfl ?_;obtain⟨cq,cG,cY,c7,aa⟩:=k.pX;obtain⟨H,hH,E,ji,ib⟩:=b0 h (.cells (aK r) 45 none);have X:=k.ba E;have gs:=(aa.ba E).get;have gx:=X.eb.get;rw[vP]at gx;have Z:cJ (some (some 3)) (some (aK r))=some (.agg (aK r)):=rfl;have d0:cO (.cells (aK r) 45 none) 0=some (aK r):=rfl;have ad:cJ (some none) (some (aK r))=some (.int .i64 r.k):=rfl;obtain⟨gU,bV⟩:=JK (kk:=.i64) aI;have Dh:cJ (some (some 6)) (some (al v++gU))=some (.agg (al v)):=be (la v);have C2:(V.agg (al v)).cells=some (al v):=rfl;have NL:bA (some 6) (aR.cells [V.int .i64 0,.ag,.int .i64 0,.int .i64 0,.ag,.int .i64 0] 68 none) 0 (al v)=some (.cells (al v) 68 none):=by
  obtain⟨ee,aX,⟨o,q,aM⟩,n⟩:=v;rfl
 simp only[ae,ds,reduceCtorEq,Gb,zU];rw[<-hH];clear hH;simp only[ae,ds,AS,Je,km,kH,pN,rM,rN,gs,gx,bV,Dh,C2,NL];obtain⟨B,bP,F,vN,dd⟩:=b0 H (.cells (al v) 68 none);have A:=X.ba F;have w3:=(F.get s (aa.ba E).lt (by simp[none_])).trans gs
 have wR:=A.eb.get;rw[vP]at wR;have G:=(F.get h.n (by omega) (by simp[none_])).trans ji
 have Rq:cO (.cells (al v) 68 none) 1=some (.af v.bj.length (ao v.bj)::(aH v.e++[.int .i64 v.n])):=rfl;have X3:cO (.cells (al v) 68 none) 2=some (aH v.e++[.int .i64 v.n]):=rfl;have H3:cJ (some none) (some (.af v.bj.length (ao v.bj)::(aH v.e++[.int .i64 v.n])))=some (.af v.bj.length (ao v.bj)):=rfl;have pg:cJ (some (some 3)) (some (aH v.e++[.int .i64 v.n]))=some (.agg (aH v.e)):=be (rO v.e);have fy:v.bj.getD 1 0=v.bj[1]:=by rw[ayO,IA (by omega)];rfl
 have L:∃t,gP mc 46 (.af v.bj.length (ao v.bj)) (.int .i64 1)=some (.at (.int .i64 (v.bj.getD 1 0)::t)):=⟨_,by rw[fy];exact vq (P:=mc) (kk:=.i64) (k:=1) (by omega) iS⟩
 obtain⟨aw,L⟩:=L;have ax:0<=v.bj.getD 1 0:=by rw[fy];exact zQ _ (ayM _)
 obtain⟨w,hw⟩:∃w:Nat,v.bj.getD 1 0=(w:Int):=⟨(v.bj.getD 1 0).toNat,by omega⟩
 rw[hw]at L;have cr:c.table v r.k x.1=(match c.ee w with|some K=>C8 K (x.1.st w) r.k|none=>0):=by unfold bw.table;rw[hw];rfl
 have M:∃a,nB mc 148 (.map b.mp) (.int .i64 (w:Int)) false B=some a/\∀h',J B h' none_\/h'=B->Pure mc 176 [a,.int .i64 r.k] h' (.int .i64 (c.table v r.k x.1)):=by
  have C:=lookup_int (P:=mc) (ok:=false) (k:=(w:Int)) ut Qw A.eb.map;cases Q:c.ee w with
  | none=>
   rw[A.eb.none w Q]at C;refine⟨.dx,C,λh' _=>?_⟩;rw[cr,Q];exact auA r.k h'
  | some K=>
   obtain⟨a,O,CS,cB,de,fp,_,_⟩:=A.eb.some w K Q;rw[cB]at C;refine⟨.ptr a 0,C,λh' D=>?_⟩;rw[cr,Q];exact atr (af2 fp D) r.k
 obtain⟨aB,C,M⟩:=M;have j:∀y,y=m7 c v u z r x->y=(if dj v.e=true then(match c2 r.k r.v r.t (c.table v r.k x.1) 16 v.e with|some n=>z ⟨r.k,n,r.t⟩ x|none=>q5 u r 10 x)else q5 u r 1 x):=λy bk=>bk
 obtain⟨Y,qc⟩:∃Y,Y=m7 c v u z r x:=⟨_,rfl⟩;have j:=j Y qc;rw[<-qc];clear qc;generalize c.table v r.k x.1=T at cr M j;rw[<-bP];clear bP;refine aS.cS none_ [] (.q 0 (.q 1 (.q 2 (.q 3 (.q 4 (.q 5 (.q 6 (.q 7 (.q 8 (.q 9 (.q 10 (.q 11 (.q 12 (.q 13 (.q 14 (.q 15 (.q 16 (.c 17 (.c 18 (.q 19 (.q 20 (.q 21 (.q 22 (.q 23 .done)))))))))))))))))))))))) ?_;simp only[ae,bt,ds,AS,By,reduceCtorEq,Ga,Gb,vx,te,rK,Gg,bR,aY,dM,hL,gj,zU,w3,wR,G,vN,Rq,X3,H3,pg,L,C,Z,d0,ad];refine fA rfl rfl rfl (λh' D=>M h' D) ?_;simp only[bt];refine fA rfl rfl rfl (λh' D=>afI v.e r.k r.v r.t T h' (D.elim (λq=>A.w2.ai q) λe=>by rw[e];exact A.w2)) ?_
 unfold HZ;have sG:=Ro bl;have Te:gF id h ow B ow:=gF.step k.aX E (gF.push X.aX F);have fail:∀(e:Int),Y=q5 u r e x->e≠0->∀h',lz id s m b c B ow (q5 u r e x) (.tuple []) h'->lz id s m b c h ow Y (.tuple []) h':=λe bk _ h' ⟨_,hC,oI,k3⟩=>⟨rfl,hC,Te.trans oI,by rw[bk];exact k3⟩
 cases hm:dj v.e with
 | false=>
  rw[hm]at j;rw[if_neg (by decide)]at j⊢
  have R:((1:Int) !=0)=true:=rfl;simp only[ae,bt,ds,reduceCtorEq,dM,G,Z,d0,R];refine cA (G0 A u r 1 sG) λq aC bh=>?_;obtain⟨ay,yu⟩:=bh;subst ay;simp only[ae,aP,aEA,hK];exact ar (fail 1 j (by decide) aC ⟨rfl,yu⟩)
 | true=>
  rw[hm]at j;rw[if_pos rfl]at j⊢;cases Tf:c2 r.k r.v r.t T 16 v.e with
  | none=>
   rw[Tf]at j;unfold pQ;have R:((10:Int) !=0)=true:=rfl;simp only[ae,bt,ds,reduceCtorEq,dM,G,Z,d0,R];refine cA (G0 A u r 10 sG) λq aC bh=>?_;obtain⟨ay,yu⟩:=bh;subst ay;simp only[ae,aP,aEA,hK];exact ar (fail 10 j (by decide) aC ⟨rfl,yu⟩)
  | some N=>
   rw[Tf]at j;unfold pQ;have R:((0:Int) !=0)=false:=rfl;have ah:(if 2<=(aK r).length then some (aR.cells ((aK r).set 1 (V.int aOT.i64 N)) 45 none)else none)=some (.cells (aK ⟨r.k,N,r.t⟩) 45 none):=rfl
   obtain⟨S,W⟩:∃y,y=B.set h.n (.cells (aK ⟨r.k,N,r.t⟩) 45 none):=⟨_,rfl⟩;have dQ:J B S (·=h.n):=by rw[W];exact J.set _ _ _
   have g5:S.get h.n=.cells (aK ⟨r.k,N,r.t⟩) 45 none:=by rw[W];exact aL
   have kK:=A.sH dQ (k.aX h.n (BY _));have vb:gF id h ow S ow:=⟨λ_ _=>rfl,Te.ai.trans dQ (λq ab U=>by omega),kK.aX,trivial⟩
   have d5:cO (.cells (aK ⟨r.k,N,r.t⟩) 45 none) 0=some (aK ⟨r.k,N,r.t⟩):=rfl;have aq:cJ (some (some 3)) (some (aK ⟨r.k,N,r.t⟩))=some (.agg (aK ⟨r.k,N,r.t⟩)):=rfl;simp only[ae,bt,ds,AS,reduceCtorEq,LF,dM,qT,G,ah,d5,aq];rw[<-W];clear W;refine cA (od ⟨r.k,N,r.t⟩ S ow x kK i bl) λq bn ⟨ay,e1,fL,cx⟩=>?_;subst ay;simp only[ae,k6,aEA,hK];exact ar ⟨rfl,e1,vb.trans fL,by rw[j];exact cx⟩
end
structure fM(c:bw):Prop where
 Ay:(cg c.p c.l).2=0
 ok:ju c.l
theorem fM.len{c:bw}(o:fM c):c.l.length<=24:=(Dd o.Ay).2.2.1
theorem fM.gH{c:bw}(o:fM c){u:Nat}{v:bz}(i:c.l[u]?=some v):(1<=v.kind/\v.kind<=10)/\(∀f∈v.bj,0<=f)/\ly v=true:=by
 obtain⟨j,_,s,z⟩:=(Dd o.Ay).2.2.2 v (List.mem_of_getElem? i);exact⟨j,λf A=>(s f A).1,z⟩
theorem auD{v:bz}(h:ly v=true)(a:v.kind=9):v.bj.length=2:=by
 unfold ly at h;rw[a]at h;have:lQ.getD (9:Int).toNat (0,0,0,0)=(2,2,0,0):=by decide
 rw[this]at h;simp only[ii,Bool.and_eq_true,decide_eq_true_eq]at h;omega
theorem af8{v:bz}(h:ly v=true)(a:v.kind=6\/v.kind=7\/v.kind=8):(∃K,qz v.kind v.n=some K)/\dj v.e=true:=by
 unfold ly at h;have i:lQ.getD (6:Int).toNat (0,0,0,0)=(1,2,0,0):=by decide
 have j:lQ.getD (7:Int).toNat (0,0,0,0)=(1,2,1,1048576):=by decide
 have m:lQ.getD (8:Int).toNat (0,0,0,0)=(1,2,1,1048576):=by decide
 rcases a with a|a|a
 ·rw[a,i]at h;simp[ii,pm]at h;exact⟨⟨.kv,by unfold qz;rw[if_pos a]⟩,h.2.1⟩
 ·rw[a,j]at h;simp[ii,pm]at h;exact⟨⟨.dW v.n,by unfold qz;rw[if_neg (by omega),if_pos a,if_pos (by omega)]⟩,h.2.1⟩
 ·rw[a,m]at h;simp[ii,pm]at h;exact⟨⟨.fi v.n,by unfold qz;rw[if_neg (by omega),if_neg (by omega),if_pos a,if_pos (by omega)]⟩,h.2.1⟩
theorem fM.ee{c:bw}(o:fM c){u:Nat}{v:bz}(i:c.l[u]?=some v)(j:c.P[u]?=some c.part)(s:v.kind=6\/v.kind=7\/v.kind=8):∃K,c.ee u=some K:=by
 obtain⟨⟨K,z⟩,_⟩:=af8 (o.gH i).2.2 s;exact⟨K,by unfold bw.ee;rw[if_pos j,i];exact z⟩
theorem hn.inc{h h':I}{ow:cT}{id s m:Nat}{b:At}{c:bw}{x:cd}(k:hn h ow id s m b c x){cq cG z A:V}(i:jW h ow id s m x.2 cq cG z A)(u:J h h' (·=s))
  (g:h'.get s=.cells [.ptr m 0,cq,cG,z,A,.int .i64 ((x.2.n+1:Nat):Int)] 163 none):gF id h ow h' ow/\hn h' ow id s m b c (du x)/\jW h' ow id s m (du x).2 cq cG z A:=by
 have B:∀{q t},ow q=(id,t)->t≠5->¬(q=s):=λ{q t} C G U=>by
  subst U;rw[i.own]at C;simp at C;omega
 have D:jW h' ow id s m (du x).2 cq cG z A:=⟨IS i.lt u.n,g,i.own,
  i.o.ai u λq j=>B (i.gT q (cy.2 j)) (by decide),i.v.ai u λq j=>B (i.cG q (cy.2 j)) (by decide),i.c.ai u λq j=>B (i.cc q (cy.2 j)) (by decide),i.d.ai u λq j=>B (i.n2 q (cy.2 j)) (by decide),i.gT,i.cG,i.cc,i.n2⟩
 have E:Fr h' ow:=λq j=>k.aX q (ajy u.n j);have F:∀q,q<h.n->q=s->∃t,ow q=(id,t)/\5<=t/\t<=9:=λq j U=>by subst U;exact⟨5,i.own,by omega,by omega⟩
 exact⟨⟨λ_ _=>rfl,u.mono λq j=>by subst j;unfold cP;rw[i.own];exact⟨rfl,BY _⟩,E,trivial⟩,⟨k.eb.part u F λ_ _=>rfl,⟨_,_,_,_,D⟩,E,k.w2.ai u,k.nS⟩,D⟩
def et(c:bw)(a:Int->Rec->cd->cd)(v:bz)(f:Int)(u:Nat)(r:Rec)(y:cd):cd :=
 if v.kind=10\/v.kind=5 then sF v u (pW u) r y
 else if v.kind=2\/v.kind=3\/v.kind=4 then sF v u (a u) r y
 else if v.kind=6\/v.kind=7\/v.kind=8 then
  (match c.ee u with
  | some K=>w0 K v u (a u) r y
  | none=>y)
 else if v.kind=9 then(if f=v.bj.getD 0 0 then m7 c v u (a u) r y else y)
 else y
theorem auE{c:bw}{sndT:Int->Rec->cd->cd}{v:bz}{f:Int}{u:Nat}{r:Rec}{x:cd}(a:¬x.2.n=1000)(i:c.l[u]?=some v):uy c sndT f u r x=et c sndT v f u r (du x):=by
 unfold uy et;rw[if_neg a,i];cases c.ee u<;>rfl
section
variable {id s m:Nat} {b:At} {c:bw}
theorem auF(o:fM c){sndT:Int->Rec->cd->cd}{f:Int}{u:Nat}{v:bz}(L:c.l[u]?=some v)(mA:c.P[u]?=some c.part)
  (od:∀(y:Rec) (h:I) (ow:cT) (x:cd),hn h ow id s m b c x->Inv c x->sz x+24<=2^30->au mc 88 [.ptr s 0,.int .i64 u,.agg (aK y)] h (lz id s m b c h ow (sndT u y x)))
  (qH:∀y,ho c 24 (sndT u y)) {h:I} {ow:cT} {x:cd} (k:hn h ow id s m b c x) (i:Inv c x) (bl:sz x+1<=2^30) (r:Rec) :
  au mc 119 [.ptr s 0,.int .i64 f,.int .i64 u,.agg (aK r)] h (lz id s m b c h ow (uy c sndT f u r x)):=by
 refine bd Tryz.func119 rfl ?_;obtain⟨cq,cG,cY,c7,aa⟩:=k.pX;obtain⟨H,hH,bo,ji,ib⟩:=b0 h (.cells (aK r) 45 none);have iz:=k.ba bo;have lT:=aa.ba bo;have gs:=lT.get;have T:cJ (some (some 3)) (some (aK r))=some (.agg (aK r)):=rfl;have W:cO (.cells (aK r) 45 none) 0=some (aK r):=rfl;simp only[ae,ds,reduceCtorEq,abn,aY];rw[<-hH];clear hH;have cQ:=i.n;by_cases aB:x.2.n=1000
 ·have nA:((x.2.n:Int)==1000)=true:=by rw[beq_iff_eq];omega
  have F6:uy c sndT f u r x=q5 u r 3 x:=by unfold uy;rw[if_pos aB]
  rw[F6];simp only[ae,ds,AS,By,reduceCtorEq,dM,gs,nA,ji,T,W];refine cA (G0 iz u r 3 (Ro bl)) λq aC ⟨ay,hC,oI,k3⟩=>?_;subst ay;simp only[ae,aP,az5,hK];exact ar ⟨rfl,hC,gF.step k.aX bo oI,k3⟩
 have nA:((x.2.n:Int)==1000)=false:=by rw[beq_eq_false_iff_ne];omega
 obtain⟨Y,RU,Mg⟩:=afR i aB;have hw:aOT.i64.wrap ((x.2.n:Int)+1)=((x.2.n+1:Nat):Int):=by rw[Go.IntWalk.i64_in _ (by omega)];omega
 have ab:bA (some 1) (aR.cells [.ptr m 0,cq,cG,cY,c7,.int .i64 (x.2.n:Int)] 163 none) 5 [.int .i64 ((x.2.n+1:Nat):Int)]=some (.cells [.ptr m 0,cq,cG,cY,c7,.int .i64 ((x.2.n+1:Nat):Int)] 163 none):=rfl;obtain⟨ca,bP⟩:∃y,y=H.set s (.cells [.ptr m 0,cq,cG,cY,c7,.int .i64 ((x.2.n+1:Nat):Int)] 163 none):=⟨_,rfl⟩;have k2:J H ca (·=s):=by rw[bP];exact J.set _ _ _
 have dd:ca.n=H.n:=by rw[bP];rfl
 have g2:ca.get s=.cells [.ptr m 0,cq,cG,cY,c7,.int .i64 ((x.2.n+1:Nat):Int)] 163 none:=by rw[bP];exact aL
 obtain⟨w5,c4,gd⟩:=iz.inc lT k2 g2;have gx:=c4.eb.get;rw[vP]at gx;have sQ:=aa.lt;have nT:=(k2.get h.n (by omega) (by omega)).trans ji
 obtain⟨gU,bV⟩:=JK (kk:=.i64) L;have Dh:cJ (some (some 6)) (some (al v++gU))=some (.agg (al v)):=be (la v);have C2:(V.agg (al v)).cells=some (al v):=rfl;have NL:bA (some 6) (aR.cells [V.int .i64 0,.ag,.int .i64 0,.int .i64 0,.ag,.int .i64 0] 68 none) 0 (al v)=some (.cells (al v) 68 none):=by
  obtain⟨ee,aX,⟨o,q,aM⟩,n⟩:=v;rfl
 simp only[ae,ds,AS,By,reduceCtorEq,Je,Gb,abn,km,kH,aY,zU,qU,gs,nA,hw,ab];rw[<-bP];clear bP;obtain⟨iV,jr,k3,vN,n3⟩:=b0 ca (.cells (al v) 68 none);have R:=c4.ba k3;have Z:=(k3.get h.n (by omega) (by simp[none_])).trans nT
 have S:gF id h ow iV ow:=gF.step k.aX bo (w5.trans (gF.push c4.aX k3));have ah:cO (.cells (al v) 68 none) 0=some (al v):=rfl;have j:cJ (some none) (some (al v))=some (.int .i64 v.kind):=rfl;simp only[ae,ds,AS,hb,aY,pN,rM,rN,gx,bV,Dh,C2,NL];rw[<-jr];clear jr;have bN:=auE (sndT:=sndT) (f:=f) (r:=r) aB L;rw[bN];have X4:sz (du x)+2100<=2^30:=by omega
 obtain⟨ai,zQ,X5⟩:=o.gH L;have D1:v.kind=1\/v.kind=2\/v.kind=3\/v.kind=4\/v.kind=5\/v.kind=6\/v.kind=7\/v.kind=8\/v.kind=9\/v.kind=10:=by omega
 rcases D1 with a|a|a|a|a|a|a|a|a|a
 ·
  rw[a]at j;have C:((1:Int)==2)=false:=rfl;have G:((1:Int)==3)=false:=rfl;have M:((1:Int)==4)=false:=rfl;have B:((1:Int)==5)=false:=rfl;have N:((1:Int)==6)=false:=rfl;have O:((1:Int)==7)=false:=rfl;have Q:((1:Int)==8)=false:=rfl;have X:((1:Int)==9)=false:=rfl;have A:((1:Int)==10)=false:=rfl;have z:et c sndT v f u r (du x)=du x:=by unfold et;simp[a]
  rw[z];simp only[ae,ds,j,C,G,M,B,N,O,Q,X,A,k6,az5,hK];exact ar ⟨rfl,ow,S,R⟩
 ·
  rw[a]at j;have C:((2:Int)==2)=true:=rfl;have G:((2:Int)==3)=false:=rfl;have M:((2:Int)==4)=false:=rfl;have B:((2:Int)==5)=false:=rfl;have N:((2:Int)==6)=false:=rfl;have O:((2:Int)==7)=false:=rfl;have Q:((2:Int)==8)=false:=rfl;have X:((2:Int)==9)=false:=rfl;have A:((2:Int)==10)=false:=rfl;have z:et c sndT v f u r (du x)=sF v u (sndT u) r (du x):=by unfold et;simp[a]
  rw[z];simp only[ae,ds,reduceCtorEq,dM,j,B,A,Z,T,W];refine cA (Ax Vr L (th:=sndT u) od qH R Y (by omega) r) λq bn ⟨ay,D,E,F⟩=>?_
  subst ay;simp only[ae,k6,az5,hK];exact ar ⟨rfl,D,S.trans E,F⟩
 ·
  rw[a]at j;have C:((3:Int)==2)=false:=rfl;have G:((3:Int)==3)=true:=rfl;have M:((3:Int)==4)=false:=rfl;have B:((3:Int)==5)=false:=rfl;have N:((3:Int)==6)=false:=rfl;have O:((3:Int)==7)=false:=rfl;have Q:((3:Int)==8)=false:=rfl;have X:((3:Int)==9)=false:=rfl;have A:((3:Int)==10)=false:=rfl;have z:et c sndT v f u r (du x)=sF v u (sndT u) r (du x):=by unfold et;simp[a]
  rw[z];simp only[ae,ds,reduceCtorEq,dM,j,C,B,A,Z,T,W];refine cA (Ax Vr L (th:=sndT u) od qH R Y (by omega) r) λq bn ⟨ay,D,E,F⟩=>?_
  subst ay;simp only[ae,k6,az5,hK];exact ar ⟨rfl,D,S.trans E,F⟩
 ·
  rw[a]at j;have C:((4:Int)==2)=false:=rfl;have G:((4:Int)==3)=false:=rfl;have M:((4:Int)==4)=true:=rfl;have B:((4:Int)==5)=false:=rfl;have N:((4:Int)==6)=false:=rfl;have O:((4:Int)==7)=false:=rfl;have Q:((4:Int)==8)=false:=rfl;have X:((4:Int)==9)=false:=rfl;have A:((4:Int)==10)=false:=rfl;have z:et c sndT v f u r (du x)=sF v u (sndT u) r (du x):=by unfold et;simp[a]
  rw[z];simp only[ae,ds,reduceCtorEq,dM,j,C,G,B,A,Z,T,W];refine cA (Ax Vr L (th:=sndT u) od qH R Y (by omega) r) λq bn ⟨ay,D,E,F⟩=>?_
  subst ay;simp only[ae,k6,az5,hK];exact ar ⟨rfl,D,S.trans E,F⟩
 ·
  rw[a]at j;have C:((5:Int)==2)=false:=rfl;have G:((5:Int)==3)=false:=rfl;have M:((5:Int)==4)=false:=rfl;have B:((5:Int)==5)=true:=rfl;have N:((5:Int)==6)=false:=rfl;have O:((5:Int)==7)=false:=rfl;have Q:((5:Int)==8)=false:=rfl;have X:((5:Int)==9)=false:=rfl;have A:((5:Int)==10)=false:=rfl;have z:et c sndT v f u r (du x)=sF v u (pW u) r (du x):=by unfold et;simp[a]
  rw[z];simp only[ae,ds,reduceCtorEq,dM,j,A,Z,T,W];refine cA (Ax abi L (th:=pW u) (λy h' ad b9 k' FI IH=>NC k' u y (afX IH)) (λy=>(X1 c u y).mono (by omega)) R Y (by omega) r) λq bn ⟨ay,D,E,F⟩=>?_
  subst ay;simp only[ae,k6,az5,hK];exact ar ⟨rfl,D,S.trans E,F⟩
 ·
  rw[a]at j;have C:((6:Int)==2)=false:=rfl;have G:((6:Int)==3)=false:=rfl;have M:((6:Int)==4)=false:=rfl;have B:((6:Int)==5)=false:=rfl;have N:((6:Int)==6)=true:=rfl;have O:((6:Int)==7)=false:=rfl;have Q:((6:Int)==8)=false:=rfl;have X:((6:Int)==9)=false:=rfl;have A:((6:Int)==10)=false:=rfl;obtain⟨K,yz⟩:=o.ee L mA (by omega)
  have z:et c sndT v f u r (du x)=w0 K v u (sndT u) r (du x):=by unfold et;simp[a,yz]
  rw[z];simp only[ae,ds,reduceCtorEq,dM,j,C,G,M,B,A,Z,T,W];refine cA (X2 L yz od R Y X4 r) λq bn ⟨ay,D,E,F⟩=>?_;subst ay;simp only[ae,k6,az5,hK];exact ar ⟨rfl,D,S.trans E,F⟩
 ·
  rw[a]at j;have C:((7:Int)==2)=false:=rfl;have G:((7:Int)==3)=false:=rfl;have M:((7:Int)==4)=false:=rfl;have B:((7:Int)==5)=false:=rfl;have N:((7:Int)==6)=false:=rfl;have O:((7:Int)==7)=true:=rfl;have Q:((7:Int)==8)=false:=rfl;have X:((7:Int)==9)=false:=rfl;have A:((7:Int)==10)=false:=rfl;obtain⟨K,yz⟩:=o.ee L mA (by omega)
  have z:et c sndT v f u r (du x)=w0 K v u (sndT u) r (du x):=by unfold et;simp[a,yz]
  rw[z];simp only[ae,ds,reduceCtorEq,dM,j,C,G,M,B,N,A,Z,T,W];refine cA (X2 L yz od R Y X4 r) λq bn ⟨ay,D,E,F⟩=>?_;subst ay;simp only[ae,k6,az5,hK];exact ar ⟨rfl,D,S.trans E,F⟩
 ·
  rw[a]at j;have C:((8:Int)==2)=false:=rfl;have G:((8:Int)==3)=false:=rfl;have M:((8:Int)==4)=false:=rfl;have B:((8:Int)==5)=false:=rfl;have N:((8:Int)==6)=false:=rfl;have O:((8:Int)==7)=false:=rfl;have Q:((8:Int)==8)=true:=rfl;have X:((8:Int)==9)=false:=rfl;have A:((8:Int)==10)=false:=rfl;obtain⟨K,yz⟩:=o.ee L mA (by omega)
  have z:et c sndT v f u r (du x)=w0 K v u (sndT u) r (du x):=by unfold et;simp[a,yz]
  rw[z];simp only[ae,ds,reduceCtorEq,dM,j,C,G,M,B,N,O,A,Z,T,W];refine cA (X2 L yz od R Y X4 r) λq bn ⟨ay,D,E,F⟩=>?_;subst ay;simp only[ae,k6,az5,hK];exact ar ⟨rfl,D,S.trans E,F⟩
 ·
  rw[a]at j;have C:((9:Int)==2)=false:=rfl;have G:((9:Int)==3)=false:=rfl;have M:((9:Int)==4)=false:=rfl;have B:((9:Int)==5)=false:=rfl;have N:((9:Int)==6)=false:=rfl;have O:((9:Int)==7)=false:=rfl;have Q:((9:Int)==8)=false:=rfl;have X:((9:Int)==9)=true:=rfl;have A:((9:Int)==10)=false:=rfl;have lf:=auD X5 a;have Rq:cO (.cells (al v) 68 none) 1=some (.af v.bj.length (ao v.bj)::(aH v.e++[.int .i64 v.n])):=rfl;have H3:cJ (some none) (some (.af v.bj.length (ao v.bj)::(aH v.e++[.int .i64 v.n])))=some (.af v.bj.length (ao v.bj)):=rfl;have B2:v.bj.getD 0 0=v.bj[0]:=by rw[ayO,IA (by omega)];rfl
  have eM:∃t,gP mc 46 (.af v.bj.length (ao v.bj)) (.int .i64 0)=some (.at (.int .i64 (v.bj.getD 0 0)::t)):=⟨_,by rw[B2];exact vq (P:=mc) (kk:=.i64) (k:=0) (by omega) iS⟩
  obtain⟨aq,eM⟩:=eM;cases H4:(f==v.bj.getD 0 0)
  ·have bH:f≠v.bj.getD 0 0:=by simpa using H4
   have z:et c sndT v f u r (du x)=du x:=by unfold et;simp only[a];rw[if_neg (by decide),if_neg (by decide),if_neg (by decide),if_pos trivial,if_neg bH]
   rw[z];simp only[ae,ds,te,aY,hL,j,C,G,M,B,N,O,Q,A,vN,Rq,H3,eM,H4,k6,az5,hK];exact ar ⟨rfl,ow,S,R⟩
  ·have bH:f=v.bj.getD 0 0:=by simpa using H4
   have z:et c sndT v f u r (du x)=m7 c v u (sndT u) r (du x):=by unfold et;simp only[a];rw[if_neg (by decide),if_neg (by decide),if_neg (by decide),if_pos trivial,if_pos bH]
   rw[z];simp only[ae,ds,reduceCtorEq,te,aY,dM,hL,j,C,G,M,B,N,O,Q,A,vN,Rq,H3,eM,H4,Z,T,W];refine cA (auB L lf zQ od R Y (by omega) r) λq bn ⟨ay,D,E,F⟩=>?_
   subst ay;simp only[ae,k6,az5,hK];exact ar ⟨rfl,D,S.trans E,F⟩
 ·
  rw[a]at j;have C:((10:Int)==2)=false:=rfl;have G:((10:Int)==3)=false:=rfl;have M:((10:Int)==4)=false:=rfl;have B:((10:Int)==5)=false:=rfl;have N:((10:Int)==6)=false:=rfl;have O:((10:Int)==7)=false:=rfl;have Q:((10:Int)==8)=false:=rfl;have X:((10:Int)==9)=false:=rfl;have A:((10:Int)==10)=true:=rfl;have z:et c sndT v f u r (du x)=sF v u (pW u) r (du x):=by unfold et;simp[a]
  rw[z];simp only[ae,ds,reduceCtorEq,dM,j,Z,T,W];refine cA (Ax abi L (th:=pW u) (λy h' ad b9 k' FI IH=>NC k' u y (afX IH)) (λy=>(X1 c u y).mono (by omega)) R Y (by omega) r) λq bn ⟨ay,D,E,F⟩=>?_
  subst ay;simp only[ae,k6,az5,hK];exact ar ⟨rfl,D,S.trans E,F⟩
end
section
variable {id s m:Nat} {b:At} {c:bw}
theorem auH(v:Int)(h:I):au mc 118 [.ptr m 0,.int .i64 v] h (λr h'=>r=.func (.func 152) [] [.ptr h.n 0,.ptr (h.n+1) 0]/\h'=(h.push (.cells [.ptr m 0] 85 none)).push (.cells [.int .i64 v] 3 none)):=by
 refine bd Tryz.func118 rfl ?_;simp only[ae,ds,aP,Tryz.results118,ac];exact ar ⟨rfl,rfl⟩
theorem auI{l:List Int}{t:Nat}(a:t<l.length){F:cd->Nat->cd}{P:List Int}{part:Int}{x:cd} :
  (((l.take (t+1)).map azk).filter λu=>P.getD u 0==part).foldl F x=if P.getD l[t].toNat 0==part then F ((((l.take t).map azk).filter λu=>P.getD u 0==part).foldl F x) l[t].toNat else(((l.take t).map azk).filter λu=>P.getD u 0==part).foldl F x:=by
 rw[azi a,List.map_append,List.filter_append,aAU];cases i:(P.getD l[t].toNat 0==part)<;>(simp only[List.map_cons,List.map_nil,List.filter_cons,List.filter_nil,i];rfl)
theorem auJ(o:fM c){l:Nat}{v:Int}{bm bv:Nat}{F:cd->Nat->cd}(iF:∀u,ho c 1 λx=>F x u){h:I}{ow:cT}{x:cd}(k:hn h ow id s m b c x)(i:Inv c x)(bl:sz x+24<=2^30)
  (Tg:h.get bm=.cells [.ptr m 0] 85 none) (R:h.get bv=.cells [.int .i64 v] 3 none) (Th:bm<h.n) (aa:bv<h.n) (Ti:ow bm=(0,0)) (ag:ow bv=(0,0))
  (aJ:∀u:Nat,(u:Int)∈hU v 0 c.l->c.P[u]?=some c.part->∀(h':I) (ow':cT) (X:cd),gF id h ow h' ow'->hn h' ow' id s m b c X->Inv c X->sz X+1<=2^30->lI mc l [.int .i64 (u:Int)] h' (λr H=>r=.bool true/\∃O,gF id h' ow' H O/\hn H O id s m b c (F X u))) :
  au mc 152 [.func (.yield l) [] [],.ptr bm 0,.ptr bv 0] h (λ_ aC=>∃hC,gF id h ow aC hC/\hn aC hC id s m b c ((c.us v).foldl F x)):=by
 have NM:c.P.length=c.l.length:=GY o.Ay;have su:=o.len;have gx:=k.eb.get;rw[vP]at gx;have HO:(hU v 0 c.l).length<=24:=by have:=GQ (v:=v) (l:=c.l) (j:=0);omega
 refine bd Tryz.func152 rfl ?_;simp only[ae];have S:cO (.cells [.af c.l.length (c.l.flatMap al),.int .i64 c.p,.af c.P.length (ao c.P),.int .i64 c.part,.ptr b.lR 0,.map b.mp] 150 none) 0=some [.af c.l.length (c.l.flatMap al),.int .i64 c.p,.af c.P.length (ao c.P),.int .i64 c.part,.ptr b.lR 0,.map b.mp]:=rfl;have Tj:cJ (some (some 2)) (some [.af c.l.length (c.l.flatMap al),.int .i64 c.p,.af c.P.length (ao c.P),.int .i64 c.part,.ptr b.lR 0,.map b.mp])=some (.agg (cD c.l c.p)):=rfl;refine aS.cS none_ [] (.q 0 (.q 1 (.q 2 (.q 3 (.q 4 (.c 5 (.q 6 (.q 7 .done)))))))) ?_;simp only[ae,bt,ds,Je,jh,aY,zU,Tg,R,gx,S,Tj];refine fA rfl rfl rfl (λh' hk=>aeQ c.l c.p v o.ok (by omega) h') ?_
 simp only[ae,bt,ds,fB];obtain⟨z,T⟩:∃z,z=hU v 0 c.l:=⟨_,rfl⟩;have e3:∀q∈z,∃u:Nat,q=(u:Int)/\u<c.l.length/\(u:Int)∈hU v 0 c.l:=λq W=>by
  rw[T]at W;obtain⟨fY,vg,e,H,_⟩:=GP.1 W;refine⟨fY,by simpa using e,(are.1 H).1,?_⟩
  have:q=(fY:Int):=by simpa using e
  rw[<-this];exact W
 have NN:c.us v=(z.map azk).filter λu=>c.P.getD u 0==c.part:=by rw[T];rfl
 rw[NN];rw[<-T]at HO⊢;have Y:((((z.take z.length).map azk).filter λu=>c.P.getD u 0==c.part).foldl F x)=((z.map azk).filter λu=>c.P.getD u 0==c.part).foldl F x:=by rw[List.take_length]
 refine aS.bI (α:=Nat×cT) (λy f h'=>f 0=.func (.yield l) [] []/\f 1=.ptr bm 0/\f 2=.ptr bv 0/\f 11=.af z.length (ao z)/\f 12=.int .i64 (z.length:Int)/\f 13=.int .i64 (y.1:Nat)/\y.1<=z.length /\
   gF id h ow h' y.2/\hn h' y.2 id s m b c ((((z.take y.1).map azk).filter λu=>c.P.getD u 0==c.part).foldl F x)/\cK c y.1 x ((((z.take y.1).map azk).filter λu=>c.P.getD u 0==c.part).foldl F x)) (λy=>z.length-y.1) (0,ow)
  ⟨rfl,rfl,rfl,rfl,rfl,rfl,Dy _,gF.refl k.aX,k,cK.refl i⟩ ?_
 rintro⟨t,C⟩ f h1 ⟨Z,Q,f2,D,B,A,bB,bF,kk,E⟩
 simp only at A bB bF kk E;refine wpS ?_;by_cases L:t<z.length
 ·have ay:=dV (a:=t) (b:=z.length) (by omega)
  have hw:=mQ L (by omega)
  have eM:=vq (P:=mc) (kk:=.i64) L iS;have G:=auI (F:=F) (P:=c.P) (part:=c.part) (x:=x) L;obtain⟨u,hu,ah,Rr⟩:=e3 _ (ayM L);rw[hu]at G eM;rw[Int.toNat_natCast]at G;have Tk:c.P.getD u 0=c.P[u]'(by omega):=by rw[ayO,IA (by omega)];rfl
  have CS:=vq (P:=mc) (l:=c.P) (kk:=.i64) (k:=u) (by omega) iS
  rw[<-Tk]at CS;have NO:=(bF.ai.get bm Th (λU=>by unfold cP at U;rw[Ti]at U;exact k.nS U.1.symm)).trans Tg
  have NP:=kk.eb.get;rw[vP]at NP;generalize(((z.take t).map azk).filter λu=>c.P.getD u 0==c.part).foldl F x=X at G kk E;simp only[ae,ds,aY,D,B,A,ay,eM];have m1:cP C id bm=False:=eq_false λU=>by unfold cP at U;rw[bF.bD bm Th,Ti]at U;exact k.nS U.1.symm
  have m2:cP C id m=False:=eq_false λU=>by unfold cP at U;rw[kk.eb.own]at U;simp at U
  cases M:(c.P.getD u 0==c.part)
  ·rw[M]at G;have N:=G.trans (if_neg (by decide))
   refine aS.cS (λq=>cP C id q) [15] (.q 0 (.q 1 (.q 2 (.q 3 (.q 4 (.q 5 (.q 6 (.q 7 (.q 8 (.q 9 (.q 10 (.q 11 (.q 12 (.q 13 (.q 14 (.a 15 (.q 16 (.q 17 .done)))))))))))))))))) ?_;simp only[ae,bt,fo,ds,AS,By,abm,Vv,aY,hL,zU,Q,A,NO,NP,CS,M,m1,m2,hw];exact ar ⟨(t+1,C),⟨Z,Q,f2,D,B,rfl,L,bF,by have U:=kk;rw[<-N]at U;exact U,by have U:=E.mono (Nat.le_succ t);rw[<-N]at U;exact U⟩,by simp only;omega⟩
  ·rw[M]at G;have N:=G.trans (if_pos rfl);refine aS.cS (λq=>cP C id q) [15] (.q 0 (.q 1 (.q 2 (.q 3 (.q 4 (.q 5 (.q 6 (.q 7 (.q 8 (.q 9 (.q 10 (.q 11 (.q 12 (.q 13 (.q 14 (.a 15 (.q 16 (.q 17 .done)))))))))))))))))) ?_;simp only[ae,bt,fo,ds,AS,By,reduceCtorEq,abm,Vv,aY,hL,zU,Z,Q,NO,NP,CS,M,m1,m2];have zP:c.P[u]?=some c.part:=by
    rw[IA (by omega),<-Tk]
    simpa using M
   refine alY (aJ u Rr zP h1 C X bF kk E.inv (by have:=E.sz;omega)) λq H ⟨bc,O,w5,k2⟩=>?_
   subst bc;have rX:J h1 H (λq=>cP C id q):=w5.ai;simp only[ae,bt,fo,ds,A,hw];exact ar ⟨(t+1,O),⟨Z,Q,f2,D,B,rfl,L,bF.trans w5,by have U:=k2;rw[<-N]at U;exact U,by have U:cK c (t+1) x (F X u):=E.trans (iF u X E.inv);rw[<-N]at U;exact U⟩,by simp only;omega⟩
 ·have ay:=eC (a:=t) (b:=z.length) (by omega)
  obtain rfl:t=z.length:=by omega
  rw[Y]at kk;simp only[ae,B,A,ay,k6,Tryz.results152,hK];exact ar ⟨C,bF,kk⟩
end
section
variable {id s m:Nat} {b:At} {c:bw}
structure agb(h:I)(s m:Nat)(v:Int)(r:Rec)(f:aj)(h1:I):Prop where
 f3:f 3=.ptr h.n 0
 f4:f 4=.ptr (h.n+1) 0
 f5:f 5=.ptr (h.n+2) 0
 f12:f 12=.func (.func 152) [] [.ptr (h.n+3) 0,.ptr (h.n+4) 0]
 n:h1.n=h.n+5
 ai:J h h1 none_
 g0:h1.get h.n=.cells [.ptr s 0] 161 none
 g1:h1.get (h.n+1)=.cells [.int .i64 v] 3 none
 g2:h1.get (h.n+2)=.cells (aK r) 45 none
 g3:h1.get (h.n+3)=.cells [.ptr m 0] 85 none
 g4:h1.get (h.n+4)=.cells [.int .i64 v] 3 none
theorem agc(o:fM c){sndT:Int->Rec->cd->cd}{v:Int}
  (od:∀(u:Nat),(u:Int)∈hU v 0 c.l->c.P[u]?=some c.part->∀(y:Rec) (h:I) (ow:cT) (x:cd),hn h ow id s m b c x->Inv c x->sz x+24<=2^30->au mc 88 [.ptr s 0,.int .i64 u,.agg (aK y)] h (lz id s m b c h ow (sndT u y x)))
  (qH:∀u y,ho c 24 (sndT u y)) {h:I} {ow:cT} {x:cd} (k:hn h ow id s m b c x) (i:Inv c x) (bl:sz x+24<=2^30) (r:Rec) :
  au mc 88 [.ptr s 0,.int .i64 v,.agg (aK r)] h (lz id s m b c h ow ((c.us v).foldl (λx u=>uy c sndT v u r x) x)):=by
 refine au.iO (g:=12) (p:=13) (gf:=152) Tryz.func88 rfl apz (Nat.le_of_ble_eq_true rfl) (K:=agb h s m v r) (caps:=λ_=>[.ptr (h.n+3) 0,.ptr (h.n+4) 0]) ?_ (λf A E=>E.f12) ?_
 ·obtain⟨cq,cG,cY,c7,aa⟩:=k.pX;refine wpS ?_;simp only[ae,ds];obtain⟨H,hH⟩:∃y,y=((h.push (.cells [.ptr s 0] 161 none)).push (.cells [.int .i64 v] 3 none)).push (.cells (aK r) 45 none):=⟨_,rfl⟩;have ib:H.n=h.n+3:=by rw[hH];rfl
  have bo:J h H none_:=by rw[hH];exact((J.push _ _ _).bp _).bp _
  have g0:H.get h.n=.cells [.ptr s 0] 161 none:=by
   rw[hH,iP (by rw[df,df];omega),iP (by rw[df];omega),fv]
  have g1:H.get (h.n+1)=.cells [.int .i64 v] 3 none:=by
   rw[hH,iP (by rw[df,df];omega)];exact fv
  have g2:H.get (h.n+2)=.cells (aK r) 45 none:=by rw[hH];exact fv
  have gs:=(aa.ba bo).get;rw[<-hH];clear hH;change aS _ _ _ (sc.go (sc.fn λz f h_1=>z=cC.normal/\agb h s m v r f h_1)) _ _;refine aS.cS (λq=>False) [5] (.q 0 (.q 1 (.q 2 (.q 3 (.q 4 (.a 5 .done)))))) ?_;simp only[ae,bt,fo,ds,AS,Gb,abL,aY,zU,g0,g1,gs];refine cA (auH v H) λq N ⟨ay,W⟩=>?_;subst ay;have O:J H N none_:=by rw[W];exact(J.push _ _ _).bp _
  have rX:J H N (λ_=>False):=O.mono λq G=>by simp[none_]at G
  have yU:N.n=h.n+5:=by rw[W,df,df];omega
  have g3:N.get (h.n+3)=.cells [.ptr m 0] 85 none:=by
   rw[W,iP (by rw[df];omega),<-ib];exact fv
  have g4:N.get (h.n+4)=.cells [.int .i64 v] 3 none:=by
   rw[W,show h.n+4=(H.push (.cells [.ptr m 0] 85 none)).n by rw[df];omega];exact fv
  simp only[ae,bt];exact⟨rfl,rfl,rfl,by show V.func (.func 152) [] [.ptr H.n 0,.ptr (H.n+1) 0]=_;rw[ib],yU,bo.trans' O,(O.get _ (by omega) (by simp[none_])).trans g0,(O.get _ (by omega) (by simp[none_])).trans g1,(O.get _ (by omega) (by simp[none_])).trans g2,g3,g4⟩
 ·intro f A E l D q B Y;have k2:J A B none_:=by rw[Y];exact(J.push _ _ _).bp _
  have en:=E.n;have dd:B.n=A.n+2:=by rw[Y,df,df]
  have oB:=(congrArg (λH=>H.get (A.n+1)) Y).trans fv;have Bn:B.get A.n=.kt D (λ_=>.deferred (some [])) []:=by rw[Y,iP (by rw[df];omega)];exact fv
  have Tl:J h B none_:=E.ai.trans' k2;have c4:=k.ba Tl;have C:∀q,h.n<=q->ow q=(0,0):=λq G=>k.aX q G;have Q:∀q,q<A.n->B.get q=A.get q:=λq G=>k2.get q G (by simp[none_])
  refine(auJ o (l:=l) (v:=v) (bm:=h.n+3) (bv:=h.n+4) (F:=λX u=>uy c sndT v u r X) (λu=>afW qH v u r) c4 i bl ((Q _ (by omega)).trans E.g3) ((Q _ (by omega)).trans E.g4) (by omega) (by omega) (C _ (by omega)) (C _ (by omega)) ?_).mono ?_
  ·intro u hu mA h' R X cI k' FI sG;obtain⟨fY,w,e,hw,_⟩:=GP.1 hu;have NR:u=fY:=by omega
   subst NR;have Z:∀q,h.n<=q->q<B.n->h'.get q=B.get q:=λq A B=>cI.ai.get q B λU=>by
    unfold cP at U;rw[C q A]at U;exact k.nS U.1.symm
   have NS:∀q,h.n<=q->q<B.n->R q=(0,0):=λq A B=>(cI.bD q B).trans (C q A);have NT:=(Z (A.n+1) (by omega) (by omega)).trans oB
   have nA:=((Z h.n (by omega) (by omega)).trans (Q _ (by omega))).trans E.g0
   have dH:=((Z (h.n+1) (by omega) (by omega)).trans (Q _ (by omega))).trans E.g1
   have b8:=((Z (h.n+2) (by omega) (by omega)).trans (Q _ (by omega))).trans E.g2
   have mg:=cI.ai.n;refine lI.of (i:=A.n+1) (p:=13) (f:=f) (by decide) NT (λS M=>M=h'/\S 3=.ptr h.n 0/\S 4=.ptr (h.n+1) 0/\S 5=.ptr (h.n+2) 0/\S 6=.int .i64 (u:Nat)) ?_ ?_
   ·refine n5.region (by kernel_rfl) ?_
    change @ik _ _ _ (fz.fn _ _) _ _;simp only[ae,ds];exact⟨NT,E.f3,E.f4,E.f5,rfl⟩
   ·rintro S M ⟨rfl,fp,kp,vC,ag⟩
    refine n5.block (n5.region (by kernel_rfl) ?_)
    have CU:∀o,(M.set (A.n+1) o).get h.n=.cells [.ptr s 0] 161 none:=λo=>by rw[n1 (by omega)];exact nA
    have s1:∀o,(M.set (A.n+1) o).get (h.n+1)=.cells [.int .i64 v] 3 none:=λo=>by rw[n1 (by omega)];exact dH
    have s2:∀o,(M.set (A.n+1) o).get (h.n+2)=.cells (aK r) 45 none:=λo=>by rw[n1 (by omega)];exact b8
    have ld:cJ (some (some 3)) (some (aK r))=some (.agg (aK r)):=rfl;have d0:cO (.cells (aK r) 45 none) 0=some (aK r):=rfl;have c6:∀o,hn (M.set (A.n+1) o) R id s m b c X:=λo=>k'.sH (J.set _ _ _) (NS _ (by omega) (by omega))
    change @ik _ _ _ (fz.fn _ _) _ _;have ah:=λob=>auF o (f:=v) hw mA (od u hu mA) (qH u) (c6 ob) FI sG r;have bH:A.n+1<B.n:=by omega
    simp only[ae,ds,abL,aY,aY,dM,fp,kp,vC,ag,CU,s1,s2,ld,d0];refine cA (ah _) λcB bn bh=>?_;obtain⟨ay,e1,L,cx⟩:=bh;subst ay;simp only[ae];have T:=L.ai.n;rw[kj]at T;have g4:=(L.ai.get (A.n+1) (by rw[kj];omega) (λU=>by
     unfold cP at U;rw[NS _ (by omega) (by omega)]at U
     exact k.nS U.1.symm)).trans aL
    refine⟨g4,e1,⟨λq G=>L.bD q (by rw[kj];exact G),?_,L.aX,trivial⟩,cx.sH (J.set _ _ _) ((L.bD _ (by rw[kj];omega)).trans (NS _ (by omega) (by omega)))⟩
    refine⟨by rw[kj];exact T,λj aN hm=>?_,L.ai.glob⟩
    by_cases cU:j=A.n+1
    ·subst cU;exact aL.trans NT.symm
    ·rw[n1 cU];exact(L.ai.get j (by rw[kj];exact aN) hm).trans (n1 cU)
  ·rintro _ aC ⟨hC,oI,k3⟩
   have Tm:∀q,h.n<=q->q<B.n->aC.get q=B.get q:=λq A B=>oI.ai.get q B λU=>by
    unfold cP at U;rw[C q A]at U;exact k.nS U.1.symm
   have Tn:∀q,h.n<=q->q<B.n->hC q=(0,0):=λq A B=>(oI.bD q B).trans (C q A);refine⟨(Tm _ (by omega) (by omega)).trans oB,(Tm _ (by omega) (by omega)).trans Bn,.tuple [],rfl,rfl,hC,?_,?_⟩
   ·have ay:=gF.step k.aX Tl oI;have c6:J aC ((aC.set (A.n+1) .dead).set A.n .dead) (λq=>q=A.n+1\/q=A.n):=((J.set _ _ _).mono λq G=>.inl G).trans' ((J.set _ _ _).mono λq G=>.inr G);exact⟨ay.bD,ay.ai.trans c6 (λq G U=>by omega),ay.aX,trivial⟩
   ·exact(k3.sH (J.set _ (A.n+1) _) (Tn _ (by omega) (by omega))).sH (J.set _ A.n _) (Tn _ (by omega) (by omega))
end
section
variable {id s m:Nat} {b:At} {c:bw}
theorem age(o:fM c){v:Int}{u:Nat}(h:(u:Int)∈hU v 0 c.l):v<(u:Int)/\u<c.l.length:=by
 obtain⟨q,w,e,i,z⟩:=GP.1 h;have A:u=q:=by omega
 subst A;have a:=(Dc o.Ay).2.2.2.2.2 u w i;have B:=(are.1 i).1;unfold dD at a;split at a
 ·cases a
 split at a
 ·cases a
 rename_i j;simp only[List.any_eq_true,decide_eq_true_eq,not_exists,not_and]at j;have:=j v z;omega
theorem auN(c:bw):ho c 24 (λx=>x):=λx i=>(cK.refl i).mono (by omega)
theorem X6(o:fM c):∀(k:Nat) (v:Int),(c.l.length:Int)<=v+k->∀(y:Rec) (h:I) (ow:cT) (x:cd),hn h ow id s m b c x->Inv c x->sz x+24<=2^30->au mc 88 [.ptr s 0,.int .i64 v,.agg (aK y)] h (lz id s m b c h ow (tl c k v y x))
 | 0,v,B,y,h,ow,x,z,i,bl=>by
  have A:∀u:Nat,¬(u:Int)∈hU v 0 c.l:=λu j=>by have:=age o j;omega
  have C:c.us v=[]:=by
   unfold bw.us;have:hU v 0 c.l=[]:=by
    cases D:hU v 0 c.l with
    | nil=>rfl
    | cons a r=>
     have aT:a∈hU v 0 c.l:=by rw[D];simp
     obtain⟨E,w,e,_,_⟩:=GP.1 aT;rw[Nat.zero_add]at e;rw[e]at aT;exact absurd aT (A E)
   rw[this];rfl
  have:=agc o (sndT:=λ_ _ x=>x) (v:=v) (λu j=>absurd j (A u)) (λ_ _=>auN c) z i bl y;rw[C]at this;exact this
 | k+1,v,B,y,h,ow,x,z,i,bl=>
  agc o (sndT:=tl c k) (v:=v) (λu j _ y h ow x=>X6 o k (u:Int) (by have:=(age o j).1;omega) y h ow x) (λu y=>JJ o.len k u y) z i bl y
end
def Az(c:bw)(s:fs):Prop:=s.ms.map (·.2.1)=c.ins/\∀e∈s.ms,-1<=e.2.2/\e.2.2<=1099511627776
theorem agf{a z:Int}:∀{zs:List Int},rW a zs->(∀y∈zs,y<z)->a<z->rW a (zs++[z])
 | [],_,_,h=>⟨h,trivial⟩
 | y::r,⟨j,m⟩,i,h=>⟨j,agf m (λw q=>i w (by simp[q])) (i y (by simp))⟩
theorem agh(l:List bz)(P:List Int)(part:Int):∀i,rW (-1) (ni l P part i)/\∀y∈ni l P part i,y<(i:Int)
 | 0=>⟨trivial,by simp[ni]⟩
 | i+1=>by
  obtain⟨m,j⟩:=agh l P part i;unfold ni;split
  ·exact⟨agf m j (by omega),λy a=>by
    rcases List.mem_append.1 a with a|a
    ·have:=j y a;omega
    ·simp at a;omega⟩
  ·rw[List.append_nil];exact⟨m,λy a=>by have:=j y a;omega⟩
theorem X7(c:bw):rW (-1) c.ins:=(agh _ _ _ _).1
theorem NV{c:bw}(o:fM c):c.ins.length<=24:=by
 have a:=Rg c.l (gl c.p c.l) c.part (gl c.p c.l).length;have i:=GY o.Ay;have:=o.len;unfold bw.ins sE;omega
section
variable {id m:Nat} {b:At} {c:bw} {h:I} {ow:cT} {s:fs}
theorem agi(o:fM c)(k:hf h ow id m b c s)(i:Az c s):Pure mc 80 [.ptr m 0] h (.af c.ins.length (ao c.ins)):=by
 have a:=k.get;rw[vP]at a;refine bd Tryz.func80 rfl ?_;simp only[ae,ds,AS,By,reduceCtorEq,F9,apV,Gf,a];refine bO (auf h _ _ _ _ _ k.marks c.ins i.1 (X7 c) (NV o)) ?_;simp only[ae,ds,aP,Tryz.results80,ac];exact ar ⟨rfl,rfl⟩
theorem auO(o:fM c)(k:hf h ow id m b c s)(a:Az c s)(v:Int):Pure mc 83 [.ptr m 0,.int .i64 v] h (.bool (c.ins.contains v)):=by
 refine bd Tryz.func83 rfl ?_;simp only[ae,ds,reduceCtorEq];refine bO (agi o k a) ?_;simp only[ae,ds];refine bO (Q9 c.ins v (by have:=NV o;omega) h) ?_
 simp only[ae,ds,aP,Tryz.results83,ac];exact ar ⟨rfl,rfl⟩
theorem auP(k:hf h ow id m b c s)(t:Int):Pure mc 87 [.ptr m 0,.int .i64 t] h (.agg (aQ (w1 c t))):=by
 refine Pure.val (a8.agg (CQ _)) ?_;have a:=k.get;rw[vP]at a;have i:∀o,(h.push o).get m=.cells [.af c.l.length (c.l.flatMap al),.int .i64 c.p,.af c.P.length (ao c.P),.int .i64 c.part,.ptr b.lR 0,.map b.mp] 150 none:=λo=>by rw[iP k.lt];exact a
 refine bd Tryz.func87 rfl ?_;simp only[ae,ds,AS,By,reduceCtorEq,Vv,ou,aY,Bb,oR,qS,i,aP,Tryz.results87,tb,fq];exact ar ⟨rfl,J.push _ _ _⟩
end
theorem hn.start{h:I}{ow:cT}{id m:Nat}{b:At}{c:bw}{s:fs}(k:hf h ow id m b c s)(f:Fr h ow)(u:hB h)(z:id≠0) :
  hn (h.push (.cells [.ptr m 0,.ag,.ag,.ag,.ag,.int .i64 0] 163 none)) (dF ow h.n (h.n+1) (id,5)) id h.n m b c (s,fR.none):=by
 have j:J h (h.push (.cells [.ptr m 0,.ag,.ag,.ag,.ag,.int .i64 0] 163 none)) none_:=J.push _ _ _;have A:∀q,q<h.n->dF ow h.n (h.n+1) (id,5) q=ow q:=λq i=>Av i;refine⟨k.ai j (λ_ _ U=>by simp[none_]at U) A,⟨.ag,.ag,.ag,.ag,by rw[df];omega,fv,NB (BY _) (by omega),Own.ag _ _ _,Own.ag _ _ _,Own.ag _ _ _,Own.ag _ _ _,?_,?_,?_,?_⟩,λq i=>?_,u.ai j,z⟩
 iterate 4 (intro q i;simp[gr,aU]at i)
 rw[df]at i;unfold dF;rw[if_neg (by omega)]
 exact f q (by omega)
theorem hf.NW{h h':I}{ow:cT}{id m:Nat}{b:At}{c:bw}{s:fs}{z:Seen}(k:hf h ow id m b c s)(D:wX h' (.ptr b.lR 0) z b.lR b.uz c.ins.length)(i:J h h' (·=b.uz)):hf h' ow id m b c { s with ms:=z }:=by
 have mt:ow b.uz=(id,3):=k.hF.2;have A:∀q t,q<h.n->ow q=(id,t)->t≠3->h'.get q=h.get q:=λq t j B M=>i.get q j λU=>by rw[U,mt]at B;simp at B;omega
 refine⟨IS k.lt i.n,(A _ _ k.lt k.own (by omega)).trans k.get,k.own,D,k.hF,IS k.lS i.n,(A _ _ k.lS k.nj (by omega)).trans k.map,k.nj,λu K E=>?_,k.none⟩
 obtain⟨a,O,x,F,G,H,C,L⟩:=k.some u K E;exact⟨a,O,x,F,G,H.ai i λq j U=>by have ay:=C q j;rw[U,mt]at ay;simp at ay;omega,C,L⟩
theorem hn.NW{h h':I}{ow:cT}{id st m:Nat}{b:At}{c:bw}{x:cd}{j:Seen}(k:hn h ow id st m b c x)(s:wX h' (.ptr b.lR 0) j b.lR b.uz c.ins.length)(i:J h h' (·=b.uz)):hn h' ow id st m b c ({ x.1 with ms:=j },x.2):=by
 obtain⟨cq,cG,u,z,A⟩:=k.pX;exact⟨k.eb.NW s i,⟨cq,cG,u,z,A.ai i (λq _ U t C D e=>by subst U;rw[k.eb.hF.2]at e;simp at e;omega) λ_ _=>rfl⟩,λq B=>k.aX q (ajy i.n B),k.w2.ai i,k.nS⟩
def Rs(x:fR):V:=.agg [.af x.outs.length (x.outs.flatMap iw),.af x.verts.length (ao x.verts),kF x.chgs,.af x.deads.length (x.deads.flatMap q6)]
def Steps(id m:Nat)(b:At)(c:bw)(h:I)(ow:cT)(y:cd×Int):V->I->Prop:=λq h'=>q=.tuple [Rs y.1.2,.int .i64 y.2]/\∃a,hf h' a id m b c y.1.1/\(∀q,q<h.n->a q=ow q)/\Fr h' a/\J h h' (λq=>(ow q).1=id)
theorem hn.told{h:I}{ow:cT}{id s m:Nat}{b:At}{c:bw}{x:cd}{cq cG D E:V}(k:hn h ow id s m b c x)(j:jW h ow id s m x.2 cq cG D E) :
  ∃h',aF (.agg [cq,cG,D,E]) h (Rs x.2) h'/\hf h' ow id m b c x.1/\J h h' (cP ow id)/\Fr h' ow:=by
 obtain⟨F,L,u⟩:=aF.own j.o (n:=x.2.outs.length) (fJ Rj _) (by decide)
 have M:=j.v.ai u λq i U=>by have ay:=j.cG q (cy.2 i);have bc:=j.gT q (cy.2 U);rw[ay]at bc;simp at bc
 have z:=j.c.ai u λq i U=>by have ay:=j.cc q (cy.2 i);have bc:=j.gT q (cy.2 U);rw[ay]at bc;simp at bc
 have N:=j.d.ai u λq i U=>by have ay:=j.n2 q (cy.2 i);have bc:=j.gT q (cy.2 U);rw[ay]at bc;simp at bc
 obtain⟨G,O,A⟩:=aF.own M (n:=x.2.verts.length) (by rw[am,Nat.mul_one]) (by decide)
 have B:=z.ai A λq i U=>by have ay:=j.cc q (cy.2 i);have bc:=j.cG q (cy.2 U);rw[ay]at bc;simp at bc
 have Q:=N.ai A λq i U=>by have ay:=j.n2 q (cy.2 i);have bc:=j.cG q (cy.2 U);rw[ay]at bc;simp at bc
 obtain⟨X,R,H⟩:=aF.own B (n:=x.2.chgs.length) (fJ qh _) (by decide)
 have S:=Q.ai H λq i U=>by have ay:=j.n2 q (cy.2 i);have bc:=j.cc q (cy.2 U);rw[ay]at bc;simp at bc
 obtain⟨C,T,W⟩:=aF.own S (n:=x.2.deads.length) (fJ Rk _) (by decide)
 have K:J h C (λq=>∃t,ow q=(id,t)/\5<=t/\t<=9) :=
  (((u.mono λq i=>⟨6,j.gT q (cy.2 i),by omega,by omega⟩).trans' (A.mono λq i=>⟨7,j.cG q (cy.2 i),by omega,by omega⟩)).trans' (H.mono λq i=>⟨8,j.cc q (cy.2 i),by omega,by omega⟩)).trans' (W.mono λq i=>⟨9,j.n2 q (cy.2 i),by omega,by omega⟩)
 exact⟨C,aF.agg (aA.cons L (aA.cons O (aA.cons R (aA.cons T (aA.refl [] C))))),k.eb.part K (λq _ U=>U) λ_ _=>rfl,K.mono λq ⟨t,F,G,_⟩=>by unfold cP;rw[F];exact⟨rfl,G⟩,λq i=>k.aX q (ajy K.n i)⟩
end Go.Proofs.YtemdgidnhgcafaaGreatDoor.Pk
