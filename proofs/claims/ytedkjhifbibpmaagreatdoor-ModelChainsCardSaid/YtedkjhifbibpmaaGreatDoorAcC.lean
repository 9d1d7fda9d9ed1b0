/-
  Rules of the machine on abstract states. Conditions: as each theorem says.
-/
import Derived.Test.YtedkjhifbibpmaaGreatDoorAcB
import Derived.SizedLaws
import Derived.Laws.StructEq
import Derived.Sort.Row
import Derived.Sort.Grow
import Derived.Sort.Statements
set_option linter.unusedVariables false
set_option linter.unusedSimpArgs false
namespace Go.Proofs.YtedkjhifbibpmaaGreatDoor.Ab
open Go Go.RowKit
section
variable {P:Program} {t e:TypeId} {x y v:V} {h:I}
def gq (P:Program) (t:TypeId):Option (List (Nat×Nat) ⊕ Nat) :=
 match JI P t with
 | some pl=>some (.inl pl)
 | none=>match yZ P t with
  | some (_,e)=>(cI P e).map .inr
  | none=>none
def OU (zs:Option (List V)) (b:Option (List (Nat×Nat) ⊕ Nat)) (parts:List (Nat×V)):Option V :=
 match zs,b with
 | some zs,some (.inl pl)=>(pQ (fun i=>pl[i]?) zs parts).map .agg
 | some zs,some (.inr sz)=>(pQ (fun i=>some (i * sz,sz)) zs parts).map .agg
 | _,_=>none
theorem afX {parts:List (Nat×V)}:BM P t parts=OU (hF P t) (gq P t) parts:=by
 unfold BM OU gq
 cases hF P t with
 | none=>rfl
 | some zs=>
  cases JI P t with
  | some pl=>rfl
  | none=>
   simp only
   cases yZ P t with
   | none=>rfl
   | some p=>
    obtain ⟨n,e⟩:=p
    simp only
    cases cI P e<;>rfl
theorem afY {zs:List V} {pl:List (Nat×Nat)} {parts:List (Nat×V)}:OU (some zs) (some (.inl pl)) parts=(pQ (fun i=>pl[i]?) zs parts).map .agg:=nr rfl
theorem afZ {place:Nat→Option (Nat×Nat)} {cs:List V}:pQ place cs []=some cs:=nr rfl
def OV (place:Nat→Option (Nat×Nat)) (cs:List V) (p:Option (Nat×Nat)) (vs:Option (List V)) (r:List (Nat×V)):Option (List V) :=
 match p,vs with
 | some (off,size),some vs=>if vs.length=size∧off+size≤cs.length then pQ place (qU cs off vs) r else none
 | _,_=>none
theorem af0 {place:Nat→Option (Nat×Nat)} {cs:List V} {i:Nat} {r:List (Nat×V)}:pQ place cs ((i,v)::r)=OV place cs (place i) v.cells r:=by
 show (match place i,v.cells with | some (off,size),some vs=>_ | _,_=>none)=_
 unfold OV
 rfl
theorem af1 {place:Nat→Option (Nat×Nat)} {cs vs:List V} {off size:Nat} {r:List (Nat×V)}:OV place cs (some (off,size)) (some vs) r=if vs.length=size∧off+size≤cs.length then pQ place (qU cs off vs) r else none:=nr rfl
theorem xM {sz:Nat} (h:ek P t=some sz):∃ e,P.underlying t=some (.slice e)∧cI P e=some sz:=by
 unfold ek at h
 split at h
 ·rename_i e hu;exact ⟨e,hu,h⟩
 ·cases h
theorem TR {sz n:Nat} {cs:List V} {lo hi:Option V} {l m:Nat} (U:ek P t=some sz) (h1:kG lo=some l) (aa:eh n hi=some m) (az:l≤m) (hm:m≤n) (au:cs.length=n * sz) :
  iJ P t (.ai n cs) lo hi none=some (.ai (m - l) ((cs.drop (l * sz)).take ((m - l) * sz))):=by
 obtain ⟨e,hu,he⟩:=xM U
 unfold iJ
 have aC:eh n (none:Option V)=some n:=rfl
 simp only [hu,he,h1,aa,aC]
 have:l * sz≤cs.length:=by rw [au];exact Nat.mul_le_mul_right _ (by omega)
 simp [yV,az,hm,this]
theorem OW {sz n:Nat} {cs:List V} {k:IntKind} {l:Int} (U:ek P t=some sz) (h0:0≤l) (az:l≤n) (au:cs.length=n * sz) :
  iJ P t (.ai n cs) (some (.int k l)) none none=some (.ai (n - l.toNat) (cs.drop (l.toNat * sz))):=by
 rw [TR U (l:=l.toNat) (m:=n) (by simp [kG,uh,h0]) rfl (by omega) (Nat.le_refl _) au]
 rw [List.take_of_length_le]
 rw [List.length_drop,au,Nat.sub_mul]
 first | done | exact Nat.le_refl _
theorem af2 {sz n:Nat} {cs:List V} {k:IntKind} {m:Int} (U:ek P t=some sz) (h0:0≤m) (hm:m≤n) (au:cs.length=n * sz) :
  iJ P t (.ai n cs) none (some (.int k m)) none=some (.ai m.toNat (cs.take (m.toNat * sz))):=by
 rw [TR U (l:=0) (m:=m.toNat) rfl (by simp [eh,uh,h0]) (Nat.zero_le _) (by omega) au]
 simp
theorem Gj {sz n:Nat} {cs:List V} {k:IntKind} {i:Int} (U:ek P t=some sz) (h0:0≤i) (hi:i<n) (au:cs.length=n * sz) :
  hA P t (.ai n cs) (.int k i)=some (.at (cs.drop (i.toNat * sz))):=by
 rw [F9,U,TB,if_pos ⟨h0,hi,by rw [au];exact Nat.mul_le_mul_right _ (by omega)⟩]
def Gk (T:Option ln) (len:Nat) (parts:List (Nat×V)) (h:I):Option (V×I) :=
 match T with
 | some T=>if len * T.sz≤2 ^ 24∧len≤2 ^ 24 then (pQ (fun i=>some (i * T.sz,T.sz)) (made T.zs len) parts).map fun cells=>(.bc h.n 0 len len,h.push (.cells cells T.e none)) else none
 | none=>none
theorem qA {len:Nat} {parts:List (Nat×V)} {T:ln} (cN:hr P t=some T):kI P t len parts h=Gk (some T) len parts h:=by
 obtain ⟨he,bK,bf,hG,eX,_⟩:=rZ cN
 unfold kI Gk
 simp only [he,bf,bK,eX,true_and]
 split
 ·cases pQ (fun i=>some (i * T.sz,T.sz)) (made T.zs len) parts<;>rfl
 ·rfl
theorem OX {T:ln} {l c:Nat} {k k':IntKind} (cN:hr P t=some T) (az:l≤c) (h1:T.ao * c≤140737488355328) (aa:c≤140737488355328) :
  yY P t (.int k (l:Int)) (.int k' (c:Int)) h=some (.bc h.n 0 l c,h.push (.cells (made T.zs c) T.e none)):=by
 obtain ⟨he,bK,bf,hG,eX,_⟩:=rZ cN
 unfold yY
 simp [he,uh,bK,hG,bf,eX,az,h1,aa]
theorem af3 {T:ln} {tx:TypeId} {i cap n:Nat} {c cs:List V} {src:V} {h:I} (cN:hr P t=some T) (av:h.get i=.cells c T.e none) (U:BK src=some n) (aq:wc T.sz n src h=some cs)
  (b5:cs.all (·.one)=true) (eW:cs.length≤c.length) :
  ∃ h',xD P t (.bc i 0 n cap) src h=some (.int .i64 n,h')∧h'=h.set i (.cells (lay c 0 cs) T.e none):=by
 obtain ⟨he,bK,bf,hG,eX,_⟩:=rZ cN
 have BX:Nat.min n n=n:=Nat.min_self _
 unfold xD
 simp only [he,bf,U,BX,aq]
 by_cases h0:n=0
 ·subst h0
  have cS:cs=[]:=by
   have:=(zg aq)
   simpa using this
  subst cS
  refine ⟨h,by simp,?_⟩
  rw [show lay c 0 []=c by simp [lay]]
  exact (Kb av).symm
 ·rw [if_neg h0]
  simp only [av,Nat.zero_add]
  rw [if_pos ⟨eW,b5⟩]
  exact ⟨_,rfl,rfl⟩
where
 zg {sz n:Nat} {x:V} {h:I} {vs:List V} (U:wc sz n x h=some vs):vs.length=n * sz:=by
  unfold wc at U
  split at U
  ·split at U
   ·rename_i h0;simp at U;subst U;simp [h0]
   ·cases U
  ·split at U
   ·rename_i h0;simp at U;subst U;simp [h0]
   ·cases U
  ·split at U
   ·split at U
    ·simp at U;subst U;simp;omega
    ·cases U
   ·cases U
  ·split at U
   ·simp at U;subst U;simp;omega
   ·cases U
  ·split at U
   ·rename_i au;simp at U;subst U
    have:=byteCells_length
    rw [List.length_take,List.length_map,this]
    rw [au.1];omega
   ·cases U
  ·cases U
end
theorem nu.refl (f:ah) (h:I):nu f h f h:=fun ρ B aK w n a hw aq=>⟨ρ,Ren.le.refl ρ,hw,aq⟩
theorem nu.trans {f f1 f2:ah} {h h1 aa:I} (a:nu f h f1 h1) (b:nu f1 h1 f2 aa):nu f h f2 aa:=fun ρ B aK w n x hw aq=>
 let ⟨ρ1,ey,c2,v1⟩:=a ρ B aK w n x hw aq
 let ⟨ρ2,dm,bX,v2⟩:=b ρ1 B aK w n x c2 v1
 ⟨ρ2,ey.trans dm,bX,v2⟩
theorem nu.slot {f:ah} {h aa:I} {t:Tmp} {v:V} (au:aM (f t) h v aa):nu f h (f.put (some t) v) aa:=fun ρ B aK w n a hw aq=>by
 obtain ⟨ρ',az,bL,aD⟩:=au ρ B aK w _ hw (aq.tmps t)
 refine ⟨ρ',az,bL,fun k=>?_,aq.size,aq.defers.trans az.dfr.symm⟩
 simp only [ah.put]
 by_cases hk:k=t
 ·subst hk;simpa using aD
 ·simp only [hk,if_false];exact (aq.tmps k).mono az
theorem ca.args {P:Program} {bt:FuncId} {args oF:List V} {h aa:I} {R:V→I→Prop} {E:I→Prop} (au:aB args h oF aa) (U:ca P bt oF aa R E):ca P bt args h R E:=by
 intro ρ B aK w args' hw aO
 obtain ⟨ρ1,ey,c2,cG⟩:=au ρ B aK w _ hw aO
 refine (U ρ1 B aK w args' c2 cG).mono fun e w' ab=>?_
 rcases ab with ⟨ρ',r,cm,h',he,aH,bL,hle,eR⟩ | ⟨ρ',iu,h',he,nj,bL,hle,bF⟩
 ·exact .inl ⟨ρ',r,cm,h',he,aH,bL,ey.trans hle,eR⟩
 ·exact .inr ⟨ρ',iu,h',he,nj,bL,ey.trans hle,bF⟩
theorem ae.args {P:Program} {bt:FuncId} {args oF:List V} {h aa:I} {R:V→I→Prop} (au:aB args h oF aa) (U:ae P bt oF aa R):ae P bt args h R:=ca.args au U
theorem aM.lit {h:I} {c:List V} {e:TypeId} {n sz:Nat} (au:c.length=n * sz) (aG:n<b2) (bf:0<sz):∃ aa,aM (.bc h.n 0 n n) (h.push (.cells c e none)) (.ai n c) aa∧J h aa none_:=by
 have aR:=Own.fresh (h:=h) (e:=e) c n n au (Nat.le_refl _) aG
 rw [←au,List.take_length] at aR
 obtain ⟨aa,aC,bz⟩:=aM.own aR au bf
 exact ⟨aa,aC,(J.push h _ none_).trans bz fun k hk c4=>by simp [bl,aV] at c4;omega⟩
variable {P:Program} {t:TypeId} {T:ln}
theorem Kd {k:IntKind} {n:Nat}:kG (some (.int k (n:Int)))=some n:=by simp [kG,uh]
theorem af4 {k:IntKind} {l n:Nat}:eh l (some (.int k (n:Int)))=some n:=by simp [eh,uh]
theorem af5 {kk:IntKind} (U:ek P t=some 1) {h:I} {e:TypeId} {v:V} {cs:List V} (aR:Own h e 1 v cs) {k:Nat} (hk:k<cs.length) :
  ∃ i,hA P t v (.int kk (k:Int))=some (.ptr i k)∧aV v=some i∧(∃ r,dB (h.get i) k=some (cs[k]::r)) ∧
   ∀ x,x.one=true→∃ ob,bR (some 1) (h.get i) k [x]=some ob∧Own (h.set i ob) e 1 v (cs.set k x)∧J h (h.set i ob) (bl v):=by
 rcases aR with ⟨_,rfl⟩ | ⟨i,len,cap,c,ex,rfl,hi,av,hlen,bJ,dj⟩
 ·simp at hk
 ·simp only [Nat.mul_one] at hlen bJ dj
  have cw:len≤c.length:=by
   have:=congrArg List.length bJ
   rw [List.length_take,hlen] at this
   omega
  have me:cs[k]?=c[k]?:=by rw [←bJ,List.getElem?_take,if_pos (by omega)]
  have ra:k<c.length:=by omega
  have ql:cs[k]=c[k]:=by
   rw [List.getElem?_eq_getElem hk,List.getElem?_eq_getElem ra] at me
   exact Option.some.inj me
  refine ⟨i,?_,rfl,⟨c.drop (k+1),?_⟩,fun x aR=>?_⟩
  ·rw [F9,U,J8,if_pos ⟨by omega,by omega⟩]
   simp
  ·rw [av,F7,if_pos (by omega),List.drop_eq_getElem_cons ra,ql]
  ·refine ⟨.cells (c.set k x) e ex,?_,.inr ⟨i,len,cap,c.set k x,ex,rfl,hi,by simp [I.set],by simp [hlen],?_,?_⟩,(J.set h i _).mono fun k hk=>by subst hk;rfl⟩
   ·rw [av,tf aR,if_pos ra]
   ·rw [Nat.mul_one,←bJ,List.take_set]
   ·simpa using dj
inductive iR where
 | bool | int (k:IntKind) | str | bc (s:iR) | unit | cat (a b:iR)
def iR.width:iR→Nat
 | .unit=>0
 | .cat a b=>a.width+b.width
 | _=>1
def iR.fits:iR→List V→Prop
 | .bool,l=>∃ b,l=[.bool b]
 | .int k,l=>∃ n,l=[.int k n]∧(Lit.int k n).wf=true
 | .str,l=>∃ s,l=[.string s]
 | .bc s,l=>∃ es:List (List V),l=[.ai es.length es.flatten]∧∀ e ∈ es,s.fits e
 | .unit,l=>l=[]
 | .cat a b,l=>∃ ey dm,l=ey++dm∧a.fits ey∧b.fits dm
theorem iR.oY:∀ {s:iR} {l:List V},s.fits l→l.length=s.width
 | .bool,_,⟨_,h⟩=>by subst h;rfl
 | .int _,_,⟨_,h,_⟩=>by subst h;rfl
 | .str,_,⟨_,h⟩=>by subst h;rfl
 | .bc _,_,⟨_,h,_⟩=>by subst h;rfl
 | .unit,_,h=>by have:_=[]:=h;subst this;rfl
 | .cat a b,_,⟨ey,dm,h,h1,aa⟩=>by subst h;rw [List.length_append,iR.oY h1,iR.oY aa];rfl
def zh (P:Program) (g:TypeId→Option iR):Nat→List Field→Option iR
 | _,[]=>some .unit
 | o,f::cr=>
  if f.offset=o then
   match g f.type,zh P g (o+P.cellsOf f.type) cr with
   | some s,some r=>if s.width=P.cellsOf f.type then some (.cat s r) else none
   | _,_=>none
  else none
def shapeOf (P:Program):Nat→TypeId→Option iR
 | 0,_=>none
 | n+1,t=>
  match P.underlying t with
  | some .bool=>some .bool
  | some (.int k)=>some (.int k)
  | some .string=>some .str
  | some (.slice e)=>match shapeOf P n e with | some s=>if s.width=P.cellsOf e∧0<s.width then some (.bc s) else none | none=>none
  | some (.struct cr)=>match zh P (shapeOf P n) 0 cr.toList with | some s=>if s.width=P.cellsOf t then some s else none | none=>none
  | _=>none
theorem Ke {α:Type} {dd:Nat→α→Prop}:∀ (n:Nat),(∀ i,i<n→∃ e,dd i e)→∃ es:List α,es.length=n∧∀ i e,es[i]?=some e→dd i e
 | 0,_=>⟨[],rfl,by simp⟩
 | n+1,h=>by
  obtain ⟨es,h1,aa⟩:=Ke n fun i hi=>h i (by omega)
  obtain ⟨e,he⟩:=h n (by omega)
  refine ⟨es++[e],by simp [h1],fun i x ag=>?_⟩
  by_cases hi:i<es.length
  ·rw [List.getElem?_append_left hi] at ag;exact aa i x ag
  ·rw [List.getElem?_append_right (by omega)] at ag
   have:i - es.length=0:=by
    have:=(List.getElem?_eq_some_iff.1 ag).1
    simp at this;omega
   rw [this] at ag
   simp at ag
   subst ag
   rw [show i=n by omega]
   exact he
theorem Kf {α:Type} {sz:Nat} (dy:0<sz):∀ {es:List (List α)} {k:Nat} {v:α},(∀ e ∈ es,e.length=sz)→es.flatten[k]?=some v→∃ e,es[k / sz]?=some e∧e[k % sz]?=some v
 | [],k,v,_,h=>by simp at h
 | e::es,k,v,az,h=>by
  have he:=az e (by simp)
  rw [List.flatten_cons] at h
  by_cases hk:k<sz
  ·rw [List.getElem?_append_left (by omega)] at h
   exact ⟨e,by rw [Nat.div_eq_of_lt hk];rfl,by rw [Nat.mod_eq_of_lt hk];exact h⟩
  ·rw [List.getElem?_append_right (by omega),he] at h
   obtain ⟨x,h1,aa⟩:=Kf dy (fun e h=>az e (by simp [h])) h
   refine ⟨x,?_,?_⟩
   ·rw [show k / sz=(k - sz) / sz+1 by rw [Nat.div_eq_sub_div dy (by omega)]]
    simpa using h1
   ·rw [Nat.mod_eq_sub_mod (by omega)];exact aa
theorem Kg {α:Type} {sz:Nat}:∀ {es:List (List α)},(∀ e ∈ es,e.length=sz)→es.flatten.length=es.length * sz
 | [],_=>by simp
 | e::es,h=>by
  rw [List.flatten_cons,List.length_append,h e (by simp),Kg fun e he=>h e (by simp [he]),List.length_cons,Nat.add_mul]
  omega
section
variable {H:Type} {enc:TypeId×Value→H} {P:Program} {w:World} {base:Nat} {spare:Nat→Bool} {held:Bool}
theorem pu {a:Addr} {n:Nat} {cs:List Value} (h:w.cells? base a n=some cs):cs.length=n∧∀ j,j<n→w.cell? (a.add j)=cs[j]?:=by
 unfold World.cells? at h
 split at h
 case isFalse=>cases h
 exact ⟨by simpa using mapM_some_length h,fun j aS=>by simpa using mapM_some_get h j j (by simp [aS])⟩
theorem TS {g:TypeId→Option iR} {cs:List Value} {fu:Nat} (av:∀ t s fuel cs x,g t=some s→DataW.trod enc P w base spare held fuel t cs=some x→∃ l,s.fits l∧aT (iw w) l cs) :
  ∀ (cr:List Field) (o:Nat) (s:iR) (xs:List (DataW H×List MemPlace)),zh P g o cr=some s→xs.length=cr.length →
   (∀ (i:Nat) (f:Field),cr[i]?=some f→DataW.trod enc P w base spare held fu f.type ((cs.drop f.offset).take (P.cellsOf f.type))=xs[i]?)→∃ l,s.fits l∧aT (iw w) l ((cs.drop o).take s.width)
 | [],o,s,xs,U,_,_=>by
  simp [zh] at U
  subst U
  exact ⟨[],rfl,by simpa [iR.width] using aT.nil _⟩
 | f::cr,o,s,xs,U,az,ag=>by
  unfold zh at U
  split at U
  case isFalse=>cases U
  rename_i aR
  split at U
  case h_2=>cases U
  rename_i s1 s2 h1 aa
  split at U
  case isFalse=>cases U
  rename_i hw
  obtain rfl:=Option.some.inj U
  cases xs with
  | nil=>simp at az
  | cons x xs=>
   have wB:=ag 0 f rfl
   obtain ⟨ey,f1,cg⟩:=av _ _ _ _ _ h1 wB
   obtain ⟨dm,f2,cZ⟩:=TS av cr _ s2 xs aa (by simpa using az) fun i bI aq=>ag (i+1) bI (by simpa using aq)
   refine ⟨ey++dm,⟨ey,dm,rfl,f1,f2⟩,?_⟩
   have:=cg.append cZ
   rw [aR,←hw] at this
   have e:((cs.drop o).take s1.width)++((cs.drop (o+s1.width)).take s2.width)=(cs.drop o).take (s1.width+s2.width):=by
    rw [List.take_add,List.drop_drop]
   rw [e] at this
   exact this
theorem reads:∀ (n:Nat) (t:TypeId) (s:iR) (fuel:Nat) (cs:List Value) (x:DataW H×List MemPlace),shapeOf P n t=some s→DataW.trod enc P w base spare held fuel t cs=some x→∃ l,s.fits l∧aT (iw w) l cs
 | 0,_,_,_,_,_,U,_=>by simp [shapeOf] at U
 | n+1,t,s,fuel,cs,x,U,h=>by
  unfold shapeOf at U
  split at U
  ·rename_i hu
   obtain rfl:=Option.some.inj U
   obtain ⟨b,rfl,_⟩:=DataW.trod_bool hu h
   exact ⟨[.bool b],⟨b,rfl⟩,.cons (.bool b) (.nil _)⟩
  ·rename_i k hu
   obtain rfl:=Option.some.inj U
   obtain ⟨m,rfl,_,hw⟩:=DataW.trod_int hu h
   exact ⟨[.int k m],⟨m,rfl,hw⟩,.cons (.int k m) (.nil _)⟩
  ·rename_i hu
   obtain rfl:=Option.some.inj U
   obtain ⟨b,rfl,_⟩:=DataW.trod_string hu h
   exact ⟨[.string b],⟨b,rfl⟩,.cons (.string b) (.nil _)⟩
  ·rename_i e hu
   split at U
   case h_2=>cases U
   rename_i s1 eZ
   split at U
   case isFalse=>cases U
   rename_i hw
   obtain rfl:=Option.some.inj U
   rcases DataW.trod_slice hu h with ⟨rfl,_⟩ | ⟨a,len,cap,elems,rest,m,_,rfl,_,_,iL,_,ql,me,_⟩
   ·exact ⟨[.ai 0 []],⟨[],rfl,by simp⟩,.cons (.eU none 0 (by simp)) (.nil _)⟩
   ·rcases Nat.eq_zero_or_pos len with h0 | dy
    ·subst h0
     exact ⟨[.ai 0 []],⟨[],rfl,by simp⟩,.cons (.eU (some a) cap (by simp)) (.nil _)⟩
    ·have each:∀ i,i<len→∃ l:List V,s1.fits l∧∃ ci:List Value,aT (iw w) l ci∧∀ j,j<s1.width→w.cell? ((a.add (i * s1.width)).add j)=ci[j]?∧j<ci.length:=fun i hi=>by
      have h1:=me i hi
      have aa:∃ y,elems[i]?=some y:=⟨_,List.getElem?_eq_getElem (by omega)⟩
      obtain ⟨y,bd⟩:=aa
      rw [bd,Option.bind_eq_some_iff] at h1
      obtain ⟨ci,hv,ht⟩:=h1
      obtain ⟨l,f1,cg⟩:=reads n e s1 m ci y eZ ht
      rw [←hw.1] at hv
      obtain ⟨g1,g2⟩:=pu hv
      exact ⟨l,f1,ci,cg,fun j aS=>⟨g2 j aS,by omega⟩⟩
     obtain ⟨es,rb,lp⟩:=Ke len each
     have ej:∀ e ∈ es,s1.fits e:=fun e he=>by
      obtain ⟨i,hi⟩:=List.getElem?_of_mem he
      exact (lp i e hi).1
     have hlen:∀ e ∈ es,e.length=s1.width:=fun e he=>iR.oY (ej e he)
     obtain ⟨b,off,sp⟩:=a
     have mB:∃ v,w.cell? ⟨b,off,sp⟩=some v:=by
      obtain ⟨_,ci,_,au⟩:=(lp 0 es[0] (List.getElem?_eq_getElem (by omega)))
      obtain ⟨cn,cO⟩:=au 0 hw.2
      rw [Nat.zero_mul] at cn
      simp only [Addr.add,if_true] at cn
      exact ⟨_,cn.trans (List.getElem?_eq_getElem cO)⟩
     obtain ⟨v0,kj⟩:=mB
     have ak:∃ arr hY fl,w.heap[b]?=some (.cells arr hY fl)∧sp=none:=by
      unfold World.cell? at kj
      split at kj
      ·rename_i c hY fl ad
       refine ⟨c,hY,fl,ad,?_⟩
       cases sp with
       | none=>rfl
       | some _=>simp at kj
      ·cases kj
     obtain ⟨arr,hY,fl,ak,rfl⟩:=ak
     have s5:∀ m,w.cell? (Addr.add ⟨b,off,none⟩ m)=arr[off+m]?:=fun m=>by
      rw [Addr.add_mid]
      simp [World.cell?,ak]
     have pt:∀ i j,j<s1.width→w.cell? ((Addr.add ⟨b,off,none⟩ (i * s1.width)).add j)=arr[off+(i * s1.width+j)]?:=fun i j _=>by
      rw [Addr.add_mid,Addr.add_mid]
      simp [World.cell?,ak,Nat.add_assoc]
     refine ⟨[.ai es.length es.flatten],⟨es,rfl,ej⟩,.cons ?_ (.nil _)⟩
     rw [rb]
     refine .ai off len cap (Ge ak) iL ?_ fun k v v' h1 aa=>?_
     ·rw [Kg hlen,rb]
      obtain ⟨_,ci,_,au⟩:=(lp (len - 1) es[len - 1] (List.getElem?_eq_getElem (by omega)))
      obtain ⟨cn,cO⟩:=au (s1.width - 1) (by omega)
      rw [pt _ _ (by omega),List.getElem?_eq_getElem cO] at cn
      have fg:=(Array.getElem?_eq_some_iff.1 cn).1
      have:(len - 1) * s1.width+s1.width=len * s1.width:=by
       rw [←Nat.succ_mul];congr 1;omega
      omega
     ·obtain ⟨aw,g1,g2⟩:=Kf hw.2 hlen h1
      obtain ⟨_,ci,aH,au⟩:=lp _ aw g1
      have aS:k % s1.width<s1.width:=Nat.mod_lt _ hw.2
      obtain ⟨cn,cO⟩:=au _ aS
      rw [pt _ _ aS,show k / s1.width * s1.width+k % s1.width=k by rw [Nat.mul_comm];exact Nat.div_add_mod k s1.width,aa] at cn
      exact aH.2 _ _ _ g2 cn.symm
  ·rename_i cr hu
   split at U
   case h_2=>cases U
   rename_i s1 eZ
   split at U
   case isFalse=>cases U
   rename_i hw
   obtain rfl:=Option.some.inj U
   obtain ⟨xs,m,_,_,cw,oG,ag⟩:=DataW.trod_struct hu h
   obtain ⟨l,f1,cg⟩:=TS (fu:=m) (fun t s fuel cs x h1 aa=>reads n t s fuel cs x h1 aa) cr.toList 0 s1 xs eZ (by simpa using oG) fun i f aq=>ag i f (by simpa using aq)
   rw [List.drop_zero,hw,←cw,List.take_length] at cg
   exact ⟨l,f1,cg⟩
  ·cases U
theorem ap9 {n:Nat} {t e:TypeId} {s:iR} {a:Option Addr} {len cap:Nat} {d:DataW H} {ps:List MemPlace} (hu:P.underlying t=some (.slice e)) (U:shapeOf P n e=some s) (hw:s.width=P.cellsOf e∧0<s.width)
  (h:DataW.Trod enc P w base spare held t (.slice a len cap) d ps) :
  ∃ es:List (List V),(∀ x ∈ es,s.fits x)∧aA (iw w) (.ai es.length es.flatten) (.slice a len cap)∧(es.length=0∨∃ el sp,d=.slice el sp∧es.length=el.length):=by
 obtain ⟨fuel,aq⟩:=h
 obtain ⟨l,⟨es,rfl,mE⟩,aH⟩:=reads (n+1) t (.bc s) fuel _ _ (by simp only [shapeOf,hu,U,if_pos hw]) aq
 have aD:aA (iw w) (.ai es.length es.flatten) (.slice a len cap):=aH.2 0 _ _ rfl rfl
 refine ⟨es,mE,aD,?_⟩
 have az:es.length=len:=by
  generalize ad:es.length=m at aD
  generalize es.flatten=c at aD
  rcases aD.jX with ⟨rfl,_,_,_,_,ab⟩ | ⟨_,_,_,_,_,_,_,_,ab⟩<;>· simp at ab;omega
 rcases DataW.trod_slice hu aq with ⟨au,_⟩ | ⟨a2,Gl,wq,elems,rest,m,_,au,ag,_,_,_,ql,_⟩
 ·simp [Value.cells] at au
  left;omega
 ·simp [Value.cells] at au
  right
  exact ⟨_,_,(congrArg Prod.fst ag),by simp [az,ql,au.2.1]⟩
end
def iR.gT:iR→List V→Prop
 | .bool,l=>∃ b,l=[.bool b]
 | .int k,l=>∃ n,l=[.int k n]∧(Lit.int k n).wf=true
 | .str,l=>∃ s,l=[.string s]
 | .bc s,l=>∃ es:List (List V),l=[.ai es.length es.flatten]∧es.length<2 ^ 47∧∀ e ∈ es,s.gT e
 | .unit,l=>l=[]
 | .cat a b,l=>∃ ey dm,l=ey++dm∧a.gT ey∧b.gT dm
theorem iR.nL:∀ {s:iR} {l:List V},s.gT l→l.length=s.width
 | .bool,_,⟨_,h⟩=>by subst h;rfl
 | .int _,_,⟨_,h,_⟩=>by subst h;rfl
 | .str,_,⟨_,h⟩=>by subst h;rfl
 | .bc _,_,⟨_,h,_⟩=>by subst h;rfl
 | .unit,_,h=>by have:_=[]:=h;subst this;rfl
 | .cat a b,_,⟨ey,dm,h,h1,aa⟩=>by subst h;rw [List.length_append,iR.nL h1,iR.nL aa];rfl
def Au (P:Program):Nat→TypeId→Option iR
 | 0,_=>none
 | n+1,t=>
  match P.underlying t with
  | some .bool=>some .bool
  | some (.int k)=>some (.int k)
  | some .string=>some .str
  | some (.slice e)=>match Au P n e with | some s=>if s.width=P.cellsOf e∧0<s.width∧1≤P.bytesOf e then some (.bc s) else none | none=>none
  | some (.struct cr)=>match zh P (Au P n) 0 cr.toList with | some s=>if s.width=P.cellsOf t then some s else none | none=>none
  | _=>none
theorem OY {H:Type} {P:Program} {e:TypeId} {n:Nat}:∀ {l:List (DataW H)} {d:DataW H},d ∈ l→n ∈ d.weights P e→n ∈ DataW.weightsAll P e l
 | [],_,h,_=>by simp at h
 | x::l,d,h,aG=>by
  simp only [DataW.weightsAll,List.mem_append]
  rcases List.mem_cons.1 h with rfl | h
  ·exact .inl aG
  ·exact .inr (OY h aG)
section
variable {H:Type} {enc:TypeId×Value→H} {P:Program} {w:World} {base:Nat} {spare:Nat→Bool} {held:Bool}
theorem TT {g:TypeId→Option iR} {cs:List Value} {fu:Nat} (av:∀ t s fuel cs x,g t=some s→DataW.trod enc P w base spare held fuel t cs=some x→(∀ n ∈ x.1.weights P t,n≤reachBytes)→∃ l,s.gT l∧aT (iw w) l cs) :
  ∀ (cr:List Field) (o:Nat) (s:iR) (xs:List (DataW H×List MemPlace)),zh P g o cr=some s→xs.length=cr.length →
   (∀ (i:Nat) (f:Field),cr[i]?=some f→DataW.trod enc P w base spare held fu f.type ((cs.drop f.offset).take (P.cellsOf f.type))=xs[i]?)→(∀ n ∈ DataW.weightsEach P (cr.map (·.type)) (xs.map (·.1)),n≤reachBytes)→∃ l,s.gT l∧aT (iw w) l ((cs.drop o).take s.width)
 | [],o,s,xs,U,_,_,_=>by
  simp [zh] at U
  subst U
  exact ⟨[],rfl,by simpa [iR.width] using aT.nil _⟩
 | f::cr,o,s,xs,U,az,ag,ak=>by
  unfold zh at U
  split at U
  case isFalse=>cases U
  rename_i aR
  split at U
  case h_2=>cases U
  rename_i s1 s2 h1 aa
  split at U
  case isFalse=>cases U
  rename_i hw
  obtain rfl:=Option.some.inj U
  cases xs with
  | nil=>simp at az
  | cons x xs=>
   have wB:=ag 0 f rfl
   obtain ⟨ey,f1,cg⟩:=av _ _ _ _ _ h1 wB (fun n aG=>ak n (by simp only [List.map_cons,DataW.weightsEach,List.mem_append];exact .inl aG))
   obtain ⟨dm,f2,cZ⟩:=TT av cr _ s2 xs aa (by simpa using az) (fun i bI aq=>ag (i+1) bI (by simpa using aq)) (fun n aG=>ak n (by simp only [List.map_cons,DataW.weightsEach,List.mem_append];exact .inr aG))
   refine ⟨ey++dm,⟨ey,dm,rfl,f1,f2⟩,?_⟩
   have:=cg.append cZ
   rw [aR,←hw] at this
   have e:((cs.drop o).take s1.width)++((cs.drop (o+s1.width)).take s2.width)=(cs.drop o).take (s1.width+s2.width):=by
    rw [List.take_add,List.drop_drop]
   rw [e] at this
   exact this
theorem Kh:∀ (n:Nat) (t:TypeId) (s:iR) (fuel:Nat) (cs:List Value) (x:DataW H×List MemPlace),Au P n t=some s→DataW.trod enc P w base spare held fuel t cs=some x→(∀ n ∈ x.1.weights P t,n≤reachBytes)→∃ l,s.gT l∧aT (iw w) l cs
 | 0,_,_,_,_,_,U,_,_=>by simp [Au] at U
 | n+1,t,s,fuel,cs,x,U,h,bM=>by
  unfold Au at U
  split at U
  ·rename_i hu
   obtain rfl:=Option.some.inj U
   obtain ⟨b,rfl,_⟩:=DataW.trod_bool hu h
   exact ⟨[.bool b],⟨b,rfl⟩,.cons (.bool b) (.nil _)⟩
  ·rename_i k hu
   obtain rfl:=Option.some.inj U
   obtain ⟨m,rfl,_,hw⟩:=DataW.trod_int hu h
   exact ⟨[.int k m],⟨m,rfl,hw⟩,.cons (.int k m) (.nil _)⟩
  ·rename_i hu
   obtain rfl:=Option.some.inj U
   obtain ⟨b,rfl,_⟩:=DataW.trod_string hu h
   exact ⟨[.string b],⟨b,rfl⟩,.cons (.string b) (.nil _)⟩
  ·rename_i e hu
   split at U
   case h_2=>cases U
   rename_i s1 eZ
   split at U
   case isFalse=>cases U
   rename_i hw
   obtain rfl:=Option.some.inj U
   rcases DataW.trod_slice hu h with ⟨rfl,_⟩ | ⟨a,len,cap,elems,rest,m,_,rfl,oH,_,iL,_,ql,me,_⟩
   ·exact ⟨[.ai 0 []],⟨[],rfl,by decide,by simp⟩,.cons (.eU none 0 (by simp)) (.nil _)⟩
   ·rcases Nat.eq_zero_or_pos len with h0 | dy
    ·subst h0
     exact ⟨[.ai 0 []],⟨[],rfl,by decide,by simp⟩,.cons (.eU (some a) cap (by simp)) (.nil _)⟩
    ·have each:∀ i,i<len→∃ l:List V,s1.gT l∧∃ ci:List Value,aT (iw w) l ci∧∀ j,j<s1.width→w.cell? ((a.add (i * s1.width)).add j)=ci[j]?∧j<ci.length:=fun i hi=>by
      have h1:=me i hi
      have aa:∃ y,elems[i]?=some y:=⟨_,List.getElem?_eq_getElem (by omega)⟩
      obtain ⟨y,bd⟩:=aa
      rw [bd,Option.bind_eq_some_iff] at h1
      obtain ⟨ci,hv,ht⟩:=h1
      obtain ⟨l,f1,cg⟩:=Kh n e s1 m ci y eZ ht (fun n aG=>bM n (by
       rw [oH]
       simp only [DataW.weights,hu]
       exact List.mem_cons_of_mem _ (List.mem_append_left _ (OY (List.mem_map.2 ⟨y,List.mem_of_getElem? bd,rfl⟩) aG))))
      rw [←hw.1] at hv
      obtain ⟨g1,g2⟩:=pu hv
      exact ⟨l,f1,ci,cg,fun j aS=>⟨g2 j aS,by omega⟩⟩
     obtain ⟨es,rb,lp⟩:=Ke len each
     have ej:∀ e ∈ es,s1.gT e:=fun e he=>by
      obtain ⟨i,hi⟩:=List.getElem?_of_mem he
      exact (lp i e hi).1
     have hlen:∀ e ∈ es,e.length=s1.width:=fun e he=>iR.nL (ej e he)
     obtain ⟨b,off,sp⟩:=a
     have mB:∃ v,w.cell? ⟨b,off,sp⟩=some v:=by
      obtain ⟨_,ci,_,au⟩:=(lp 0 es[0] (List.getElem?_eq_getElem (by omega)))
      obtain ⟨cn,cO⟩:=au 0 hw.2.1
      rw [Nat.zero_mul] at cn
      simp only [Addr.add,if_true] at cn
      exact ⟨_,cn.trans (List.getElem?_eq_getElem cO)⟩
     obtain ⟨v0,kj⟩:=mB
     have ak:∃ arr hY fl,w.heap[b]?=some (.cells arr hY fl)∧sp=none:=by
      unfold World.cell? at kj
      split at kj
      ·rename_i c hY fl ad
       refine ⟨c,hY,fl,ad,?_⟩
       cases sp with
       | none=>rfl
       | some _=>simp at kj
      ·cases kj
     obtain ⟨arr,hY,fl,ak,rfl⟩:=ak
     have s5:∀ m,w.cell? (Addr.add ⟨b,off,none⟩ m)=arr[off+m]?:=fun m=>by
      rw [Addr.add_mid]
      simp [World.cell?,ak]
     have pt:∀ i j,j<s1.width→w.cell? ((Addr.add ⟨b,off,none⟩ (i * s1.width)).add j)=arr[off+(i * s1.width+j)]?:=fun i j _=>by
      rw [Addr.add_mid,Addr.add_mid]
      simp [World.cell?,ak,Nat.add_assoc]
     have bf:es.length<2 ^ 47:=by
      have h0:=bM ((elems.length+rest.length) * P.bytesOf e) (by rw [oH];simp [DataW.weights,hu])
      have h1:=Nat.le_trans (Nat.le_mul_of_pos_right _ hw.2.2) h0
      have aa:=reachBytes_lt
      omega
     refine ⟨[.ai es.length es.flatten],⟨es,rfl,bf,ej⟩,.cons ?_ (.nil _)⟩
     rw [rb]
     refine .ai off len cap (Ge ak) iL ?_ fun k v v' h1 aa=>?_
     ·rw [Kg hlen,rb]
      obtain ⟨_,ci,_,au⟩:=(lp (len - 1) es[len - 1] (List.getElem?_eq_getElem (by omega)))
      obtain ⟨cn,cO⟩:=au (s1.width - 1) (by omega)
      rw [pt _ _ (by omega),List.getElem?_eq_getElem cO] at cn
      have fg:=(Array.getElem?_eq_some_iff.1 cn).1
      have:(len - 1) * s1.width+s1.width=len * s1.width:=by
       rw [←Nat.succ_mul];congr 1;omega
      omega
     ·obtain ⟨aw,g1,g2⟩:=Kf hw.2.1 hlen h1
      obtain ⟨_,ci,aH,au⟩:=lp _ aw g1
      have aS:k % s1.width<s1.width:=Nat.mod_lt _ hw.2.1
      obtain ⟨cn,cO⟩:=au _ aS
      rw [pt _ _ aS,show k / s1.width * s1.width+k % s1.width=k by rw [Nat.mul_comm];exact Nat.div_add_mod k s1.width,aa] at cn
      exact aH.2 _ _ _ g2 cn.symm
  ·rename_i cr hu
   split at U
   case h_2=>cases U
   rename_i s1 eZ
   split at U
   case isFalse=>cases U
   rename_i hw
   obtain rfl:=Option.some.inj U
   obtain ⟨xs,m,_,oH,cw,oG,ag⟩:=DataW.trod_struct hu h
   obtain ⟨l,f1,cg⟩:=TT (fu:=m) (fun t s fuel cs x h1 aa aC=>Kh n t s fuel cs x h1 aa aC) cr.toList 0 s1 xs eZ (by simpa using oG) (fun i f aq=>ag i f (by simpa using aq)) (fun n aG=>bM n (by rw [oH];simp only [DataW.weights,hu];exact aG))
   rw [List.drop_zero,hw,←cw,List.take_length] at cg
   exact ⟨l,f1,cg⟩
  ·cases U
theorem aqa {n:Nat} {t e:TypeId} {s:iR} {a:Option Addr} {len cap:Nat} {d:DataW H} {ps:List MemPlace} (hu:P.underlying t=some (.slice e)) (U:Au P n e=some s) (hw:s.width=P.cellsOf e∧0<s.width∧1≤P.bytesOf e) (bM:∀ n ∈ d.weights P t,n≤reachBytes)
  (h:DataW.Trod enc P w base spare held t (.slice a len cap) d ps) :
  ∃ es:List (List V),(∀ x ∈ es,s.gT x)∧aA (iw w) (.ai es.length es.flatten) (.slice a len cap)∧es.length<2 ^ 47:=by
 obtain ⟨fuel,aq⟩:=h
 obtain ⟨l,⟨es,rfl,aG,mE⟩,aH⟩:=Kh (n+1) t (.bc s) fuel _ _ (by simp only [Au,hu,U,if_pos hw]) aq bM
 exact ⟨es,mE,aH.2 0 _ _ rfl rfl,aG⟩
end
variable {P:Program} {t:TypeId} {T:ln}
theorem af6 {tx:TypeId} (cN:hr P t=some T) {h:I} {src:V} {n c:Nat} {cs:List V} {k k':IntKind} (U:BK src=some n) (aq:∀ h',J h h' none_→wc T.sz n src h'=some cs) (b5:cs.all (·.one)=true) (hlen:cs.length=n * T.sz)
  (Aq:n≤c) (h1:T.ao * c≤140737488355328) (aa:c≤140737488355328) :
  ∃ h1 aa,yY P t (.int k (n:Int)) (.int k' (c:Int)) h=some (.bc h.n 0 n c,h1)∧xD P t (.bc h.n 0 n c) src h1=some (.int .i64 n,aa)∧Own aa T.e T.sz (.bc h.n 0 n c) cs∧J h h1 none_∧J h aa none_:=by
 obtain ⟨he,bK,bf,hG,eX,_⟩:=rZ cN
 have fL:(made T.zs c).length=c * T.sz:=by rw [zU,eX]
 have hle:=Nat.mul_le_mul_right T.sz Aq
 have jF:J h (h.push (.cells (made T.zs c) T.e none)) none_:=J.push _ _ _
 obtain ⟨vd,au,rfl⟩:=af3 (P:=P) (t:=t) (T:=T) (tx:=t) (i:=h.n) (cap:=c) (c:=made T.zs c) (src:=src) (h:=h.push (.cells (made T.zs c) T.e none)) cN cA U (aq _ jF) b5 (by omega)
 refine ⟨_,_,OX cN Aq h1 aa,au,.inr ⟨h.n,n,c,_,none,rfl,?_,aP,hlen,?_,.inl ⟨by unfold b2;omega,?_,Aq⟩⟩,jF,jF.iQ (Nat.le_refl _) _⟩
 ·rw [jt,eI];omega
 ·unfold lay
  rw [List.take_zero,List.nil_append,List.take_append_of_le_length (by omega),List.take_of_length_le (by omega)]
 ·rw [pd _ _ _ (by omega),fL];exact Nat.le_refl _
def Ki (P:Program) (l:Nat) (rest:Code) (Q:Exit→Act→World→Prop):Nat→Act→World→Prop
 | 0,_,_=>False
 | m+1,a,w=>rest.wp P (Exit.jump l (Ki P l rest Q m) Q) a w
theorem af7 {P:Program} {c rest:Code} {l:Nat} {Q:Exit→Act→World→Prop} {a:Act} {w:World} (aq:findLabel c l=some rest) (m:Nat)
  (first:c.wp P (Exit.jump l (Ki P l rest Q m) Q) a w):(Code.scope c).wp P Q a w:=by
 intro b k cs
 have av:gotoIn l (.inScope c::k)=some (.code rest::.inScope c::k):=by simp [gotoIn,aq]
 have key:∀ m a w,Ki P l rest Q m a w→∃ e hB w',Q e hB w'∧Arrives P (lone (b.at a (.code rest::.inScope c::k)) cs w) b k cs e hB w':=by
  intro m
  induction m with
  | zero=>intro a w h;exact h.elim
  | succ m ih=>
   intro a w qB
   obtain ⟨e,a₁,w₁,ad,kM⟩:=qB b (.inScope c::k) cs
   cases e with
   | normal=>exact ⟨.normal,a₁,w₁,ad,Steps.trans kM (.one step_inScope)⟩
   | exit id=>exact ⟨.exit id,a₁,w₁,ad,fun k' hk=>kM k' (by simp [exitTo,hk])⟩
   | goto b0=>
    obtain ⟨rfl,Gm⟩:=ad
    obtain ⟨e₂,a₂,w₂,hq₂,harr₂⟩:=ih a₁ w₁ Gm
    exact ⟨e₂,a₂,w₂,hq₂,.of_steps (kM _ av) harr₂⟩
   | ret=>exact ⟨_,a₁,w₁,ad,kM⟩
   | panic iu=>exact ⟨_,a₁,w₁,ad,kM⟩
   | outgrown=>exact ⟨_,a₁,w₁,ad,kM⟩
 obtain ⟨e,a₁,w₁,ad,kM⟩:=first b (.inScope c::k) cs
 cases e with
 | normal=>exact ⟨.normal,a₁,w₁,ad,.head step_scope (Steps.trans kM (.one step_inScope))⟩
 | exit id=>exact ⟨.exit id,a₁,w₁,ad,fun k' hk=>.head step_scope (kM k' (by simp [exitTo,hk]))⟩
 | goto b0=>
  obtain ⟨rfl,Gm⟩:=ad
  obtain ⟨e₂,a₂,w₂,hq₂,harr₂⟩:=key m a₁ w₁ Gm
  exact ⟨e₂,a₂,w₂,hq₂,.of_steps (.head step_scope (kM _ av)) harr₂⟩
 | ret=>exact ⟨_,a₁,w₁,ad,.of_steps (.one step_scope) kM⟩
 | panic iu=>exact ⟨_,a₁,w₁,ad,.of_steps (.one step_scope) kM⟩
 | outgrown=>exact ⟨_,a₁,w₁,ad,.of_steps (.one step_scope) kM⟩
def EE (l:Nat) (xN:ah→I→Prop) (Q:cq→ah→I→Prop):cq→ah→I→Prop
 | .goto b0,f,h=>b0=l∧xN f h
 | e,f,h=>Q e f h
section
variable {l:Nat} {xN:ah→I→Prop} {Q:cq→ah→I→Prop} {f:ah} {h:I}
theorem zi:EE l xN Q .ret f h=Q .ret f h:=nr rfl
theorem af8 {j:Nat}:EE l xN Q (.goto j) f h=(j=l∧xN f h):=nr rfl
end
theorem aX.Av {P:Program} {n l:Nat} {c b:Code} {α:Type} (az:findLabel c l=some (.seq .skip b)) {Q:cq→ah→I→Prop} {f:ah} {h:I} (xN:α→ah→I→Prop) (μ:α→Nat)
  (hμ:∀ x f h,xN x f h→μ x<1000000000000000000000)
  (pass:∀ x f h,xN x f h→aX P n b (EE l (fun bI h'=>@qY ⟨∃ y,xN y bI h'∧μ y<μ x⟩) Q) f h)
  (first:(∀ x f h,xN x f h→aX P n b (EE l (fun bI h'=>∃ y,xN y bI h') Q) f h)→aX P n c (EE l (fun bI h'=>∃ y,xN y bI h') Q) f h):aX P n (.scope c) Q f h:=by
 have Kj:∀ x f h,xN x f h→aX P n b (EE l (fun bI h'=>∃ y,xN y bI h') Q) f h:=fun x f h qB=>(pass x f h qB).mono fun e bI h' ad=>by
  cases e with
  | goto b0=>exact ⟨ad.1,let ⟨y,bd,_⟩:=ad.2;⟨y,bd⟩⟩
  | _=>exact ad
 intro ρ B aK a w hw aq
 have key:∀ m x f h,xN x f h→μ x<m→∀ ρ1:Ren,ρ.le ρ1→∀ a w,aQ ρ1 B aK h w→dS ρ1 n f a→Ki P l (.seq .skip b) (lh n B aK ρ Q) m a w:=by
  intro m
  induction m with
  | zero=>intro x f h _ hm;omega
  | succ m ih=>
   intro x f h F2 hm ρ1 hle a w hw aq
   refine wp_mono ((aX.seq (.skip (pass x f h F2))) ρ1 B aK a w hw aq) fun e hB w' ⟨ρ',bS,bI,h',ag,bL,b4,fO,cX⟩=>?_
   cases bS<;>cases e<;>simp only [pR] at ag
   ·exact ⟨ρ',.normal,bI,h',trivial,bL,b4,hle.trans fO,cX⟩
   ·exact ⟨ρ',.exit _,bI,h',ag,bL,b4,hle.trans fO,cX⟩
   ·obtain ⟨rfl,y,bd,aN⟩:=cX
    exact ⟨ag.symm,ih y bI h' bd (by omega) ρ' (hle.trans fO) hB w' bL b4⟩
   ·exact ⟨ρ',.ret,bI,h',trivial,bL,b4,hle.trans fO,cX⟩
   ·exact ⟨ρ',.panic,bI,h',ag,bL,b4,hle.trans fO,cX⟩
 refine af7 az 1000000000000000000000 (wp_mono (first Kj ρ B aK a w hw aq) fun e hB w' ⟨ρ',x,bI,h',ag,bL,b4,fO,cX⟩=>?_)
 cases x<;>cases e<;>simp only [pR] at ag
 ·exact ⟨ρ',.normal,bI,h',trivial,bL,b4,fO,cX⟩
 ·exact ⟨ρ',.exit _,bI,h',ag,bL,b4,fO,cX⟩
 ·obtain ⟨rfl,y,bd⟩:=cX
  exact ⟨ag.symm,key _ y bI h' bd (hμ y bI h' bd) ρ' fO hB w' bL b4⟩
 ·exact ⟨ρ',.ret,bI,h',trivial,bL,b4,fO,cX⟩
 ·exact ⟨ρ',.panic,bI,h',ag,bL,b4,fO,cX⟩
mutual
def V.OZ:V→Nat
 | .string s=>s.size+1
 | .ai _ cs=>TU cs+1
 | _=>1
def TU:List V→Nat
 | []=>0
 | v::r=>v.OZ+TU r
end
def BZ {α:Type} (b:α→Nat):List α→Nat
 | []=>0
 | x::r=>b x+BZ b r
structure af9 {H:Type} (b:DataW H→Nat):Prop where
 lit:∀ l,1≤b (.lit l)
 str:∀ ao:List UInt8,ao.length+1≤b (.lit (.string ao))
 nil:1≤b .nil
 slice:∀ es sp,BZ b es+1≤b (.slice es sp)
 agg:∀ ps,BZ b ps+1≤b (.agg ps)
section
variable {H:Type} {aga:DataW H→Nat} (TV:af9 aga)
include TV
variable {enc:TypeId×Value→H} {P:Program} {w:World} {base:Nat} {spare:Nat→Bool} {held:Bool}
end
section
variable {H:Type} {enc:TypeId×Value→H} {P:Program} {w:World} {base:Nat} {spare:Nat→Bool} {held:Bool}
theorem agb {n:Nat} {t:TypeId} {s:iR} {xs:Array Value} {d:DataW H} {ps:List MemPlace} (U:Au P n t=some s) (bM:∀ n ∈ d.weights P t,n≤reachBytes) (h:DataW.Trod enc P w base spare held t (.agg xs) d ps) :
  ∃ l:List V,s.gT l∧aA (iw w) (.agg l) (.agg xs):=by
 obtain ⟨fuel,aq⟩:=h
 obtain ⟨l,h1,aa⟩:=Kh n t s fuel _ _ U aq bM
 exact ⟨l,h1,aa.iq.agg⟩
end
theorem Acc.step {h0 h h':I} {e:TypeId} {sz:Nat} {s r:V} {cs cs':List V} (a:Acc h0 h e sz s cs) (o:Own h' e sz r cs') (k:J h h' (bl s)) (d:bV h s r):Acc h0 h' e sz r cs' :=
 ⟨o,a.al.trans k fun j aS hi=>by have:=a.new j hi;omega,fun j aS=>by
  rcases d with d | d
  ·exact a.new j (d ▸ aS)
  ·exact Nat.le_trans a.al.n (d j aS)⟩
theorem Acc.on {h0 h h':I} {e:TypeId} {sz:Nat} {s:V} {cs:List V} (a:Acc h0 h e sz s cs) (k:J h h' none_):Acc h0 h' e sz s cs :=
 ⟨a.own.ba k,a.al.trans' k,a.new⟩
theorem Acc.conv {h0 h:I} {e:TypeId} {sz:Nat} {s:V} {cs cs':List V} (a:Acc h0 h e sz s cs) (au:cs=cs'):Acc h0 h e sz s cs':=au ▸ a
theorem Pure.acc {P:Program} {bt:FuncId} {args:List V} {h:I} {e:TypeId} {sz n:Nat} {cs:List V} (pT:bo cs) (aG:cs.length=n * sz) (bf:0<sz)
  (au:ae P bt args h fun r h'=>Acc h h' e sz r cs):Pure P bt args h (.ai n cs) :=
 Pure.of (bj.ai pT) (au.mono fun r h' a=>a.cast aG bf)
section
variable {P:Program} {f:ah} {h:I}
theorem gU {t:Tmp}:oj P f h (.tmp t)=some (f t):=rfl
theorem fp {a:Tmp} {t:TypeId}:oj P f h (.cell a t)=ls P t (f a) h:=rfl
def B0 (x y:Option V):Option V:=match x,y with | some a,some b=>some (.tuple [a,b]) | _,_=>none
def B1 (x y z:Option V):Option V:=match x,y,z with | some a,some b,some c=>some (.tuple [a,b,c]) | _,_,_=>none
theorem hg {a b:V}:B0 (some a) (some b)=some (.tuple [a,b]):=rfl
theorem Kk {a b c:V}:B1 (some a) (some b) (some c)=some (.tuple [a,b,c]):=rfl
theorem zj {r:ResultVar}:pS P [r] f h=oj P f h r:=rfl
theorem hh {r s:ResultVar}:pS P [r,s] f h=B0 (oj P f h r) (oj P f h s):=by
 cases aH:oj P f h r<;>cases U:oj P f h s<;>simp [pS,B0,aH,U]
theorem Kl {r s t:ResultVar}:pS P [r,s,t] f h=B1 (oj P f h r) (oj P f h s) (oj P f h t):=by
 cases aH:oj P f h r<;>cases U:oj P f h s<;>cases bq:oj P f h t<;>simp [pS,B1,aH,U,bq]
end
def aY (l:List Int):List V:=l.map (V.int .i64)
theorem pU (l:List Int):(aY l).length=l.length:=by simp [aY]
theorem Gn (l:List Int):bo (aY l):=bo.map fun _ _=>bj.int _ _
theorem TW (a b:List Int):aY (a++b)=aY a++aY b:=by simp [aY]
theorem O0 (l:List Int) (k:Nat) (x:Int):(aY l).set k (.int .i64 x)=aY (l.set k x):=by simp [aY,List.map_set]
theorem TX {P:Program} {α:Type} (f:α→V) {l:List α} {k:Nat} (hk:k<l.length) {t:TypeId} {kk:IntKind} (U:ek P t=some 1) :
  hA P t (.ai l.length (l.map f)) (.int kk (k:Int))=some (.at (f l[k]::(l.drop (k+1)).map f)):=by
 rw [Gj U (by omega) (by omega) (by simp),Int.toNat_natCast,Nat.mul_one,←List.map_drop,List.drop_eq_getElem_cons hk]
 rfl
theorem tk {P:Program} {l:List Int} {k:Nat} (hk:k<l.length) {t:TypeId} {kk:IntKind} (U:ek P t=some 1) :
  hA P t (.ai l.length (aY l)) (.int kk (k:Int))=some (.at (.int .i64 l[k]::aY (l.drop (k+1)))):=TX _ hk U
theorem oq {i n:Nat} (h:i<n) (aG:n≤2 ^ 62):IntKind.i64.wrap ((i:Int)+1)=((i+1:Nat):Int):=by rw [Go.IntWalk.i64_in _ (by omega)];rfl
theorem TY {n:Nat} (h:n<2 ^ 63):IntKind.i64.wrap (n:Int)=(n:Int):=Go.IntWalk.i64_in _ (by omega)
theorem O1 {n:Nat} (h:n<2 ^ 64):IntKind.u64.wrap (n:Int)=(n:Int):=by rw [IntKind.wrap_u64];omega
theorem TZ {k:IntKind}:∀ {es:List (List V)},(∀ x ∈ es,iR.gT (.int k) x)→∃ l:List Int,es=(l.map fun n=>[V.int k n])∧∀ n ∈ l,(Lit.int k n).wf=true
 | [],_=>⟨[],rfl,by simp⟩
 | e::es,h=>by
  obtain ⟨l,rfl,az⟩:=TZ (es:=es) fun x ag=>h x (by simp [ag])
  obtain ⟨n,rfl,hw⟩:=h e (by simp)
  exact ⟨n::l,rfl,fun m hm=>by
   rcases List.mem_cons.1 hm with rfl | hm
   ·exact hw
   ·exact az m hm⟩
theorem agc {α:Type} (f:α→V) (l:List α):(l.map fun n=>[f n]).flatten=l.map f:=by
 induction l with
 | nil=>rfl
 | cons n l ih=>simp [ih]
theorem wf_i64 {a:Int} (h:(Lit.int .i64 a).wf=true):-2 ^ 63≤a∧a<2 ^ 63:=by
 simp only [Lit.wf,Bool.and_eq_true,decide_eq_true_eq] at h
 have h1:IntKind.i64.min=-2 ^ 63:=rfl
 have aa:IntKind.i64.max=2 ^ 63 - 1:=rfl
 omega
theorem wf_u8 {a:Int} (h:(Lit.int .u8 a).wf=true):∃ n:Nat,a=n∧n<256:=by
 simp only [Lit.wf,Bool.and_eq_true,decide_eq_true_eq] at h
 have h1:IntKind.u8.min=0:=rfl
 have aa:IntKind.u8.max=255:=rfl
 exact ⟨a.toNat,by omega,by omega⟩
theorem aM.kN (h:I):aM .an h (.ai 0 []) h:=fun ρ B aK w cm hw aD=>by
 cases aD
 exact ⟨ρ,Ren.le.refl ρ,hw,.eU none 0 (by simp)⟩
theorem Pure.args {P:Program} {bt:FuncId} {args oF:List V} {h:I} {v:V} (au:aB args h oF h) (aZ:Pure P bt oF h v):Pure P bt args h v:=ae.args au aZ
theorem aB.skip {v:V} {l dm:List V} {h:I} (b:aB l h dm h):aB (v::l) h (v::dm) h:=aB.cons (aM.refl v h) b
theorem aB.last {v v2:V} {h:I} (a:aM v h v2 h):aB [v] h [v2] h:=aB.cons a (aB.refl [] h)
theorem Own.lq {h:I} {e:TypeId} {sz:Nat} (c:List V) (n:Nat) (au:c.length=n * sz) (hu:n<b2):Own (h.push (.cells c e none)) e sz (.bc h.n 0 n n) c:=by
 have aR:=Own.fresh (h:=h) (e:=e) c n n au (Nat.le_refl _) hu
 rwa [←au,List.take_length] at aR
def iY:V→Option Nat
 | .ptr i _=>some i
 | .bc i _ _ _=>some i
 | .map i=>some i
 | _=>none
def pv (bu:Operand→V):Op→Option Nat
 | .load _ a=>iY (bu a)
 | .lookup _ m _ _=>iY (bu m)
 | .convert _ _ x=>iY (bu x)
 | .call ⟨.builtin .len,args,_⟩=>(args.toList.map bu).head?.bind iY
 | _=>none
def xO:Op→Bool
 | .entry _=>false
 | .call ⟨.builtin .len,args,ts⟩=>args.size==1&&ts.size==1
 | o=>lT o
def B2 (h:I):Prop:=∀ j,h.n≤j→h.get j=.dead
theorem aQ.wf {ρ:Ren} {B:Nat} {aK w:World} {h:I} (R:aQ ρ B aK h w):B2 h:=fun j aS=>by
 have a7:=R.heap.kg j aS
 have aR:=R.heap.obj j
 cases av:h.get j with
 | dead=>rfl
 | cells c e ex=>rw [av] at aR;obtain ⟨b,bw,arr,aH,_⟩:=aR;rw [a7] at aH;cases aH
 | map es c=>rw [av] at aR;obtain ⟨b,bw,arr,aH,_⟩:=aR;rw [a7] at aH;cases aH
 | iter m s l st=>rw [av] at aR;obtain ⟨b,bw,bm,xC,aH,_⟩:=aR;rw [a7] at aH;cases aH
 | jB b mk vs=>rw [av] at aR;obtain ⟨bw,arr,aH,_⟩:=aR;rw [a7] at aH;cases aH
section
variable {P:Program} {h h':I} {M:Nat→Prop}
theorem J.live (hw:B2 h) (hk:J h h' M) {i:Nat} (hm:¬M i) (a7:h.get i≠.dead):h'.get i=h.get i:=by
 rcases Nat.lt_or_ge i h.n with aN | ph
 ·exact hk.get i aN hm
 ·exact absurd (hw i ph) a7
theorem agd (hk:J h h' M) (f:ah) (x:Operand):f.eval h' x=f.eval h x:=by
 cases x<;>simp [ah.eval,hk.glob]
theorem age (hw:B2 h) (hk:J h h' M) {x:V} (hm:∀ i,iY x=some i→¬M i) {cs:List V} (aZ:qy h x=some cs):qy h' x=some cs:=by
 cases x<;>simp [qy] at aZ⊢
 case ptr i o=>
  have a7:h.get i≠.dead:=fun ab=>by rw [ab] at aZ;simp at aZ
  rw [hk.live hw (hm i rfl) a7];exact aZ
 case «at» cs'=>exact aZ
theorem agf (hw:B2 h) (hk:J h h' M) {t:TypeId} {x:V} (hm:∀ i,iY x=some i→¬M i) {v:V} (az:ls P t x h=some v):ls P t x h'=some v:=by
 rw [Tz] at az⊢
 cases aZ:qy h x with
 | none=>rw [aZ] at az;unfold dv at az;split at az<;>simp_all
 | some cs=>rw [aZ] at az;rw [age hw hk hm aZ];exact az
theorem agh {t:TypeId} {m k:V} {ok:Bool} (e:∀ i,iY m=some i→h'.get i=h.get i):mD P t m k ok h'=mD P t m k ok h:=by
 unfold mD
 cases e9 P t with
 | none=>rfl
 | some q=>
  obtain ⟨dI,hY,d⟩:=q
  simp only
  split
  ·rfl
  ·rw [e _ rfl]
  ·rfl
theorem agi {s d:TypeId} {x:V} (e:∀ i,iY x=some i→h'.get i=h.get i):lQ P s d x h'=lQ P s d x h:=by
 unfold lQ
 cases (lN x).bind fun a=>cQ P (convert s d a) with
 | some v=>rfl
 | none=>
  simp only
  split
  ·rfl
  ·rw [e _ rfl]
  ·rfl
  ·rfl
theorem agj {t:TypeId} {x:V} (e:∀ i,iY x=some i→h'.get i=h.get i):dU P t x h'=dU P t x h:=by
 unfold dU
 split
 all_goals first | rfl | rw [e _ rfl]
theorem agk {t:TypeId} {m k:V} {ok:Bool} (a7:∀ i,iY m=some i→h.get i=.dead) {v:V} (az:mD P t m k ok h=some v):mD P t m k ok h'=some v:=by
 unfold mD at az⊢
 cases ad:e9 P t with
 | none=>rw [ad] at az;cases az
 | some q=>
  rw [ad] at az
  obtain ⟨dI,hY,d⟩:=q
  simp only at az⊢
  split at az
  ·exact az
  ·rw [a7 _ rfl] at az;cases az
  ·cases az
theorem agl {s d:TypeId} {x:V} (a7:∀ i,iY x=some i→h.get i=.dead) {v:V} (az:lQ P s d x h=some v):lQ P s d x h'=some v:=by
 unfold lQ at az⊢
 cases ad:(lN x).bind fun a=>cQ P (convert s d a) with
 | some u=>rw [ad] at az;exact az
 | none=>
  rw [ad] at az
  simp only at az⊢
  split at az
  ·exact az
  ·split at az
   ·rw [a7 _ rfl] at az;cases az
   ·cases az
  ·exact az
  ·cases az
theorem agm {t:TypeId} {x:V} (a7:∀ i,iY x=some i→h.get i=.dead) {v:V} (az:dU P t x h=some v):dU P t x h'=some v:=by
 unfold dU at az⊢
 split at az
 all_goals first | exact az | (rw [a7 _ rfl] at az;cases az) | skip
 all_goals (cases az;done)
theorem O2 (hw:B2 h) (hk:J h h' M) {x:V} (hm:∀ i,iY x=some i→¬M i):(∀ i,iY x=some i→h'.get i=h.get i)∨(∀ i,iY x=some i→h.get i=.dead):=by
 cases ag:iY x with
 | none=>left;intro i hi;cases hi
 | some j=>
  by_cases a7:h.get j=.dead
  ·right;intro i hi;simp at hi;subst hi;exact a7
  ·left;intro i hi;simp at hi;subst hi;exact hk.live hw (hm j ag) a7
theorem agn {c:Call} (h:xO (.call c)=true):c.callee=.builtin .len∨c.callee=.builtin .min∨c.callee=.builtin .max:=by
 obtain ⟨callee,args,ts⟩:=c
 cases callee with
 | builtin b=>cases b<;>simp [xO,lT] at h⊢
 | _=>simp [xO,lT] at h
theorem ago (hw:B2 h) (hk:J h h' M) {o:Oper} {bu:Operand→V} (hi:xO o.op=true) (hm:∀ i,pv bu o.op=some i→¬M i) {v:V} (he:dC P o bu h=some (.val v h)):dC P o bu h'=some (.val v h'):=by
 have wC:∀ {x y:Option V},fY x h=some (.val v h)→(∀ u,x=some u→y=some u)→fY y h'=some (.val v h'):=fun {x y} ag bd=>by
  obtain ⟨aw,_⟩:=sD ag
  rw [bd _ aw];rfl
 obtain ⟨dst,op,type,pos,after,guard⟩:=o
 have Gp:=hi
 cases op<;>simp [xO,lT] at hi<;>simp only [dC] at he⊢
 case move x=>simp at he;rw [he]
 case assign x=>simp at he;rw [he]
 case pick c a b=>split at he<;>simp at he⊢;exact he
 case nilCheck x=>split at he<;>simp at he⊢<;>exact he
 case makeInterface t x=>split at he<;>simp at he⊢;exact he
 case makeFunc fn xs ys=>simp at he⊢;exact he
 case extract t k=>
  split at he
  ·exact wC he fun _ h=>h
  ·cases he
 case load t a=>exact wC he fun u hu=>agf hw hk hm hu
 case lookup t m k ok=>
  refine wC he fun u hu=>?_
  rcases O2 hw hk hm with e | e
  ·rw [agh e];exact hu
  ·exact agk e hu
 case convert s d x=>
  cases au:lQ P s d (bu x) h with
  | none=>
   rw [au] at he
   cases ad:vD P s d (bu x) h with
   | none=>rw [ad] at he;cases he
   | some p=>
    obtain ⟨u,aa⟩:=p
    rw [ad] at he
    have aC:aa=h:=by
     have:some (Step.val u aa)=some (Step.val v h):=he
     simp only [Option.some.injEq,Step.val.injEq] at this
     exact this.2
    exact absurd aC (Tq ad)
  | some u=>
   rw [au] at he
   have hu:lQ P s d (bu x) h'=some u:=by
    rcases O2 hw hk hm with e | e
    ·rw [agi e];exact au
    ·exact agl e au
   rw [hu]
   have:some (Step.val u h)=some (Step.val v h):=he
   simp only [Option.some.injEq,Step.val.injEq] at this
   rw [this.1]
 case call c=>
  have ak:=agn Gp
  have other:∀ b,(b=.min∨b=.max)→c.callee=.builtin b→jC P c type bu h'=some (.val v h'):=fun b u3 au=>by
   have aO:∀ ab:I,oi P b c.argTypes.toList type (td c.args) (c.args.toList.map bu) ab=(match be (c.args.toList.map bu) with
     | some as=>match cQ P (builtin b c.argTypes.toList.toArray type (td c.args) as.toArray) with
      | some (.value v)=>some (fX v,ab)
      | _=>none
     | none=>none):=fun ab=>by
    rcases u3 with rfl | rfl<;>rfl
   have e0:∀ ab:I,jC P c type bu ab=(match oi P b c.argTypes.toList type (td c.args) (c.args.toList.map bu) ab with | some (v,h')=>some (.val v h') | none=>none):=fun ab=>by
    unfold jC
    rw [au]
    rcases u3 with rfl | rfl<;>rfl
   rw [e0,aO] at he⊢
   cases aq:be (c.args.toList.map bu) with
   | none=>rw [aq] at he;cases he
   | some as=>
    rw [aq] at he
    simp only at he⊢
    split at he
    ·rename_i v' aa ad
     split at ad
     ·simp at ad he
      obtain ⟨rfl,rfl⟩:=ad
      rw [he.1]
     ·cases ad
    ·cases he
  rcases ak with ak | ak | ak
  ·obtain ⟨callee,args,T1⟩:=c
   simp only at ak
   subst ak
   have U:(args.size==1&&T1.size==1)=true:=Gp
   simp at U
   obtain ⟨x,rfl⟩:=Array.size_eq_one_iff.1 U.1
   obtain ⟨t,rfl⟩:=Array.size_eq_one_iff.1 U.2
   have e0:∀ ab:I,jC P ⟨.builtin .len,#[x],#[t]⟩ type bu ab=(match dU P t (bu x) ab with | some v=>some (.val v ab) | none=>none):=fun ab=>by
    show (match (match dU P t (bu x) ab with | some v=>some (v,ab) | none=>none) with | some (v,h')=>some (Step.val v h') | none=>none)=_
    cases dU P t (bu x) ab<;>rfl
   rw [e0] at he⊢
   have hq:∀ i,iY (bu x)=some i→¬M i:=fun i ag=>hm i (by simp [pv,ag])
   cases hu:dU P t (bu x) h with
   | none=>rw [hu] at he;cases he
   | some u=>
    rw [hu] at he
    simp at he
    subst he
    have aG:dU P t (bu x) h'=some u:=by
     rcases O2 hw hk hq with e | e
     ·rw [agj e];exact hu
     ·exact agm e hu
    rw [aG]
  ·exact other _ (.inl rfl) ak
  ·exact other _ (.inr rfl) ak
 all_goals exact wC he fun _ h=>h
end
def wD (P:Program) (ops:Array Oper) (M:Nat→Prop) (U:I) (o:Oper) (f:ah) (v:V):Prop:=∀ h',J U h' M→fV P ops.toList h' o v f
def Gq (ops:Array Oper) (es:List Nat) (listed:Array Bool) (i:Nat):Bool:=es.all fun e=>listed.getD e true||nK ops ops.size e i
def O3 (ops:Array Oper) (k:Nat):Bool:=(List.range ops.size).all fun i=>i==k||nK ops ops.size k i||nK ops ops.size i k
def anyS (P:Program) (ops:Array Oper) (es:List Nat) (M:Nat→Prop) (U:I) (K:ah→I→Prop) (X:I→Prop):Nat→Array Bool→ah→I→Prop
 | 0,listed,f,h=>Region.ready .any ops listed=[]∧K f h
 | n+1,listed,f,h=>(Region.ready .any ops listed=[]→K f h) ∧
  ∀ i ∈ Region.ready .any ops listed,∀ o,ops[i]?=some o →
   if es.contains i then (match gJ ops.toList o.guard f with
    | some true=>hd P o (fun bI h'=>(O3 ops i=true∨J U h' M)∧anyS P ops es M U K X n (listed.setIfInBounds i true) bI h') (fun _ h=>X h) f h
    | some false=>anyS P ops es M U K X n (listed.setIfInBounds i true) (f.put o.dst (.tuple [])) h
    | none=>False)
   else ∃ v,((J U h M∧wD P ops M U o f v)∨(Gq ops es listed i=true∧fV P ops.toList h o v f))∧anyS P ops es M U K X n (listed.setIfInBounds i true) (f.put o.dst v) h
theorem i8 {P:Program} {o:Oper} {K An E F1:ah→I→Prop} (hk:∀ f h,K f h→An f h) {f:ah} {h:I} (he:∀ f h,E f h→F1 f h) (U:hd P o K E f h):hd P o An F1 f h:=by
 unfold hd at *
 split at U
 ·exact hk _ _ U
 ·exact U.mono (fun _ _ h=>hk _ _ h) fun _ h=>he _ _ h
 ·exact fun v h' hm=>hk _ _ (U v h' hm)
 ·exact he _ _ U
 ·exact U.mono (fun _ _ h=>hk _ _ h)
 ·exact U.elim
section
variable {P:Program} {ops:Array Oper} {es:List Nat} {M:Nat→Prop} {U:I} {K E:ah→I→Prop} {X:I→Prop}
theorem Km (fC:∀ f h,X h→E f h):∀ (n:Nat) (listed:Array Bool) (f:ah) (h:I),anyS P ops es M U K X n listed f h→q8 P ops es K E n listed f h
 | 0,_,_,_,ad=>ad
 | n+1,listed,f,h,ad=>by
  refine ⟨ad.1,fun i hi o aR=>?_⟩
  have h1:=ad.2 i hi o aR
  by_cases he:es.contains i=true
  ·rw [if_pos he] at h1⊢
   cases hw:gJ ops.toList o.guard f with
   | none=>rw [hw] at h1;exact h1
   | some b=>
    rw [hw] at h1
    cases b with
    | true=>exact i8 (fun bI h' ab=>Km fC n _ bI h' ab.2) (fun f h ab=>fC f h ab) h1
    | false=>exact Km fC n _ _ _ h1
  ·rw [if_neg he] at h1⊢
   obtain ⟨v,aD,aH⟩:=h1
   refine ⟨v,?_,Km fC n _ _ _ aH⟩
   rcases aD with ⟨hk,cR⟩ | ⟨_,bd⟩
   ·exact cR h hk
   ·exact bd
theorem agp {o:Oper} {dst:Option Tmp} {v:V} {f:ah} {h:I} {K An:ah→I→Prop} (az:∀ d,dst=some d→d ∉ o.looksAt ops) (au:∀ d,dst=some d→o.dst≠some d)
  (hk:∀ r h',K ((f.put o.dst r).put dst v) h'→An (f.put o.dst r) h') (U:hd P o K (fun _ h=>X h) (f.put dst v) h):hd P o An (fun _ h=>X h) f h:=by
 unfold hd at *
 rw [OI o f dst v az] at U
 split at U
 ·exact hk _ _ (by rw [ah.put_comm f _ _ fun d a7 ag=>au d ag a7];exact U)
 ·exact U.mono (fun r h' ab=>hk r h' (by rw [ah.put_comm f _ _ fun d a7 ag=>au d ag a7];exact ab)) fun _ h=>h
 ·exact fun r h' hm=>hk r h' (by rw [ah.put_comm f _ _ fun d a7 ag=>au d ag a7];exact U r h' hm)
 ·exact U
 ·exact U.mono (fun r h' ab=>hk r h' (by rw [ah.put_comm f _ _ fun d a7 ag=>au d ag a7];exact ab))
 ·exact U
theorem O4 {listed:Array Bool} (a7:Down ops listed) {i j:Nat} (aS:j ∈ Region.ready .any ops listed) (h:nK ops ops.size j i=true):listed.getD i false=true:=by
 obtain ⟨_,o,aR,dt⟩:=mem_ready.1 aS
 exact m6 a7 ops.size j i (fun o' hs=>by
                           rw [aR] at hs;obtain rfl:o=o':=by simpa using hs
                           exact dt) h
theorem Kn {listed:Array Bool} {i:Nat} (hi:i ∈ Region.ready .any ops listed):listed.getD i false=false:=by
 have h0:=(mem_ready.1 hi).1
 rcases Nat.lt_or_ge i listed.size with h' | h'
 ·simp [h'] at h0⊢;exact h0
 ·simp [Array.getElem?_eq_none h']
theorem m7 {i:Nat} {lS:Oper} {v:V} (hi:ops[i]?=some lS) (pj:es.contains i=false) :
  ∀ (fuel:Nat) (listed:Array Bool) (f:ah) (h:I),
   (∀ j hM,ops[j]?=some hM→j≠i→listed.getD j true=false→(∀ e ∈ hM.after,Region.binds .any e=true→e.on≠i)→lS.apart ops hM=true) →
   i ∈ Region.ready .any ops listed→Down ops listed→((J U h M∧wD P ops M U lS f v)∨(Gq ops es listed i=true∧fV P ops.toList h lS v f)) →
   anyS P ops es M U K X fuel (listed.setIfInBounds i true) (f.put lS.dst v) h→anyS P ops es M U K X (fuel+1) listed f h:=by
 intro fuel
 induction fuel with
 | zero=>
  intro listed f h _ aH gS bd H
  refine ⟨fun h=>(by rw [h] at aH;cases aH),fun j aS o aR=>?_⟩
  by_cases cB:j=i
  ·subst cB
   rw [hi] at aR
   obtain rfl:lS=o:=by simpa using aR
   rw [pj]
   exact ⟨v,bd,H⟩
  ·have:=ready_mono aS cB
   rw [H.1] at this
   cases this
 | succ fuel ih=>
  intro listed f h ti aH gS bd H
  refine ⟨fun h=>(by rw [h] at aH;cases aH),fun j aS hM kV=>?_⟩
  by_cases cB:j=i
  ·subst cB
   rw [hi] at kV
   obtain rfl:lS=hM:=by simpa using kV
   rw [pj]
   exact ⟨v,bd,H⟩
  ·have zk:=H.2 j (ready_mono aS cB) hM kV
   obtain ⟨q9,Gg,wz,dt⟩:=mem_ready.1 aS
   rw [kV] at wz
   obtain rfl:hM=Gg:=by simpa using wz
   have uu:∀ e ∈ hM.after,Region.binds .any e=true→e.on≠i:=fun e he ak heq=>by
    have h1:=dt e he ak
    have h0:=Kn aH
    rw [heq,h0] at h1
    cases h1
   obtain ⟨cG,a2,a3⟩:=Oper.apart_spec (ti j hM kV cB q9 uu)
   have tj:∀ k ok,ops[k]?=some ok→k≠i→(listed.setIfInBounds j true).getD k true=false →
     (∀ e ∈ ok.after,Region.binds .any e=true→e.on≠i)→lS.apart ops ok=true:=fun k ok hk oy oE hJ=>by
    refine ti k ok hk oy ?_ hJ
    by_cases Ap:j=k
    ·subst Ap;exact q9
    ·rw [getD_set_ne true Ap] at oE;exact oE
   have iM:=ready_mono aH (Ne.symm cB)
   have wy:=gS.add aS
   have oZ:∀ (h':I) (r:V),J U h' M→wD P ops M U lS f v→anyS P ops es M U K X fuel ((listed.setIfInBounds i true).setIfInBounds j true) ((f.put hM.dst r).put lS.dst v) h'→anyS P ops es M U K X (fuel+1) (listed.setIfInBounds j true) (f.put hM.dst r) h':=fun h' r hk cR ab=>
    ih (listed.setIfInBounds j true) (f.put hM.dst r) h' tj iM wy (.inl ⟨hk,fun aa k2=>(cR aa k2).put hM.dst r a3⟩) (by rw [Array.setIfInBounds_comm _ _ cB];exact ab)
   by_cases Ao:es.contains j=true
   ·rw [if_pos Ao] at zk⊢
    have cR:J U h M∧wD P ops M U lS f v:=by
     rcases bd with bd | ⟨aR,_⟩
     ·exact bd
     ·exfalso
      have h1:=(List.all_eq_true.1 aR) j (by simpa using Ao)
      rw [q9,Bool.false_or] at h1
      have:=O4 gS aS h1
      rw [Kn aH] at this
      cases this
    rw [OJ hM f lS.dst v cG] at zk
    cases hw:gJ ops.toList hM.guard f with
    | none=>rw [hw] at zk;exact zk
    | some b=>
     rw [hw] at zk
     cases b with
     | true=>
      refine agp cG a2 (fun r h' ab=>?_) zk
      have hk:J U h' M:=by
       rcases ab.1 with jG | hk
       ·exfalso
        have h1:=(List.all_eq_true.1 jG) i (by
         have:=(Array.getElem?_eq_some_iff.1 hi).1
         simpa using this)
        simp only [Bool.or_eq_true,beq_iff_eq] at h1
        rcases h1 with (h1 | h1) | h1
        ·exact cB h1.symm
        ·have:=O4 gS aS h1
         rw [Kn aH] at this
         cases this
        ·have:=O4 gS aH h1
         rw [Kn aS] at this
         cases this
       ·exact hk
      exact ⟨.inr hk,oZ h' r hk cR.2 ab.2⟩
     | false=>
      refine oZ h (.tuple []) cR.1 cR.2 ?_
      rw [←ah.put_comm f v (.tuple []) a2]
      exact zk
   ·rw [if_neg Ao] at zk⊢
    obtain ⟨u,Gh,gR⟩:=zk
    refine ⟨u,?_,?_⟩
    ·rcases Gh with ⟨hk,cR⟩ | ⟨aR,Gr⟩
     ·exact .inl ⟨hk,fun aa k2=>(cR aa k2).zd lS.dst v cG⟩
     ·refine .inr ⟨?_,Gr.zd lS.dst v cG⟩
      refine List.all_eq_true.2 fun e he=>?_
      have h1:=(List.all_eq_true.1 aR) e he
      have T2:i≠e:=fun ab=>by
       subst ab
       have:es.contains i=true:=by simpa using he
       rw [pj] at this;cases this
      rwa [getD_set_ne true T2] at h1
    ·have nk:((J U h M∧wD P ops M U lS (f.put hM.dst u) v)∨(Gq ops es (listed.setIfInBounds j true) i=true∧fV P ops.toList h lS v (f.put hM.dst u))):=by
      rcases bd with ⟨hk,cR⟩ | ⟨aR,Gr⟩
      ·exact .inl ⟨hk,fun aa k2=>(cR aa k2).put hM.dst u a3⟩
      ·refine .inr ⟨List.all_eq_true.2 fun e he=>?_,Gr.put hM.dst u a3⟩
       have h1:=(List.all_eq_true.1 aR) e he
       simp only [Bool.or_eq_true] at h1⊢
       rcases h1 with h1 | h1
       ·exact .inl (TO h1)
       ·exact .inr h1
     refine ih (listed.setIfInBounds j true) (f.put hM.dst u) h tj iM wy nk ?_
     rw [Array.setIfInBounds_comm _ _ cB,←ah.put_comm f v u a2]
     exact gR
end
def O5:Op→Bool
 | .move _ | .assign _ | .pick .. | .build .. | .nilCheck _ | .binOp .. | .unOp .. | .makeInterface .. | .makeFunc .. | .slice .. | .fieldAddr .. | .field .. | .indexAddr .. | .index .. | .typeAssert .. | .extract ..=>true
 | _=>false
section
variable {P:Program} {h h':I}
theorem agq {o:Oper} {bu:Operand→V} (hi:O5 o.op=true) {v:V} (he:dC P o bu h=some (.val v h)):dC P o bu h'=some (.val v h'):=by
 have wC:∀ {x:Option V},fY x h=some (.val v h)→fY x h'=some (.val v h'):=fun {x} ag=>by
  obtain ⟨aw,_⟩:=sD ag
  rw [aw];rfl
 obtain ⟨dst,op,type,pos,after,guard⟩:=o
 cases op<;>simp [O5] at hi<;>simp only [dC] at he⊢
 case move x=>simp at he;rw [he]
 case assign x=>simp at he;rw [he]
 case pick c a b=>split at he<;>simp at he⊢;exact he
 case nilCheck x=>split at he<;>simp at he⊢<;>exact he
 case makeInterface t x=>split at he<;>simp at he⊢;exact he
 case makeFunc fn xs ys=>simp at he⊢;exact he
 case extract t k=>
  split at he
  ·exact wC he
  ·cases he
 all_goals exact wC he
theorem agr {o:Oper} {bu:Operand→V} {g:FuncId} {args:List V} (he:dC P o bu h=some (.call g args)):dC P o bu h'=some (.call g args):=by
 obtain ⟨dst,op,type,pos,after,guard⟩:=o
 have T3:∀ {x:Option V},fY x h≠some (.call g args):=fun {x} ag=>by obtain ⟨v,aD⟩:=OT ag;cases aD
 have T4:∀ {x:Option (V×I)},eY x≠some (.call g args):=fun {x} ag=>by unfold eY at ag;split at ag<;>simp at ag
 have ags:∀ {x:Option I},qW x≠some (.call g args):=fun {x} ag=>by unfold qW at ag;split at ag<;>simp at ag
 cases op<;>simp only [dC] at he⊢
 case call c=>
  obtain ⟨callee,abN,ts⟩:=c
  unfold jC at he⊢
  cases callee with
  | value f=>
   simp only at he⊢
   split at he
   case h_2=>simp at he
   case h_3=>cases he
   split at he
   ·rename_i au;rw [if_pos au];exact he
   ·exfalso
    split at he<;>simp at he
  | builtin b=>
   exfalso
   cases b
   case panic=>simp only at he;split at he<;>simp at he
   all_goals
    simp only at he
    split at he<;>simp at he
  | invoke r m=>exact he
 case next it s=>
  cases s
  ·simp only at he;split at he<;>simp at he
  ·cases he
 all_goals first
  | exact absurd he T3
  | exact absurd he T4
  | exact absurd he ags
  | (simp at he;done)
  | (split at he<;>first | (simp at he;done) | exact absurd he T3 | exact absurd he T4)
  | (cases he;done)
end
inductive dM where
 | done
 | stop
 | q (k:Nat) (s:dM)
 | c (k:Nat) (s:dM)
 | a (k:Nat) (s:dM)
 | e (k:Nat) (s alt:dM)
def dM.keys:dM→List Nat
 | .e k _ alt=>k::alt.keys
 | _=>[]
def dM.ok (ops:Array Oper) (es:List Nat):dM→Nat→Bool→Bool→Bool→Array Bool→Bool
 | .done,n,top,p,h2,listed=>top&&n==0&&(Region.ready .any ops listed).isEmpty
 | .stop,_,top,_,_,_=>!top
 | .q k s,n,top,p,h2,listed=>match n,ops[k]? with
  | n+1,some o=>top&&!es.contains k&&(Region.ready .any ops listed).contains k&&Region.free .any ops listed k&&xO o.op&&((p&&h2)||(h2&&O5 o.op)||Gq ops es listed k)&&s.ok ops es n true p h2 (listed.setIfInBounds k true)
  | _,_=>false
 | .c k s,n,top,p,h2,listed=>match n,ops[k]? with
  | n+1,some o=>top&&!es.contains k&&(Region.ready .any ops listed).contains k&&Region.free .any ops listed k&&((p&&h2)||Gq ops es listed k)&&s.ok ops es n true p h2 (listed.setIfInBounds k true)
  | _,_=>false
 | .a k s,n,top,p,h2,listed=>match n with
  | n+1=>top&&es.contains k&&Region.ready .any ops listed==[k]&&O3 ops k&&s.ok ops es n true false false (listed.setIfInBounds k true)
  | 0=>false
 | .e k s alt,n,top,p,h2,listed=>match n with
  | n+1=>(!top||((Region.ready .any ops listed).contains k&&(Region.ready .any ops listed).all fun i=>(k::alt.keys).contains i))&&es.contains k&&s.ok ops es n true false true (listed.setIfInBounds k true)&&alt.ok ops es (n+1) false p h2 listed
  | 0=>false
section
variable {P:Program} {ops:Array Oper} {es:List Nat} {M:Nat→Prop} {U:I} {K:ah→I→Prop} {X:I→Prop}
def kW (P:Program) (ol:List Oper) (M:Nat→Prop) (U:I) (K:ah→I→Prop) (X:I→Prop):dM→Bool→ah→I→Prop
 | .done,_,f,h=>K f h
 | .stop,_,_,_=>True
 | .q k s,p,f,h=>match ol[k]? with
  | some o=>(match gJ ol o.guard f with
   | some true=>∃ v,(dC P o (f.eval h) h=some (.val v h)∧(p=true→∀ i,pv (f.eval h) o.op=some i→¬M i))∧kW P ol M U K X s p (f.put o.dst v) h
   | some false=>kW P ol M U K X s p (f.put o.dst (.tuple [])) h
   | none=>False)
  | none=>False
 | .c k s,p,f,h=>match ol[k]? with
  | some o=>(match gJ ol o.guard f with
   | some true=>∃ g args v,dC P o (f.eval h) h=some (.call g args)∧(∀ h',J U h' M∨h'=h→Pure P g args h' v)∧kW P ol M U K X s p (f.put o.dst v) h
   | some false=>kW P ol M U K X s p (f.put o.dst (.tuple [])) h
   | none=>False)
  | none=>False
 | .a k s,p,f,h=>match ol[k]? with
  | some o=>(match gJ ol o.guard f with
   | some true=>hd P o (fun bI h'=>kW P ol M U K X s false bI h') (fun _ h=>X h) f h
   | some false=>kW P ol M U K X s false (f.put o.dst (.tuple [])) h
   | none=>False)
  | none=>False
 | .e k s alt,p,f,h=>(match ol[k]? with
  | some o=>(match gJ ol o.guard f with
   | some true=>hd P o (fun bI h'=>J U h' M∧kW P ol M U K X s false bI h') (fun _ h=>X h) f h
   | some false=>J U h M∧kW P ol M U K X s false (f.put o.dst (.tuple [])) h
   | none=>False)
  | none=>False)∧kW P ol M U K X alt p f h
def Clause (P:Program) (ops:Array Oper) (es:List Nat) (M:Nat→Prop) (U:I) (K:ah→I→Prop) (X:I→Prop) (n:Nat) (listed:Array Bool) (f:ah) (h:I) (i:Nat):Prop :=
 ∀ o,ops[i]?=some o→(match gJ ops.toList o.guard f with
    | some true=>hd P o (fun bI h'=>(O3 ops i=true∨J U h' M)∧anyS P ops es M U K X n (listed.setIfInBounds i true) bI h') (fun _ h=>X h) f h
    | some false=>anyS P ops es M U K X n (listed.setIfInBounds i true) (f.put o.dst (.tuple [])) h
    | none=>False)
theorem Ko {l:List Nat} {k:Nat} (h:l.contains k=true):k ∈ l:=by simpa using h
theorem Kp {h':I} (hk:J U h' M) (f:ah):f.eval h'=f.eval U:=funext fun x=>agd hk f x
theorem agt (oI:B2 U):∀ (s:dM) (n:Nat) (p h2:Bool) (listed:Array Bool) (f:ah) (h:I),(p=true→h=U)→(h2=true→J U h M)→Down ops listed→kW P ops.toList M U K X s p f h →
  (s.ok ops es n true p h2 listed=true→anyS P ops es M U K X n listed f h) ∧
  (∀ m,n=m+1→s.ok ops es n false p h2 listed=true→∀ i ∈ s.keys,i ∈ Region.ready .any ops listed→es.contains i=true∧Clause P ops es M U K X m listed f h i):=by
 intro s
 induction s with
 | done=>
  intro n p h2 listed f h aZ oJ gS he
  refine ⟨fun a1=>?_,fun m hm a1=>by simp [dM.ok] at a1⟩
  simp only [dM.ok,Bool.true_and,Bool.and_eq_true,beq_iff_eq,List.isEmpty_iff] at a1
  obtain ⟨rfl,aH⟩:=a1
  exact ⟨aH,he⟩
 | stop=>
  intro n p h2 listed f h aZ oJ gS he
  exact ⟨fun a1=>by simp [dM.ok] at a1,fun m hm a1 i hi=>by simp [dM.keys] at hi⟩
 | q k s ih=>
  intro n p h2 listed f h aZ oJ gS he
  refine ⟨fun a1=>?_,fun m hm a1 i hi=>by simp [dM.keys] at hi⟩
  cases n with
  | zero=>simp [dM.ok] at a1
  | succ n=>
   cases aR:ops[k]? with
   | none=>simp [dM.ok,aR] at a1
   | some o=>
    simp only [dM.ok,aR,Bool.true_and,Bool.and_eq_true,Bool.not_eq_true'] at a1
    obtain ⟨⟨⟨⟨⟨fU,aH⟩,sc⟩,c4⟩,yr⟩,ff⟩:=a1
    have gj:=Ko aH
    have lr:ops.toList[k]?=some o:=by simpa using aR
    simp only [kW,lr] at he
    have fin:∀ v,fV P ops.toList h o v f→(gJ ops.toList o.guard f=some false∨(p=true→∀ i,pv (f.eval h) o.op=some i→¬M i)∧dC P o (f.eval h) h=some (.val v h))→kW P ops.toList M U K X s p (f.put o.dst v) h→anyS P ops es M U K X (n+1) listed f h:=fun v bd hm gR=>by
     refine m7 aR fU n listed f h (Region.free_spec aR sc) gj gS ?_ ((ih n p h2 _ _ h aZ oJ (gS.add gj) gR).1 ff)
     simp only [Bool.or_eq_true,Bool.and_eq_true] at yr
     rcases yr with (⟨Aw,jF⟩ | ⟨jF,nM⟩) | wE
     ·refine .inl ⟨oJ jF,fun h' eB=>?_⟩
      have ab:=aZ Aw
      subst ab
      rcases hm with hm | ⟨hm,b1⟩
      ·rcases bd with ⟨tl,_⟩ | bd
       ·rw [hm] at tl;cases tl
       ·exact .inr bd
      ·rcases bd with ⟨tl,_⟩ | bd
       ·exact .inl ⟨tl,.inl (by rw [Kp eB];exact ago oI eB c4 (hm Aw) b1)⟩
       ·exact .inr bd
     ·refine .inl ⟨oJ jF,fun h' eB=>?_⟩
      rcases hm with hm | ⟨hm,b1⟩
      ·rcases bd with ⟨tl,_⟩ | bd
       ·rw [hm] at tl;cases tl
       ·exact .inr bd
      ·rcases bd with ⟨tl,_⟩ | bd
       ·exact .inl ⟨tl,.inl (by rw [Kp eB,←Kp (oJ jF)];exact agq nM b1)⟩
       ·exact .inr bd
     ·exact .inr ⟨wE,bd⟩
    cases hw:gJ ops.toList o.guard f with
    | none=>rw [hw] at he;exact he.elim
    | some b=>
     rw [hw] at he
     cases b with
     | true=>
      obtain ⟨v,⟨b1,hm⟩,gR⟩:=he
      exact fin v (.inl ⟨hw,.inl b1⟩) (.inr ⟨hm,b1⟩) gR
     | false=>exact fin (.tuple []) (.inr ⟨hw,rfl⟩) (.inl hw) he
 | c k s ih=>
  intro n p h2 listed f h aZ oJ gS he
  refine ⟨fun a1=>?_,fun m hm a1 i hi=>by simp [dM.keys] at hi⟩
  cases n with
  | zero=>simp [dM.ok] at a1
  | succ n=>
   cases aR:ops[k]? with
   | none=>simp [dM.ok,aR] at a1
   | some o=>
    simp only [dM.ok,aR,Bool.true_and,Bool.and_eq_true,Bool.not_eq_true'] at a1
    obtain ⟨⟨⟨⟨fU,aH⟩,sc⟩,yr⟩,ff⟩:=a1
    have gj:=Ko aH
    have lr:ops.toList[k]?=some o:=by simpa using aR
    simp only [kW,lr] at he
    simp only [Bool.or_eq_true,Bool.and_eq_true] at yr
    cases hw:gJ ops.toList o.guard f with
    | none=>rw [hw] at he;exact he.elim
    | some b=>
     rw [hw] at he
     cases b with
     | true=>
      obtain ⟨g,args,v,b1,Me,gR⟩:=he
      refine m7 (v:=v) aR fU n listed f h (Region.free_spec aR sc) gj gS ?_ ((ih n p h2 _ _ h aZ oJ (gS.add gj) gR).1 ff)
      rcases yr with ⟨Aw,jF⟩ | wE
      ·refine .inl ⟨oJ jF,fun h' eB=>.inl ⟨hw,.inr ⟨g,args,?_,Me h' (.inl eB)⟩⟩⟩
       have ab:=aZ Aw
       subst ab
       rw [Kp eB]
       exact agr b1
      ·exact .inr ⟨wE,.inl ⟨hw,.inr ⟨g,args,b1,Me h (.inr rfl)⟩⟩⟩
     | false=>
      refine m7 (v:=.tuple []) aR fU n listed f h (Region.free_spec aR sc) gj gS ?_ ((ih n p h2 _ _ h aZ oJ (gS.add gj) he).1 ff)
      rcases yr with ⟨Aw,jF⟩ | wE
      ·exact .inl ⟨oJ jF,fun h' eB=>.inr ⟨hw,rfl⟩⟩
      ·exact .inr ⟨wE,.inr ⟨hw,rfl⟩⟩
 | a k s ih=>
  intro n p h2 listed f h aZ oJ gS he
  refine ⟨fun a1=>?_,fun m hm a1 i hi=>by simp [dM.keys] at hi⟩
  cases n with
  | zero=>simp [dM.ok] at a1
  | succ n=>
   simp only [dM.ok,Bool.true_and,Bool.and_eq_true,beq_iff_eq] at a1
   obtain ⟨⟨⟨fU,aH⟩,jG⟩,ff⟩:=a1
   have gj:k ∈ Region.ready .any ops listed:=by rw [aH];simp
   refine ⟨fun h0=>(by rw [h0] at aH;cases aH),fun i hi o aR=>?_⟩
   rw [aH] at hi
   simp at hi
   subst hi
   rw [if_pos fU]
   have lr:ops.toList[i]?=some o:=by simpa using aR
   simp only [kW,lr] at he
   cases hw:gJ ops.toList o.guard f with
   | none=>rw [hw] at he;exact he.elim
   | some b=>
    rw [hw] at he
    cases b with
    | true=>exact i8 (fun bI h' ab=>⟨.inl jG,(ih n false false _ _ h' (by simp) (by simp) (gS.add gj) ab).1 ff⟩) (fun _ _ h=>h) he
    | false=>exact (ih n false false _ _ h (by simp) (by simp) (gS.add gj) he).1 ff
 | e k s alt wF Ax=>
  intro n p h2 listed f h aZ oJ gS he
  have main:∀ (m:Nat) (top:Bool),n=m+1→(dM.e k s alt).ok ops es n top p h2 listed=true→∀ i ∈ (dM.e k s alt).keys,i ∈ Region.ready .any ops listed→es.contains i=true∧Clause P ops es M U K X m listed f h i:=by
   intro m top aG a1 i hi Gs
   subst aG
   simp only [dM.ok,Bool.and_eq_true] at a1
   obtain ⟨⟨⟨_,fU⟩,ff⟩,halt⟩:=a1
   simp only [kW] at he
   simp only [dM.keys,List.mem_cons] at hi
   by_cases Mf:i=k
   ·subst Mf
    refine ⟨fU,fun o aR=>?_⟩
    have lr:ops.toList[i]?=some o:=by simpa using aR
    have h1:=he.1
    rw [lr] at h1
    simp only at h1
    cases hw:gJ ops.toList o.guard f with
    | none=>rw [hw] at h1;exact h1.elim
    | some b=>
     rw [hw] at h1
     cases b with
     | true=>exact i8 (fun bI h' ab=>⟨.inr ab.1,(wF m false true _ _ h' (by simp) (fun _=>ab.1) (gS.add Gs) ab.2).1 ff⟩) (fun _ _ h=>h) h1
     | false=>exact (wF m false true _ _ h (by simp) (fun _=>h1.1) (gS.add Gs) h1.2).1 ff
   ·rcases hi with hi | hi
    ·exact absurd hi Mf
    ·exact (Ax (m+1) p h2 listed f h aZ oJ gS he.2).2 m rfl halt i hi Gs
  refine ⟨fun a1=>?_,fun m hm a1=>main m false hm a1⟩
  cases n with
  | zero=>simp [dM.ok] at a1
  | succ m=>
   have Gt:(Region.ready .any ops listed).all (fun i=>(k::alt.keys).contains i)=true∧(Region.ready .any ops listed).contains k=true:=by
    simp only [dM.ok,Bool.and_eq_true,Bool.not_true,Bool.false_or] at a1
    exact ⟨a1.1.1.1.2,a1.1.1.1.1⟩
   have ch:∀ i ∈ Region.ready .any ops listed,i ∈ (dM.e k s alt).keys:=fun i hi=>by
    have:=(List.all_eq_true.1 Gt.1) i hi
    exact Ko this
   refine ⟨fun h0=>?_,fun i hi o aR=>?_⟩
   ·have:=Ko Gt.2
    rw [h0] at this
    cases this
   ·obtain ⟨h1,aa⟩:=main m true rfl a1 i (ch i hi) hi
    rw [if_pos h1]
    exact aa o aR
end
def l1 (M:Nat→Prop) (r:Option Nat):Prop:=∀ i,r=some i→¬M i
theorem agu {r:Option Nat}:l1 none_ r=True:=eq_true fun _ _ h=>h
theorem agv {o:Op} (h:xO o=true):lT o=true:=by
 cases o
 case entry=>simp [xO] at h
 case call c=>
  obtain ⟨callee,args,ts⟩:=c
  cases callee with
  | builtin b=>cases b<;>simp [xO,lT] at h⊢
  | _=>simp [xO,lT] at h
 all_goals exact h
def fW (P:Program) (ol:List Oper) (M:Nat→Prop) (U:I) (K:e1):dM→Bool→ah→I→Prop
 | .done,_,f,h=>@jl K f h
 | .stop,_,_,_=>True
 | .q k s,p,f,h=>match ol[k]? with
  | some o=>(p=true→l1 M (pv (f.eval h) o.op))∧@qz P ol [o] ⟨h⟩ (.fn (fun bI _=>fW P ol M U K s p bI h) (fun _ _=>False)) f
  | none=>False
 | .c k s,p,f,h=>match ol[k]? with
  | some o=>(match gJ ol o.guard f with
   | some true=>∃ g args v,dC P o (f.eval h) h=some (.call g args)∧(∀ h',J U h' M∨h'=h→Pure P g args h' v)∧fW P ol M U K s p (f.put o.dst v) h
   | some false=>fW P ol M U K s p (f.put o.dst (.tuple [])) h
   | none=>False)
  | none=>False
 | .a k s,p,f,h=>match ol[k]? with
  | some o=>@hf P ol [o] (.fn (fun bI h'=>fW P ol M U K s false bI h') (fun _ h'=>∀ f,e1.exc K f h')) f h
  | none=>False
 | .e k s alt,p,f,h=>(match ol[k]? with
  | some o=>@hf P ol [o] (.fn (fun bI h'=>J U h' M∧fW P ol M U K s false bI h') (fun _ h'=>∀ f,e1.exc K f h')) f h
  | none=>False)∧fW P ol M U K alt p f h
section
variable {P:Program} {ol:List Oper} {M:Nat→Prop} {U h:I} {K:e1} {f:ah} {k:Nat} {s alt:dM} {p:Bool} {o:Oper}
def Gu (P:Program) (ol:List Oper) (M:Nat→Prop) (U:I) (K:e1) (s:dM) (p:Bool) (f:ah) (h:I):Option Oper→Prop
 | some o=>(p=true→l1 M (pv (f.eval h) o.op))∧@qz P ol [o] ⟨h⟩ (.fn (fun bI _=>fW P ol M U K s p bI h) (fun _ _=>False)) f
 | none=>False
def Gv (P:Program) (ol:List Oper) (M:Nat→Prop) (U:I) (K:e1) (s:dM) (f:ah) (h:I):Option Oper→Prop
 | some o=>@hf P ol [o] (.fn (fun bI h'=>fW P ol M U K s false bI h') (fun _ h'=>∀ f,e1.exc K f h')) f h
 | none=>False
def Gw (P:Program) (ol:List Oper) (M:Nat→Prop) (U:I) (K:e1) (s:dM) (f:ah) (h:I):Option Oper→Prop
 | some o=>@hf P ol [o] (.fn (fun bI h'=>J U h' M∧fW P ol M U K s false bI h') (fun _ h'=>∀ f,e1.exc K f h')) f h
 | none=>False
theorem agw:fW P ol M U K .done p f h=@jl K f h:=nr rfl
theorem agx:fW P ol M U K .stop p f h=True:=nr rfl
theorem agy:fW P ol M U K (.q k s) p f h=Gu P ol M U K s p f h ol[k]?:=by
 unfold fW Gu;cases ol[k]?<;>rfl
theorem agz:fW P ol M U K (.a k s) p f h=Gv P ol M U K s f h ol[k]?:=by
 unfold fW Gv;cases ol[k]?<;>rfl
theorem agA:fW P ol M U K (.e k s alt) p f h=(Gw P ol M U K s f h ol[k]?∧fW P ol M U K alt p f h):=by
 conv=>lhs;unfold fW
 unfold Gw;cases ol[k]?<;>rfl
theorem agB:Gu P ol M U K s p f h (some o)=((p=true→l1 M (pv (f.eval h) o.op))∧@qz P ol [o] ⟨h⟩ (.fn (fun bI _=>fW P ol M U K s p bI h) (fun _ _=>False)) f):=nr rfl
theorem agC:Gv P ol M U K s f h (some o)=@hf P ol [o] (.fn (fun bI h'=>fW P ol M U K s false bI h') (fun _ h'=>∀ f,e1.exc K f h')) f h:=nr rfl
theorem agD:Gw P ol M U K s f h (some o)=@hf P ol [o] (.fn (fun bI h'=>J U h' M∧fW P ol M U K s false bI h') (fun _ h'=>∀ f,e1.exc K f h')) f h:=nr rfl
theorem agE {A E:ah→I→Prop} {f:ah} {h:I}:e1.exc (.fn A E) f h=E f h:=nr rfl
theorem ix {bt:FuncId} {args:List V} {v:V} (aR:ol[k]?=some o) (av:gJ ol o.guard f=some true) (au:dC P o (f.eval h) h=some (.call bt args)) (aZ:∀ h',J U h' M∨h'=h→Pure P bt args h' v)
  (hk:fW P ol M U K s p (f.put o.dst v) h):fW P ol M U K (.c k s) p f h:=by
 unfold fW
 rw [aR]
 simp only
 rw [av]
 exact ⟨_,_,_,au,aZ,hk⟩
theorem Kq (aR:ol[k]?=some o) (av:gJ ol o.guard f=some false) (hk:fW P ol M U K s p (f.put o.dst (.tuple [])) h):fW P ol M U K (.c k s) p f h:=by
 unfold fW
 rw [aR]
 simp only
 rw [av]
 exact hk
theorem agF {M:Nat→Prop} {h:I}:J h h M=True:=eq_true (J.refl _ _)
theorem agG {M:Nat→Prop} {h:I} {a:bb}:J h (h.push a) M=True:=eq_true (J.push _ _ _)
theorem agH {M:Nat→Prop} {h:I} {a b:bb}:J h ((h.push a).push b) M=True:=eq_true ((J.push _ _ _).bg _)
end
theorem agI {P:Program} {ops:Array Oper} {es:List Nat} {M:Nat→Prop} {U:I} {K:e1}:∀ (s:dM) (n:Nat) (top p h2:Bool) (listed:Array Bool) (f:ah) (h:I),
  s.ok ops es n top p h2 listed=true→fW P ops.toList M U K s p f h→kW P ops.toList M U K.go (fun h=>∀ f,e1.exc K f h) s p f h:=by
 intro s
 induction s with
 | done=>intro n top p h2 listed f h _ he;exact he
 | stop=>intro n top p h2 listed f h _ he;trivial
 | q k s ih=>
  intro n top p h2 listed f h a1 he
  cases n with
  | zero=>simp [dM.ok] at a1
  | succ n=>
   cases aR:ops[k]? with
   | none=>simp [dM.ok,aR] at a1
   | some o=>
    simp only [dM.ok,aR,Bool.and_eq_true] at a1
    have c4:=a1.1.1.2
    have ff:=a1.2
    have lr:ops.toList[k]?=some o:=by simpa using aR
    simp only [fW,lr] at he
    simp only [kW,lr]
    obtain ⟨hm,ad⟩:=he
    unfold qz EB at ad
    cases hw:gJ ops.toList o.guard f with
    | none=>rw [hw] at ad;exact ad.elim
    | some b=>
     rw [hw] at ad
     cases b with
     | true=>
      obtain ⟨v,cR,aH⟩:=ad
      have aD:dC P o (f.eval h) h=some (.val v h):=by
       rcases cR with cR | ⟨g,args,cR,_⟩
       ·exact cR
       ·obtain ⟨u,hu⟩:=BW (agv c4) cR
        cases hu
      exact ⟨v,⟨aD,hm⟩,ih n true p h2 _ _ h ff aH⟩
     | false=>exact ih n true p h2 _ _ h ff ad
 | c k s ih=>
  intro n top p h2 listed f h a1 he
  cases n with
  | zero=>simp [dM.ok] at a1
  | succ n=>
   cases aR:ops[k]? with
   | none=>simp [dM.ok,aR] at a1
   | some o=>
    simp only [dM.ok,aR,Bool.and_eq_true] at a1
    have ff:=a1.2
    have lr:ops.toList[k]?=some o:=by simpa using aR
    simp only [fW,lr] at he
    simp only [kW,lr]
    cases hw:gJ ops.toList o.guard f with
    | none=>rw [hw] at he;exact he
    | some b=>
     rw [hw] at he
     cases b with
     | true=>
      obtain ⟨g,args,v,h1,aa,aC⟩:=he
      exact ⟨g,args,v,h1,aa,ih n true p h2 _ _ h ff aC⟩
     | false=>exact ih n true p h2 _ _ h ff he
 | a k s ih=>
  intro n top p h2 listed f h a1 he
  cases n with
  | zero=>simp [dM.ok] at a1
  | succ n=>
   simp only [dM.ok,Bool.and_eq_true] at a1
   have ff:=a1.2
   simp only [fW] at he
   simp only [kW]
   cases lr:ops.toList[k]? with
   | none=>rw [lr] at he;exact he
   | some o=>
    rw [lr] at he
    simp only at he⊢
    unfold hf mb at he
    cases hw:gJ ops.toList o.guard f with
    | none=>rw [hw] at he;exact he
    | some b=>
     rw [hw] at he
     cases b with
     | true=>exact i8 (fun bI h' ab=>ih n true false false _ bI h' ff ab) (fun _ _ ab=>ab) he
     | false=>exact ih n true false false _ _ h ff he
 | e k s alt wF Ax=>
  intro n top p h2 listed f h a1 he
  cases n with
  | zero=>simp [dM.ok] at a1
  | succ n=>
   simp only [dM.ok,Bool.and_eq_true] at a1
   obtain ⟨⟨⟨_,_⟩,ff⟩,halt⟩:=a1
   simp only [fW] at he
   simp only [kW]
   refine ⟨?_,Ax (n+1) false p h2 _ f h halt he.2⟩
   have h1:=he.1
   cases lr:ops.toList[k]? with
   | none=>rw [lr] at h1;exact h1
   | some o=>
    rw [lr] at h1
    simp only at h1⊢
    unfold hf mb at h1
    cases hw:gJ ops.toList o.guard f with
    | none=>rw [hw] at h1;exact h1
    | some b=>
     rw [hw] at h1
     cases b with
     | true=>exact i8 (fun bI h' ab=>⟨ab.1,wF n true false true _ bI h' ff ab.2⟩) (fun _ _ ab=>ab) h1
     | false=>exact ⟨h1.1,wF n true false true _ _ h ff h1.2⟩
theorem aX.bk {P:Program} {n id:Nat} {ops:Array Oper} (M:Nat→Prop) (es:List Nat) (s:dM) (hm:P.follows .mixedOrders=true) (bM:s.ok ops es ops.size true true true (Array.replicate ops.size false)=true) (a1:ops.toList.all (fun o=>sw n o.dst)=true) {Q:rY} {f:ah} {h:I}
  (ad:fW P ops.toList M h (.out Q) s true f h):aX P n (.region id ops true) Q.go f h:=by
 intro ρ B aK a w hw aq
 refine wpIn_wide.1 (wpIn_region_any (n:=0) hm (ED (ρ0:=ρ) (es:=es) a1 _ _ f h ρ a _ (Ren.le.refl ρ) hw.drew aq ?_))
 have:=(agt (es:=es) hw.wf s _ true true _ f h (fun _=>rfl) (fun _=>J.refl _ _) (fun k o aR hk=>by simp [Array.getElem?_replicate] at hk;split at hk<;>simp_all) (agI s _ true true true _ f h bM ad)).1 bM
 exact Km (fun f h ag=>ag f) _ _ _ _ this
def Ay (P:Program):Nat→List Field→Option (List Nat)
 | _,[]=>some []
 | o, f :: cr => if f.name ≠ "_" ∧ f.offset = o then
   match P.underlying f.type,Ay P (o+1) cr with
   | some (.int _),some l=>some (0::l)
   | some .bool,some l=>some (1::l)
   | some .string,some l=>some (2::l)
   | _,_=>none
  else none
def B3 (P:Program) (t:TypeId):Option (List Nat):=match P.underlying t with
 | some (.struct cr)=>if P.stoodInHeld t=false∧P.eqGuardType P.depth t=false then Ay P 0 cr.toList else none
 | _=>none
def e2:List Nat→List V→List V→Option Bool
 | [],[],[]=>some true
 | 0::aE,.int k a::r,.int k' b::s=>if k=k' then (e2 aE r s).map fun x=>(a==b)&&x else none
 | 1::aE,.bool a::r,.bool b::s=>(e2 aE r s).map fun x=>(a==b)&&x
 | 2::aE,.string a::r,.string b::s=>(e2 aE r s).map fun x=>(a.toList==b.toList)&&x
 | _,_,_=>none
section
variable {P:Program}
theorem r0 {α:Type} {a:α}:cQ P (pure a:Sem α)=some a:=rfl
theorem EF:cQ P program=some P:=rfl
theorem B4 {t:TypeId} {d:TypeDesc} (h:P.underlying t=some d):cQ P (underlying t)=some d:=xK h
theorem Kr {t:TypeId} {d:TypeDesc} {cs:Array Value} {o:Nat} {v:Value} (hu:P.underlying t=some d) (a7:d.isRow=false) (aD:cs[o]?=some v):cQ P (part t cs o)=some v:=by
 have aO:cQ P (isAgg t)=some false:=by
  unfold isAgg
  rw [gC,B4 hu]
  cases d<;>simp_all [TypeDesc.isRow,r0]
 unfold part
 rw [gC,aO]
 simp [aD,r0]
theorem T5 {d:Nat} {t:TypeId} {k k':IntKind} {a b:Int} (h:P.underlying t=some (.int k')):cQ P (Op.equalIn (d+1) t (.int k a) (.int k b))=some (a==b):=by
 unfold Op.equalIn
 rw [gC,B4 h]
 simp [r0]
theorem agJ {d:Nat} {t:TypeId} {a b:Bool} (h:P.underlying t=some .bool):cQ P (Op.equalIn (d+1) t (.bool a) (.bool b))=some (a==b):=by
 unfold Op.equalIn
 rw [gC,B4 h]
 simp [r0]
theorem agK {d:Nat} {t:TypeId} {a b:ByteArray} (h:P.underlying t=some .string):cQ P (Op.equalIn (d+1) t (.string a) (.string b))=some (a.toList==b.toList):=by
 unfold Op.equalIn
 rw [gC,B4 h]
 simp [r0,beq_toListBytes]
theorem drop_cons {α:Type} {l:List α} {o:Nat} {a:α} {r:List α} (h:l.drop o=a::r):l[o]?=some a∧l.drop (o+1)=r:=by
 have h1:(l.drop o)[0]?=some a:=by rw [h];rfl
 rw [List.getElem?_drop] at h1
 refine ⟨by simpa using h1,?_⟩
 rw [←List.drop_drop,h];rfl
theorem O6 {d:Nat} {X Y:Array Value}:∀ (cr:List Field) (o:Nat) (aE:List Nat) (xs ys:List V) (dV eC:List Value) (b:Bool),Ay P o cr=some aE→e2 aE xs ys=some b→be xs=some dV→be ys=some eC →
  X.toList.drop o=dV→Y.toList.drop o=eC→cQ P (Op.eqFields (d+1) X Y cr)=some b
 | [],o,aE,xs,ys,dV,eC,b,hk,he,ag,bd,fC,o0=>by
  simp [Ay] at hk
  subst hk
  cases xs<;>cases ys<;>simp [e2] at he
  subst he
  rfl
 | f::cr,o,aE,xs,ys,dV,eC,b,hk,he,ag,bd,fC,o0=>by
  unfold Ay at hk
  split at hk
  case isFalse=>cases hk
  rename_i aG
  have go:∀ (hB cF:Value) (cg cZ:List V) (c2 bX:List Value) (q x:Bool) (tm:List Nat) (mf:TypeDesc),P.underlying f.type=some mf→mf.isRow=false→X.toList.drop o=hB::c2→Y.toList.drop o=cF::bX→Ay P (o+1) cr=some tm→e2 tm cg cZ=some x→be cg=some c2→be cZ=some bX →
    cQ P (Op.equalIn (d+1) f.type hB cF)=some q→cQ P (Op.eqFields (d+1) X Y (f::cr))=some (q&&x):=fun hB cF cg cZ c2 bX q x tm mf hu a7 h1 aa aC bz bY da k7=>by
   obtain ⟨g1,g2⟩:=drop_cons h1
   obtain ⟨g3,g4⟩:=drop_cons aa
   have ih:=O6 (d:=d) cr (o+1) tm cg cZ c2 bX x aC bz bY da g2 g4
   unfold Op.eqFields
   rw [if_pos aG.1,gC,aG.2,Kr hu a7 (by rw [←Array.getElem?_toList];exact g1)]
   simp only [Option.bind_some]
   rw [gC,Kr hu a7 (by rw [←Array.getElem?_toList];exact g3)]
   simp only [Option.bind_some]
   rw [gC,k7]
   simp only [Option.bind_some]
   cases q
   ·rfl
   ·simpa using ih
  cases ib:Ay P (o+1) cr with
  | none=>rw [ib] at hk;split at hk<;>simp_all
  | some tm=>
   rw [ib] at hk
   cases hu:P.underlying f.type with
   | none=>rw [hu] at hk;cases hk
   | some mf=>
    rw [hu] at hk
    cases mf<;>simp only at hk<;>try (cases hk;done)
    case int kk=>
     obtain rfl:=Option.some.inj hk
     cases xs with
     | nil=>simp [e2] at he
     | cons wG cg=>
      cases ys with
      | nil=>cases wG<;>simp [e2] at he
      | cons B5 cZ=>
       cases wG<;>cases B5<;>first | (simp [e2] at he;done) | skip
       rename_i bB a k2 c
       have gh:(if bB=k2 then (e2 tm cg cZ).map (fun x=>(a==c)&&x) else none)=some b:=he
       split at gh
       case isFalse=>cases gh
       rename_i tp
       subst tp
       obtain ⟨x,dX,rfl⟩:=Option.map_eq_some_iff.1 gh
       simp only [be,lN] at ag bd
       cases bY:be cg with
       | none=>rw [bY] at ag;cases ag
       | some c2=>
        cases da:be cZ with
        | none=>rw [da] at bd;cases bd
        | some bX=>
         rw [bY] at ag;rw [da] at bd
         obtain rfl:=Option.some.inj ag
         obtain rfl:=Option.some.inj bd
         exact go _ _ cg cZ c2 bX _ x tm _ hu rfl fC o0 ib dX bY da (T5 hu)
    case bool=>
     obtain rfl:=Option.some.inj hk
     cases xs with
     | nil=>simp [e2] at he
     | cons wG cg=>
      cases ys with
      | nil=>cases wG<;>simp [e2] at he
      | cons B5 cZ=>
       cases wG<;>cases B5<;>first | (simp [e2] at he;done) | skip
       rename_i a c
       obtain ⟨x,dX,rfl⟩:=Option.map_eq_some_iff.1 he
       simp only [be,lN] at ag bd
       cases bY:be cg with
       | none=>rw [bY] at ag;cases ag
       | some c2=>
        cases da:be cZ with
        | none=>rw [da] at bd;cases bd
        | some bX=>
         rw [bY] at ag;rw [da] at bd
         obtain rfl:=Option.some.inj ag
         obtain rfl:=Option.some.inj bd
         exact go _ _ cg cZ c2 bX _ x tm _ hu rfl fC o0 ib dX bY da (agJ hu)
    case string=>
     obtain rfl:=Option.some.inj hk
     cases xs with
     | nil=>simp [e2] at he
     | cons wG cg=>
      cases ys with
      | nil=>cases wG<;>simp [e2] at he
      | cons B5 cZ=>
       cases wG<;>cases B5<;>first | (simp [e2] at he;done) | skip
       rename_i a c
       obtain ⟨x,dX,rfl⟩:=Option.map_eq_some_iff.1 he
       simp only [be,lN] at ag bd
       cases bY:be cg with
       | none=>rw [bY] at ag;cases ag
       | some c2=>
        cases da:be cZ with
        | none=>rw [da] at bd;cases bd
        | some bX=>
         rw [bY] at ag;rw [da] at bd
         obtain rfl:=Option.some.inj ag
         obtain rfl:=Option.some.inj bd
         exact go _ _ cg cZ c2 bX _ x tm _ hu rfl fC o0 ib dX bY da (agK hu)
theorem EG:∀ {aE:List Nat} {xs ys:List V} {b:Bool},e2 aE xs ys=some b→∃ dV eC,be xs=some dV∧be ys=some eC
 | [],xs,ys,b,h=>by
  cases xs<;>cases ys<;>simp [e2] at h
  exact ⟨[],[],rfl,rfl⟩
 | k::aE,[],ys,b,h=>by unfold e2 at h;split at h<;>simp_all
 | k::aE,x::xs,[],b,h=>by unfold e2 at h;split at h<;>simp_all
 | k::aE,x::xs,y::ys,b,h=>by
  have fin:∀ {a c:Value} {q:Option Bool},lN x=some a→lN y=some c→e2 aE xs ys≠none→∃ dV eC,be (x::xs)=some dV∧be (y::ys)=some eC:=fun {a c q} h1 aa aC=>by
   cases ad:e2 aE xs ys with
   | none=>exact absurd ad aC
   | some cF=>
    obtain ⟨dV,eC,aw,aW⟩:=EG ad
    exact ⟨a::dV,c::eC,by simp [be,h1,aw],by simp [be,aa,aW]⟩
  unfold e2 at h
  split at h
  ·simp_all
  ·rename_i ib l2 re
   simp only [List.cons.injEq] at ib l2 re
   obtain ⟨rfl,rfl⟩:=ib
   obtain ⟨rfl,rfl⟩:=l2
   obtain ⟨rfl,rfl⟩:=re
   split at h
   ·exact fin (q:=none) rfl rfl (by intro ab;rw [ab] at h;cases h)
   ·cases h
  ·rename_i ib l2 re
   simp only [List.cons.injEq] at ib l2 re
   obtain ⟨rfl,rfl⟩:=ib
   obtain ⟨rfl,rfl⟩:=l2
   obtain ⟨rfl,rfl⟩:=re
   exact fin (q:=none) rfl rfl (by intro ab;rw [ab] at h;cases h)
  ·rename_i ib l2 re
   simp only [List.cons.injEq] at ib l2 re
   obtain ⟨rfl,rfl⟩:=ib
   obtain ⟨rfl,rfl⟩:=l2
   obtain ⟨rfl,rfl⟩:=re
   exact fin (q:=none) rfl rfl (by intro ab;rw [ab] at h;cases h)
  ·cases h
theorem Ks {t:TypeId} {aE:List Nat} {xs ys:List V} {dV eC:List Value} {b:Bool} (hk:B3 P t=some aE) (he:e2 aE xs ys=some b) (ag:be xs=some dV) (bd:be ys=some eC) :
  cQ P (Op.equal t (.agg dV.toArray) (.agg eC.toArray))=some b∧P.eqGuardType P.depth t=false:=by
 unfold B3 at hk
 split at hk
 case h_2=>cases hk
 rename_i cr hu
 split at hk
 case isFalse=>cases hk
 rename_i cR
 refine ⟨?_,cR.2⟩
 show cQ P (Op.equalIn (9999+1) t _ _)=some b
 have iv : ∀ cr : List Field, cQ P (forIn cr ((none, ()) : Option Bool × Unit) fun f r => if f.name ≠ "_" then do
   let a ←part f.type dV.toArray f.offset
   let c ←part f.type eC.toArray f.offset
   let q ←Op.equalIn 9999 f.type a c
   if (!q)=true then pure (ForInStep.done (some false,())) else pure (ForInStep.yield (none,()))
   else pure (ForInStep.yield (none,())))=(cQ P (Op.eqFields 9999 dV.toArray eC.toArray cr)).map fun r=>if r then (none,()) else (some false,()):=fun cr=>by
  induction cr with
  | nil=>rfl
  | cons f cr ih=>
   rw [List.forIn_cons]
   unfold Op.eqFields
   by_cases aG : f.name ≠ "_"
   ·rw [if_pos aG,if_pos aG]
    simp only [gC,Option.bind_assoc]
    cases cQ P (part f.type dV.toArray f.offset) with
    | none=>rfl
    | some a=>
     simp only [Option.bind_some]
     cases cQ P (part f.type eC.toArray f.offset) with
     | none=>rfl
     | some c=>
      simp only [Option.bind_some]
      cases cQ P (Op.equalIn 9999 f.type a c) with
      | none=>rfl
      | some q=>
       cases q
       ·rfl
       ·simpa [r0] using ih
   ·rw [if_neg aG,if_neg aG]
    simp only [gC,r0,Option.bind_some]
    exact ih
 have cv:=O6 (P:=P) (d:=9998) (X:=dV.toArray) (Y:=eC.toArray) cr.toList 0 aE xs ys dV eC b hk he ag bd (by simp) (by simp)
 unfold Op.equalIn
 simp only [gC,B4 hu,Option.bind_some,EF,cR.1,Bool.false_eq_true,if_false]
 rw [←Array.forIn_toList]
 have aa:=iv cr.toList
 rw [cv] at aa
 first
  | (simp only [gC] at *;rw [aa];cases b<;>rfl)
  | (erw [aa];cases b<;>rfl)
theorem y4 {t:TypeId} {aE:List Nat} {xs ys:List V} {b:Bool} {xo yo:Operand} (hk:B3 P t=some aE) (he:e2 aE xs ys=some b):c0 P .eql t xo yo (.agg xs) (.agg ys)=some (.bool b):=by
 obtain ⟨dV,eC,ag,bd⟩:=EG he
 obtain ⟨h1,aa⟩:=Ks hk he ag bd
 unfold c0
 simp only [mz,ag,bd,Option.map_some]
 have av:cQ P (eqGuard .eql t xo yo (.agg dV.toArray) (.agg eC.toArray))=some ():=by
  simp [eqGuard,gC,EF,aa,r0]
 rw [gC,av]
 simp only [Option.bind_some,binOp,gC,h1,r0,Option.map_some]
 rfl
theorem aqb {t:TypeId} {aE:List Nat} {xs ys:List V} {b:Bool} {xo yo:Operand} (hk:B3 P t=some aE) (he:e2 aE xs ys=some b):c0 P .neq t xo yo (.agg xs) (.agg ys)=some (.bool (!b)):=by
 obtain ⟨dV,eC,ag,bd⟩:=EG he
 obtain ⟨h1,aa⟩:=Ks hk he ag bd
 unfold c0
 simp only [mz,ag,bd,Option.map_some]
 have av:cQ P (eqGuard .neq t xo yo (.agg dV.toArray) (.agg eC.toArray))=some ():=by
  simp [eqGuard,gC,EF,aa,r0]
 rw [gC,av]
 simp only [Option.bind_some,binOp,gC,h1,r0,Option.map_some]
 rfl
end
theorem xP {P:Program} {t tx:TypeId} {T:ln} (cN:hr P t=some T) (dy:0<T.sz)
  {h:I} {s x:V} {cs:List V} (aR:Own h T.e T.sz s cs) {n:Nat} {news:List V} (dT:fm P T.sz tx x h=some (n,news)) (aG:news.length=n * T.sz)
  (hm:∀ m,m * T.sz=cs.length+news.length→m * T.ao≤lim∧m≤lim) :
  ∃ v h',ma P t tx s x h=some (v,h')∧Own h' T.e T.sz v (cs++news)∧J h h' (bl s)∧bV h s v:=by
 obtain ⟨he,bK,bf,hG,eX,_⟩:=rZ cN
 unfold ma
 simp only [he,bK,bf,hG,eX,if_true,dT]
 have start:∀ s:V,(s=.an∨s=.z0)→cs=[]→∃ v h',(if n=0 then some (s,h) else if n * T.ao≤lim∧n≤lim then some (.bc h.n 0 n b2,h.push (.cells news T.e (some T.sz))) else none)=some (v,h')∧Own h' T.e T.sz v (cs++news)∧J h h' (bl s)∧bV h s v:=fun s U cS=>by
  subst cS
  by_cases h0:n=0
  ·subst h0
   have:news=[]:=List.eq_nil_of_length_eq_zero (by simpa using aG)
   subst this
   exact ⟨s,h,by simp,.inl ⟨U,rfl⟩,J.refl _ _,.inl rfl⟩
  ·obtain ⟨bh,bD⟩:=hm n (by simp [aG])
   exact ⟨.bc h.n 0 n b2,h.push (.cells news T.e (some T.sz)),by simp [h0,bh,bD],Own.grown (by simp [I.push]) (by simp [I.push]) (by simpa using aG),J.push _ _ _,.inr fun k hk=>by simp [aV] at hk;omega⟩
 rcases aR with ⟨rfl | rfl,cS⟩ | ⟨i,len,cap,c,ex,rfl,hi,av,hlen,bJ,dj⟩
 ·exact start _ (.inl rfl) cS
 ·exact start _ (.inr rfl) cS
 ·by_cases h0:n=0
  ·subst h0
   have:news=[]:=List.eq_nil_of_length_eq_zero (by simpa using aG)
   subst this
   exact ⟨.bc i 0 len cap,h,by simp,by rw [List.append_nil];exact .inr ⟨i,len,cap,c,ex,rfl,hi,av,hlen,bJ,dj⟩,J.refl _ _,.inl rfl⟩
  ·obtain ⟨bh,bD⟩:=hm (len+n) (by rw [Nat.add_mul,hlen,aG])
   have cw:len * T.sz≤c.length:=by
    have:=congrArg List.length bJ
    rw [List.length_take,hlen] at this
    omega
   simp only [h0,bh,bD,and_self,if_true,if_false,av]
   rcases dj with ⟨lY,oB,hle⟩ | ⟨rfl,rfl⟩
   ·simp only [lY,if_true]
    by_cases eG:len+n≤cap
    ·have eW:0+(len+n) * T.sz≤c.length:=by rw [Nat.zero_add];exact Nat.le_trans (Nat.mul_le_mul_right _ eG) oB
     have hll:(lay c (len * T.sz) news).length=c.length:=pd _ _ _ (by rw [aG,←Nat.add_mul];omega)
     simp only [eG,if_true,eW]
     refine ⟨_,_,rfl,.inr ⟨i,len+n,cap,lay c (0+len * T.sz) news,ex,rfl,hi,by simp [I.set],by simp [hlen,aG,Nat.add_mul],?_,.inl ⟨lY,?_,eG⟩⟩,⟨Nat.le_refl _,fun j aS bO=>?_,rfl⟩,.inl rfl⟩
     ·simp only [Nat.zero_add,lay,bJ,Nat.add_mul,←aG]
      have:(cs++news).length=len * T.sz+news.length:=by simp [hlen]
      rw [←this]
      exact List.take_left
     ·rw [Nat.zero_add,hll];exact oB
     ·simp only [I.set]
      rw [if_neg (by intro cB;subst cB;simp [bl,aV] at bO)]
    ·simp only [eG,if_false]
     have zc:0+len * T.sz≤c.length:=by omega
     simp only [zc,if_true,List.drop_zero,bJ]
     exact ⟨_,_,rfl,Own.grown (by simp [I.push]) (by simp [I.push]) (by simp [hlen,aG,Nat.add_mul]),J.push _ _ _,.inr fun k hk=>by simp [aV] at hk;omega⟩
   ·simp only [Nat.lt_irrefl,if_false,true_and,cw,and_self,if_true]
    refine ⟨_,_,rfl,Own.grown (by simp [I.push,I.set]) (by simp [I.push,I.set,bJ]) (by simp [hlen,aG,Nat.add_mul]),⟨by simp [I.push,I.set],fun j aS bO=>?_,rfl⟩,.inr fun k hk=>by simp [aV] at hk;omega⟩
    have h1:j≠i:=by intro cB;subst cB;simp [bl,aV] at bO
    have aa:j≠h.n:=by omega
    simp [I.push,I.set,h1,aa]
theorem Gx {P:Program} {t:TypeId} {T:ln} (cN:hr P t=some T) (dy:0<T.sz)
  {h:I} {s:V} {cs xs:List V} (aR:Own h T.e T.sz s cs) (az:xs.length=T.sz) (b5:xs.all (·.one)=true)
  (hm:∀ m,m * T.sz=cs.length+T.sz→m * T.ao≤lim∧m≤lim) :
  ∃ v h',ma P t t s (.bc h.n 0 1 1) (h.push (.cells xs T.e none))=some (v,h')∧Own h' T.e T.sz v (cs++xs)∧J h h' (bl s)∧bV h s v:=by
 obtain ⟨he,bK,bf,hG,eX,hu⟩:=rZ cN
 have hk:=J.push h (.cells xs T.e none) none_
 have dT:fm P T.sz t (.bc h.n 0 1 1) (h.push (.cells xs T.e none))=some (1,xs):=by
  simp only [fm,hu,I.push,if_true,Nat.one_mul,Nat.zero_add,List.drop_zero]
  rw [List.take_of_length_le (by omega),if_pos ⟨by omega,b5⟩]
 obtain ⟨v,h',aO,hs,eB,c4⟩:=xP (tx:=t) cN dy (aR.ba hk) dT (by omega) (by rw [az];exact hm)
 refine ⟨v,h',aO,hs,(hk.up).trans' eB,c4.imp id fun ab k q6=>?_⟩
 have:=ab k q6
 simp [I.push] at this
 omega
theorem Acc.DD {P:Program} {t:TypeId} {T:ln} (cN:hr P t=some T) {h0 h:I} {s:V} {cs xs:List V} (a:Acc h0 h T.e T.sz s cs) (dy:0<T.sz) (az:xs.length=T.sz) (b5:xs.all (·.one)=true)
  (hm:∀ m,m * T.sz=cs.length+T.sz→m * T.ao≤lim∧m≤lim) :
  ∃ v h',ma P t t s (.bc h.n 0 1 1) (h.push (.cells xs T.e none))=some (v,h')∧Acc h0 h' T.e T.sz v (cs++xs):=by
 obtain ⟨v,h',aO,hs,eB,c4⟩:=Gx cN dy a.own az b5 hm
 exact ⟨v,h',aO,a.step hs eB c4⟩
section
variable {P:Program} {α:Type} {enc:α→List V} {sz:Nat}
theorem j7 (he:∀ x,(enc x).length=sz):∀ l:List α,(l.flatMap enc).length=l.length * sz
 | []=>by simp
 | x::l=>by rw [List.flatMap_cons,List.length_append,he,j7 he l,List.length_cons,Nat.add_mul];omega
theorem Gy (he:∀ x,(enc x).all (·.one)=true):∀ l:List α,(l.flatMap enc).all (·.one)=true
 | []=>rfl
 | x::l=>by rw [List.flatMap_cons,List.all_append,he,Gy he l];rfl
theorem vF (he:∀ x,(enc x).length=sz):∀ (l:List α) (k:Nat),(l.flatMap enc).drop (k * sz)=(l.drop k).flatMap enc
 | l,0=>by simp
 | [],k+1=>by simp
 | x::l,k+1=>by
  rw [List.flatMap_cons,Nat.add_mul,Nat.one_mul,Nat.add_comm,←List.drop_drop,List.drop_left' (he x),vF he l k,List.drop_succ_cons]
theorem zl (he:∀ x,(enc x).length=sz):∀ (l:List α) (k:Nat),(l.flatMap enc).take (k * sz)=(l.take k).flatMap enc
 | l,0=>by simp
 | [],k+1=>by simp
 | x::l,k+1=>by
  rw [List.flatMap_cons,Nat.add_mul,Nat.one_mul,List.take_append,he,Nat.add_sub_cancel,zl he l k,List.take_succ_cons,List.flatMap_cons,List.take_of_length_le (by rw [he];omega)]
theorem qC (he:∀ x,(enc x).length=sz) {l:List α} {k:Nat} (hk:k<l.length) {t:TypeId} {kk:IntKind} (U:ek P t=some sz) :
  hA P t (.ai l.length (l.flatMap enc)) (.int kk (k:Int))=some (.at (enc l[k]++(l.drop (k+1)).flatMap enc)):=by
 rw [Gj U (by omega) (by omega) (j7 he l),Int.toNat_natCast,vF he,List.drop_eq_getElem_cons hk,List.flatMap_cons]
theorem Kt (he:∀ x,(enc x).length=sz) {l:List α} {n:Nat} (aG:l.length=n) {k:Nat} {x:α} (ag:l[k]?=some x) {t:TypeId} {kk:IntKind} (U:ek P t=some sz) :
  ∃ r,hA P t (.ai n (l.flatMap enc)) (.int kk (k:Int))=some (.at (enc x++r)):=by
 subst aG
 obtain ⟨hk,rfl⟩:=List.getElem?_eq_some_iff.1 ag
 exact ⟨_,qC he hk U⟩
theorem nN {e r:List V} (he:e.length=sz):dv (some (some sz)) (some (e++r))=some (.agg e):=by
 rw [TA,if_pos (by rw [List.length_append];omega),List.take_left' he]
theorem Ku (he:∀ x,bo (enc x)) (l:List α):bo (l.flatMap enc):=bo.flatMap fun x _=>he x
end
theorem aX.cut {P:Program} {n:Nat} {c:Code} {f:ah} {h:I} (R:ah→I→Prop) {Q:rY} (U:aX P n c (rY.go (.fn fun x f h=>@qY ⟨x=.normal∧R f h⟩)) f h) (hk:∀ f h,R f h→@fo .normal Q f h):aX P n c (rY.go Q) f h :=
 U.mono fun e f h ad=>by
  have dp:e=.normal∧R f h:=ad
  obtain ⟨rfl,aH⟩:=dp
  exact hk f h aH
open Go
section
variable {H:Type} {enc:TypeId×Value→H} {P:Program} {w:World} {base:Nat} {spare:Nat→Bool} {held:Bool}
theorem aqc {t e:TypeId} {a:Option Addr} {len cap:Nat} {d:DataW H} {ps:List MemPlace} {es:List (List V)} {k:Nat} (hu:P.underlying t=some (.slice e)) (hk:P.bytesOf e=k) (bM:∀ n ∈ d.weights P t,n≤reachBytes)
  (h:DataW.Trod enc P w base spare held t (.slice a len cap) d ps) (aD:aA (iw w) (.ai es.length es.flatten) (.slice a len cap)):es.length * k≤2 ^ 47:=by
 obtain ⟨fuel,aq⟩:=h
 have az:es.length=len:=by
  generalize es.length=n at aD
  generalize es.flatten=c at aD
  cases aD<;>rfl
 rcases DataW.trod_slice hu aq with ⟨cS,_⟩ | ⟨a2,Gl,wq,elems,rest,m,_,cS,oH,_,_,_,ql,_,_⟩
 ·cases cS
  rw [az]
  omega
 ·cases cS
  simp only [Prod.mk.injEq] at oH
  have T6:=bM ((elems.length+rest.length) * P.bytesOf e) (by rw [oH.1];simp [DataW.weights,hu])
  have aa:=reachBytes_lt
  have aC:len * k≤(elems.length+rest.length) * k:=Nat.mul_le_mul_right _ (by omega)
  rw [hk] at T6
  rw [az]
  omega
end
section
variable {ρ:Ren} {B:Nat} {aK:World} {h:I} {w:World}
theorem aQ.grow (R:aQ ρ B aK h w) (os:Array Obj):aQ ρ B aK h (Sort.grow w os):=by
 have hold:∀ k,k<w.heap.size→(Sort.grow w os).heap[k]?=w.heap[k]?:=fun k hk=>by
  show (w.heap++os)[k]?=_
  rw [Array.getElem?_append,if_pos hk]
 have bf:w.heap.size≤(Sort.grow w os).heap.size:=by
  show w.heap.size≤(w.heap++os).size
  rw [Array.size_append];omega
 refine ⟨⟨R.heap.kg,R.heap.inj,fun i=>?_,fun b arr aq=>?_,R.heap.glob,Nat.le_trans R.heap.base bf⟩,R.below.trans ⟨rfl,rfl,rfl,bf,fun k hk=>hold k (Nat.lt_of_lt_of_le hk R.heap.base),Nat.le_refl _⟩⟩
 ·by_cases a7:h.get i=.dead
  ·rw [a7];trivial
  ·refine (R.heap.obj i).al (Ren.le.refl ρ) fun b bh aH=>⟨hold b ?_,fun h=>h⟩
   obtain ⟨cF,qP,gj,aN,_⟩:=R.heap.live a7
   rw [gj] at aH
   cases aH
   exact aN
 ·obtain ⟨e,fl,hw⟩:=R.heap.frz b arr aq
  exact ⟨e,fl,(hold b (Array.getElem?_eq_some_iff.1 hw).1).trans hw⟩
theorem aQ.ahead (R:aQ ρ B aK h w):∀ n:Nat,aQ ρ B aK h (Sort.ahead w n)
 | 0=>R
 | n+1=>by rw [←Sort.ahead_drew];exact (R.ahead n).drew
theorem aQ.EH (R:aQ ρ B aK h w) {k:IntKind} {i b bw n:Nat} {c:List V} {e:TypeId} {ex:Option Nat} (av:h.get i=.cells c e ex) (hi:ρ.ren i=some (b,bw)) (aG:n≤c.length) (d:Array Int) (a7:d.size=n) :
  aQ ρ B aK (h.set i (.cells (d.toList.map (.int k)++c.drop n) e ex)) (Sort.putRow (Value.int k) w b 0 d):=by
 have aR:=R.heap.obj i
 rw [av] at aR
 obtain ⟨cF,qP,arr,aH,aq,bM,hw,hlen,eM,ag⟩:=aR
 rw [hi] at aH
 cases aH
 have aN:=(Array.getElem?_eq_some_iff.1 hw).1
 have pV:∀ j,(Sort.putRow (Value.int k) w b 0 d).heap[j]?=if b=j then (w.heap[j]?).map (Sort.onCells (Sort.putCells (Value.int k) 0 d)) else w.heap[j]?:=fun j=>by
  show (w.heap.modify b _)[j]?=_
  rw [Array.getElem?_modify]
 refine R.sx hi (by rw [av];simp) (fun j aS=>by rw [pV,if_neg (Ne.symm aS)]) (by rw [Sort.size_putRow];exact Nat.le_refl _) ⟨rfl,rfl,rfl,by rw [Sort.size_putRow];exact Nat.le_refl _,fun j aS=>by rw [pV,if_neg (by omega)],Nat.le_refl _⟩ ?_
 have az:(d.toList.map (V.int k)++c.drop n).length=c.length:=by simp;omega
 refine ⟨b,bw,Sort.putCells (Value.int k) 0 d arr,hi,aq,bM,by rw [pV,if_pos rfl,hw];rfl,by rw [az];simpa [Sort.putCells] using hlen,?_,by rw [az];simpa [Sort.putCells] using ag⟩
 rw [az]
 refine ⟨by simp [Sort.putCells];omega,fun j v v' h1 aa=>?_⟩
 rw [List.getElem?_take] at aa
 split at aa
 case isFalse=>cases aa
 rename_i aS
 rw [Array.getElem?_toList] at aa
 unfold Sort.putCells at aa
 rw [Array.getElem?_mapIdx,Option.map_eq_some_iff] at aa
 obtain ⟨x,nF,dX⟩:=aa
 by_cases h7:j<n
 ·rw [if_pos ⟨Nat.zero_le _,by omega⟩] at dX
  subst dX
  rw [List.getElem?_append_left (by simp;omega),List.getElem?_map,Array.getElem?_toList,Array.getElem?_eq_getElem (by omega)] at h1
  simp only [Option.map_some,Option.some.injEq] at h1
  subst h1
  rw [Nat.sub_zero,getElem!_pos d j (by omega)]
  exact .int k _
 ·rw [if_neg (by omega)] at dX
  subst dX
  rw [List.getElem?_append_right (by simp;omega),List.getElem?_drop] at h1
  simp only [List.length_map,Array.length_toList] at h1
  rw [a7,show n+(j - n)=j by omega] at h1
  refine eM.2 j v x h1 ?_
  rw [List.getElem?_take,if_pos aS,Array.getElem?_toList]
  exact nF
theorem aQ.holds (R:aQ ρ B aK h w) {k:IntKind} {i b bw:Nat} {c:List V} {e:TypeId} {ex:Option Nat} (av:h.get i=.cells c e ex) (hi:ρ.ren i=some (b,bw)) {l:List Int} (au:c.take l.length=l.map (.int k)) :
  Sort.Holds (Value.int k) w b 0 l.toArray∧b<w.heap.size:=by
 have aR:=R.heap.obj i
 rw [av] at aR
 obtain ⟨cF,qP,arr,aH,aq,bM,hw,hlen,eM,ag⟩:=aR
 rw [hi] at aH
 cases aH
 refine ⟨fun j aS=>?_,(Array.getElem?_eq_some_iff.1 hw).1⟩
 simp only [List.size_toArray] at aS
 have cw:l.length≤c.length:=by
  have:=congrArg List.length au
  rw [List.length_take,List.length_map] at this
  omega
 have h1:c[j]?=some (.int k l[j]):=by
  have:(c.take l.length)[j]?=some (.int k l[j]):=by rw [au,List.getElem?_map,List.getElem?_eq_getElem aS];rfl
  rwa [List.getElem?_take,if_pos aS] at this
 obtain ⟨v',aa,aC⟩:=eM.get h1
 cases aC
 rw [List.getElem?_take] at aa
 split at aa
 case isFalse=>cases aa
 rw [Array.getElem?_toList] at aa
 have aw:l.toArray[j]! = l[j]:=by rw [getElem!_pos _ j (by simpa using aS)];simp
 rw [aw]
 exact ⟨by simp [World.cell?,hw,aa],by simp [World.frozen?,hw]⟩
end
theorem agL {P:Program} {f:FuncId} {e:TypeId}
  (e0:∀ (hL off cap:Nat) (zs:List Int) (w:World),Sort.Holds (Value.int .i64) w hL off zs.toArray→hL<w.heap.size→zs.length<4611686018427387904→Calls P f #[.slice (some ⟨hL,off,none⟩) zs.length cap] w fun x w'=>
   x=.returned (.tuple #[])∧∃ n os,w'=Sort.grow (Sort.putRow (Value.int .i64) (Sort.ahead w n) hL off (zs.mergeSort fun x y=>decide (x≤y)).toArray) os)
  (zm:∀ (p:Option Addr) (cap:Nat) (w:World),Calls P f #[.slice p 0 cap] w fun x w'=>x=.returned (.tuple #[])∧w'=w)
  {h:I} {v:V} {l:List Int} (aR:Own h e 1 v (l.map (.int .i64))) (az:l.length<4611686018427387904) :
  ae P f [v] h (fun r h'=>r=.tuple []∧Own h' e 1 v ((l.mergeSort fun x y=>decide (x≤y)).map (.int .i64))∧J h h' (bl v)):=by
 have nil:∀ (p:Option Addr) (cap:Nat) (ρ:Ren) (B:Nat) (aK w:World),aQ ρ B aK h w→l=[]→Calls P f #[.slice p 0 cap] w fun Mg w'=>(∃ (ρ':Ren) (r:V) (cm:Value) (h':I),Mg=.returned cm∧aA ρ' r cm∧aQ ρ' B aK h' w'∧ρ.le ρ'∧(r=.tuple []∧Own h' e 1 v ((l.mergeSort fun x y=>decide (x≤y)).map (.int .i64))∧J h h' (bl v))) ∨
   (∃ (ρ':Ren) (iu:List PanicEntry) (h':I),Mg=.panicked iu∧Ai iu∧aQ ρ' B aK h' w'∧ρ.le ρ'∧False):=fun p cap ρ B aK w hw h0=>by
  subst h0
  refine (zm p cap w).mono fun x w' ⟨ag,bL⟩=>.inl ⟨ρ,.tuple [],.tuple #[],h,ag,.tuple rfl (by simp),by rw [bL];exact hw,Ren.le.refl ρ,rfl,?_,J.refl _ _⟩
  simpa using aR
 intro ρ B aK w args' hw aO
 obtain ⟨v',t,bq,aD,O7⟩:=aO.di
 have DE:t=[]:=by
  have:=O7.1
  cases t with
  | nil=>rfl
  | cons _ _=>simp at this
 subst DE
 have fB:args'=#[v']:=by
  apply Array.toList_inj.1
  rw [bq]
 subst fB
 rcases aR with ⟨kj,cS⟩ | ⟨i,len,cap,c,ex,rfl,wH,av,hlen,bJ,dj⟩
 ·have dk:l=[]:=List.map_eq_nil_iff.1 cS
  rcases kj with rfl | rfl
  ·cases aD
   exact nil _ _ ρ B aK w hw dk
  ·cases aD
   exact nil _ _ ρ B aK w hw dk
 ·rw [Nat.mul_one] at hlen bJ
  have qR:l.length=len:=by rw [←hlen,List.length_map]
  subst qR
  have cw:l.length≤c.length:=by
   have:=congrArg List.length bJ
   rw [List.length_take,List.length_map] at this
   omega
  cases aD with
  | bc hi _ _ _ hle=>
   rename_i b bw
   obtain ⟨hH,aN⟩:=hw.holds (k:=.i64) av hi bJ
   refine (e0 b 0 (fk bw cap) l w hH aN az).mono fun x w' ⟨ag,m,os,bL⟩=>.inl ⟨ρ,.tuple [],.tuple #[],h.set i (.cells ((l.mergeSort fun x y=>decide (x≤y)).map (.int .i64)++c.drop l.length) e ex),ag,.tuple rfl (by simp),?_,Ren.le.refl ρ,rfl,?_,?_⟩
   ·subst bL
    exact ((hw.ahead m).EH av hi cw (l.mergeSort fun x y=>decide (x≤y)).toArray (by simp [List.length_mergeSort])).grow os
   ·refine .inr ⟨i,l.length,cap,_,ex,rfl,wH,aP,by simp [List.length_mergeSort],?_,?_⟩
    ·rw [Nat.mul_one,List.take_left' (by simp [List.length_mergeSort])]
    ·rcases dj with ⟨h1,aa,aC⟩ | h1
     ·refine .inl ⟨h1,?_,aC⟩
      simp only [List.length_append,List.length_map,List.length_mergeSort,List.length_drop]
      omega
     ·exact .inr h1
   ·exact (J.set h i _).mono fun k hk=>by simp [bl,aV,hk]
end Go.Proofs.YtedkjhifbibpmaaGreatDoor.Ab
