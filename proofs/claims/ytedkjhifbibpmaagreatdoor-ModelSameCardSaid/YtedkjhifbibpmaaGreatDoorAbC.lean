/-
  Rules of the machine on abstract states. Conditions: as each theorem says.
-/
import Derived.Test.YtedkjhifbibpmaaGreatDoorAbB
import Derived.SizedLaws
import Derived.Laws.StructEq
import Derived.Sort.Row
import Derived.Sort.Grow
import Derived.Sort.Statements
set_option linter.unusedVariables false
set_option linter.unusedSimpArgs false
namespace Go.Proofs.YtedkjhifbibpmaaGreatDoor.Ab
open Go Go.RowKit
section
variable {P:Program} {t e:TypeId} {x y v:V} {h:J}
def fI (P:Program) (t:TypeId):Option (List (Nat×Nat) ⊕ Nat) :=
 match X7 P t with
 | some pl=>some (.inl pl)
 | none=>match HH P t with
  | some (_,e)=>(dQ P e).map .inr
  | none=>none
def abe (zs:Option (List V)) (b:Option (List (Nat×Nat) ⊕ Nat)) (parts:List (Nat×V)):Option V :=
 match zs,b with
 | some zs,some (.inl pl)=>(wW (fun i=>pl[i]?) zs parts).map .agg
 | some zs,some (.inr sz)=>(wW (fun i=>some (i * sz,sz)) zs parts).map .agg
 | _,_=>none
theorem aqG {parts:List (Nat×V)}:wd P t parts=abe (iA P t) (fI P t) parts:=by
 unfold wd abe fI
 cases iA P t with
 | none=>rfl
 | some zs=>
  cases X7 P t with
  | some pl=>rfl
  | none=>
   simp only
   cases HH P t with
   | none=>rfl
   | some p=>
    obtain ⟨n,e⟩:=p
    simp only
    cases dQ P e<;>rfl
theorem aqH {zs:List V} {pl:List (Nat×Nat)} {parts:List (Nat×V)}:abe (some zs) (some (.inl pl)) parts=(wW (fun i=>pl[i]?) zs parts).map .agg:=nr rfl
theorem aqI {place:Nat→Option (Nat×Nat)} {cs:List V}:wW place cs []=some cs:=nr rfl
def abf (place:Nat→Option (Nat×Nat)) (cs:List V) (p:Option (Nat×Nat)) (vs:Option (List V)) (r:List (Nat×V)):Option (List V) :=
 match p,vs with
 | some (off,size),some vs=>if vs.length=size∧off+size≤cs.length then wW place (wa cs off vs) r else none
 | _,_=>none
theorem aqJ {place:Nat→Option (Nat×Nat)} {cs:List V} {i:Nat} {r:List (Nat×V)}:wW place cs ((i,v)::r)=abf place cs (place i) v.cells r:=by
 show (match place i,v.cells with | some (off,size),some vs=>_ | _,_=>none)=_
 unfold abf
 rfl
theorem aqK {place:Nat→Option (Nat×Nat)} {cs vs:List V} {off size:Nat} {r:List (Nat×V)}:abf place cs (some (off,size)) (some vs) r=if vs.length=size∧off+size≤cs.length then wW place (wa cs off vs) r else none:=nr rfl
theorem Bi {sz:Nat} (h:e5 P t=some sz):∃ e,P.underlying t=some (.slice e)∧dQ P e=some sz:=by
 unfold e5 at h
 split at h
 ·rename_i e hu;exact ⟨e,hu,h⟩
 ·cases h
theorem ajy {sz n:Nat} {cs:List V} {lo hi:Option V} {l m:Nat} (ad:e5 P t=some sz) (h1:qI lo=some l) (ae:iB n hi=some m) (aM:l≤m) (hm:m≤n) (aF:cs.length=n * sz) :
  kz P t (.ag n cs) lo hi none=some (.ag (m - l) ((cs.drop (l * sz)).take ((m - l) * sz))):=by
 obtain ⟨e,hu,he⟩:=Bi ad
 unfold kz
 have aA:iB n (none:Option V)=some n:=rfl
 simp only [hu,he,h1,ae,aA]
 have:l * sz≤cs.length:=by rw [aF];exact Nat.mul_le_mul_right _ (by omega)
 simp [HE,aM,hm,this]
theorem RA {sz n:Nat} {cs:List V} {k:IntKind} {l:Int} (ad:e5 P t=some sz) (h0:0≤l) (aM:l≤n) (aF:cs.length=n * sz) :
  kz P t (.ag n cs) (some (.int k l)) none none=some (.ag (n - l.toNat) (cs.drop (l.toNat * sz))):=by
 rw [ajy ad (l:=l.toNat) (m:=n) (by simp [qI,Cs,h0]) rfl (by omega) (Nat.le_refl _) aF]
 rw [List.take_of_length_le]
 rw [List.length_drop,aF,Nat.sub_mul]
 first | done | exact Nat.le_refl _
theorem ajz {sz n:Nat} {cs:List V} {k:IntKind} {m:Int} (ad:e5 P t=some sz) (h0:0≤m) (hm:m≤n) (aF:cs.length=n * sz) :
  kz P t (.ag n cs) none (some (.int k m)) none=some (.ag m.toNat (cs.take (m.toNat * sz))):=by
 rw [ajy ad (l:=0) (m:=m.toNat) rfl (by simp [iB,Cs,h0]) (Nat.zero_le _) (by omega) aF]
 simp
theorem JW {sz n:Nat} {cs:List V} {k:IntKind} {i:Int} (ad:e5 P t=some sz) (h0:0≤i) (hi:i<n) (aF:cs.length=n * sz) :
  ir P t (.ag n cs) (.int k i)=some (.at (cs.drop (i.toNat * sz))):=by
 rw [Rr,ad,ajk,if_pos ⟨h0,hi,by rw [aF];exact Nat.mul_le_mul_right _ (by omega)⟩]
def RB (T:Option qi) (len:Nat) (parts:List (Nat×V)) (h:J):Option (V×J) :=
 match T with
 | some T=>if len * T.sz≤2 ^ 24∧len≤2 ^ 24 then (wW (fun i=>some (i * T.sz,T.sz)) (made T.zs len) parts).map fun cells=>(.bp h.n 0 len len,h.push (.cells cells T.e none)) else none
 | none=>none
theorem p0 {len:Nat} {parts:List (Nat×V)} {T:qi} (cS:jq P t=some T):lk P t len parts h=RB (some T) len parts h:=by
 obtain ⟨he,b4,bz,lz,iP,_⟩:=wm cS
 unfold lk RB
 simp only [he,bz,b4,iP,true_and]
 split
 ·cases wW (fun i=>some (i * T.sz,T.sz)) (made T.zs len) parts<;>rfl
 ·rfl
theorem Yy {T:qi} {l c:Nat} {k k':IntKind} (cS:jq P t=some T) (aM:l≤c) (h1:T.an * c≤140737488355328) (ae:c≤140737488355328) :
  GW P t (.int k (l:Int)) (.int k' (c:Int)) h=some (.bp h.n 0 l c,h.push (.cells (made T.zs c) T.e none)):=by
 obtain ⟨he,b4,bz,lz,iP,_⟩:=wm cS
 unfold GW
 simp [he,Cs,b4,lz,bz,iP,aM,h1,ae]
theorem aqL {T:qi} {tx:TypeId} {i cap n:Nat} {c cs:List V} {src:V} {h:J} (cS:jq P t=some T) (aB:h.get i=.cells c T.e none) (ad:Jz src=some n) (aC:Cu T.sz n src h=some cs)
  (b3:cs.all (·.one)=true) (hf:cs.length≤c.length) :
  ∃ h',GX P t (.bp i 0 n cap) src h=some (.int .i64 n,h')∧h'=h.set i (.cells (lay c 0 cs) T.e none):=by
 obtain ⟨he,b4,bz,lz,iP,_⟩:=wm cS
 have Em:Nat.min n n=n:=Nat.min_self _
 unfold GX
 simp only [he,bz,ad,Em,aC]
 by_cases h0:n=0
 ·subst h0
  have dZ:cs=[]:=by
   have:=(HS aC)
   simpa using this
  subst dZ
  refine ⟨h,by simp,?_⟩
  rw [show lay c 0 []=c by simp [lay]]
  exact (P3 aB).symm
 ·rw [if_neg h0]
  simp only [aB,Nat.zero_add]
  rw [if_pos ⟨hf,b3⟩]
  exact ⟨_,rfl,rfl⟩
where
 HS {sz n:Nat} {x:V} {h:J} {vs:List V} (ad:Cu sz n x h=some vs):vs.length=n * sz:=by
  unfold Cu at ad
  split at ad
  ·split at ad
   ·rename_i h0;simp at ad;subst ad;simp [h0]
   ·cases ad
  ·split at ad
   ·rename_i h0;simp at ad;subst ad;simp [h0]
   ·cases ad
  ·split at ad
   ·split at ad
    ·simp at ad;subst ad;simp;omega
    ·cases ad
   ·cases ad
  ·split at ad
   ·simp at ad;subst ad;simp;omega
   ·cases ad
  ·split at ad
   ·rename_i aF;simp at ad;subst ad
    have:=byteCells_length
    rw [List.length_take,List.length_map,this]
    rw [aF.1];omega
   ·cases ad
  ·cases ad
end
theorem sR.refl (f:aE) (h:J):sR f h f h:=fun ρ B bg w n a hw aC=>⟨ρ,Ren.le.refl ρ,hw,aC⟩
theorem sR.trans {f f1 f2:aE} {h h1 ae:J} (a:sR f h f1 h1) (b:sR f1 h1 f2 ae):sR f h f2 ae:=fun ρ B bg w n x hw aC=>
 let ⟨ρ1,ff,c9,v1⟩:=a ρ B bg w n x hw aC
 let ⟨ρ2,eY,b0,v2⟩:=b ρ1 B bg w n x c9 v1
 ⟨ρ2,ff.trans eY,b0,v2⟩
theorem sR.slot {f:aE} {h ae:J} {t:Tmp} {v:V} (aF:aK (f t) h v ae):sR f h (f.put (some t) v) ae:=fun ρ B bg w n a hw aC=>by
 obtain ⟨ρ',aM,cY,aN⟩:=aF ρ B bg w _ hw (aC.tmps t)
 refine ⟨ρ',aM,cY,fun k=>?_,aC.size,aC.defers.trans aM.dfr.symm⟩
 simp only [aE.put]
 by_cases hk:k=t
 ·subst hk;simpa using aN
 ·simp only [hk,if_false];exact (aC.tmps k).mono aM
theorem di.args {P:Program} {ca:FuncId} {args vp:List V} {h ae:J} {R:V→J→Prop} {E:J→Prop} (aF:az args h vp ae) (ad:di P ca vp ae R E):di P ca args h R E:=by
 intro ρ B bg w args' hw a6
 obtain ⟨ρ1,ff,c9,cw⟩:=aF ρ B bg w _ hw a6
 refine (ad ρ1 B bg w args' c9 cw).mono fun e w' U=>?_
 rcases U with ⟨ρ',r,dY,h',he,aU,cY,hle,e1⟩ | ⟨ρ',nv,h',he,qh,cY,hle,bC⟩
 ·exact .inl ⟨ρ',r,dY,h',he,aU,cY,ff.trans hle,e1⟩
 ·exact .inr ⟨ρ',nv,h',he,qh,cY,ff.trans hle,bC⟩
theorem ab.args {P:Program} {ca:FuncId} {args vp:List V} {h ae:J} {R:V→J→Prop} (aF:az args h vp ae) (ad:ab P ca vp ae R):ab P ca args h R:=di.args aF ad
theorem aK.lit {h:J} {c:List V} {e:TypeId} {n sz:Nat} (aF:c.length=n * sz) (aG:n<cN) (bz:0<sz):∃ ae,aK (.bp h.n 0 n n) (h.push (.cells c e none)) (.ag n c) ae∧I h ae none_:=by
 have bc:=Own.fresh (h:=h) (e:=e) c n n aF (Nat.le_refl _) aG
 rw [←aF,List.take_length] at bc
 obtain ⟨ae,aA,bk⟩:=aK.own bc aF bz
 exact ⟨ae,aA,(I.push h _ none_).trans bk fun k hk dE=>by simp [bn,aR] at dE;omega⟩
variable {P:Program} {t:TypeId} {T:qi}
theorem Yz {k:IntKind} {n:Nat}:qI (some (.int k (n:Int)))=some n:=by simp [qI,Cs]
theorem aqM {k:IntKind} {l n:Nat}:iB l (some (.int k (n:Int)))=some n:=by simp [iB,Cs]
theorem ajA {kk:IntKind} (ad:e5 P t=some 1) {h:J} {e:TypeId} {v:V} {cs:List V} (bc:Own h e 1 v cs) {k:Nat} (hk:k<cs.length) :
  ∃ i,ir P t v (.int kk (k:Int))=some (.ptr i k)∧aR v=some i∧(∃ r,da (h.get i) k=some (cs[k]::r)) ∧
   ∀ x,x.one=true→∃ ob,bM (some 1) (h.get i) k [x]=some ob∧Own (h.set i ob) e 1 v (cs.set k x)∧I h (h.set i ob) (bn v):=by
 rcases bc with ⟨_,rfl⟩ | ⟨i,len,cap,c,ex,rfl,hi,aB,hlen,cu,fA⟩
 ·simp at hk
 ·simp only [Nat.mul_one] at hlen cu fA
  have dk:len≤c.length:=by
   have:=congrArg List.length cu
   rw [List.length_take,hlen] at this
   omega
  have oR:cs[k]?=c[k]?:=by rw [←cu,List.getElem?_take,if_pos (by omega)]
  have rn:k<c.length:=by omega
  have xy:cs[k]=c[k]:=by
   rw [List.getElem?_eq_getElem hk,List.getElem?_eq_getElem rn] at oR
   exact Option.some.inj oR
  refine ⟨i,?_,rfl,⟨c.drop (k+1),?_⟩,fun x bc=>?_⟩
  ·rw [Rr,ad,Yt,if_pos ⟨by omega,by omega⟩]
   simp
  ·rw [aB,P0,if_pos (by omega),List.drop_eq_getElem_cons rn,xy]
  ·refine ⟨.cells (c.set k x) e ex,?_,.inr ⟨i,len,cap,c.set k x,ex,rfl,hi,by simp [J.set],by simp [hlen],?_,?_⟩,(I.set h i _).mono fun k hk=>by subst hk;rfl⟩
   ·rw [aB,sZ bc,if_pos rn]
   ·rw [Nat.mul_one,←cu,List.take_set]
   ·simpa using fA
inductive mg where
 | bool | int (k:IntKind) | str | bp (s:mg) | unit | cat (a b:mg)
def mg.width:mg→Nat
 | .unit=>0
 | .cat a b=>a.width+b.width
 | _=>1
def mg.fits:mg→List V→Prop
 | .bool,l=>∃ b,l=[.bool b]
 | .int k,l=>∃ n,l=[.int k n]∧(Lit.int k n).wf=true
 | .str,l=>∃ s,l=[.string s]
 | .bp s,l=>∃ es:List (List V),l=[.ag es.length es.flatten]∧∀ e ∈ es,s.fits e
 | .unit,l=>l=[]
 | .cat a b,l=>∃ ff eY,l=ff++eY∧a.fits ff∧b.fits eY
theorem mg.vE:∀ {s:mg} {l:List V},s.fits l→l.length=s.width
 | .bool,_,⟨_,h⟩=>by subst h;rfl
 | .int _,_,⟨_,h,_⟩=>by subst h;rfl
 | .str,_,⟨_,h⟩=>by subst h;rfl
 | .bp _,_,⟨_,h,_⟩=>by subst h;rfl
 | .unit,_,h=>by have:_=[]:=h;subst this;rfl
 | .cat a b,_,⟨ff,eY,h,h1,ae⟩=>by subst h;rw [List.length_append,mg.vE h1,mg.vE ae];rfl
def HT (P:Program) (g:TypeId→Option mg):Nat→List Field→Option mg
 | _,[]=>some .unit
 | o,f::dT=>
  if f.offset=o then
   match g f.type,HT P g (o+P.cellsOf f.type) dT with
   | some s,some r=>if s.width=P.cellsOf f.type then some (.cat s r) else none
   | _,_=>none
  else none
def shapeOf (P:Program):Nat→TypeId→Option mg
 | 0,_=>none
 | n+1,t=>
  match P.underlying t with
  | some .bool=>some .bool
  | some (.int k)=>some (.int k)
  | some .string=>some .str
  | some (.slice e)=>match shapeOf P n e with | some s=>if s.width=P.cellsOf e∧0<s.width then some (.bp s) else none | none=>none
  | some (.struct dT)=>match HT P (shapeOf P n) 0 dT.toList with | some s=>if s.width=P.cellsOf t then some s else none | none=>none
  | _=>none
theorem YA {α:Type} {cF:Nat→α→Prop}:∀ (n:Nat),(∀ i,i<n→∃ e,cF i e)→∃ es:List α,es.length=n∧∀ i e,es[i]?=some e→cF i e
 | 0,_=>⟨[],rfl,by simp⟩
 | n+1,h=>by
  obtain ⟨es,h1,ae⟩:=YA n fun i hi=>h i (by omega)
  obtain ⟨e,he⟩:=h n (by omega)
  refine ⟨es++[e],by simp [h1],fun i x ak=>?_⟩
  by_cases hi:i<es.length
  ·rw [List.getElem?_append_left hi] at ak;exact ae i x ak
  ·rw [List.getElem?_append_right (by omega)] at ak
   have:i - es.length=0:=by
    have:=(List.getElem?_eq_some_iff.1 ak).1
    simp at this;omega
   rw [this] at ak
   simp at ak
   subst ak
   rw [show i=n by omega]
   exact he
theorem YB {α:Type} {sz:Nat} (eH:0<sz):∀ {es:List (List α)} {k:Nat} {v:α},(∀ e ∈ es,e.length=sz)→es.flatten[k]?=some v→∃ e,es[k / sz]?=some e∧e[k % sz]?=some v
 | [],k,v,_,h=>by simp at h
 | e::es,k,v,aM,h=>by
  have he:=aM e (by simp)
  rw [List.flatten_cons] at h
  by_cases hk:k<sz
  ·rw [List.getElem?_append_left (by omega)] at h
   exact ⟨e,by rw [Nat.div_eq_of_lt hk];rfl,by rw [Nat.mod_eq_of_lt hk];exact h⟩
  ·rw [List.getElem?_append_right (by omega),he] at h
   obtain ⟨x,h1,ae⟩:=YB eH (fun e h=>aM e (by simp [h])) h
   refine ⟨x,?_,?_⟩
   ·rw [show k / sz=(k - sz) / sz+1 by rw [Nat.div_eq_sub_div eH (by omega)]]
    simpa using h1
   ·rw [Nat.mod_eq_sub_mod (by omega)];exact ae
theorem YC {α:Type} {sz:Nat}:∀ {es:List (List α)},(∀ e ∈ es,e.length=sz)→es.flatten.length=es.length * sz
 | [],_=>by simp
 | e::es,h=>by
  rw [List.flatten_cons,List.length_append,h e (by simp),YC fun e he=>h e (by simp [he]),List.length_cons,Nat.add_mul]
  omega
section
variable {H:Type} {enc:TypeId×Value→H} {P:Program} {w:World} {base:Nat} {spare:Nat→Bool} {held:Bool}
theorem y4 {a:Addr} {n:Nat} {cs:List Value} (h:w.cells? base a n=some cs):cs.length=n∧∀ j,j<n→w.cell? (a.add j)=cs[j]?:=by
 unfold World.cells? at h
 split at h
 case isFalse=>cases h
 exact ⟨by simpa using mapM_some_length h,fun j aX=>by simpa using mapM_some_get h j j (by simp [aX])⟩
theorem ajB {g:TypeId→Option mg} {cs:List Value} {fu:Nat} (aB:∀ t s fuel cs x,g t=some s→DataW.trod enc P w base spare held fuel t cs=some x→∃ l,s.fits l∧bx (l0 w) l cs) :
  ∀ (dT:List Field) (o:Nat) (s:mg) (xs:List (DataW H×List MemPlace)),HT P g o dT=some s→xs.length=dT.length →
   (∀ (i:Nat) (f:Field),dT[i]?=some f→DataW.trod enc P w base spare held fu f.type ((cs.drop f.offset).take (P.cellsOf f.type))=xs[i]?)→∃ l,s.fits l∧bx (l0 w) l ((cs.drop o).take s.width)
 | [],o,s,xs,ad,_,_=>by
  simp [HT] at ad
  subst ad
  exact ⟨[],rfl,by simpa [mg.width] using bx.nil _⟩
 | f::dT,o,s,xs,ad,aM,ak=>by
  unfold HT at ad
  split at ad
  case isFalse=>cases ad
  rename_i bc
  split at ad
  case h_2=>cases ad
  rename_i s1 s2 h1 ae
  split at ad
  case isFalse=>cases ad
  rename_i hw
  obtain rfl:=Option.some.inj ad
  cases xs with
  | nil=>simp at aM
  | cons x xs=>
   have Bj:=ak 0 f rfl
   obtain ⟨ff,f1,cA⟩:=aB _ _ _ _ _ h1 Bj
   obtain ⟨eY,f2,eb⟩:=ajB aB dT _ s2 xs ae (by simpa using aM) fun i cx aC=>ak (i+1) cx (by simpa using aC)
   refine ⟨ff++eY,⟨ff,eY,rfl,f1,f2⟩,?_⟩
   have:=cA.append eb
   rw [bc,←hw] at this
   have e:((cs.drop o).take s1.width)++((cs.drop (o+s1.width)).take s2.width)=(cs.drop o).take (s1.width+s2.width):=by
    rw [List.take_add,List.drop_drop]
   rw [e] at this
   exact this
theorem reads:∀ (n:Nat) (t:TypeId) (s:mg) (fuel:Nat) (cs:List Value) (x:DataW H×List MemPlace),shapeOf P n t=some s→DataW.trod enc P w base spare held fuel t cs=some x→∃ l,s.fits l∧bx (l0 w) l cs
 | 0,_,_,_,_,_,ad,_=>by simp [shapeOf] at ad
 | n+1,t,s,fuel,cs,x,ad,h=>by
  unfold shapeOf at ad
  split at ad
  ·rename_i hu
   obtain rfl:=Option.some.inj ad
   obtain ⟨b,rfl,_⟩:=DataW.trod_bool hu h
   exact ⟨[.bool b],⟨b,rfl⟩,.cons (.bool b) (.nil _)⟩
  ·rename_i k hu
   obtain rfl:=Option.some.inj ad
   obtain ⟨m,rfl,_,hw⟩:=DataW.trod_int hu h
   exact ⟨[.int k m],⟨m,rfl,hw⟩,.cons (.int k m) (.nil _)⟩
  ·rename_i hu
   obtain rfl:=Option.some.inj ad
   obtain ⟨b,rfl,_⟩:=DataW.trod_string hu h
   exact ⟨[.string b],⟨b,rfl⟩,.cons (.string b) (.nil _)⟩
  ·rename_i e hu
   split at ad
   case h_2=>cases ad
   rename_i s1 gm
   split at ad
   case isFalse=>cases ad
   rename_i hw
   obtain rfl:=Option.some.inj ad
   rcases DataW.trod_slice hu h with ⟨rfl,_⟩ | ⟨a,len,cap,elems,rest,m,_,rfl,_,_,jT,_,xy,oR,_⟩
   ·exact ⟨[.ag 0 []],⟨[],rfl,by simp⟩,.cons (.jE none 0 (by simp)) (.nil _)⟩
   ·rcases Nat.eq_zero_or_pos len with h0 | eH
    ·subst h0
     exact ⟨[.ag 0 []],⟨[],rfl,by simp⟩,.cons (.jE (some a) cap (by simp)) (.nil _)⟩
    ·have each:∀ i,i<len→∃ l:List V,s1.fits l∧∃ ci:List Value,bx (l0 w) l ci∧∀ j,j<s1.width→w.cell? ((a.add (i * s1.width)).add j)=ci[j]?∧j<ci.length:=fun i hi=>by
      have h1:=oR i hi
      have ae:∃ y,elems[i]?=some y:=⟨_,List.getElem?_eq_getElem (by omega)⟩
      obtain ⟨y,bs⟩:=ae
      rw [bs,Option.bind_eq_some_iff] at h1
      obtain ⟨ci,jc,iJ⟩:=h1
      obtain ⟨l,f1,cA⟩:=reads n e s1 m ci y gm iJ
      rw [←hw.1] at jc
      obtain ⟨g1,g2⟩:=y4 jc
      exact ⟨l,f1,ci,cA,fun j aX=>⟨g2 j aX,by omega⟩⟩
     obtain ⟨es,ye,rp⟩:=YA len each
     have gh:∀ e ∈ es,s1.fits e:=fun e he=>by
      obtain ⟨i,hi⟩:=List.getElem?_of_mem he
      exact (rp i e hi).1
     have hlen:∀ e ∈ es,e.length=s1.width:=fun e he=>mg.vE (gh e he)
     obtain ⟨b,off,sp⟩:=a
     have mE:∃ v,w.cell? ⟨b,off,sp⟩=some v:=by
      obtain ⟨_,ci,_,aF⟩:=(rp 0 es[0] (List.getElem?_eq_getElem (by omega)))
      obtain ⟨cq,cP⟩:=aF 0 hw.2
      rw [Nat.zero_mul] at cq
      simp only [Addr.add,if_true] at cq
      exact ⟨_,cq.trans (List.getElem?_eq_getElem cP)⟩
     obtain ⟨v0,o5⟩:=mE
     have av:∃ arr nW ky,w.heap[b]?=some (.cells arr nW ky)∧sp=none:=by
      unfold World.cell? at o5
      split at o5
      ·rename_i c nW ky af
       refine ⟨c,nW,ky,af,?_⟩
       cases sp with
       | none=>rfl
       | some _=>simp at o5
      ·cases o5
     obtain ⟨arr,nW,ky,av,rfl⟩:=av
     have A1:∀ m,w.cell? (Addr.add ⟨b,off,none⟩ m)=arr[off+m]?:=fun m=>by
      rw [Addr.add_mid]
      simp [World.cell?,av]
     have sg:∀ i j,j<s1.width→w.cell? ((Addr.add ⟨b,off,none⟩ (i * s1.width)).add j)=arr[off+(i * s1.width+j)]?:=fun i j _=>by
      rw [Addr.add_mid,Addr.add_mid]
      simp [World.cell?,av,Nat.add_assoc]
     refine ⟨[.ag es.length es.flatten],⟨es,rfl,gh⟩,.cons ?_ (.nil _)⟩
     rw [ye]
     refine .ag off len cap (Rw av) jT ?_ fun k v v' h1 ae=>?_
     ·rw [YC hlen,ye]
      obtain ⟨_,ci,_,aF⟩:=(rp (len - 1) es[len - 1] (List.getElem?_eq_getElem (by omega)))
      obtain ⟨cq,cP⟩:=aF (s1.width - 1) (by omega)
      rw [sg _ _ (by omega),List.getElem?_eq_getElem cP] at cq
      have ey:=(Array.getElem?_eq_some_iff.1 cq).1
      have:(len - 1) * s1.width+s1.width=len * s1.width:=by
       rw [←Nat.succ_mul];congr 1;omega
      omega
     ·obtain ⟨ar,g1,g2⟩:=YB hw.2 hlen h1
      obtain ⟨_,ci,aU,aF⟩:=rp _ ar g1
      have aX:k % s1.width<s1.width:=Nat.mod_lt _ hw.2
      obtain ⟨cq,cP⟩:=aF _ aX
      rw [sg _ _ aX,show k / s1.width * s1.width+k % s1.width=k by rw [Nat.mul_comm];exact Nat.div_add_mod k s1.width,ae] at cq
      exact aU.2 _ _ _ g2 cq.symm
  ·rename_i dT hu
   split at ad
   case h_2=>cases ad
   rename_i s1 gm
   split at ad
   case isFalse=>cases ad
   rename_i hw
   obtain rfl:=Option.some.inj ad
   obtain ⟨xs,m,_,_,dk,qj,ak⟩:=DataW.trod_struct hu h
   obtain ⟨l,f1,cA⟩:=ajB (fu:=m) (fun t s fuel cs x h1 ae=>reads n t s fuel cs x h1 ae) dT.toList 0 s1 xs gm (by simpa using qj) fun i f aC=>ak i f (by simpa using aC)
   rw [List.drop_zero,hw,←dk,List.take_length] at cA
   exact ⟨l,f1,cA⟩
  ·cases ad
theorem auf {n:Nat} {t e:TypeId} {s:mg} {a:Option Addr} {len cap:Nat} {d:DataW H} {ps:List MemPlace} (hu:P.underlying t=some (.slice e)) (ad:shapeOf P n e=some s) (hw:s.width=P.cellsOf e∧0<s.width)
  (h:DataW.Trod enc P w base spare held t (.slice a len cap) d ps) :
  ∃ es:List (List V),(∀ x ∈ es,s.fits x)∧a1 (l0 w) (.ag es.length es.flatten) (.slice a len cap)∧(es.length=0∨∃ el sp,d=.slice el sp∧es.length=el.length):=by
 obtain ⟨fuel,aC⟩:=h
 obtain ⟨l,⟨es,rfl,oI⟩,aU⟩:=reads (n+1) t (.bp s) fuel _ _ (by simp only [shapeOf,hu,ad,if_pos hw]) aC
 have aN:a1 (l0 w) (.ag es.length es.flatten) (.slice a len cap):=aU.2 0 _ _ rfl rfl
 refine ⟨es,oI,aN,?_⟩
 have aM:es.length=len:=by
  generalize af:es.length=m at aN
  generalize es.flatten=c at aN
  rcases aN.pX with ⟨rfl,_,_,_,_,U⟩ | ⟨_,_,_,_,_,_,_,_,U⟩<;>· simp at U;omega
 rcases DataW.trod_slice hu aC with ⟨aF,_⟩ | ⟨a2,pn,ny,elems,rest,m,_,aF,ak,_,_,_,xy,_⟩
 ·simp [Value.cells] at aF
  left;omega
 ·simp [Value.cells] at aF
  right
  exact ⟨_,_,(congrArg Prod.fst ak),by simp [aM,xy,aF.2.1]⟩
end
def mg.iK:mg→List V→Prop
 | .bool,l=>∃ b,l=[.bool b]
 | .int k,l=>∃ n,l=[.int k n]∧(Lit.int k n).wf=true
 | .str,l=>∃ s,l=[.string s]
 | .bp s,l=>∃ es:List (List V),l=[.ag es.length es.flatten]∧es.length<2 ^ 47∧∀ e ∈ es,s.iK e
 | .unit,l=>l=[]
 | .cat a b,l=>∃ ff eY,l=ff++eY∧a.iK ff∧b.iK eY
theorem mg.um:∀ {s:mg} {l:List V},s.iK l→l.length=s.width
 | .bool,_,⟨_,h⟩=>by subst h;rfl
 | .int _,_,⟨_,h,_⟩=>by subst h;rfl
 | .str,_,⟨_,h⟩=>by subst h;rfl
 | .bp _,_,⟨_,h,_⟩=>by subst h;rfl
 | .unit,_,h=>by have:_=[]:=h;subst this;rfl
 | .cat a b,_,⟨ff,eY,h,h1,ae⟩=>by subst h;rw [List.length_append,mg.um h1,mg.um ae];rfl
def m5 (P:Program):Nat→TypeId→Option mg
 | 0,_=>none
 | n+1,t=>
  match P.underlying t with
  | some .bool=>some .bool
  | some (.int k)=>some (.int k)
  | some .string=>some .str
  | some (.slice e)=>match m5 P n e with | some s=>if s.width=P.cellsOf e∧0<s.width∧1≤P.bytesOf e then some (.bp s) else none | none=>none
  | some (.struct dT)=>match HT P (m5 P n) 0 dT.toList with | some s=>if s.width=P.cellsOf t then some s else none | none=>none
  | _=>none
theorem abg {H:Type} {P:Program} {e:TypeId} {n:Nat}:∀ {l:List (DataW H)} {d:DataW H},d ∈ l→n ∈ d.weights P e→n ∈ DataW.weightsAll P e l
 | [],_,h,_=>by simp at h
 | x::l,d,h,aG=>by
  simp only [DataW.weightsAll,List.mem_append]
  rcases List.mem_cons.1 h with rfl | h
  ·exact .inl aG
  ·exact .inr (abg h aG)
section
variable {H:Type} {enc:TypeId×Value→H} {P:Program} {w:World} {base:Nat} {spare:Nat→Bool} {held:Bool}
theorem ajC {g:TypeId→Option mg} {cs:List Value} {fu:Nat} (aB:∀ t s fuel cs x,g t=some s→DataW.trod enc P w base spare held fuel t cs=some x→(∀ n ∈ x.1.weights P t,n≤reachBytes)→∃ l,s.iK l∧bx (l0 w) l cs) :
  ∀ (dT:List Field) (o:Nat) (s:mg) (xs:List (DataW H×List MemPlace)),HT P g o dT=some s→xs.length=dT.length →
   (∀ (i:Nat) (f:Field),dT[i]?=some f→DataW.trod enc P w base spare held fu f.type ((cs.drop f.offset).take (P.cellsOf f.type))=xs[i]?)→(∀ n ∈ DataW.weightsEach P (dT.map (·.type)) (xs.map (·.1)),n≤reachBytes)→∃ l,s.iK l∧bx (l0 w) l ((cs.drop o).take s.width)
 | [],o,s,xs,ad,_,_,_=>by
  simp [HT] at ad
  subst ad
  exact ⟨[],rfl,by simpa [mg.width] using bx.nil _⟩
 | f::dT,o,s,xs,ad,aM,ak,av=>by
  unfold HT at ad
  split at ad
  case isFalse=>cases ad
  rename_i bc
  split at ad
  case h_2=>cases ad
  rename_i s1 s2 h1 ae
  split at ad
  case isFalse=>cases ad
  rename_i hw
  obtain rfl:=Option.some.inj ad
  cases xs with
  | nil=>simp at aM
  | cons x xs=>
   have Bj:=ak 0 f rfl
   obtain ⟨ff,f1,cA⟩:=aB _ _ _ _ _ h1 Bj (fun n aG=>av n (by simp only [List.map_cons,DataW.weightsEach,List.mem_append];exact .inl aG))
   obtain ⟨eY,f2,eb⟩:=ajC aB dT _ s2 xs ae (by simpa using aM) (fun i cx aC=>ak (i+1) cx (by simpa using aC)) (fun n aG=>av n (by simp only [List.map_cons,DataW.weightsEach,List.mem_append];exact .inr aG))
   refine ⟨ff++eY,⟨ff,eY,rfl,f1,f2⟩,?_⟩
   have:=cA.append eb
   rw [bc,←hw] at this
   have e:((cs.drop o).take s1.width)++((cs.drop (o+s1.width)).take s2.width)=(cs.drop o).take (s1.width+s2.width):=by
    rw [List.take_add,List.drop_drop]
   rw [e] at this
   exact this
theorem YD:∀ (n:Nat) (t:TypeId) (s:mg) (fuel:Nat) (cs:List Value) (x:DataW H×List MemPlace),m5 P n t=some s→DataW.trod enc P w base spare held fuel t cs=some x→(∀ n ∈ x.1.weights P t,n≤reachBytes)→∃ l,s.iK l∧bx (l0 w) l cs
 | 0,_,_,_,_,_,ad,_,_=>by simp [m5] at ad
 | n+1,t,s,fuel,cs,x,ad,h,cp=>by
  unfold m5 at ad
  split at ad
  ·rename_i hu
   obtain rfl:=Option.some.inj ad
   obtain ⟨b,rfl,_⟩:=DataW.trod_bool hu h
   exact ⟨[.bool b],⟨b,rfl⟩,.cons (.bool b) (.nil _)⟩
  ·rename_i k hu
   obtain rfl:=Option.some.inj ad
   obtain ⟨m,rfl,_,hw⟩:=DataW.trod_int hu h
   exact ⟨[.int k m],⟨m,rfl,hw⟩,.cons (.int k m) (.nil _)⟩
  ·rename_i hu
   obtain rfl:=Option.some.inj ad
   obtain ⟨b,rfl,_⟩:=DataW.trod_string hu h
   exact ⟨[.string b],⟨b,rfl⟩,.cons (.string b) (.nil _)⟩
  ·rename_i e hu
   split at ad
   case h_2=>cases ad
   rename_i s1 gm
   split at ad
   case isFalse=>cases ad
   rename_i hw
   obtain rfl:=Option.some.inj ad
   rcases DataW.trod_slice hu h with ⟨rfl,_⟩ | ⟨a,len,cap,elems,rest,m,_,rfl,vq,_,jT,_,xy,oR,_⟩
   ·exact ⟨[.ag 0 []],⟨[],rfl,by decide,by simp⟩,.cons (.jE none 0 (by simp)) (.nil _)⟩
   ·rcases Nat.eq_zero_or_pos len with h0 | eH
    ·subst h0
     exact ⟨[.ag 0 []],⟨[],rfl,by decide,by simp⟩,.cons (.jE (some a) cap (by simp)) (.nil _)⟩
    ·have each:∀ i,i<len→∃ l:List V,s1.iK l∧∃ ci:List Value,bx (l0 w) l ci∧∀ j,j<s1.width→w.cell? ((a.add (i * s1.width)).add j)=ci[j]?∧j<ci.length:=fun i hi=>by
      have h1:=oR i hi
      have ae:∃ y,elems[i]?=some y:=⟨_,List.getElem?_eq_getElem (by omega)⟩
      obtain ⟨y,bs⟩:=ae
      rw [bs,Option.bind_eq_some_iff] at h1
      obtain ⟨ci,jc,iJ⟩:=h1
      obtain ⟨l,f1,cA⟩:=YD n e s1 m ci y gm iJ (fun n aG=>cp n (by
       rw [vq]
       simp only [DataW.weights,hu]
       exact List.mem_cons_of_mem _ (List.mem_append_left _ (abg (List.mem_map.2 ⟨y,List.mem_of_getElem? bs,rfl⟩) aG))))
      rw [←hw.1] at jc
      obtain ⟨g1,g2⟩:=y4 jc
      exact ⟨l,f1,ci,cA,fun j aX=>⟨g2 j aX,by omega⟩⟩
     obtain ⟨es,ye,rp⟩:=YA len each
     have gh:∀ e ∈ es,s1.iK e:=fun e he=>by
      obtain ⟨i,hi⟩:=List.getElem?_of_mem he
      exact (rp i e hi).1
     have hlen:∀ e ∈ es,e.length=s1.width:=fun e he=>mg.um (gh e he)
     obtain ⟨b,off,sp⟩:=a
     have mE:∃ v,w.cell? ⟨b,off,sp⟩=some v:=by
      obtain ⟨_,ci,_,aF⟩:=(rp 0 es[0] (List.getElem?_eq_getElem (by omega)))
      obtain ⟨cq,cP⟩:=aF 0 hw.2.1
      rw [Nat.zero_mul] at cq
      simp only [Addr.add,if_true] at cq
      exact ⟨_,cq.trans (List.getElem?_eq_getElem cP)⟩
     obtain ⟨v0,o5⟩:=mE
     have av:∃ arr nW ky,w.heap[b]?=some (.cells arr nW ky)∧sp=none:=by
      unfold World.cell? at o5
      split at o5
      ·rename_i c nW ky af
       refine ⟨c,nW,ky,af,?_⟩
       cases sp with
       | none=>rfl
       | some _=>simp at o5
      ·cases o5
     obtain ⟨arr,nW,ky,av,rfl⟩:=av
     have A1:∀ m,w.cell? (Addr.add ⟨b,off,none⟩ m)=arr[off+m]?:=fun m=>by
      rw [Addr.add_mid]
      simp [World.cell?,av]
     have sg:∀ i j,j<s1.width→w.cell? ((Addr.add ⟨b,off,none⟩ (i * s1.width)).add j)=arr[off+(i * s1.width+j)]?:=fun i j _=>by
      rw [Addr.add_mid,Addr.add_mid]
      simp [World.cell?,av,Nat.add_assoc]
     have bz:es.length<2 ^ 47:=by
      have h0:=cp ((elems.length+rest.length) * P.bytesOf e) (by rw [vq];simp [DataW.weights,hu])
      have h1:=Nat.le_trans (Nat.le_mul_of_pos_right _ hw.2.2) h0
      have ae:=reachBytes_lt
      omega
     refine ⟨[.ag es.length es.flatten],⟨es,rfl,bz,gh⟩,.cons ?_ (.nil _)⟩
     rw [ye]
     refine .ag off len cap (Rw av) jT ?_ fun k v v' h1 ae=>?_
     ·rw [YC hlen,ye]
      obtain ⟨_,ci,_,aF⟩:=(rp (len - 1) es[len - 1] (List.getElem?_eq_getElem (by omega)))
      obtain ⟨cq,cP⟩:=aF (s1.width - 1) (by omega)
      rw [sg _ _ (by omega),List.getElem?_eq_getElem cP] at cq
      have ey:=(Array.getElem?_eq_some_iff.1 cq).1
      have:(len - 1) * s1.width+s1.width=len * s1.width:=by
       rw [←Nat.succ_mul];congr 1;omega
      omega
     ·obtain ⟨ar,g1,g2⟩:=YB hw.2.1 hlen h1
      obtain ⟨_,ci,aU,aF⟩:=rp _ ar g1
      have aX:k % s1.width<s1.width:=Nat.mod_lt _ hw.2.1
      obtain ⟨cq,cP⟩:=aF _ aX
      rw [sg _ _ aX,show k / s1.width * s1.width+k % s1.width=k by rw [Nat.mul_comm];exact Nat.div_add_mod k s1.width,ae] at cq
      exact aU.2 _ _ _ g2 cq.symm
  ·rename_i dT hu
   split at ad
   case h_2=>cases ad
   rename_i s1 gm
   split at ad
   case isFalse=>cases ad
   rename_i hw
   obtain rfl:=Option.some.inj ad
   obtain ⟨xs,m,_,vq,dk,qj,ak⟩:=DataW.trod_struct hu h
   obtain ⟨l,f1,cA⟩:=ajC (fu:=m) (fun t s fuel cs x h1 ae aA=>YD n t s fuel cs x h1 ae aA) dT.toList 0 s1 xs gm (by simpa using qj) (fun i f aC=>ak i f (by simpa using aC)) (fun n aG=>cp n (by rw [vq];simp only [DataW.weights,hu];exact aG))
   rw [List.drop_zero,hw,←dk,List.take_length] at cA
   exact ⟨l,f1,cA⟩
  ·cases ad
theorem abh {n:Nat} {t e:TypeId} {s:mg} {a:Option Addr} {len cap:Nat} {d:DataW H} {ps:List MemPlace} (hu:P.underlying t=some (.slice e)) (ad:m5 P n e=some s) (hw:s.width=P.cellsOf e∧0<s.width∧1≤P.bytesOf e) (cp:∀ n ∈ d.weights P t,n≤reachBytes)
  (h:DataW.Trod enc P w base spare held t (.slice a len cap) d ps) :
  ∃ es:List (List V),(∀ x ∈ es,s.iK x)∧a1 (l0 w) (.ag es.length es.flatten) (.slice a len cap)∧es.length<2 ^ 47:=by
 obtain ⟨fuel,aC⟩:=h
 obtain ⟨l,⟨es,rfl,aG,oI⟩,aU⟩:=YD (n+1) t (.bp s) fuel _ _ (by simp only [m5,hu,ad,if_pos hw]) aC cp
 exact ⟨es,oI,aU.2 0 _ _ rfl rfl,aG⟩
end
variable {P:Program} {t:TypeId} {T:qi}
theorem ajD {tx:TypeId} (cS:jq P t=some T) {h:J} {src:V} {n c:Nat} {cs:List V} {k k':IntKind} (ad:Jz src=some n) (aC:∀ h',I h h' none_→Cu T.sz n src h'=some cs) (b3:cs.all (·.one)=true) (hlen:cs.length=n * T.sz)
  (JU:n≤c) (h1:T.an * c≤140737488355328) (ae:c≤140737488355328) :
  ∃ h1 ae,GW P t (.int k (n:Int)) (.int k' (c:Int)) h=some (.bp h.n 0 n c,h1)∧GX P t (.bp h.n 0 n c) src h1=some (.int .i64 n,ae)∧Own ae T.e T.sz (.bp h.n 0 n c) cs∧I h h1 none_∧I h ae none_:=by
 obtain ⟨he,b4,bz,lz,iP,_⟩:=wm cS
 have hJ:(made T.zs c).length=c * T.sz:=by rw [A5,iP]
 have hle:=Nat.mul_le_mul_right T.sz JU
 have mn:I h (h.push (.cells (made T.zs c) T.e none)) none_:=I.push _ _ _
 obtain ⟨si,aF,rfl⟩:=aqL (P:=P) (t:=t) (T:=T) (tx:=t) (i:=h.n) (cap:=c) (c:=made T.zs c) (src:=src) (h:=h.push (.cells (made T.zs c) T.e none)) cS b6 ad (aC _ mn) b3 (by omega)
 refine ⟨_,_,Yy cS JU h1 ae,aF,.inr ⟨h.n,n,c,_,none,rfl,?_,aL,hlen,?_,.inl ⟨by unfold cN;omega,?_,JU⟩⟩,mn,mn.iQ (Nat.le_refl _) _⟩
 ·rw [iw,eA];omega
 ·unfold lay
  rw [List.take_zero,List.nil_append,List.take_append_of_le_length (by omega),List.take_of_length_le (by omega)]
 ·rw [qc _ _ _ (by omega),hJ];exact Nat.le_refl _
def YE (P:Program) (l:Nat) (rest:Code) (Q:Exit→Act→World→Prop):Nat→Act→World→Prop
 | 0,_,_=>False
 | m+1,a,w=>rest.wp P (Exit.jump l (YE P l rest Q m) Q) a w
theorem aqN {P:Program} {c rest:Code} {l:Nat} {Q:Exit→Act→World→Prop} {a:Act} {w:World} (aC:findLabel c l=some rest) (m:Nat)
  (first:c.wp P (Exit.jump l (YE P l rest Q m) Q) a w):(Code.scope c).wp P Q a w:=by
 intro b k cs
 have aB:gotoIn l (.inScope c::k)=some (.code rest::.inScope c::k):=by simp [gotoIn,aC]
 have key:∀ m a w,YE P l rest Q m a w→∃ e mq w',Q e mq w'∧Arrives P (lone (b.at a (.code rest::.inScope c::k)) cs w) b k cs e mq w':=by
  intro m
  induction m with
  | zero=>intro a w h;exact h.elim
  | succ m ih=>
   intro a w p6
   obtain ⟨e,a₁,w₁,af,qL⟩:=p6 b (.inScope c::k) cs
   cases e with
   | normal=>exact ⟨.normal,a₁,w₁,af,Steps.trans qL (.one step_inScope)⟩
   | exit id=>exact ⟨.exit id,a₁,w₁,af,fun k' hk=>qL k' (by simp [exitTo,hk])⟩
   | goto ck=>
    obtain ⟨rfl,RC⟩:=af
    obtain ⟨e₂,a₂,w₂,hq₂,harr₂⟩:=ih a₁ w₁ RC
    exact ⟨e₂,a₂,w₂,hq₂,.of_steps (qL _ aB) harr₂⟩
   | ret=>exact ⟨_,a₁,w₁,af,qL⟩
   | panic nv=>exact ⟨_,a₁,w₁,af,qL⟩
   | outgrown=>exact ⟨_,a₁,w₁,af,qL⟩
 obtain ⟨e,a₁,w₁,af,qL⟩:=first b (.inScope c::k) cs
 cases e with
 | normal=>exact ⟨.normal,a₁,w₁,af,.head step_scope (Steps.trans qL (.one step_inScope))⟩
 | exit id=>exact ⟨.exit id,a₁,w₁,af,fun k' hk=>.head step_scope (qL k' (by simp [exitTo,hk]))⟩
 | goto ck=>
  obtain ⟨rfl,RC⟩:=af
  obtain ⟨e₂,a₂,w₂,hq₂,harr₂⟩:=key m a₁ w₁ RC
  exact ⟨e₂,a₂,w₂,hq₂,.of_steps (.head step_scope (qL _ aB)) harr₂⟩
 | ret=>exact ⟨_,a₁,w₁,af,.of_steps (.one step_scope) qL⟩
 | panic nv=>exact ⟨_,a₁,w₁,af,.of_steps (.one step_scope) qL⟩
 | outgrown=>exact ⟨_,a₁,w₁,af,.of_steps (.one step_scope) qL⟩
def P6 (l:Nat) (Cz:aE→J→Prop) (Q:ed→aE→J→Prop):ed→aE→J→Prop
 | .goto ck,f,h=>ck=l∧Cz f h
 | e,f,h=>Q e f h
section
variable {l:Nat} {Cz:aE→J→Prop} {Q:ed→aE→J→Prop} {f:aE} {h:J}
theorem xL:P6 l Cz Q .ret f h=Q .ret f h:=nr rfl
theorem ajE {j:Nat}:P6 l Cz Q (.goto j) f h=(j=l∧Cz f h):=nr rfl
end
theorem aP.Bk {P:Program} {n l:Nat} {c b:Code} {α:Type} (aM:findLabel c l=some (.seq .skip b)) {Q:ed→aE→J→Prop} {f:aE} {h:J} (Cz:α→aE→J→Prop) (μ:α→Nat)
  (hμ:∀ x f h,Cz x f h→μ x<1000000000000000000000)
  (pass:∀ x f h,Cz x f h→aP P n b (P6 l (fun cx h'=>@x3 ⟨∃ y,Cz y cx h'∧μ y<μ x⟩) Q) f h)
  (first:(∀ x f h,Cz x f h→aP P n b (P6 l (fun cx h'=>∃ y,Cz y cx h') Q) f h)→aP P n c (P6 l (fun cx h'=>∃ y,Cz y cx h') Q) f h):aP P n (.scope c) Q f h:=by
 have YF:∀ x f h,Cz x f h→aP P n b (P6 l (fun cx h'=>∃ y,Cz y cx h') Q) f h:=fun x f h p6=>(pass x f h p6).mono fun e cx h' af=>by
  cases e with
  | goto ck=>exact ⟨af.1,let ⟨y,bs,_⟩:=af.2;⟨y,bs⟩⟩
  | _=>exact af
 intro ρ B bg a w hw aC
 have key:∀ m x f h,Cz x f h→μ x<m→∀ ρ1:Ren,ρ.le ρ1→∀ a w,bt ρ1 B bg h w→hN ρ1 n f a→YE P l (.seq .skip b) (qF n B bg ρ Q) m a w:=by
  intro m
  induction m with
  | zero=>intro x f h _ hm;omega
  | succ m ih=>
   intro x f h Rl hm ρ1 hle a w hw aC
   refine wp_mono ((aP.seq (.skip (pass x f h Rl))) ρ1 B bg a w hw aC) fun e mq w' ⟨ρ',dm,cx,h',ak,cY,dp,kK,e0⟩=>?_
   cases dm<;>cases e<;>simp only [wg] at ak
   ·exact ⟨ρ',.normal,cx,h',trivial,cY,dp,hle.trans kK,e0⟩
   ·exact ⟨ρ',.exit _,cx,h',ak,cY,dp,hle.trans kK,e0⟩
   ·obtain ⟨rfl,y,bs,aH⟩:=e0
    exact ⟨ak.symm,ih y cx h' bs (by omega) ρ' (hle.trans kK) mq w' cY dp⟩
   ·exact ⟨ρ',.ret,cx,h',trivial,cY,dp,hle.trans kK,e0⟩
   ·exact ⟨ρ',.panic,cx,h',ak,cY,dp,hle.trans kK,e0⟩
 refine aqN aM 1000000000000000000000 (wp_mono (first YF ρ B bg a w hw aC) fun e mq w' ⟨ρ',x,cx,h',ak,cY,dp,kK,e0⟩=>?_)
 cases x<;>cases e<;>simp only [wg] at ak
 ·exact ⟨ρ',.normal,cx,h',trivial,cY,dp,kK,e0⟩
 ·exact ⟨ρ',.exit _,cx,h',ak,cY,dp,kK,e0⟩
 ·obtain ⟨rfl,y,bs⟩:=e0
  exact ⟨ak.symm,key _ y cx h' bs (hμ y cx h' bs) ρ' kK mq w' cY dp⟩
 ·exact ⟨ρ',.ret,cx,h',trivial,cY,dp,kK,e0⟩
 ·exact ⟨ρ',.panic,cx,h',ak,cY,dp,kK,e0⟩
mutual
def V.abi:V→Nat
 | .string s=>s.size+1
 | .ag _ cs=>ajF cs+1
 | _=>1
def ajF:List V→Nat
 | []=>0
 | v::r=>v.abi+ajF r
end
def Mf {α:Type} (b:α→Nat):List α→Nat
 | []=>0
 | x::r=>b x+Mf b r
structure aqO {H:Type} (b:DataW H→Nat):Prop where
 lit:∀ l,1≤b (.lit l)
 str:∀ an:List UInt8,an.length+1≤b (.lit (.string an))
 nil:1≤b .nil
 slice:∀ es sp,Mf b es+1≤b (.slice es sp)
 agg:∀ ps,Mf b ps+1≤b (.agg ps)
section
variable {H:Type} {aqP:DataW H→Nat} (ajG:aqO aqP)
include ajG
variable {enc:TypeId×Value→H} {P:Program} {w:World} {base:Nat} {spare:Nat→Bool} {held:Bool}
end
section
variable {H:Type} {enc:TypeId×Value→H} {P:Program} {w:World} {base:Nat} {spare:Nat→Bool} {held:Bool}
theorem abj {n:Nat} {t:TypeId} {s:mg} {xs:Array Value} {d:DataW H} {ps:List MemPlace} (ad:m5 P n t=some s) (cp:∀ n ∈ d.weights P t,n≤reachBytes) (h:DataW.Trod enc P w base spare held t (.agg xs) d ps) :
  ∃ l:List V,s.iK l∧a1 (l0 w) (.agg l) (.agg xs):=by
 obtain ⟨fuel,aC⟩:=h
 obtain ⟨l,h1,ae⟩:=YD n t s fuel _ _ ad aC cp
 exact ⟨l,h1,ae.nt.agg⟩
end
theorem Acc.step {h0 h h':J} {e:TypeId} {sz:Nat} {s r:V} {cs cs':List V} (a:Acc h0 h e sz s cs) (o:Own h' e sz r cs') (k:I h h' (bn s)) (d:bQ h s r):Acc h0 h' e sz r cs' :=
 ⟨o,a.aj.trans k fun j aX hi=>by have:=a.new j hi;omega,fun j aX=>by
  rcases d with d | d
  ·exact a.new j (d ▸ aX)
  ·exact Nat.le_trans a.aj.n (d j aX)⟩
theorem Acc.on {h0 h h':J} {e:TypeId} {sz:Nat} {s:V} {cs:List V} (a:Acc h0 h e sz s cs) (k:I h h' none_):Acc h0 h' e sz s cs :=
 ⟨a.own.aQ k,a.aj.trans' k,a.new⟩
theorem Acc.conv {h0 h:J} {e:TypeId} {sz:Nat} {s:V} {cs cs':List V} (a:Acc h0 h e sz s cs) (aF:cs=cs'):Acc h0 h e sz s cs':=aF ▸ a
theorem Pure.acc {P:Program} {ca:FuncId} {args:List V} {h:J} {e:TypeId} {sz n:Nat} {cs:List V} (sq:bl cs) (aG:cs.length=n * sz) (bz:0<sz)
  (aF:ab P ca args h fun r h'=>Acc h h' e sz r cs):Pure P ca args h (.ag n cs) :=
 Pure.of (bh.ag sq) (aF.mono fun r h' a=>a.cast aG bz)
section
variable {P:Program} {f:aE} {h:J}
theorem fJ {t:Tmp}:vd P f h (.tmp t)=some (f t):=rfl
theorem eI {a:Tmp} {t:TypeId}:vd P f h (.cell a t)=D3 P t (f a) h:=rfl
def Mg (x y:Option V):Option V:=match x,y with | some a,some b=>some (.tuple [a,b]) | _,_=>none
def Mh (x y z:Option V):Option V:=match x,y,z with | some a,some b,some c=>some (.tuple [a,b,c]) | _,_,_=>none
theorem fV {a b:V}:Mg (some a) (some b)=some (.tuple [a,b]):=rfl
theorem lw {a b c:V}:Mh (some a) (some b) (some c)=some (.tuple [a,b,c]):=rfl
theorem xM {r:ResultVar}:wY P [r] f h=vd P f h r:=rfl
theorem fW {r s:ResultVar}:wY P [r,s] f h=Mg (vd P f h r) (vd P f h s):=by
 cases aU:vd P f h r<;>cases ad:vd P f h s<;>simp [wY,Mg,aU,ad]
theorem JX {r s t:ResultVar}:wY P [r,s,t] f h=Mh (vd P f h r) (vd P f h s) (vd P f h t):=by
 cases aU:vd P f h r<;>cases ad:vd P f h s<;>cases bw:vd P f h t<;>simp [wY,Mh,aU,ad,bw]
end
def aO (l:List Int):List V:=l.map (V.int .i64)
theorem pb (l:List Int):(aO l).length=l.length:=by simp [aO]
theorem G6 (l:List Int):bl (aO l):=bl.map fun _ _=>bh.int _ _
theorem YG (a b:List Int):aO (a++b)=aO a++aO b:=by simp [aO]
theorem RD (l:List Int) (k:Nat) (x:Int):(aO l).set k (.int .i64 x)=aO (l.set k x):=by simp [aO,List.map_set]
theorem RE {P:Program} {α:Type} (f:α→V) {l:List α} {k:Nat} (hk:k<l.length) {t:TypeId} {kk:IntKind} (ad:e5 P t=some 1) :
  ir P t (.ag l.length (l.map f)) (.int kk (k:Int))=some (.at (f l[k]::(l.drop (k+1)).map f)):=by
 rw [JW ad (by omega) (by omega) (by simp),Int.toNat_natCast,Nat.mul_one,←List.map_drop,List.drop_eq_getElem_cons hk]
 rfl
theorem ra {P:Program} {l:List Int} {k:Nat} (hk:k<l.length) {t:TypeId} {kk:IntKind} (ad:e5 P t=some 1) :
  ir P t (.ag l.length (aO l)) (.int kk (k:Int))=some (.at (.int .i64 l[k]::aO (l.drop (k+1)))):=RE _ hk ad
theorem kf {i n:Nat} (h:i<n) (aG:n≤2 ^ 62):IntKind.i64.wrap ((i:Int)+1)=((i+1:Nat):Int):=by rw [Go.IntWalk.i64_in _ (by omega)];rfl
theorem YH {n:Nat} (h:n<2 ^ 63):IntKind.i64.wrap (n:Int)=(n:Int):=Go.IntWalk.i64_in _ (by omega)
theorem P7 {n:Nat} (h:n<2 ^ 64):IntKind.u64.wrap (n:Int)=(n:Int):=by rw [IntKind.wrap_u64];omega
theorem abk {k:IntKind}:∀ {es:List (List V)},(∀ x ∈ es,mg.iK (.int k) x)→∃ l:List Int,es=(l.map fun n=>[V.int k n])∧∀ n ∈ l,(Lit.int k n).wf=true
 | [],_=>⟨[],rfl,by simp⟩
 | e::es,h=>by
  obtain ⟨l,rfl,aM⟩:=abk (es:=es) fun x ak=>h x (by simp [ak])
  obtain ⟨n,rfl,hw⟩:=h e (by simp)
  exact ⟨n::l,rfl,fun m hm=>by
   rcases List.mem_cons.1 hm with rfl | hm
   ·exact hw
   ·exact aM m hm⟩
theorem ajH {α:Type} (f:α→V) (l:List α):(l.map fun n=>[f n]).flatten=l.map f:=by
 induction l with
 | nil=>rfl
 | cons n l ih=>simp [ih]
theorem wf_i64 {a:Int} (h:(Lit.int .i64 a).wf=true):-2 ^ 63≤a∧a<2 ^ 63:=by
 simp only [Lit.wf,Bool.and_eq_true,decide_eq_true_eq] at h
 have h1:IntKind.i64.min=-2 ^ 63:=rfl
 have ae:IntKind.i64.max=2 ^ 63 - 1:=rfl
 omega
theorem wf_u8 {a:Int} (h:(Lit.int .u8 a).wf=true):∃ n:Nat,a=n∧n<256:=by
 simp only [Lit.wf,Bool.and_eq_true,decide_eq_true_eq] at h
 have h1:IntKind.u8.min=0:=rfl
 have ae:IntKind.u8.max=255:=rfl
 exact ⟨a.toNat,by omega,by omega⟩
theorem aK.iR (h:J):aK .ah h (.ag 0 []) h:=fun ρ B bg w dY hw aN=>by
 cases aN
 exact ⟨ρ,Ren.le.refl ρ,hw,.jE none 0 (by simp)⟩
theorem Pure.args {P:Program} {ca:FuncId} {args vp:List V} {h:J} {v:V} (aF:az args h vp h) (aW:Pure P ca vp h v):Pure P ca args h v:=ab.args aF aW
theorem az.skip {v:V} {l eY:List V} {h:J} (b:az l h eY h):az (v::l) h (v::eY) h:=az.cons (aK.refl v h) b
theorem az.last {v v2:V} {h:J} (a:aK v h v2 h):az [v] h [v2] h:=az.cons a (az.refl [] h)
theorem Own.js {h:J} {e:TypeId} {sz:Nat} (c:List V) (n:Nat) (aF:c.length=n * sz) (hu:n<cN):Own (h.push (.cells c e none)) e sz (.bp h.n 0 n n) c:=by
 have bc:=Own.fresh (h:=h) (e:=e) c n n aF (Nat.le_refl _) hu
 rwa [←aF,List.take_length] at bc
def oS:V→Option Nat
 | .ptr i _=>some i
 | .bp i _ _ _=>some i
 | .map i=>some i
 | _=>none
def vF (bV:Operand→V):Op→Option Nat
 | .load _ a=>oS (bV a)
 | .lookup _ m _ _=>oS (bV m)
 | .convert _ _ x=>oS (bV x)
 | .call ⟨.builtin .len,args,_⟩=>(args.toList.map bV).head?.bind oS
 | _=>none
def G7:Op→Bool
 | .entry _=>false
 | .call ⟨.builtin .len,args,ts⟩=>args.size==1&&ts.size==1
 | o=>n9 o
def Mi (h:J):Prop:=∀ j,h.n≤j→h.get j=.dead
theorem bt.wf {ρ:Ren} {B:Nat} {bg w:World} {h:J} (R:bt ρ B bg h w):Mi h:=fun j aX=>by
 have bb:=R.heap.qb j aX
 have bc:=R.heap.obj j
 cases aB:h.get j with
 | dead=>rfl
 | cells c e ex=>rw [aB] at bc;obtain ⟨b,cm,arr,aU,_⟩:=bc;rw [bb] at aU;cases aU
 | map es c=>rw [aB] at bc;obtain ⟨b,cm,arr,aU,_⟩:=bc;rw [bb] at aU;cases aU
 | iter m s l st=>rw [aB] at bc;obtain ⟨b,cm,bm,GU,aU,_⟩:=bc;rw [bb] at aU;cases aU
 | o3 b mk vs=>rw [aB] at bc;obtain ⟨cm,arr,aU,_⟩:=bc;rw [bb] at aU;cases aU
section
variable {P:Program} {h h':J} {M:Nat→Prop}
theorem I.live (hw:Mi h) (hk:I h h' M) {i:Nat} (hm:¬M i) (bb:h.get i≠.dead):h'.get i=h.get i:=by
 rcases Nat.lt_or_ge i h.n with aH | rh
 ·exact hk.get i aH hm
 ·exact absurd (hw i rh) bb
theorem aqQ (hk:I h h' M) (f:aE) (x:Operand):f.eval h' x=f.eval h x:=by
 cases x<;>simp [aE.eval,hk.glob]
theorem aqR (hw:Mi h) (hk:I h h' M) {x:V} (hm:∀ i,oS x=some i→¬M i) {cs:List V} (aW:jp h x=some cs):jp h' x=some cs:=by
 cases x<;>simp [jp] at aW⊢
 case ptr i o=>
  have bb:h.get i≠.dead:=fun U=>by rw [U] at aW;simp at aW
  rw [hk.live hw (hm i rfl) bb];exact aW
 case «at» cs'=>exact aW
theorem aqS (hw:Mi h) (hk:I h h' M) {t:TypeId} {x:V} (hm:∀ i,oS x=some i→¬M i) {v:V} (aM:D3 P t x h=some v):D3 P t x h'=some v:=by
 rw [aji] at aM⊢
 cases aW:jp h x with
 | none=>rw [aW] at aM;unfold cX at aM;split at aM<;>simp_all
 | some cs=>rw [aW] at aM;rw [aqR hw hk hm aW];exact aM
theorem aqT {t:TypeId} {m k:V} {ok:Bool} (e:∀ i,oS m=some i→h'.get i=h.get i):n5 P t m k ok h'=n5 P t m k ok h:=by
 unfold n5
 cases gR P t with
 | none=>rfl
 | some q=>
  obtain ⟨hg,nW,d⟩:=q
  simp only
  split
  ·rfl
  ·rw [e _ rfl]
  ·rfl
theorem aqU {s d:TypeId} {x:V} (e:∀ i,oS x=some i→h'.get i=h.get i):qJ P s d x h'=qJ P s d x h:=by
 unfold qJ
 cases (r3 x).bind fun a=>e8 P (convert s d a) with
 | some v=>rfl
 | none=>
  simp only
  split
  ·rfl
  ·rw [e _ rfl]
  ·rfl
  ·rfl
theorem aqV {t:TypeId} {x:V} (e:∀ i,oS x=some i→h'.get i=h.get i):fU P t x h'=fU P t x h:=by
 unfold fU
 split
 all_goals first | rfl | rw [e _ rfl]
theorem aqW {t:TypeId} {m k:V} {ok:Bool} (bb:∀ i,oS m=some i→h.get i=.dead) {v:V} (aM:n5 P t m k ok h=some v):n5 P t m k ok h'=some v:=by
 unfold n5 at aM⊢
 cases af:gR P t with
 | none=>rw [af] at aM;cases aM
 | some q=>
  rw [af] at aM
  obtain ⟨hg,nW,d⟩:=q
  simp only at aM⊢
  split at aM
  ·exact aM
  ·rw [bb _ rfl] at aM;cases aM
  ·cases aM
theorem aqX {s d:TypeId} {x:V} (bb:∀ i,oS x=some i→h.get i=.dead) {v:V} (aM:qJ P s d x h=some v):qJ P s d x h'=some v:=by
 unfold qJ at aM⊢
 cases af:(r3 x).bind fun a=>e8 P (convert s d a) with
 | some u=>rw [af] at aM;exact aM
 | none=>
  rw [af] at aM
  simp only at aM⊢
  split at aM
  ·exact aM
  ·split at aM
   ·rw [bb _ rfl] at aM;cases aM
   ·cases aM
  ·exact aM
  ·cases aM
theorem aqY {t:TypeId} {x:V} (bb:∀ i,oS x=some i→h.get i=.dead) {v:V} (aM:fU P t x h=some v):fU P t x h'=some v:=by
 unfold fU at aM⊢
 split at aM
 all_goals first | exact aM | (rw [bb _ rfl] at aM;cases aM) | skip
 all_goals (cases aM;done)
theorem abl (hw:Mi h) (hk:I h h' M) {x:V} (hm:∀ i,oS x=some i→¬M i):(∀ i,oS x=some i→h'.get i=h.get i)∨(∀ i,oS x=some i→h.get i=.dead):=by
 cases ak:oS x with
 | none=>left;intro i hi;cases hi
 | some j=>
  by_cases bb:h.get j=.dead
  ·right;intro i hi;simp at hi;subst hi;exact bb
  ·left;intro i hi;simp at hi;subst hi;exact hk.live hw (hm j ak) bb
theorem aqZ {c:Call} (h:G7 (.call c)=true):c.callee=.builtin .len∨c.callee=.builtin .min∨c.callee=.builtin .max:=by
 obtain ⟨callee,args,ts⟩:=c
 cases callee with
 | builtin b=>cases b<;>simp [G7,n9] at h⊢
 | _=>simp [G7,n9] at h
theorem aq0 (hw:Mi h) (hk:I h h' M) {o:Oper} {bV:Operand→V} (hi:G7 o.op=true) (hm:∀ i,vF bV o.op=some i→¬M i) {v:V} (he:gS P o bV h=some (.val v h)):gS P o bV h'=some (.val v h'):=by
 have En:∀ {x y:Option V},lM x h=some (.val v h)→(∀ u,x=some u→y=some u)→lM y h'=some (.val v h'):=fun {x y} ak bs=>by
  obtain ⟨ar,_⟩:=zJ ak
  rw [bs _ ar];rfl
 obtain ⟨dst,op,type,pos,after,guard⟩:=o
 have RF:=hi
 cases op<;>simp [G7,n9] at hi<;>simp only [gS] at he⊢
 case move x=>simp at he;rw [he]
 case assign x=>simp at he;rw [he]
 case pick c a b=>split at he<;>simp at he⊢;exact he
 case nilCheck x=>split at he<;>simp at he⊢<;>exact he
 case makeInterface t x=>split at he<;>simp at he⊢;exact he
 case makeFunc fn xs ys=>simp at he⊢;exact he
 case extract t k=>
  split at he
  ·exact En he fun _ h=>h
  ·cases he
 case load t a=>exact En he fun u hu=>aqS hw hk hm hu
 case lookup t m k ok=>
  refine En he fun u hu=>?_
  rcases abl hw hk hm with e | e
  ·rw [aqT e];exact hu
  ·exact aqW e hu
 case convert s d x=>
  cases aF:qJ P s d (bV x) h with
  | none=>
   rw [aF] at he
   cases af:DC P s d (bV x) h with
   | none=>rw [af] at he;cases he
   | some p=>
    obtain ⟨u,ae⟩:=p
    rw [af] at he
    have aA:ae=h:=by
     have:some (Step.val u ae)=some (Step.val v h):=he
     simp only [Option.some.injEq,Step.val.injEq] at this
     exact this.2
    exact absurd aA (ai8 af)
  | some u=>
   rw [aF] at he
   have hu:qJ P s d (bV x) h'=some u:=by
    rcases abl hw hk hm with e | e
    ·rw [aqU e];exact aF
    ·exact aqX e aF
   rw [hu]
   have:some (Step.val u h)=some (Step.val v h):=he
   simp only [Option.some.injEq,Step.val.injEq] at this
   rw [this.1]
 case call c=>
  have av:=aqZ RF
  have other:∀ b,(b=.min∨b=.max)→c.callee=.builtin b→pe P c type bV h'=some (.val v h'):=fun b Di aF=>by
   have a6:∀ U:J,vb P b c.argTypes.toList type (Bc c.args) (c.args.toList.map bV) U=(match jO (c.args.toList.map bV) with
     | some as=>match e8 P (builtin b c.argTypes.toList.toArray type (Bc c.args) as.toArray) with
      | some (.value v)=>some (kR v,U)
      | _=>none
     | none=>none):=fun U=>by
    rcases Di with rfl | rfl<;>rfl
   have jX:∀ U:J,pe P c type bV U=(match vb P b c.argTypes.toList type (Bc c.args) (c.args.toList.map bV) U with | some (v,h')=>some (.val v h') | none=>none):=fun U=>by
    unfold pe
    rw [aF]
    rcases Di with rfl | rfl<;>rfl
   rw [jX,a6] at he⊢
   cases aC:jO (c.args.toList.map bV) with
   | none=>rw [aC] at he;cases he
   | some as=>
    rw [aC] at he
    simp only at he⊢
    split at he
    ·rename_i v' ae af
     split at af
     ·simp at af he
      obtain ⟨rfl,rfl⟩:=af
      rw [he.1]
     ·cases af
    ·cases he
  rcases av with av | av | av
  ·obtain ⟨callee,args,ajI⟩:=c
   simp only at av
   subst av
   have ad:(args.size==1&&ajI.size==1)=true:=RF
   simp at ad
   obtain ⟨x,rfl⟩:=Array.size_eq_one_iff.1 ad.1
   obtain ⟨t,rfl⟩:=Array.size_eq_one_iff.1 ad.2
   have jX:∀ U:J,pe P ⟨.builtin .len,#[x],#[t]⟩ type bV U=(match fU P t (bV x) U with | some v=>some (.val v U) | none=>none):=fun U=>by
    show (match (match fU P t (bV x) U with | some v=>some (v,U) | none=>none) with | some (v,h')=>some (Step.val v h') | none=>none)=_
    cases fU P t (bV x) U<;>rfl
   rw [jX] at he⊢
   have jV:∀ i,oS (bV x)=some i→¬M i:=fun i ak=>hm i (by simp [vF,ak])
   cases hu:fU P t (bV x) h with
   | none=>rw [hu] at he;cases he
   | some u=>
    rw [hu] at he
    simp at he
    subst he
    have aG:fU P t (bV x) h'=some u:=by
     rcases abl hw hk jV with e | e
     ·rw [aqV e];exact hu
     ·exact aqY e hu
    rw [aG]
  ·exact other _ (.inl rfl) av
  ·exact other _ (.inr rfl) av
 all_goals exact En he fun _ h=>h
end
def Eo (P:Program) (ops:Array Oper) (M:Nat→Prop) (ad:J) (o:Oper) (f:aE) (v:V):Prop:=∀ h',I ad h' M→lA P ops.toList h' o v f
def RG (ops:Array Oper) (es:List Nat) (listed:Array Bool) (i:Nat):Bool:=es.all fun e=>listed.getD e true||uk ops ops.size e i
def abm (ops:Array Oper) (k:Nat):Bool:=(List.range ops.size).all fun i=>i==k||uk ops ops.size k i||uk ops ops.size i k
def anyS (P:Program) (ops:Array Oper) (es:List Nat) (M:Nat→Prop) (ad:J) (K:aE→J→Prop) (X:J→Prop):Nat→Array Bool→aE→J→Prop
 | 0,listed,f,h=>Region.ready .any ops listed=[]∧K f h
 | n+1,listed,f,h=>(Region.ready .any ops listed=[]→K f h) ∧
  ∀ i ∈ Region.ready .any ops listed,∀ o,ops[i]?=some o →
   if es.contains i then (match mr ops.toList o.guard f with
    | some true=>mV P o (fun cx h'=>(abm ops i=true∨I ad h' M)∧anyS P ops es M ad K X n (listed.setIfInBounds i true) cx h') (fun _ h=>X h) f h
    | some false=>anyS P ops es M ad K X n (listed.setIfInBounds i true) (f.put o.dst (.tuple [])) h
    | none=>False)
   else ∃ v,((I ad h M∧Eo P ops M ad o f v)∨(RG ops es listed i=true∧lA P ops.toList h o v f))∧anyS P ops es M ad K X n (listed.setIfInBounds i true) (f.put o.dst v) h
theorem RH {P:Program} {o:Oper} {K JR E Rk:aE→J→Prop} (hk:∀ f h,K f h→JR f h) {f:aE} {h:J} (he:∀ f h,E f h→Rk f h) (ad:mV P o K E f h):mV P o JR Rk f h:=by
 unfold mV at *
 split at ad
 ·exact hk _ _ ad
 ·exact ad.mono (fun _ _ h=>hk _ _ h) fun _ h=>he _ _ h
 ·exact fun v h' hm=>hk _ _ (ad v h' hm)
 ·exact he _ _ ad
 ·exact ad.mono (fun _ _ h=>hk _ _ h)
 ·exact ad.elim
section
variable {P:Program} {ops:Array Oper} {es:List Nat} {M:Nat→Prop} {ad:J} {K E:aE→J→Prop} {X:J→Prop}
theorem YI (fp:∀ f h,X h→E f h):∀ (n:Nat) (listed:Array Bool) (f:aE) (h:J),anyS P ops es M ad K X n listed f h→yc P ops es K E n listed f h
 | 0,_,_,_,af=>af
 | n+1,listed,f,h,af=>by
  refine ⟨af.1,fun i hi o bc=>?_⟩
  have h1:=af.2 i hi o bc
  by_cases he:es.contains i=true
  ·rw [if_pos he] at h1⊢
   cases hw:mr ops.toList o.guard f with
   | none=>rw [hw] at h1;exact h1
   | some b=>
    rw [hw] at h1
    cases b with
    | true=>exact RH (fun cx h' U=>YI fp n _ cx h' U.2) (fun f h U=>fp f h U) h1
    | false=>exact YI fp n _ _ _ h1
  ·rw [if_neg he] at h1⊢
   obtain ⟨v,aN,aU⟩:=h1
   refine ⟨v,?_,YI fp n _ _ _ aU⟩
   rcases aN with ⟨hk,cR⟩ | ⟨_,bs⟩
   ·exact cR h hk
   ·exact bs
theorem aq1 {o:Oper} {dst:Option Tmp} {v:V} {f:aE} {h:J} {K JR:aE→J→Prop} (aM:∀ d,dst=some d→d ∉ o.looksAt ops) (aF:∀ d,dst=some d→o.dst≠some d)
  (hk:∀ r h',K ((f.put o.dst r).put dst v) h'→JR (f.put o.dst r) h') (ad:mV P o K (fun _ h=>X h) (f.put dst v) h):mV P o JR (fun _ h=>X h) f h:=by
 unfold mV at *
 rw [wr o f dst v aM] at ad
 split at ad
 ·exact hk _ _ (by rw [aE.put_comm f _ _ fun d bb ak=>aF d ak bb];exact ad)
 ·exact ad.mono (fun r h' U=>hk r h' (by rw [aE.put_comm f _ _ fun d bb ak=>aF d ak bb];exact U)) fun _ h=>h
 ·exact fun r h' hm=>hk r h' (by rw [aE.put_comm f _ _ fun d bb ak=>aF d ak bb];exact ad r h' hm)
 ·exact ad
 ·exact ad.mono (fun r h' U=>hk r h' (by rw [aE.put_comm f _ _ fun d bb ak=>aF d ak bb];exact U))
 ·exact ad
theorem abn {listed:Array Bool} (bb:Down ops listed) {i j:Nat} (aX:j ∈ Region.ready .any ops listed) (h:uk ops ops.size j i=true):listed.getD i false=true:=by
 obtain ⟨_,o,bc,dx⟩:=mem_ready.1 aX
 exact abb bb ops.size j i (fun o' lW=>by
                           rw [bc] at lW;obtain rfl:o=o':=by simpa using lW
                           exact dx) h
theorem YJ {listed:Array Bool} {i:Nat} (hi:i ∈ Region.ready .any ops listed):listed.getD i false=false:=by
 have h0:=(mem_ready.1 hi).1
 rcases Nat.lt_or_ge i listed.size with h' | h'
 ·simp [h'] at h0⊢;exact h0
 ·simp [Array.getElem?_eq_none h']
theorem abo {i:Nat} {r7:Oper} {v:V} (hi:ops[i]?=some r7) (wb:es.contains i=false) :
  ∀ (fuel:Nat) (listed:Array Bool) (f:aE) (h:J),
   (∀ j lO,ops[j]?=some lO→j≠i→listed.getD j true=false→(∀ e ∈ lO.after,Region.binds .any e=true→e.on≠i)→r7.apart ops lO=true) →
   i ∈ Region.ready .any ops listed→Down ops listed→((I ad h M∧Eo P ops M ad r7 f v)∨(RG ops es listed i=true∧lA P ops.toList h r7 v f)) →
   anyS P ops es M ad K X fuel (listed.setIfInBounds i true) (f.put r7.dst v) h→anyS P ops es M ad K X (fuel+1) listed f h:=by
 intro fuel
 induction fuel with
 | zero=>
  intro listed f h _ aU mH bs H
  refine ⟨fun h=>(by rw [h] at aU;cases aU),fun j aX o bc=>?_⟩
  by_cases dJ:j=i
  ·subst dJ
   rw [hi] at bc
   obtain rfl:r7=o:=by simpa using bc
   rw [wb]
   exact ⟨v,bs,H⟩
  ·have:=ready_mono aX dJ
   rw [H.1] at this
   cases this
 | succ fuel ih=>
  intro listed f h Bg aU mH bs H
  refine ⟨fun h=>(by rw [h] at aU;cases aU),fun j aX lO nk=>?_⟩
  by_cases dJ:j=i
  ·subst dJ
   rw [hi] at nk
   obtain rfl:r7=lO:=by simpa using nk
   rw [wb]
   exact ⟨v,bs,H⟩
  ·have HU:=H.2 j (ready_mono aX dJ) lO nk
   obtain ⟨yd,Ry,Ej,dx⟩:=mem_ready.1 aX
   rw [nk] at Ej
   obtain rfl:lO=Ry:=by simpa using Ej
   have wZ:∀ e ∈ lO.after,Region.binds .any e=true→e.on≠i:=fun e he av heq=>by
    have h1:=dx e he av
    have h0:=YJ aU
    rw [heq,h0] at h1
    cases h1
   obtain ⟨cw,a2,a3⟩:=Oper.apart_spec (Bg j lO nk dJ yd wZ)
   have Bh:∀ k ok,ops[k]?=some ok→k≠i→(listed.setIfInBounds j true).getD k true=false →
     (∀ e ∈ ok.after,Region.binds .any e=true→e.on≠i)→r7.apart ops ok=true:=fun k ok hk tI vo ja=>by
    refine Bg k ok hk tI ?_ ja
    by_cases JT:j=k
    ·subst JT;exact yd
    ·rw [getD_set_ne true JT] at vo;exact vo
   have jJ:=ready_mono aU (Ne.symm dJ)
   have Ei:=mH.add aX
   have qM:∀ (h':J) (r:V),I ad h' M→Eo P ops M ad r7 f v→anyS P ops es M ad K X fuel ((listed.setIfInBounds i true).setIfInBounds j true) ((f.put lO.dst r).put r7.dst v) h'→anyS P ops es M ad K X (fuel+1) (listed.setIfInBounds j true) (f.put lO.dst r) h':=fun h' r hk cR U=>
    ih (listed.setIfInBounds j true) (f.put lO.dst r) h' Bh jJ Ei (.inl ⟨hk,fun ae k2=>(cR ae k2).put lO.dst r a3⟩) (by rw [Array.setIfInBounds_comm _ _ dJ];exact U)
   by_cases JS:es.contains j=true
   ·rw [if_pos JS] at HU⊢
    have cR:I ad h M∧Eo P ops M ad r7 f v:=by
     rcases bs with bs | ⟨bc,_⟩
     ·exact bs
     ·exfalso
      have h1:=(List.all_eq_true.1 bc) j (by simpa using JS)
      rw [yd,Bool.false_or] at h1
      have:=abn mH aX h1
      rw [YJ aU] at this
      cases this
    rw [aa7 lO f r7.dst v cw] at HU
    cases hw:mr ops.toList lO.guard f with
    | none=>rw [hw] at HU;exact HU
    | some b=>
     rw [hw] at HU
     cases b with
     | true=>
      refine aq1 cw a2 (fun r h' U=>?_) HU
      have hk:I ad h' M:=by
       rcases U.1 with jt | hk
       ·exfalso
        have h1:=(List.all_eq_true.1 jt) i (by
         have:=(Array.getElem?_eq_some_iff.1 hi).1
         simpa using this)
        simp only [Bool.or_eq_true,beq_iff_eq] at h1
        rcases h1 with (h1 | h1) | h1
        ·exact dJ h1.symm
        ·have:=abn mH aX h1
         rw [YJ aU] at this
         cases this
        ·have:=abn mH aU h1
         rw [YJ aX] at this
         cases this
       ·exact hk
      exact ⟨.inr hk,qM h' r hk cR.2 U.2⟩
     | false=>
      refine qM h (.tuple []) cR.1 cR.2 ?_
      rw [←aE.put_comm f v (.tuple []) a2]
      exact HU
   ·rw [if_neg JS] at HU⊢
    obtain ⟨u,Rz,lN⟩:=HU
    refine ⟨u,?_,?_⟩
    ·rcases Rz with ⟨hk,cR⟩ | ⟨bc,RI⟩
     ·exact .inl ⟨hk,fun ae k2=>(cR ae k2).HR r7.dst v cw⟩
     ·refine .inr ⟨?_,RI.HR r7.dst v cw⟩
      refine List.all_eq_true.2 fun e he=>?_
      have h1:=(List.all_eq_true.1 bc) e he
      have ajJ:i≠e:=fun U=>by
       subst U
       have:es.contains i=true:=by simpa using he
       rw [wb] at this;cases this
      rwa [getD_set_ne true ajJ] at h1
    ·have rq:((I ad h M∧Eo P ops M ad r7 (f.put lO.dst u) v)∨(RG ops es (listed.setIfInBounds j true) i=true∧lA P ops.toList h r7 v (f.put lO.dst u))):=by
      rcases bs with ⟨hk,cR⟩ | ⟨bc,RI⟩
      ·exact .inl ⟨hk,fun ae k2=>(cR ae k2).put lO.dst u a3⟩
      ·refine .inr ⟨List.all_eq_true.2 fun e he=>?_,RI.put lO.dst u a3⟩
       have h1:=(List.all_eq_true.1 bc) e he
       simp only [Bool.or_eq_true] at h1⊢
       rcases h1 with h1 | h1
       ·exact .inl (ajv h1)
       ·exact .inr h1
     refine ih (listed.setIfInBounds j true) (f.put lO.dst u) h Bh jJ Ei rq ?_
     rw [Array.setIfInBounds_comm _ _ dJ,←aE.put_comm f v u a2]
     exact lN
end
def abp:Op→Bool
 | .move _ | .assign _ | .pick .. | .build .. | .nilCheck _ | .binOp .. | .unOp .. | .makeInterface .. | .makeFunc .. | .slice .. | .fieldAddr .. | .field .. | .indexAddr .. | .index .. | .typeAssert .. | .extract ..=>true
 | _=>false
section
variable {P:Program} {h h':J}
theorem aq2 {o:Oper} {bV:Operand→V} (hi:abp o.op=true) {v:V} (he:gS P o bV h=some (.val v h)):gS P o bV h'=some (.val v h'):=by
 have En:∀ {x:Option V},lM x h=some (.val v h)→lM x h'=some (.val v h'):=fun {x} ak=>by
  obtain ⟨ar,_⟩:=zJ ak
  rw [ar];rfl
 obtain ⟨dst,op,type,pos,after,guard⟩:=o
 cases op<;>simp [abp] at hi<;>simp only [gS] at he⊢
 case move x=>simp at he;rw [he]
 case assign x=>simp at he;rw [he]
 case pick c a b=>split at he<;>simp at he⊢;exact he
 case nilCheck x=>split at he<;>simp at he⊢<;>exact he
 case makeInterface t x=>split at he<;>simp at he⊢;exact he
 case makeFunc fn xs ys=>simp at he⊢;exact he
 case extract t k=>
  split at he
  ·exact En he
  ·cases he
 all_goals exact En he
theorem aq3 {o:Oper} {bV:Operand→V} {g:FuncId} {args:List V} (he:gS P o bV h=some (.call g args)):gS P o bV h'=some (.call g args):=by
 obtain ⟨dst,op,type,pos,after,guard⟩:=o
 have ajK:∀ {x:Option V},lM x h≠some (.call g args):=fun {x} ak=>by obtain ⟨v,aN⟩:=abd ak;cases aN
 have ajL:∀ {x:Option (V×J)},jW x≠some (.call g args):=fun {x} ak=>by unfold jW at ak;split at ak<;>simp at ak
 have aq4:∀ {x:Option J},x2 x≠some (.call g args):=fun {x} ak=>by unfold x2 at ak;split at ak<;>simp at ak
 cases op<;>simp only [gS] at he⊢
 case call c=>
  obtain ⟨callee,amB,ts⟩:=c
  unfold pe at he⊢
  cases callee with
  | value f=>
   simp only at he⊢
   split at he
   case h_2=>simp at he
   case h_3=>cases he
   split at he
   ·rename_i aF;rw [if_pos aF];exact he
   ·exfalso
    split at he<;>simp at he
  | builtin b=>
   exfalso
   cases b
   case panic=>simp only at he;split at he<;>simp at he
   all_goals
    simp only at he
    split at he<;>simp at he
  | invoke r m=>exact he
 case next it s=>
  cases s
  ·simp only at he;split at he<;>simp at he
  ·cases he
 all_goals first
  | exact absurd he ajK
  | exact absurd he ajL
  | exact absurd he aq4
  | (simp at he;done)
  | (split at he<;>first | (simp at he;done) | exact absurd he ajK | exact absurd he ajL)
  | (cases he;done)
end
inductive ht where
 | done
 | stop
 | q (k:Nat) (s:ht)
 | c (k:Nat) (s:ht)
 | a (k:Nat) (s:ht)
 | e (k:Nat) (s alt:ht)
def ht.keys:ht→List Nat
 | .e k _ alt=>k::alt.keys
 | _=>[]
def ht.ok (ops:Array Oper) (es:List Nat):ht→Nat→Bool→Bool→Bool→Array Bool→Bool
 | .done,n,top,p,np,listed=>top&&n==0&&(Region.ready .any ops listed).isEmpty
 | .stop,_,top,_,_,_=>!top
 | .q k s,n,top,p,np,listed=>match n,ops[k]? with
  | n+1,some o=>top&&!es.contains k&&(Region.ready .any ops listed).contains k&&Region.free .any ops listed k&&G7 o.op&&((p&&np)||(np&&abp o.op)||RG ops es listed k)&&s.ok ops es n true p np (listed.setIfInBounds k true)
  | _,_=>false
 | .c k s,n,top,p,np,listed=>match n,ops[k]? with
  | n+1,some o=>top&&!es.contains k&&(Region.ready .any ops listed).contains k&&Region.free .any ops listed k&&((p&&np)||RG ops es listed k)&&s.ok ops es n true p np (listed.setIfInBounds k true)
  | _,_=>false
 | .a k s,n,top,p,np,listed=>match n with
  | n+1=>top&&es.contains k&&Region.ready .any ops listed==[k]&&abm ops k&&s.ok ops es n true false false (listed.setIfInBounds k true)
  | 0=>false
 | .e k s alt,n,top,p,np,listed=>match n with
  | n+1=>(!top||((Region.ready .any ops listed).contains k&&(Region.ready .any ops listed).all fun i=>(k::alt.keys).contains i))&&es.contains k&&s.ok ops es n true false true (listed.setIfInBounds k true)&&alt.ok ops es (n+1) false p np listed
  | 0=>false
section
variable {P:Program} {ops:Array Oper} {es:List Nat} {M:Nat→Prop} {ad:J} {K:aE→J→Prop} {X:J→Prop}
def q6 (P:Program) (ol:List Oper) (M:Nat→Prop) (ad:J) (K:aE→J→Prop) (X:J→Prop):ht→Bool→aE→J→Prop
 | .done,_,f,h=>K f h
 | .stop,_,_,_=>True
 | .q k s,p,f,h=>match ol[k]? with
  | some o=>(match mr ol o.guard f with
   | some true=>∃ v,(gS P o (f.eval h) h=some (.val v h)∧(p=true→∀ i,vF (f.eval h) o.op=some i→¬M i))∧q6 P ol M ad K X s p (f.put o.dst v) h
   | some false=>q6 P ol M ad K X s p (f.put o.dst (.tuple [])) h
   | none=>False)
  | none=>False
 | .c k s,p,f,h=>match ol[k]? with
  | some o=>(match mr ol o.guard f with
   | some true=>∃ g args v,gS P o (f.eval h) h=some (.call g args)∧(∀ h',I ad h' M∨h'=h→Pure P g args h' v)∧q6 P ol M ad K X s p (f.put o.dst v) h
   | some false=>q6 P ol M ad K X s p (f.put o.dst (.tuple [])) h
   | none=>False)
  | none=>False
 | .a k s,p,f,h=>match ol[k]? with
  | some o=>(match mr ol o.guard f with
   | some true=>mV P o (fun cx h'=>q6 P ol M ad K X s false cx h') (fun _ h=>X h) f h
   | some false=>q6 P ol M ad K X s false (f.put o.dst (.tuple [])) h
   | none=>False)
  | none=>False
 | .e k s alt,p,f,h=>(match ol[k]? with
  | some o=>(match mr ol o.guard f with
   | some true=>mV P o (fun cx h'=>I ad h' M∧q6 P ol M ad K X s false cx h') (fun _ h=>X h) f h
   | some false=>I ad h M∧q6 P ol M ad K X s false (f.put o.dst (.tuple [])) h
   | none=>False)
  | none=>False)∧q6 P ol M ad K X alt p f h
def Clause (P:Program) (ops:Array Oper) (es:List Nat) (M:Nat→Prop) (ad:J) (K:aE→J→Prop) (X:J→Prop) (n:Nat) (listed:Array Bool) (f:aE) (h:J) (i:Nat):Prop :=
 ∀ o,ops[i]?=some o→(match mr ops.toList o.guard f with
    | some true=>mV P o (fun cx h'=>(abm ops i=true∨I ad h' M)∧anyS P ops es M ad K X n (listed.setIfInBounds i true) cx h') (fun _ h=>X h) f h
    | some false=>anyS P ops es M ad K X n (listed.setIfInBounds i true) (f.put o.dst (.tuple [])) h
    | none=>False)
theorem YK {l:List Nat} {k:Nat} (h:l.contains k=true):k ∈ l:=by simpa using h
theorem YL {h':J} (hk:I ad h' M) (f:aE):f.eval h'=f.eval ad:=funext fun x=>aqQ hk f x
theorem aq5 (l1:Mi ad):∀ (s:ht) (n:Nat) (p np:Bool) (listed:Array Bool) (f:aE) (h:J),(p=true→h=ad)→(np=true→I ad h M)→Down ops listed→q6 P ops.toList M ad K X s p f h →
  (s.ok ops es n true p np listed=true→anyS P ops es M ad K X n listed f h) ∧
  (∀ m,n=m+1→s.ok ops es n false p np listed=true→∀ i ∈ s.keys,i ∈ Region.ready .any ops listed→es.contains i=true∧Clause P ops es M ad K X m listed f h i):=by
 intro s
 induction s with
 | done=>
  intro n p np listed f h aW vr mH he
  refine ⟨fun ba=>?_,fun m hm ba=>by simp [ht.ok] at ba⟩
  simp only [ht.ok,Bool.true_and,Bool.and_eq_true,beq_iff_eq,List.isEmpty_iff] at ba
  obtain ⟨rfl,aU⟩:=ba
  exact ⟨aU,he⟩
 | stop=>
  intro n p np listed f h aW vr mH he
  exact ⟨fun ba=>by simp [ht.ok] at ba,fun m hm ba i hi=>by simp [ht.keys] at hi⟩
 | q k s ih=>
  intro n p np listed f h aW vr mH he
  refine ⟨fun ba=>?_,fun m hm ba i hi=>by simp [ht.keys] at hi⟩
  cases n with
  | zero=>simp [ht.ok] at ba
  | succ n=>
   cases bc:ops[k]? with
   | none=>simp [ht.ok,bc] at ba
   | some o=>
    simp only [ht.ok,bc,Bool.true_and,Bool.and_eq_true,Bool.not_eq_true'] at ba
    obtain ⟨⟨⟨⟨⟨jl,aU⟩,vt⟩,dE⟩,Ho⟩,jb⟩:=ba
    have ly:=YK aU
    have rr:ops.toList[k]?=some o:=by simpa using bc
    simp only [q6,rr] at he
    have fin:∀ v,lA P ops.toList h o v f→(mr ops.toList o.guard f=some false∨(p=true→∀ i,vF (f.eval h) o.op=some i→¬M i)∧gS P o (f.eval h) h=some (.val v h))→q6 P ops.toList M ad K X s p (f.put o.dst v) h→anyS P ops es M ad K X (n+1) listed f h:=fun v bs hm lN=>by
     refine abo bc jl n listed f h (Region.free_spec bc vt) ly mH ?_ ((ih n p np _ _ h aW vr (mH.add ly) lN).1 jb)
     simp only [Bool.or_eq_true,Bool.and_eq_true] at Ho
     rcases Ho with (⟨JY,mn⟩ | ⟨mn,mI⟩) | Ep
     ·refine .inl ⟨vr mn,fun h' fq=>?_⟩
      have U:=aW JY
      subst U
      rcases hm with hm | ⟨hm,dz⟩
      ·rcases bs with ⟨Bl,_⟩ | bs
       ·rw [hm] at Bl;cases Bl
       ·exact .inr bs
      ·rcases bs with ⟨Bl,_⟩ | bs
       ·exact .inl ⟨Bl,.inl (by rw [YL fq];exact aq0 l1 fq dE (hm JY) dz)⟩
       ·exact .inr bs
     ·refine .inl ⟨vr mn,fun h' fq=>?_⟩
      rcases hm with hm | ⟨hm,dz⟩
      ·rcases bs with ⟨Bl,_⟩ | bs
       ·rw [hm] at Bl;cases Bl
       ·exact .inr bs
      ·rcases bs with ⟨Bl,_⟩ | bs
       ·exact .inl ⟨Bl,.inl (by rw [YL fq,←YL (vr mn)];exact aq2 mI dz)⟩
       ·exact .inr bs
     ·exact .inr ⟨Ep,bs⟩
    cases hw:mr ops.toList o.guard f with
    | none=>rw [hw] at he;exact he.elim
    | some b=>
     rw [hw] at he
     cases b with
     | true=>
      obtain ⟨v,⟨dz,hm⟩,lN⟩:=he
      exact fin v (.inl ⟨hw,.inl dz⟩) (.inr ⟨hm,dz⟩) lN
     | false=>exact fin (.tuple []) (.inr ⟨hw,rfl⟩) (.inl hw) he
 | c k s ih=>
  intro n p np listed f h aW vr mH he
  refine ⟨fun ba=>?_,fun m hm ba i hi=>by simp [ht.keys] at hi⟩
  cases n with
  | zero=>simp [ht.ok] at ba
  | succ n=>
   cases bc:ops[k]? with
   | none=>simp [ht.ok,bc] at ba
   | some o=>
    simp only [ht.ok,bc,Bool.true_and,Bool.and_eq_true,Bool.not_eq_true'] at ba
    obtain ⟨⟨⟨⟨jl,aU⟩,vt⟩,Ho⟩,jb⟩:=ba
    have ly:=YK aU
    have rr:ops.toList[k]?=some o:=by simpa using bc
    simp only [q6,rr] at he
    simp only [Bool.or_eq_true,Bool.and_eq_true] at Ho
    cases hw:mr ops.toList o.guard f with
    | none=>rw [hw] at he;exact he.elim
    | some b=>
     rw [hw] at he
     cases b with
     | true=>
      obtain ⟨g,args,v,dz,ZQ,lN⟩:=he
      refine abo (v:=v) bc jl n listed f h (Region.free_spec bc vt) ly mH ?_ ((ih n p np _ _ h aW vr (mH.add ly) lN).1 jb)
      rcases Ho with ⟨JY,mn⟩ | Ep
      ·refine .inl ⟨vr mn,fun h' fq=>.inl ⟨hw,.inr ⟨g,args,?_,ZQ h' (.inl fq)⟩⟩⟩
       have U:=aW JY
       subst U
       rw [YL fq]
       exact aq3 dz
      ·exact .inr ⟨Ep,.inl ⟨hw,.inr ⟨g,args,dz,ZQ h (.inr rfl)⟩⟩⟩
     | false=>
      refine abo (v:=.tuple []) bc jl n listed f h (Region.free_spec bc vt) ly mH ?_ ((ih n p np _ _ h aW vr (mH.add ly) he).1 jb)
      rcases Ho with ⟨JY,mn⟩ | Ep
      ·exact .inl ⟨vr mn,fun h' fq=>.inr ⟨hw,rfl⟩⟩
      ·exact .inr ⟨Ep,.inr ⟨hw,rfl⟩⟩
 | a k s ih=>
  intro n p np listed f h aW vr mH he
  refine ⟨fun ba=>?_,fun m hm ba i hi=>by simp [ht.keys] at hi⟩
  cases n with
  | zero=>simp [ht.ok] at ba
  | succ n=>
   simp only [ht.ok,Bool.true_and,Bool.and_eq_true,beq_iff_eq] at ba
   obtain ⟨⟨⟨jl,aU⟩,jt⟩,jb⟩:=ba
   have ly:k ∈ Region.ready .any ops listed:=by rw [aU];simp
   refine ⟨fun h0=>(by rw [h0] at aU;cases aU),fun i hi o bc=>?_⟩
   rw [aU] at hi
   simp at hi
   subst hi
   rw [if_pos jl]
   have rr:ops.toList[i]?=some o:=by simpa using bc
   simp only [q6,rr] at he
   cases hw:mr ops.toList o.guard f with
   | none=>rw [hw] at he;exact he.elim
   | some b=>
    rw [hw] at he
    cases b with
    | true=>exact RH (fun cx h' U=>⟨.inl jt,(ih n false false _ _ h' (by simp) (by simp) (mH.add ly) U).1 jb⟩) (fun _ _ h=>h) he
    | false=>exact (ih n false false _ _ h (by simp) (by simp) (mH.add ly) he).1 jb
 | e k s alt Er JZ=>
  intro n p np listed f h aW vr mH he
  have main:∀ (m:Nat) (top:Bool),n=m+1→(ht.e k s alt).ok ops es n top p np listed=true→∀ i ∈ (ht.e k s alt).keys,i ∈ Region.ready .any ops listed→es.contains i=true∧Clause P ops es M ad K X m listed f h i:=by
   intro m top aG ba i hi RJ
   subst aG
   simp only [ht.ok,Bool.and_eq_true] at ba
   obtain ⟨⟨⟨_,jl⟩,jb⟩,halt⟩:=ba
   simp only [q6] at he
   simp only [ht.keys,List.mem_cons] at hi
   by_cases ZR:i=k
   ·subst ZR
    refine ⟨jl,fun o bc=>?_⟩
    have rr:ops.toList[i]?=some o:=by simpa using bc
    have h1:=he.1
    rw [rr] at h1
    simp only at h1
    cases hw:mr ops.toList o.guard f with
    | none=>rw [hw] at h1;exact h1.elim
    | some b=>
     rw [hw] at h1
     cases b with
     | true=>exact RH (fun cx h' U=>⟨.inr U.1,(Er m false true _ _ h' (by simp) (fun _=>U.1) (mH.add RJ) U.2).1 jb⟩) (fun _ _ h=>h) h1
     | false=>exact (Er m false true _ _ h (by simp) (fun _=>h1.1) (mH.add RJ) h1.2).1 jb
   ·rcases hi with hi | hi
    ·exact absurd hi ZR
    ·exact (JZ (m+1) p np listed f h aW vr mH he.2).2 m rfl halt i hi RJ
  refine ⟨fun ba=>?_,fun m hm ba=>main m false hm ba⟩
  cases n with
  | zero=>simp [ht.ok] at ba
  | succ m=>
   have RK:(Region.ready .any ops listed).all (fun i=>(k::alt.keys).contains i)=true∧(Region.ready .any ops listed).contains k=true:=by
    simp only [ht.ok,Bool.and_eq_true,Bool.not_true,Bool.false_or] at ba
    exact ⟨ba.1.1.1.2,ba.1.1.1.1⟩
   have bS:∀ i ∈ Region.ready .any ops listed,i ∈ (ht.e k s alt).keys:=fun i hi=>by
    have:=(List.all_eq_true.1 RK.1) i hi
    exact YK this
   refine ⟨fun h0=>?_,fun i hi o bc=>?_⟩
   ·have:=YK RK.2
    rw [h0] at this
    cases this
   ·obtain ⟨h1,ae⟩:=main m true rfl ba i (bS i hi) hi
    rw [if_pos h1]
    exact ae o bc
end
def ru (M:Nat→Prop) (r:Option Nat):Prop:=∀ i,r=some i→¬M i
theorem aq6 {r:Option Nat}:ru none_ r=True:=eq_true fun _ _ h=>h
theorem aq7 {o:Op} (h:G7 o=true):n9 o=true:=by
 cases o
 case entry=>simp [G7] at h
 case call c=>
  obtain ⟨callee,args,ts⟩:=c
  cases callee with
  | builtin b=>cases b<;>simp [G7,n9] at h⊢
  | _=>simp [G7,n9] at h
 all_goals exact h
def lB (P:Program) (ol:List Oper) (M:Nat→Prop) (ad:J) (K:jo):ht→Bool→aE→J→Prop
 | .done,_,f,h=>@o8 K f h
 | .stop,_,_,_=>True
 | .q k s,p,f,h=>match ol[k]? with
  | some o=>(p=true→ru M (vF (f.eval h) o.op))∧@xJ P ol [o] ⟨h⟩ (.fn (fun cx _=>lB P ol M ad K s p cx h) (fun _ _=>False)) f
  | none=>False
 | .c k s,p,f,h=>match ol[k]? with
  | some o=>(match mr ol o.guard f with
   | some true=>∃ g args v,gS P o (f.eval h) h=some (.call g args)∧(∀ h',I ad h' M∨h'=h→Pure P g args h' v)∧lB P ol M ad K s p (f.put o.dst v) h
   | some false=>lB P ol M ad K s p (f.put o.dst (.tuple [])) h
   | none=>False)
  | none=>False
 | .a k s,p,f,h=>match ol[k]? with
  | some o=>@lZ P ol [o] (.fn (fun cx h'=>lB P ol M ad K s false cx h') (fun _ h'=>∀ f,jo.exc K f h')) f h
  | none=>False
 | .e k s alt,p,f,h=>(match ol[k]? with
  | some o=>@lZ P ol [o] (.fn (fun cx h'=>I ad h' M∧lB P ol M ad K s false cx h') (fun _ h'=>∀ f,jo.exc K f h')) f h
  | none=>False)∧lB P ol M ad K alt p f h
section
variable {P:Program} {ol:List Oper} {M:Nat→Prop} {ad h:J} {K:jo} {f:aE} {k:Nat} {s alt:ht} {p:Bool} {o:Oper}
def RL (P:Program) (ol:List Oper) (M:Nat→Prop) (ad:J) (K:jo) (s:ht) (p:Bool) (f:aE) (h:J):Option Oper→Prop
 | some o=>(p=true→ru M (vF (f.eval h) o.op))∧@xJ P ol [o] ⟨h⟩ (.fn (fun cx _=>lB P ol M ad K s p cx h) (fun _ _=>False)) f
 | none=>False
def RM (P:Program) (ol:List Oper) (M:Nat→Prop) (ad:J) (K:jo) (s:ht) (f:aE) (h:J):Option Oper→Prop
 | some o=>@lZ P ol [o] (.fn (fun cx h'=>lB P ol M ad K s false cx h') (fun _ h'=>∀ f,jo.exc K f h')) f h
 | none=>False
def RN (P:Program) (ol:List Oper) (M:Nat→Prop) (ad:J) (K:jo) (s:ht) (f:aE) (h:J):Option Oper→Prop
 | some o=>@lZ P ol [o] (.fn (fun cx h'=>I ad h' M∧lB P ol M ad K s false cx h') (fun _ h'=>∀ f,jo.exc K f h')) f h
 | none=>False
theorem aq8:lB P ol M ad K .done p f h=@o8 K f h:=nr rfl
theorem aq9:lB P ol M ad K .stop p f h=True:=nr rfl
theorem ara:lB P ol M ad K (.q k s) p f h=RL P ol M ad K s p f h ol[k]?:=by
 unfold lB RL;cases ol[k]?<;>rfl
theorem arb:lB P ol M ad K (.a k s) p f h=RM P ol M ad K s f h ol[k]?:=by
 unfold lB RM;cases ol[k]?<;>rfl
theorem arc:lB P ol M ad K (.e k s alt) p f h=(RN P ol M ad K s f h ol[k]?∧lB P ol M ad K alt p f h):=by
 conv=>lhs;unfold lB
 unfold RN;cases ol[k]?<;>rfl
theorem ard:RL P ol M ad K s p f h (some o)=((p=true→ru M (vF (f.eval h) o.op))∧@xJ P ol [o] ⟨h⟩ (.fn (fun cx _=>lB P ol M ad K s p cx h) (fun _ _=>False)) f):=nr rfl
theorem arf:RM P ol M ad K s f h (some o)=@lZ P ol [o] (.fn (fun cx h'=>lB P ol M ad K s false cx h') (fun _ h'=>∀ f,jo.exc K f h')) f h:=nr rfl
theorem arh:RN P ol M ad K s f h (some o)=@lZ P ol [o] (.fn (fun cx h'=>I ad h' M∧lB P ol M ad K s false cx h') (fun _ h'=>∀ f,jo.exc K f h')) f h:=nr rfl
theorem ari {A E:aE→J→Prop} {f:aE} {h:J}:jo.exc (.fn A E) f h=E f h:=nr rfl
theorem gE {ca:FuncId} {args:List V} {v:V} (bc:ol[k]?=some o) (aB:mr ol o.guard f=some true) (aF:gS P o (f.eval h) h=some (.call ca args)) (aW:∀ h',I ad h' M∨h'=h→Pure P ca args h' v)
  (hk:lB P ol M ad K s p (f.put o.dst v) h):lB P ol M ad K (.c k s) p f h:=by
 unfold lB
 rw [bc]
 simp only
 rw [aB]
 exact ⟨_,_,_,aF,aW,hk⟩
theorem J0 (bc:ol[k]?=some o) (aB:mr ol o.guard f=some false) (hk:lB P ol M ad K s p (f.put o.dst (.tuple [])) h):lB P ol M ad K (.c k s) p f h:=by
 unfold lB
 rw [bc]
 simp only
 rw [aB]
 exact hk
theorem arj {M:Nat→Prop} {h:J}:I h h M=True:=eq_true (I.refl _ _)
theorem ark {M:Nat→Prop} {h:J} {a:aV}:I h (h.push a) M=True:=eq_true (I.push _ _ _)
theorem arl {M:Nat→Prop} {h:J} {a b:aV}:I h ((h.push a).push b) M=True:=eq_true ((I.push _ _ _).a8 _)
end
theorem arn {P:Program} {ops:Array Oper} {es:List Nat} {M:Nat→Prop} {ad:J} {K:jo}:∀ (s:ht) (n:Nat) (top p np:Bool) (listed:Array Bool) (f:aE) (h:J),
  s.ok ops es n top p np listed=true→lB P ops.toList M ad K s p f h→q6 P ops.toList M ad K.go (fun h=>∀ f,jo.exc K f h) s p f h:=by
 intro s
 induction s with
 | done=>intro n top p np listed f h _ he;exact he
 | stop=>intro n top p np listed f h _ he;trivial
 | q k s ih=>
  intro n top p np listed f h ba he
  cases n with
  | zero=>simp [ht.ok] at ba
  | succ n=>
   cases bc:ops[k]? with
   | none=>simp [ht.ok,bc] at ba
   | some o=>
    simp only [ht.ok,bc,Bool.and_eq_true] at ba
    have dE:=ba.1.1.2
    have jb:=ba.2
    have rr:ops.toList[k]?=some o:=by simpa using bc
    simp only [lB,rr] at he
    simp only [q6,rr]
    obtain ⟨hm,af⟩:=he
    unfold xJ P2 at af
    cases hw:mr ops.toList o.guard f with
    | none=>rw [hw] at af;exact af.elim
    | some b=>
     rw [hw] at af
     cases b with
     | true=>
      obtain ⟨v,cR,aU⟩:=af
      have aN:gS P o (f.eval h) h=some (.val v h):=by
       rcases cR with cR | ⟨g,args,cR,_⟩
       ·exact cR
       ·obtain ⟨u,hu⟩:=Me (aq7 dE) cR
        cases hu
      exact ⟨v,⟨aN,hm⟩,ih n true p np _ _ h jb aU⟩
     | false=>exact ih n true p np _ _ h jb af
 | c k s ih=>
  intro n top p np listed f h ba he
  cases n with
  | zero=>simp [ht.ok] at ba
  | succ n=>
   cases bc:ops[k]? with
   | none=>simp [ht.ok,bc] at ba
   | some o=>
    simp only [ht.ok,bc,Bool.and_eq_true] at ba
    have jb:=ba.2
    have rr:ops.toList[k]?=some o:=by simpa using bc
    simp only [lB,rr] at he
    simp only [q6,rr]
    cases hw:mr ops.toList o.guard f with
    | none=>rw [hw] at he;exact he
    | some b=>
     rw [hw] at he
     cases b with
     | true=>
      obtain ⟨g,args,v,h1,ae,aA⟩:=he
      exact ⟨g,args,v,h1,ae,ih n true p np _ _ h jb aA⟩
     | false=>exact ih n true p np _ _ h jb he
 | a k s ih=>
  intro n top p np listed f h ba he
  cases n with
  | zero=>simp [ht.ok] at ba
  | succ n=>
   simp only [ht.ok,Bool.and_eq_true] at ba
   have jb:=ba.2
   simp only [lB] at he
   simp only [q6]
   cases rr:ops.toList[k]? with
   | none=>rw [rr] at he;exact he
   | some o=>
    rw [rr] at he
    simp only at he⊢
    unfold lZ so at he
    cases hw:mr ops.toList o.guard f with
    | none=>rw [hw] at he;exact he
    | some b=>
     rw [hw] at he
     cases b with
     | true=>exact RH (fun cx h' U=>ih n true false false _ cx h' jb U) (fun _ _ U=>U) he
     | false=>exact ih n true false false _ _ h jb he
 | e k s alt Er JZ=>
  intro n top p np listed f h ba he
  cases n with
  | zero=>simp [ht.ok] at ba
  | succ n=>
   simp only [ht.ok,Bool.and_eq_true] at ba
   obtain ⟨⟨⟨_,_⟩,jb⟩,halt⟩:=ba
   simp only [lB] at he
   simp only [q6]
   refine ⟨?_,JZ (n+1) false p np _ f h halt he.2⟩
   have h1:=he.1
   cases rr:ops.toList[k]? with
   | none=>rw [rr] at h1;exact h1
   | some o=>
    rw [rr] at h1
    simp only at h1⊢
    unfold lZ so at h1
    cases hw:mr ops.toList o.guard f with
    | none=>rw [hw] at h1;exact h1
    | some b=>
     rw [hw] at h1
     cases b with
     | true=>exact RH (fun cx h' U=>⟨U.1,Er n true false true _ cx h' jb U.2⟩) (fun _ _ U=>U) h1
     | false=>exact ⟨h1.1,Er n true false true _ _ h jb h1.2⟩
theorem aP.aY {P:Program} {n id:Nat} {ops:Array Oper} (M:Nat→Prop) (es:List Nat) (s:ht) (hm:P.follows .mixedOrders=true) (cp:s.ok ops es ops.size true true true (Array.replicate ops.size false)=true) (ba:ops.toList.all (fun o=>zC n o.dst)=true) {Q:xI} {f:aE} {h:J}
  (af:lB P ops.toList M h (.out Q) s true f h):aP P n (.region id ops true) Q.go f h:=by
 intro ρ B bg a w hw aC
 refine wpIn_wide.1 (wpIn_region_any (n:=0) hm (P5 (ρ0:=ρ) (es:=es) ba _ _ f h ρ a _ (Ren.le.refl ρ) hw.drew aC ?_))
 have:=(aq5 (es:=es) hw.wf s _ true true _ f h (fun _=>rfl) (fun _=>I.refl _ _) (fun k o bc hk=>by simp [Array.getElem?_replicate] at hk;split at hk<;>simp_all) (arn s _ true true true _ f h cp af)).1 cp
 exact YI (fun f h ak=>ak f) _ _ _ _ this
def J1 (P:Program):Nat→List Field→Option (List Nat)
 | _,[]=>some []
 | o, f :: dT => if f.name ≠ "_" ∧ f.offset = o then
   match P.underlying f.type,J1 P (o+1) dT with
   | some (.int _),some l=>some (0::l)
   | some .bool,some l=>some (1::l)
   | some .string,some l=>some (2::l)
   | _,_=>none
  else none
def Es (P:Program) (t:TypeId):Option (List Nat):=match P.underlying t with
 | some (.struct dT)=>if P.stoodInHeld t=false∧P.eqGuardType P.depth t=false then J1 P 0 dT.toList else none
 | _=>none
def hv:List Nat→List V→List V→Option Bool
 | [],[],[]=>some true
 | 0::ax,.int k a::r,.int k' b::s=>if k=k' then (hv ax r s).map fun x=>(a==b)&&x else none
 | 1::ax,.bool a::r,.bool b::s=>(hv ax r s).map fun x=>(a==b)&&x
 | 2::ax,.string a::r,.string b::s=>(hv ax r s).map fun x=>(a.toList==b.toList)&&x
 | _,_,_=>none
section
variable {P:Program}
theorem zh {α:Type} {a:α}:e8 P (pure a:Sem α)=some a:=rfl
theorem P8:e8 P program=some P:=rfl
theorem Mj {t:TypeId} {d:TypeDesc} (h:P.underlying t=some d):e8 P (underlying t)=some d:=G2 h
theorem YM {t:TypeId} {d:TypeDesc} {cs:Array Value} {o:Nat} {v:Value} (hu:P.underlying t=some d) (bb:d.isRow=false) (aN:cs[o]?=some v):e8 P (part t cs o)=some v:=by
 have a6:e8 P (isAgg t)=some false:=by
  unfold isAgg
  rw [mf,Mj hu]
  cases d<;>simp_all [TypeDesc.isRow,zh]
 unfold part
 rw [mf,a6]
 simp [aN,zh]
theorem ajM {d:Nat} {t:TypeId} {k k':IntKind} {a b:Int} (h:P.underlying t=some (.int k')):e8 P (Op.equalIn (d+1) t (.int k a) (.int k b))=some (a==b):=by
 unfold Op.equalIn
 rw [mf,Mj h]
 simp [zh]
theorem aro {d:Nat} {t:TypeId} {a b:Bool} (h:P.underlying t=some .bool):e8 P (Op.equalIn (d+1) t (.bool a) (.bool b))=some (a==b):=by
 unfold Op.equalIn
 rw [mf,Mj h]
 simp [zh]
theorem arp {d:Nat} {t:TypeId} {a b:ByteArray} (h:P.underlying t=some .string):e8 P (Op.equalIn (d+1) t (.string a) (.string b))=some (a.toList==b.toList):=by
 unfold Op.equalIn
 rw [mf,Mj h]
 simp [zh,beq_toListBytes]
theorem drop_cons {α:Type} {l:List α} {o:Nat} {a:α} {r:List α} (h:l.drop o=a::r):l[o]?=some a∧l.drop (o+1)=r:=by
 have h1:(l.drop o)[0]?=some a:=by rw [h];rfl
 rw [List.getElem?_drop] at h1
 refine ⟨by simpa using h1,?_⟩
 rw [←List.drop_drop,h];rfl
theorem abq {d:Nat} {X Y:Array Value}:∀ (dT:List Field) (o:Nat) (ax:List Nat) (xs ys:List V) (fQ hx:List Value) (b:Bool),J1 P o dT=some ax→hv ax xs ys=some b→jO xs=some fQ→jO ys=some hx →
  X.toList.drop o=fQ→Y.toList.drop o=hx→e8 P (Op.eqFields (d+1) X Y dT)=some b
 | [],o,ax,xs,ys,fQ,hx,b,hk,he,ak,bs,fp,gF=>by
  simp [J1] at hk
  subst hk
  cases xs<;>cases ys<;>simp [hv] at he
  subst he
  rfl
 | f::dT,o,ax,xs,ys,fQ,hx,b,hk,he,ak,bs,fp,gF=>by
  unfold J1 at hk
  split at hk
  case isFalse=>cases hk
  rename_i aG
  have go:∀ (mq c2:Value) (cA eb:List V) (c9 b0:List Value) (q x:Bool) (Bm:List Nat) (k9:TypeDesc),P.underlying f.type=some k9→k9.isRow=false→X.toList.drop o=mq::c9→Y.toList.drop o=c2::b0→J1 P (o+1) dT=some Bm→hv Bm cA eb=some x→jO cA=some c9→jO eb=some b0 →
    e8 P (Op.equalIn (d+1) f.type mq c2)=some q→e8 P (Op.eqFields (d+1) X Y (f::dT))=some (q&&x):=fun mq c2 cA eb c9 b0 q x Bm k9 hu bb h1 ae aA bk bN dd jG=>by
   obtain ⟨g1,g2⟩:=drop_cons h1
   obtain ⟨g3,g4⟩:=drop_cons ae
   have ih:=abq (d:=d) dT (o+1) Bm cA eb c9 b0 x aA bk bN dd g2 g4
   unfold Op.eqFields
   rw [if_pos aG.1,mf,aG.2,YM hu bb (by rw [←Array.getElem?_toList];exact g1)]
   simp only [Option.bind_some]
   rw [mf,YM hu bb (by rw [←Array.getElem?_toList];exact g3)]
   simp only [Option.bind_some]
   rw [mf,jG]
   simp only [Option.bind_some]
   cases q
   ·rfl
   ·simpa using ih
  cases hK:J1 P (o+1) dT with
  | none=>rw [hK] at hk;split at hk<;>simp_all
  | some Bm=>
   rw [hK] at hk
   cases hu:P.underlying f.type with
   | none=>rw [hu] at hk;cases hk
   | some k9=>
    rw [hu] at hk
    cases k9<;>simp only at hk<;>try (cases hk;done)
    case int kk=>
     obtain rfl:=Option.some.inj hk
     cases xs with
     | nil=>simp [hv] at he
     | cons rv cA=>
      cases ys with
      | nil=>cases rv<;>simp [hv] at he
      | cons Mk eb=>
       cases rv<;>cases Mk<;>first | (simp [hv] at he;done) | skip
       rename_i bo a k2 c
       have iv:(if bo=k2 then (hv Bm cA eb).map (fun x=>(a==c)&&x) else none)=some b:=he
       split at iv
       case isFalse=>cases iv
       rename_i wu
       subst wu
       obtain ⟨x,ic,rfl⟩:=Option.map_eq_some_iff.1 iv
       simp only [jO,r3] at ak bs
       cases bN:jO cA with
       | none=>rw [bN] at ak;cases ak
       | some c9=>
        cases dd:jO eb with
        | none=>rw [dd] at bs;cases bs
        | some b0=>
         rw [bN] at ak;rw [dd] at bs
         obtain rfl:=Option.some.inj ak
         obtain rfl:=Option.some.inj bs
         exact go _ _ cA eb c9 b0 _ x Bm _ hu rfl fp gF hK ic bN dd (ajM hu)
    case bool=>
     obtain rfl:=Option.some.inj hk
     cases xs with
     | nil=>simp [hv] at he
     | cons rv cA=>
      cases ys with
      | nil=>cases rv<;>simp [hv] at he
      | cons Mk eb=>
       cases rv<;>cases Mk<;>first | (simp [hv] at he;done) | skip
       rename_i a c
       obtain ⟨x,ic,rfl⟩:=Option.map_eq_some_iff.1 he
       simp only [jO,r3] at ak bs
       cases bN:jO cA with
       | none=>rw [bN] at ak;cases ak
       | some c9=>
        cases dd:jO eb with
        | none=>rw [dd] at bs;cases bs
        | some b0=>
         rw [bN] at ak;rw [dd] at bs
         obtain rfl:=Option.some.inj ak
         obtain rfl:=Option.some.inj bs
         exact go _ _ cA eb c9 b0 _ x Bm _ hu rfl fp gF hK ic bN dd (aro hu)
    case string=>
     obtain rfl:=Option.some.inj hk
     cases xs with
     | nil=>simp [hv] at he
     | cons rv cA=>
      cases ys with
      | nil=>cases rv<;>simp [hv] at he
      | cons Mk eb=>
       cases rv<;>cases Mk<;>first | (simp [hv] at he;done) | skip
       rename_i a c
       obtain ⟨x,ic,rfl⟩:=Option.map_eq_some_iff.1 he
       simp only [jO,r3] at ak bs
       cases bN:jO cA with
       | none=>rw [bN] at ak;cases ak
       | some c9=>
        cases dd:jO eb with
        | none=>rw [dd] at bs;cases bs
        | some b0=>
         rw [bN] at ak;rw [dd] at bs
         obtain rfl:=Option.some.inj ak
         obtain rfl:=Option.some.inj bs
         exact go _ _ cA eb c9 b0 _ x Bm _ hu rfl fp gF hK ic bN dd (arp hu)
theorem m8:∀ {ax:List Nat} {xs ys:List V} {b:Bool},hv ax xs ys=some b→∃ fQ hx,jO xs=some fQ∧jO ys=some hx
 | [],xs,ys,b,h=>by
  cases xs<;>cases ys<;>simp [hv] at h
  exact ⟨[],[],rfl,rfl⟩
 | k::ax,[],ys,b,h=>by unfold hv at h;split at h<;>simp_all
 | k::ax,x::xs,[],b,h=>by unfold hv at h;split at h<;>simp_all
 | k::ax,x::xs,y::ys,b,h=>by
  have fin:∀ {a c:Value} {q:Option Bool},r3 x=some a→r3 y=some c→hv ax xs ys≠none→∃ fQ hx,jO (x::xs)=some fQ∧jO (y::ys)=some hx:=fun {a c q} h1 ae aA=>by
   cases af:hv ax xs ys with
   | none=>exact absurd af aA
   | some c2=>
    obtain ⟨fQ,hx,ar,aT⟩:=m8 af
    exact ⟨a::fQ,c::hx,by simp [jO,h1,ar],by simp [jO,ae,aT]⟩
  unfold hv at h
  split at h
  ·simp_all
  ·rename_i hK nm vu
   simp only [List.cons.injEq] at hK nm vu
   obtain ⟨rfl,rfl⟩:=hK
   obtain ⟨rfl,rfl⟩:=nm
   obtain ⟨rfl,rfl⟩:=vu
   split at h
   ·exact fin (q:=none) rfl rfl (by intro U;rw [U] at h;cases h)
   ·cases h
  ·rename_i hK nm vu
   simp only [List.cons.injEq] at hK nm vu
   obtain ⟨rfl,rfl⟩:=hK
   obtain ⟨rfl,rfl⟩:=nm
   obtain ⟨rfl,rfl⟩:=vu
   exact fin (q:=none) rfl rfl (by intro U;rw [U] at h;cases h)
  ·rename_i hK nm vu
   simp only [List.cons.injEq] at hK nm vu
   obtain ⟨rfl,rfl⟩:=hK
   obtain ⟨rfl,rfl⟩:=nm
   obtain ⟨rfl,rfl⟩:=vu
   exact fin (q:=none) rfl rfl (by intro U;rw [U] at h;cases h)
  ·cases h
theorem P9 {t:TypeId} {ax:List Nat} {xs ys:List V} {fQ hx:List Value} {b:Bool} (hk:Es P t=some ax) (he:hv ax xs ys=some b) (ak:jO xs=some fQ) (bs:jO ys=some hx) :
  e8 P (Op.equal t (.agg fQ.toArray) (.agg hx.toArray))=some b∧P.eqGuardType P.depth t=false:=by
 unfold Es at hk
 split at hk
 case h_2=>cases hk
 rename_i dT hu
 split at hk
 case isFalse=>cases hk
 rename_i cR
 refine ⟨?_,cR.2⟩
 show e8 P (Op.equalIn (9999+1) t _ _)=some b
 have jY : ∀ dT : List Field, e8 P (forIn dT ((none, ()) : Option Bool × Unit) fun f r => if f.name ≠ "_" then do
   let a ←part f.type fQ.toArray f.offset
   let c ←part f.type hx.toArray f.offset
   let q ←Op.equalIn 9999 f.type a c
   if (!q)=true then pure (ForInStep.done (some false,())) else pure (ForInStep.yield (none,()))
   else pure (ForInStep.yield (none,())))=(e8 P (Op.eqFields 9999 fQ.toArray hx.toArray dT)).map fun r=>if r then (none,()) else (some false,()):=fun dT=>by
  induction dT with
  | nil=>rfl
  | cons f dT ih=>
   rw [List.forIn_cons]
   unfold Op.eqFields
   by_cases aG : f.name ≠ "_"
   ·rw [if_pos aG,if_pos aG]
    simp only [mf,Option.bind_assoc]
    cases e8 P (part f.type fQ.toArray f.offset) with
    | none=>rfl
    | some a=>
     simp only [Option.bind_some]
     cases e8 P (part f.type hx.toArray f.offset) with
     | none=>rfl
     | some c=>
      simp only [Option.bind_some]
      cases e8 P (Op.equalIn 9999 f.type a c) with
      | none=>rfl
      | some q=>
       cases q
       ·rfl
       ·simpa [zh] using ih
   ·rw [if_neg aG,if_neg aG]
    simp only [mf,zh,Option.bind_some]
    exact ih
 have eg:=abq (P:=P) (d:=9998) (X:=fQ.toArray) (Y:=hx.toArray) dT.toList 0 ax xs ys fQ hx b hk he ak bs (by simp) (by simp)
 unfold Op.equalIn
 simp only [mf,Mj hu,Option.bind_some,P8,cR.1,Bool.false_eq_true,if_false]
 rw [←Array.forIn_toList]
 have ae:=jY dT.toList
 rw [eg] at ae
 first
  | (simp only [mf] at *;rw [ae];cases b<;>rfl)
  | (erw [ae];cases b<;>rfl)
theorem ajN {t:TypeId} {ax:List Nat} {xs ys:List V} {b:Bool} {xo yo:Operand} (hk:Es P t=some ax) (he:hv ax xs ys=some b):ev P .eql t xo yo (.agg xs) (.agg ys)=some (.bool b):=by
 obtain ⟨fQ,hx,ak,bs⟩:=m8 he
 obtain ⟨h1,ae⟩:=P9 hk he ak bs
 unfold ev
 simp only [r4,ak,bs,Option.map_some]
 have aB:e8 P (eqGuard .eql t xo yo (.agg fQ.toArray) (.agg hx.toArray))=some ():=by
  simp [eqGuard,mf,P8,ae,zh]
 rw [mf,aB]
 simp only [Option.bind_some,binOp,mf,h1,zh,Option.map_some]
 rfl
theorem arq {t:TypeId} {ax:List Nat} {xs ys:List V} {b:Bool} {xo yo:Operand} (hk:Es P t=some ax) (he:hv ax xs ys=some b):ev P .neq t xo yo (.agg xs) (.agg ys)=some (.bool (!b)):=by
 obtain ⟨fQ,hx,ak,bs⟩:=m8 he
 obtain ⟨h1,ae⟩:=P9 hk he ak bs
 unfold ev
 simp only [r4,ak,bs,Option.map_some]
 have aB:e8 P (eqGuard .neq t xo yo (.agg fQ.toArray) (.agg hx.toArray))=some ():=by
  simp [eqGuard,mf,P8,ae,zh]
 rw [mf,aB]
 simp only [Option.bind_some,binOp,mf,h1,zh,Option.map_some]
 rfl
end
theorem wv {P:Program} {t tx:TypeId} {T:qi} (cS:jq P t=some T) (eH:0<T.sz)
  {h:J} {s x:V} {cs:List V} (bc:Own h T.e T.sz s cs) {n:Nat} {news:List V} (eh:iC P T.sz tx x h=some (n,news)) (aG:news.length=n * T.sz)
  (hm:∀ m,m * T.sz=cs.length+news.length→m * T.an≤lim∧m≤lim) :
  ∃ v h',n2 P t tx s x h=some (v,h')∧Own h' T.e T.sz v (cs++news)∧I h h' (bn s)∧bQ h s v:=by
 obtain ⟨he,b4,bz,lz,iP,_⟩:=wm cS
 unfold n2
 simp only [he,b4,bz,lz,iP,if_true,eh]
 have start:∀ s:V,(s=.ah∨s=.z0)→cs=[]→∃ v h',(if n=0 then some (s,h) else if n * T.an≤lim∧n≤lim then some (.bp h.n 0 n cN,h.push (.cells news T.e (some T.sz))) else none)=some (v,h')∧Own h' T.e T.sz v (cs++news)∧I h h' (bn s)∧bQ h s v:=fun s ad dZ=>by
  subst dZ
  by_cases h0:n=0
  ·subst h0
   have:news=[]:=List.eq_nil_of_length_eq_zero (by simpa using aG)
   subst this
   exact ⟨s,h,by simp,.inl ⟨ad,rfl⟩,I.refl _ _,.inl rfl⟩
  ·obtain ⟨bd,bH⟩:=hm n (by simp [aG])
   exact ⟨.bp h.n 0 n cN,h.push (.cells news T.e (some T.sz)),by simp [h0,bd,bH],Own.grown (by simp [J.push]) (by simp [J.push]) (by simpa using aG),I.push _ _ _,.inr fun k hk=>by simp [aR] at hk;omega⟩
 rcases bc with ⟨rfl | rfl,dZ⟩ | ⟨i,len,cap,c,ex,rfl,hi,aB,hlen,cu,fA⟩
 ·exact start _ (.inl rfl) dZ
 ·exact start _ (.inr rfl) dZ
 ·by_cases h0:n=0
  ·subst h0
   have:news=[]:=List.eq_nil_of_length_eq_zero (by simpa using aG)
   subst this
   exact ⟨.bp i 0 len cap,h,by simp,by rw [List.append_nil];exact .inr ⟨i,len,cap,c,ex,rfl,hi,aB,hlen,cu,fA⟩,I.refl _ _,.inl rfl⟩
  ·obtain ⟨bd,bH⟩:=hm (len+n) (by rw [Nat.add_mul,hlen,aG])
   have dk:len * T.sz≤c.length:=by
    have:=congrArg List.length cu
    rw [List.length_take,hlen] at this
    omega
   simp only [h0,bd,bH,and_self,if_true,if_false,aB]
   rcases fA with ⟨se,vk,hle⟩ | ⟨rfl,rfl⟩
   ·simp only [se,if_true]
    by_cases gI:len+n≤cap
    ·have hf:0+(len+n) * T.sz≤c.length:=by rw [Nat.zero_add];exact Nat.le_trans (Nat.mul_le_mul_right _ gI) vk
     have hll:(lay c (len * T.sz) news).length=c.length:=qc _ _ _ (by rw [aG,←Nat.add_mul];omega)
     simp only [gI,if_true,hf]
     refine ⟨_,_,rfl,.inr ⟨i,len+n,cap,lay c (0+len * T.sz) news,ex,rfl,hi,by simp [J.set],by simp [hlen,aG,Nat.add_mul],?_,.inl ⟨se,?_,gI⟩⟩,⟨Nat.le_refl _,fun j aX bZ=>?_,rfl⟩,.inl rfl⟩
     ·simp only [Nat.zero_add,lay,cu,Nat.add_mul,←aG]
      have:(cs++news).length=len * T.sz+news.length:=by simp [hlen]
      rw [←this]
      exact List.take_left
     ·rw [Nat.zero_add,hll];exact vk
     ·simp only [J.set]
      rw [if_neg (by intro dJ;subst dJ;simp [bn,aR] at bZ)]
    ·simp only [gI,if_false]
     have HQ:0+len * T.sz≤c.length:=by omega
     simp only [HQ,if_true,List.drop_zero,cu]
     exact ⟨_,_,rfl,Own.grown (by simp [J.push]) (by simp [J.push]) (by simp [hlen,aG,Nat.add_mul]),I.push _ _ _,.inr fun k hk=>by simp [aR] at hk;omega⟩
   ·simp only [Nat.lt_irrefl,if_false,true_and,dk,and_self,if_true]
    refine ⟨_,_,rfl,Own.grown (by simp [J.push,J.set]) (by simp [J.push,J.set,cu]) (by simp [hlen,aG,Nat.add_mul]),⟨by simp [J.push,J.set],fun j aX bZ=>?_,rfl⟩,.inr fun k hk=>by simp [aR] at hk;omega⟩
    have h1:j≠i:=by intro dJ;subst dJ;simp [bn,aR] at bZ
    have ae:j≠h.n:=by omega
    simp [J.push,J.set,h1,ae]
theorem J2 {P:Program} {t:TypeId} {T:qi} (cS:jq P t=some T) (eH:0<T.sz)
  {h:J} {s:V} {cs xs:List V} (bc:Own h T.e T.sz s cs) (aM:xs.length=T.sz) (b3:xs.all (·.one)=true)
  (hm:∀ m,m * T.sz=cs.length+T.sz→m * T.an≤lim∧m≤lim) :
  ∃ v h',n2 P t t s (.bp h.n 0 1 1) (h.push (.cells xs T.e none))=some (v,h')∧Own h' T.e T.sz v (cs++xs)∧I h h' (bn s)∧bQ h s v:=by
 obtain ⟨he,b4,bz,lz,iP,hu⟩:=wm cS
 have hk:=I.push h (.cells xs T.e none) none_
 have eh:iC P T.sz t (.bp h.n 0 1 1) (h.push (.cells xs T.e none))=some (1,xs):=by
  simp only [iC,hu,J.push,if_true,Nat.one_mul,Nat.zero_add,List.drop_zero]
  rw [List.take_of_length_le (by omega),if_pos ⟨by omega,b3⟩]
 obtain ⟨v,h',a6,lW,fq,dE⟩:=wv (tx:=t) cS eH (bc.aQ hk) eh (by omega) (by rw [aM];exact hm)
 refine ⟨v,h',a6,lW,(hk.up).trans' fq,dE.imp id fun U k q5=>?_⟩
 have:=U k q5
 simp [J.push] at this
 omega
theorem Acc.ze {P:Program} {t:TypeId} {T:qi} (cS:jq P t=some T) {h0 h:J} {s:V} {cs xs:List V} (a:Acc h0 h T.e T.sz s cs) (eH:0<T.sz) (aM:xs.length=T.sz) (b3:xs.all (·.one)=true)
  (hm:∀ m,m * T.sz=cs.length+T.sz→m * T.an≤lim∧m≤lim) :
  ∃ v h',n2 P t t s (.bp h.n 0 1 1) (h.push (.cells xs T.e none))=some (v,h')∧Acc h0 h' T.e T.sz v (cs++xs):=by
 obtain ⟨v,h',a6,lW,fq,dE⟩:=J2 cS eH a.own aM b3 hm
 exact ⟨v,h',a6,a.step lW fq dE⟩
section
variable {P:Program} {α:Type} {enc:α→List V} {sz:Nat}
theorem iS (he:∀ x,(enc x).length=sz):∀ l:List α,(l.flatMap enc).length=l.length * sz
 | []=>by simp
 | x::l=>by rw [List.flatMap_cons,List.length_append,he,iS he l,List.length_cons,Nat.add_mul];omega
theorem HV (he:∀ x,(enc x).all (·.one)=true):∀ l:List α,(l.flatMap enc).all (·.one)=true
 | []=>rfl
 | x::l=>by rw [List.flatMap_cons,List.all_append,he,HV he l];rfl
theorem wx (he:∀ x,(enc x).length=sz):∀ (l:List α) (k:Nat),(l.flatMap enc).drop (k * sz)=(l.drop k).flatMap enc
 | l,0=>by simp
 | [],k+1=>by simp
 | x::l,k+1=>by
  rw [List.flatMap_cons,Nat.add_mul,Nat.one_mul,Nat.add_comm,←List.drop_drop,List.drop_left' (he x),wx he l k,List.drop_succ_cons]
theorem yf (he:∀ x,(enc x).length=sz):∀ (l:List α) (k:Nat),(l.flatMap enc).take (k * sz)=(l.take k).flatMap enc
 | l,0=>by simp
 | [],k+1=>by simp
 | x::l,k+1=>by
  rw [List.flatMap_cons,Nat.add_mul,Nat.one_mul,List.take_append,he,Nat.add_sub_cancel,yf he l k,List.take_succ_cons,List.flatMap_cons,List.take_of_length_le (by rw [he];omega)]
theorem oJ (he:∀ x,(enc x).length=sz) {l:List α} {k:Nat} (hk:k<l.length) {t:TypeId} {kk:IntKind} (ad:e5 P t=some sz) :
  ir P t (.ag l.length (l.flatMap enc)) (.int kk (k:Int))=some (.at (enc l[k]++(l.drop (k+1)).flatMap enc)):=by
 rw [JW ad (by omega) (by omega) (iS he l),Int.toNat_natCast,wx he,List.drop_eq_getElem_cons hk,List.flatMap_cons]
theorem J3 (he:∀ x,(enc x).length=sz) {l:List α} {n:Nat} (aG:l.length=n) {k:Nat} {x:α} (ak:l[k]?=some x) {t:TypeId} {kk:IntKind} (ad:e5 P t=some sz) :
  ∃ r,ir P t (.ag n (l.flatMap enc)) (.int kk (k:Int))=some (.at (enc x++r)):=by
 subst aG
 obtain ⟨hk,rfl⟩:=List.getElem?_eq_some_iff.1 ak
 exact ⟨_,oJ he hk ad⟩
theorem lC {e r:List V} (he:e.length=sz):cX (some (some sz)) (some (e++r))=some (.agg e):=by
 rw [ajj,if_pos (by rw [List.length_append];omega),List.take_left' he]
theorem Et (he:∀ x,bl (enc x)) (l:List α):bl (l.flatMap enc):=bl.flatMap fun x _=>he x
end
theorem aP.cut {P:Program} {n:Nat} {c:Code} {f:aE} {h:J} (R:aE→J→Prop) {Q:xI} (ad:aP P n c (xI.go (.fn fun x f h=>@x3 ⟨x=.normal∧R f h⟩)) f h) (hk:∀ f h,R f h→@kA .normal Q f h):aP P n c (xI.go Q) f h :=
 ad.mono fun e f h af=>by
  have fi:e=.normal∧R f h:=af
  obtain ⟨rfl,aU⟩:=fi
  exact hk f h aU
open Go
section
variable {H:Type} {enc:TypeId×Value→H} {P:Program} {w:World} {base:Nat} {spare:Nat→Bool} {held:Bool}
theorem abr {t e:TypeId} {a:Option Addr} {len cap:Nat} {d:DataW H} {ps:List MemPlace} {es:List (List V)} {k:Nat} (hu:P.underlying t=some (.slice e)) (hk:P.bytesOf e=k) (cp:∀ n ∈ d.weights P t,n≤reachBytes)
  (h:DataW.Trod enc P w base spare held t (.slice a len cap) d ps) (aN:a1 (l0 w) (.ag es.length es.flatten) (.slice a len cap)):es.length * k≤2 ^ 47:=by
 obtain ⟨fuel,aC⟩:=h
 have aM:es.length=len:=by
  generalize es.length=n at aN
  generalize es.flatten=c at aN
  cases aN<;>rfl
 rcases DataW.trod_slice hu aC with ⟨dZ,_⟩ | ⟨a2,pn,ny,elems,rest,m,_,dZ,vq,_,_,_,xy,_,_⟩
 ·cases dZ
  rw [aM]
  omega
 ·cases dZ
  simp only [Prod.mk.injEq] at vq
  have ajO:=cp ((elems.length+rest.length) * P.bytesOf e) (by rw [vq.1];simp [DataW.weights,hu])
  have ae:=reachBytes_lt
  have aA:len * k≤(elems.length+rest.length) * k:=Nat.mul_le_mul_right _ (by omega)
  rw [hk] at ajO
  rw [aM]
  omega
end
section
variable {ρ:Ren} {B:Nat} {bg:World} {h:J} {w:World}
theorem bt.grow (R:bt ρ B bg h w) (os:Array Obj):bt ρ B bg h (Sort.grow w os):=by
 have hold:∀ k,k<w.heap.size→(Sort.grow w os).heap[k]?=w.heap[k]?:=fun k hk=>by
  show (w.heap++os)[k]?=_
  rw [Array.getElem?_append,if_pos hk]
 have bz:w.heap.size≤(Sort.grow w os).heap.size:=by
  show w.heap.size≤(w.heap++os).size
  rw [Array.size_append];omega
 refine ⟨⟨R.heap.qb,R.heap.inj,fun i=>?_,fun b arr aC=>?_,R.heap.glob,Nat.le_trans R.heap.base bz⟩,R.below.trans ⟨rfl,rfl,rfl,bz,fun k hk=>hold k (Nat.lt_of_lt_of_le hk R.heap.base),Nat.le_refl _⟩⟩
 ·by_cases bb:h.get i=.dead
  ·rw [bb];trivial
  ·refine (R.heap.obj i).aj (Ren.le.refl ρ) fun b bd aU=>⟨hold b ?_,fun h=>h⟩
   obtain ⟨c2,xW,ly,aH,_⟩:=R.heap.live bb
   rw [ly] at aU
   cases aU
   exact aH
 ·obtain ⟨e,ky,hw⟩:=R.heap.frz b arr aC
  exact ⟨e,ky,(hold b (Array.getElem?_eq_some_iff.1 hw).1).trans hw⟩
theorem bt.ahead (R:bt ρ B bg h w):∀ n:Nat,bt ρ B bg h (Sort.ahead w n)
 | 0=>R
 | n+1=>by rw [←Sort.ahead_drew];exact (R.ahead n).drew
theorem bt.Qa (R:bt ρ B bg h w) {k:IntKind} {i b cm n:Nat} {c:List V} {e:TypeId} {ex:Option Nat} (aB:h.get i=.cells c e ex) (hi:ρ.ren i=some (b,cm)) (aG:n≤c.length) (d:Array Int) (bb:d.size=n) :
  bt ρ B bg (h.set i (.cells (d.toList.map (.int k)++c.drop n) e ex)) (Sort.putRow (Value.int k) w b 0 d):=by
 have bc:=R.heap.obj i
 rw [aB] at bc
 obtain ⟨c2,xW,arr,aU,aC,cp,hw,hlen,jg,ak⟩:=bc
 rw [hi] at aU
 cases aU
 have aH:=(Array.getElem?_eq_some_iff.1 hw).1
 have w0:∀ j,(Sort.putRow (Value.int k) w b 0 d).heap[j]?=if b=j then (w.heap[j]?).map (Sort.onCells (Sort.putCells (Value.int k) 0 d)) else w.heap[j]?:=fun j=>by
  show (w.heap.modify b _)[j]?=_
  rw [Array.getElem?_modify]
 refine R.zD hi (by rw [aB];simp) (fun j aX=>by rw [w0,if_neg (Ne.symm aX)]) (by rw [Sort.size_putRow];exact Nat.le_refl _) ⟨rfl,rfl,rfl,by rw [Sort.size_putRow];exact Nat.le_refl _,fun j aX=>by rw [w0,if_neg (by omega)],Nat.le_refl _⟩ ?_
 have aM:(d.toList.map (V.int k)++c.drop n).length=c.length:=by simp;omega
 refine ⟨b,cm,Sort.putCells (Value.int k) 0 d arr,hi,aC,cp,by rw [w0,if_pos rfl,hw];rfl,by rw [aM];simpa [Sort.putCells] using hlen,?_,by rw [aM];simpa [Sort.putCells] using ak⟩
 rw [aM]
 refine ⟨by simp [Sort.putCells];omega,fun j v v' h1 ae=>?_⟩
 rw [List.getElem?_take] at ae
 split at ae
 case isFalse=>cases ae
 rename_i aX
 rw [Array.getElem?_toList] at ae
 unfold Sort.putCells at ae
 rw [Array.getElem?_mapIdx,Option.map_eq_some_iff] at ae
 obtain ⟨x,uh,ic⟩:=ae
 by_cases jS:j<n
 ·rw [if_pos ⟨Nat.zero_le _,by omega⟩] at ic
  subst ic
  rw [List.getElem?_append_left (by simp;omega),List.getElem?_map,Array.getElem?_toList,Array.getElem?_eq_getElem (by omega)] at h1
  simp only [Option.map_some,Option.some.injEq] at h1
  subst h1
  rw [Nat.sub_zero,getElem!_pos d j (by omega)]
  exact .int k _
 ·rw [if_neg (by omega)] at ic
  subst ic
  rw [List.getElem?_append_right (by simp;omega),List.getElem?_drop] at h1
  simp only [List.length_map,Array.length_toList] at h1
  rw [bb,show n+(j - n)=j by omega] at h1
  refine jg.2 j v x h1 ?_
  rw [List.getElem?_take,if_pos aX,Array.getElem?_toList]
  exact uh
theorem bt.holds (R:bt ρ B bg h w) {k:IntKind} {i b cm:Nat} {c:List V} {e:TypeId} {ex:Option Nat} (aB:h.get i=.cells c e ex) (hi:ρ.ren i=some (b,cm)) {l:List Int} (aF:c.take l.length=l.map (.int k)) :
  Sort.Holds (Value.int k) w b 0 l.toArray∧b<w.heap.size:=by
 have bc:=R.heap.obj i
 rw [aB] at bc
 obtain ⟨c2,xW,arr,aU,aC,cp,hw,hlen,jg,ak⟩:=bc
 rw [hi] at aU
 cases aU
 refine ⟨fun j aX=>?_,(Array.getElem?_eq_some_iff.1 hw).1⟩
 simp only [List.size_toArray] at aX
 have dk:l.length≤c.length:=by
  have:=congrArg List.length aF
  rw [List.length_take,List.length_map] at this
  omega
 have h1:c[j]?=some (.int k l[j]):=by
  have:(c.take l.length)[j]?=some (.int k l[j]):=by rw [aF,List.getElem?_map,List.getElem?_eq_getElem aX];rfl
  rwa [List.getElem?_take,if_pos aX] at this
 obtain ⟨v',ae,aA⟩:=jg.get h1
 cases aA
 rw [List.getElem?_take] at ae
 split at ae
 case isFalse=>cases ae
 rw [Array.getElem?_toList] at ae
 have ar:l.toArray[j]! = l[j]:=by rw [getElem!_pos _ j (by simpa using aX)];simp
 rw [ar]
 exact ⟨by simp [World.cell?,hw,ae],by simp [World.frozen?,hw]⟩
end
theorem ajP {P:Program} {f:FuncId} {e:TypeId}
  (jX:∀ (km off cap:Nat) (zs:List Int) (w:World),Sort.Holds (Value.int .i64) w km off zs.toArray→km<w.heap.size→zs.length<4611686018427387904→Calls P f #[.slice (some ⟨km,off,none⟩) zs.length cap] w fun x w'=>
   x=.returned (.tuple #[])∧∃ n os,w'=Sort.grow (Sort.putRow (Value.int .i64) (Sort.ahead w n) km off (zs.mergeSort fun x y=>decide (x≤y)).toArray) os)
  (HW:∀ (p:Option Addr) (cap:Nat) (w:World),Calls P f #[.slice p 0 cap] w fun x w'=>x=.returned (.tuple #[])∧w'=w)
  {h:J} {v:V} {l:List Int} (bc:Own h e 1 v (l.map (.int .i64))) (aM:l.length<4611686018427387904) :
  ab P f [v] h (fun r h'=>r=.tuple []∧Own h' e 1 v ((l.mergeSort fun x y=>decide (x≤y)).map (.int .i64))∧I h h' (bn v)):=by
 have nil:∀ (p:Option Addr) (cap:Nat) (ρ:Ren) (B:Nat) (bg w:World),bt ρ B bg h w→l=[]→Calls P f #[.slice p 0 cap] w fun ZS w'=>(∃ (ρ':Ren) (r:V) (dY:Value) (h':J),ZS=.returned dY∧a1 ρ' r dY∧bt ρ' B bg h' w'∧ρ.le ρ'∧(r=.tuple []∧Own h' e 1 v ((l.mergeSort fun x y=>decide (x≤y)).map (.int .i64))∧I h h' (bn v))) ∨
   (∃ (ρ':Ren) (nv:List PanicEntry) (h':J),ZS=.panicked nv∧JL nv∧bt ρ' B bg h' w'∧ρ.le ρ'∧False):=fun p cap ρ B bg w hw h0=>by
  subst h0
  refine (HW p cap w).mono fun x w' ⟨ak,cY⟩=>.inl ⟨ρ,.tuple [],.tuple #[],h,ak,.tuple rfl (by simp),by rw [cY];exact hw,Ren.le.refl ρ,rfl,?_,I.refl _ _⟩
  simpa using bc
 intro ρ B bg w args' hw a6
 obtain ⟨v',t,bw,aN,abt⟩:=a6.fh
 have Ps:t=[]:=by
  have:=abt.1
  cases t with
  | nil=>rfl
  | cons _ _=>simp at this
 subst Ps
 have ei:args'=#[v']:=by
  apply Array.toList_inj.1
  rw [bw]
 subst ei
 rcases bc with ⟨o5,dZ⟩ | ⟨i,len,cap,c,ex,rfl,zL,aB,hlen,cu,fA⟩
 ·have de:l=[]:=List.map_eq_nil_iff.1 dZ
  rcases o5 with rfl | rfl
  ·cases aN
   exact nil _ _ ρ B bg w hw de
  ·cases aN
   exact nil _ _ ρ B bg w hw de
 ·rw [Nat.mul_one] at hlen cu
  have sV:l.length=len:=by rw [←hlen,List.length_map]
  subst sV
  have dk:l.length≤c.length:=by
   have:=congrArg List.length cu
   rw [List.length_take,List.length_map] at this
   omega
  cases aN with
  | bp hi _ _ _ hle=>
   rename_i b cm
   obtain ⟨hH,aH⟩:=hw.holds (k:=.i64) aB hi cu
   refine (jX b 0 (kx cm cap) l w hH aH aM).mono fun x w' ⟨ak,m,os,cY⟩=>.inl ⟨ρ,.tuple [],.tuple #[],h.set i (.cells ((l.mergeSort fun x y=>decide (x≤y)).map (.int .i64)++c.drop l.length) e ex),ak,.tuple rfl (by simp),?_,Ren.le.refl ρ,rfl,?_,?_⟩
   ·subst cY
    exact ((hw.ahead m).Qa aB hi dk (l.mergeSort fun x y=>decide (x≤y)).toArray (by simp [List.length_mergeSort])).grow os
   ·refine .inr ⟨i,l.length,cap,_,ex,rfl,zL,aL,by simp [List.length_mergeSort],?_,?_⟩
    ·rw [Nat.mul_one,List.take_left' (by simp [List.length_mergeSort])]
    ·rcases fA with ⟨h1,ae,aA⟩ | h1
     ·refine .inl ⟨h1,?_,aA⟩
      simp only [List.length_append,List.length_map,List.length_mergeSort,List.length_drop]
      omega
     ·exact .inr h1
   ·exact (I.set h i _).mono fun k hk=>by simp [bn,aR,hk]
end Go.Proofs.YtedkjhifbibpmaaGreatDoor.Ab
