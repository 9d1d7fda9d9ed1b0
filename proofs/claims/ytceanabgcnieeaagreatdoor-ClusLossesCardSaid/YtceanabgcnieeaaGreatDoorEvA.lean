/-
  Rules of the machine on abstract states. Conditions: as each theorem says.
-/
import Derived.Test.YtceanabgcnieeaaGreatDoorAbB
import Derived.Test.YtceanabgcnieeaaGreatDoorAbC
set_option linter.unusedVariables false
set_option linter.unusedSimpArgs false
namespace Go.Proofs.YtceanabgcnieeaaGreatDoor.Ab
noncomputable section
inductive Tr (α:Type) where
 | e
 | n (v:Option α) (l r:Tr α)
namespace Tr
variable {α:Type}
theorem Cd {α:Type} (b:Bool) (x y:α):@Bool.rec (fun _=>α) y x b=cond b x y:=by cases b<;>rfl
noncomputable def get (t:Tr α):Nat→Option α :=
 Tr.rec (motive:=fun _=>Nat→Option α) (fun _=>none) (fun v _ _ cJ ng i=>@Bool.rec (fun _=>Option α) (@Bool.rec (fun _=>Option α) (cJ (Nat.div i 2)) (ng (Nat.sub (Nat.div i 2) 1)) (Nat.beq (Nat.mod i 2) 0)) v (Nat.beq i 0)) t
noncomputable def single (x:α) (f:Nat):Nat→Tr α :=
 Nat.rec (motive:=fun _=>Nat→Tr α) (fun _=>.n (some x) .e .e) (fun _ g i=>@Bool.rec (fun _=>Tr α) (@Bool.rec (fun _=>Tr α) (.n none (g (Nat.div i 2)) .e) (.n none .e (g (Nat.sub (Nat.div i 2) 1))) (Nat.beq (Nat.mod i 2) 0)) (.n (some x) .e .e) (Nat.beq i 0)) f
noncomputable def set (x:α) (t:Tr α):Nat→Tr α :=
 Tr.rec (motive:=fun _=>Nat→Tr α) (fun i=>single x i i) (fun v l r aj aet i=>@Bool.rec (fun _=>Tr α) (@Bool.rec (fun _=>Tr α) (.n v (aj (Nat.div i 2)) r) (.n v l (aet (Nat.sub (Nat.div i 2) 1))) (Nat.beq (Nat.mod i 2) 0)) (.n (some x) l r) (Nat.beq i 0)) t
theorem aeu (v:Option α) (l r:Tr α) (i:Nat):get (.n v l r) i=cond (Nat.beq i 0) v (cond (Nat.beq (i % 2) 0) (r.get (i / 2 - 1)) (l.get (i / 2))):=by rw [←Cd,←Cd];rfl
theorem aev (x:α) (i:Nat):single x 0 i=.n (some x) .e .e:=rfl
theorem aew (x:α) (f i:Nat):single x (f+1) i=cond (Nat.beq i 0) (.n (some x) .e .e) (cond (Nat.beq (i % 2) 0) (.n none .e (single x f (i / 2 - 1))) (.n none (single x f (i / 2)) .e)):=by rw [←Cd,←Cd];rfl
theorem LT (x:α) (i:Nat):set x .e i=single x i i:=rfl
theorem aex (x:α) (v:Option α) (l r:Tr α) (i:Nat):set x (.n v l r) i=cond (Nat.beq i 0) (.n (some x) l r) (cond (Nat.beq (i % 2) 0) (.n v l (set x r (i / 2 - 1))) (.n v (set x l (i / 2)) r)):=by rw [←Cd,←Cd];rfl
theorem Es (i:Nat):get (.e:Tr α) i=none:=rfl
theorem q4 (i:Nat):Nat.beq i 0=decide (i=0):=by
 cases i<;>simp [Nat.beq]
theorem ju (v:Option α) (l r:Tr α) (i:Nat):get (.n v l r) i=if i=0 then v else if i % 2=0 then r.get (i / 2 - 1) else l.get (i / 2):=by
 rw [aeu,q4,q4]
 by_cases h:i=0<;>by_cases k:i % 2=0<;>simp [h,k]
theorem aey (x:α) (f i:Nat):single x (f+1) i=if i=0 then .n (some x) .e .e else if i % 2=0 then .n none .e (single x f (i / 2 - 1)) else .n none (single x f (i / 2)) .e:=by
 rw [aew,q4,q4]
 by_cases h:i=0<;>by_cases k:i % 2=0<;>simp [h,k]
theorem kE (x:α) (v:Option α) (l r:Tr α) (i:Nat):set x (.n v l r) i=if i=0 then .n (some x) l r else if i % 2=0 then .n v l (set x r (i / 2 - 1)) else .n v (set x l (i / 2)) r:=by
 rw [aex,q4,q4]
 by_cases h:i=0<;>by_cases k:i % 2=0<;>simp [h,k]
theorem ME (x:α):∀ (f i j:Nat),i≤f→(single x f i).get j=if j=i then some x else none
 | 0,i,j,h=>by
  obtain rfl:i=0:=by omega
  rw [aev,ju]
  by_cases aC:j=0
  ·simp [aC]
  ·simp [aC,Es]
 | f+1,i,j,h=>by
  rw [aey]
  by_cases hi:i=0
  ·subst hi
   rw [if_pos rfl,ju]
   by_cases aC:j=0<;>simp [aC,Es]
  ·rw [if_neg hi]
   by_cases hm:i % 2=0
   ·rw [if_pos hm,ju]
    by_cases aC:j=0
    ·rw [if_pos aC,if_neg (by omega)]
    ·rw [if_neg aC]
     by_cases hk:j % 2=0
     ·rw [if_pos hk,ME x f _ _ (by omega)]
      by_cases he:j=i
      ·rw [if_pos he,if_pos (by rw [he])]
      ·rw [if_neg he,if_neg (by omega)]
     ·rw [if_neg hk,Es,if_neg (by omega)]
   ·rw [if_neg hm,ju]
    by_cases aC:j=0
    ·rw [if_pos aC,if_neg (by omega)]
    ·rw [if_neg aC]
     by_cases hk:j % 2=0
     ·rw [if_pos hk,Es,if_neg (by omega)]
     ·rw [if_neg hk,ME x f _ _ (by omega)]
      by_cases he:j=i
      ·rw [if_pos he,if_pos (by rw [he])]
      ·rw [if_neg he,if_neg (by omega)]
theorem ll (x:α):∀ (t:Tr α) (i j:Nat),(set x t i).get j=if j=i then some x else t.get j
 | .e,i,j=>by rw [LT,ME x i i j (Nat.le_refl i),Es]
 | .n v l r,i,j=>by
  rw [kE]
  by_cases hi:i=0
  ·subst hi
   rw [if_pos rfl,ju,ju]
   by_cases aC:j=0<;>simp [aC]
  ·rw [if_neg hi]
   by_cases hm:i % 2=0
   ·rw [if_pos hm,ju,ju]
    by_cases aC:j=0
    ·rw [if_pos aC,if_pos aC,if_neg (by omega)]
    ·rw [if_neg aC,if_neg aC]
     by_cases hk:j % 2=0
     ·rw [if_pos hk,if_pos hk,ll x r]
      by_cases he:j=i
      ·rw [if_pos he,if_pos (by rw [he])]
      ·rw [if_neg he,if_neg (by omega)]
     ·rw [if_neg hk,if_neg hk,if_neg (by omega)]
   ·rw [if_neg hm,ju,ju]
    by_cases aC:j=0
    ·rw [if_pos aC,if_pos aC,if_neg (by omega)]
    ·rw [if_neg aC,if_neg aC]
     by_cases hk:j % 2=0
     ·rw [if_pos hk,if_pos hk,if_neg (by omega)]
     ·rw [if_neg hk,if_neg hk,ll x l]
      by_cases he:j=i
      ·rw [if_pos he,if_pos (by rw [he])]
      ·rw [if_neg he,if_neg (by omega)]
end Tr
structure bg where
 n:Nat
 t:Tr aD
 b:Nat
 w:List Nat
def cJ (G:List (Nat×List V)) (i:Nat):Option (List V):=(G.find? fun p=>p.1==i).map (·.2)
def bg.obj (s:bg) (i:Nat):aD:=match s.t.get i with | some o=>o | none=>.dead
def bg.a (G:List (Nat×List V)) (s:bg):I:={ n:=s.n,get:=s.obj,glob:=cJ G }
abbrev Fr:=Tr V
def Fr.a (f:Fr):ak:=fun t=>match f.get t with | some v=>v | none=>.top
def Fr.put (f:Fr) (d:Option Tmp) (v:V):Fr:=match d with | some d=>f.set v d | none=>f
theorem Fr.hY (f:Fr) (d:Option Tmp) (v:V):(f.put d v).a=f.a.put d v:=by
 funext t
 cases d with
 | none=>rfl
 | some d=>
  show (match (Tr.set v f d).get t with | some v=>v | none=>V.top)=if t=d then v else f.a t
  rw [Tr.ll]
  by_cases h:t=d<;>simp [h,Fr.a]
structure Loc (h U:I) (W:List Nat):Prop where
 n:h.n≤U.n
 glob:U.glob=h.glob
 bt:∀ j,j<h.n→j ∉ W→U.get j=h.get j
 jv:∀ j,U.n≤j→j ∉ W→U.get j=h.get j
theorem Loc.refl (h:I) (W:List Nat):Loc h h W:=⟨Nat.le_refl _,rfl,fun _ _ _=>rfl,fun _ _ _=>rfl⟩
theorem Loc.set (h:I) (i:Nat) (o:aD):Loc h (h.set i o) [i] :=
 ⟨Nat.le_refl _,rfl,fun j _ aC=>by simp at aC;simp [I.set,aC],fun j _ aC=>by simp at aC;simp [I.set,aC]⟩
theorem Loc.push (h:I) (o:aD) (W:List Nat):Loc h (h.push o) W :=
 ⟨Nat.le_succ _,rfl,fun j aC _=>by simp only [I.push];rw [if_neg (by omega)],fun j aC _=>by simp only [I.push] at aC⊢;rw [if_neg (by omega)]⟩
theorem Loc.trans {a b c:I} {W:List Nat} (x:Loc a b W) (y:Loc b c W):Loc a c W :=
 ⟨Nat.le_trans x.n y.n,y.glob.trans x.glob,fun j aC hw=>(y.bt j (Nat.lt_of_lt_of_le aC x.n) hw).trans (x.bt j aC hw),fun j aC hw=>(y.jv j aC hw).trans (x.jv j (Nat.le_trans y.n aC) hw)⟩
def note (b:Nat) (w:List Nat) (i:Nat):List Nat:=cond (Nat.blt i b&&!w.elem i) (i::w) w
def q5 (g:Nat→aD):Nat→Nat→Tr aD→Tr aD
 | _,0,t=>t
 | i,k+1,t=>q5 g (i+1) k (t.set (g i) i)
def sync (s:bg) (U:I) (W:List Nat):bg :=
 { n:=U.n,t:=q5 U.get s.n (U.n - s.n) (W.foldl (fun t i=>t.set (U.get i) i) s.t),b:=s.b,w:=W.foldl (note s.b) s.w }
def gD (t:Tr aD) (i:Nat):aD:=match t.get i with | some o=>o | none=>.dead
theorem te (t:Tr aD) (o:aD) (i j:Nat):gD (t.set o i) j=if j=i then o else gD t j:=by
 unfold gD
 rw [Tr.ll]
 by_cases h:j=i<;>simp [h]
theorem MF (g:Nat→aD):∀ (W:List Nat) (t:Tr aD) (j:Nat),gD (W.foldl (fun t i=>t.set (g i) i) t) j=if j ∈ W then g j else gD t j
 | [],t,j=>by simp
 | i::W,t,j=>by
  rw [List.foldl_cons,MF g W,te]
  by_cases h1:j ∈ W
  ·simp [h1]
  ·by_cases ab:j=i
   ·subst ab;simp [h1]
   ·simp [h1,ab]
theorem RP (g:Nat→aD):∀ (k i:Nat) (t:Tr aD) (j:Nat),gD (q5 g i k t) j=if i≤j∧j<i+k then g j else gD t j
 | 0,i,t,j=>by rw [q5,if_neg (by omega)]
 | k+1,i,t,j=>by
  rw [q5,RP g k,te]
  by_cases h1:j=i
  ·subst h1
   rw [if_neg (by omega),if_pos rfl,if_pos (by omega)]
  ·rw [if_neg h1]
   by_cases ab:i≤j∧j<i+(k+1)
   ·rw [if_pos (by omega),if_pos ab]
   ·rw [if_neg (by omega),if_neg ab]
theorem Et (G:List (Nat×List V)) (s:bg) (U:I) (W:List Nat) (l:Loc (s.a G) U W):(sync s U W).a G=U:=by
 obtain ⟨n,get,glob⟩:=U
 have h1:∀ j,gD (q5 get s.n (n - s.n) (W.foldl (fun t i=>t.set (get i) i) s.t)) j=get j:=fun j=>by
  have aJ:s.n≤n:=l.n
  rw [RP,MF]
  by_cases a:s.n≤j∧j<s.n+(n - s.n)
  ·rw [if_pos a]
  ·rw [if_neg a]
   by_cases b:j ∈ W
   ·rw [if_pos b]
   ·rw [if_neg b]
    by_cases c:j<s.n
    ·exact (l.bt j c b).symm
    ·exact (l.jv j (show n≤j by omega) b).symm
 have ab:glob=cJ G:=l.glob
 show I.mk n (fun j=>gD _ j) (cJ G)=_
 rw [ab]
 congr 1
 funext j
 exact h1 j
structure fj (s bF:bg):Prop where
 n:s.n≤bF.n
 b:bF.b=s.b
 w:∀ j,j ∈ s.w→j ∈ bF.w
 bt:∀ j,j<s.n→j<s.b→j ∉ bF.w→bF.obj j=s.obj j
 jv:∀ j,bF.n≤j→bF.obj j=s.obj j
theorem fj.refl (s:bg):fj s s:=⟨Nat.le_refl _,rfl,fun _ h=>h,fun _ _ _ _=>rfl,fun _ _=>rfl⟩
theorem fj.trans {a b c:bg} (x:fj a b) (y:fj b c):fj a c :=
 ⟨Nat.le_trans x.n y.n,y.b.trans x.b,fun j h=>y.w j (x.w j h),fun j aJ ar hw=>(y.bt j (Nat.lt_of_lt_of_le aJ x.n) (by rw [x.b];exact ar) hw).trans (x.bt j aJ ar fun h=>hw (y.w j h)),fun j aC=>(y.jv j aC).trans (x.jv j (Nat.le_trans y.n aC))⟩
theorem aez {b i j:Nat} {w:List Nat} (h:j ∈ w):j ∈ note b w i:=by
 unfold note
 cases (Nat.blt i b&&!w.elem i)
 ·exact h
 ·exact List.mem_cons_of_mem _ h
theorem aeA {b i:Nat} {w:List Nat} (h:i<b):i ∈ note b w i:=by
 unfold note
 have ar:Nat.blt i b=true:=by simpa [Nat.blt] using Nat.succ_le_of_lt h
 rw [ar]
 cases he:w.elem i
 ·simp
 ·simpa using he
theorem Ce {b:Nat}:∀ {W w:List Nat} {j:Nat},j ∈ w→j ∈ W.foldl (note b) w
 | [],w,j,h=>h
 | i::W,w,j,h=>Ce (W:=W) (aez h)
theorem zn {b:Nat}:∀ {W w:List Nat} {j:Nat},j ∈ W→j<b→j ∈ W.foldl (note b) w
 | [],w,j,h,_=>by simp at h
 | i::W,w,j,h,ar=>by
  rcases List.mem_cons.1 h with rfl | h
  ·exact Ce (W:=W) (w:=note b w j) (aeA ar)
  ·exact zn (W:=W) h ar
def rP (W:List Nat) (n:Nat):Bool:=W.all fun i=>Nat.blt i n
theorem aeB {W:List Nat} {n i:Nat} (h:rP W n=true) (hi:i ∈ W):i<n:=Nat.lt_of_succ_le (by simpa [Nat.blt] using List.all_eq_true.1 h i hi)
theorem MG (G:List (Nat×List V)) (s:bg) (U:I) (W:List Nat) (l:Loc (s.a G) U W) (gb:rP W s.n=true):fj s (sync s U W) :=
 ⟨l.n,rfl,fun j h=>Ce h,fun j aJ ar hw=>by
  have:=congrFun (congrArg I.get (Et G s U W l)) j
  show (sync s U W).obj j=_
  exact this.trans (l.bt j aJ fun h=>hw (zn h ar)),fun j aC=>by
  have:=congrFun (congrArg I.get (Et G s U W l)) j
  have fg:s.n≤U.n:=l.n
  exact this.trans (l.jv j aC fun h=>by have:=aeB gb h;have:U.n≤j:=aC;omega)⟩
end
end Go.Proofs.YtceanabgcnieeaaGreatDoor.Ab
namespace Go.Proofs.YtceanabgcnieeaaGreatDoor.Ab
noncomputable section
def fp:V→List Nat
 | .ptr i _=>[i]
 | .aj i _ _ _=>[i]
 | .map i=>[i]
 | _=>[]
def q6 (ba:Operand→V):Op→List Nat
 | .store _ a _=>fp (ba a)
 | .mapUpdate _ m _ _=>fp (ba m)
 | .insert _ m _ _=>fp (ba m)
 | .mapEntry _ m _=>fp (ba m)
 | .entryStore _ m _ _=>fp (ba m)
 | .convert _ _ x=>fp (ba x)
 | .next it _=>fp (ba it)
 | .call ⟨.builtin .append,args,_⟩=>match args.toList with | x::_=>fp (ba x) | []=>[]
 | .call ⟨.builtin .copy,args,_⟩=>match args.toList with | x::_=>fp (ba x) | []=>[]
 | .call ⟨.builtin .delete,args,_⟩=>match args.toList with | x::_=>fp (ba x) | []=>[]
 | .call ⟨.builtin .clear,args,_⟩=>match args.toList with | x::_=>fp (ba x) | []=>[]
 | _=>[]
section
variable {P:Program} {h U:I} {v:V}
theorem aeC {e:TypeId} (W:List Nat) (J:vo P e h=some (v,U)):Loc h U W:=by
 unfold vo at J
 split at J<;>simp at J
 obtain ⟨_,rfl⟩:=J
 exact .push _ _ _
theorem aeD {e:TypeId} {x:V} (W:List Nat) (J:mV e x h=some (v,U)):Loc h U W:=by
 unfold mV at J
 split at J<;>simp at J
 obtain ⟨_,rfl⟩:=J
 exact .push _ _ _
theorem aeE {t:TypeId} {len:Nat} {ps:List (Nat×V)} (W:List Nat) (J:iA P t len ps h=some (v,U)):Loc h U W:=by
 unfold iA at J
 split at J
 ·cases J
 split at J
 ·split at J
  ·split at J<;>simp at J
   obtain ⟨_,rfl⟩:=J
   exact .push _ _ _
  ·cases J
 ·cases J
theorem aeF {t:TypeId} {l c:V} (W:List Nat) (J:i5 P t l c h=some (v,U)):Loc h U W:=by
 unfold i5 at J
 split at J
 ·split at J
  ·split at J<;>simp at J
   obtain ⟨_,rfl⟩:=J
   exact .push _ _ _
  ·cases J
 ·cases J
theorem aeG {t:TypeId} {r:Option V} (W:List Nat) (J:yO P t r h=some (v,U)):Loc h U W:=by
 unfold yO at J
 split at J
 ·simp at J
  obtain ⟨_,rfl⟩:=J
  exact .push _ _ _
 ·split at J<;>simp at J
  obtain ⟨_,rfl⟩:=J
  exact .push _ _ _
 ·cases J
theorem aeH {t:TypeId} {x:V} (W:List Nat) (J:jp P t x h=some (v,U)):Loc h U W:=by
 unfold jp at J
 split at J
 ·split at J<;>simp at J
  obtain ⟨_,rfl⟩:=J
  exact .push _ _ _
 ·cases J
theorem AI {t:TypeId} {x y:V} (J:vn P t x y h=some U):Loc h U (fp x):=by
 unfold vn at J
 split at J
 ·split at J
  ·split at J<;>simp at J
   obtain rfl:=J
   exact .set _ _ _
  ·cases J
 ·cases J
theorem RQ {t:TypeId} {m k x:V} (J:qS P t m k x h=some U):Loc h U (fp m):=by
 unfold qS at J
 split at J
 ·split at J
  ·split at J
   ·split at J
    ·split at J
     ·split at J<;>simp at J
      obtain rfl:=J
      exact .set _ _ _
     ·cases J
    ·simp at J
     obtain rfl:=J
     exact .set _ _ _
    ·cases J
   ·cases J
  ·cases J
 ·cases J
theorem aeI {t:TypeId} {m k:V} (J:wW P t m k h=some U):Loc h U (fp m):=by
 unfold wW at J
 split at J
 ·split at J
  ·split at J
   ·split at J
    ·simp at J
     obtain rfl:=J
     exact .set _ _ _
    ·simp at J
     obtain rfl:=J
     exact .refl _ _
    ·cases J
   ·cases J
  ·cases J
 ·cases J
theorem aeJ {m s x:V} (J:Dk m s x h=some U):Loc h U (fp m):=by
 unfold Dk at J
 split at J
 ·split at J
  ·split at J<;>simp at J
   obtain rfl:=J
   exact .set _ _ _
  ·cases J
 ·cases J
theorem aeK {t:TypeId} {m k:V} (J:Dj P t m k h=some (v,U)):Loc h U (fp m):=by
 unfold Dj at J
 split at J
 ·split at J
  ·split at J
   ·split at J
    ·split at J
     ·split at J<;>simp at J
      obtain ⟨_,rfl⟩:=J
      exact .set _ _ _
     ·cases J
    ·split at J<;>simp at J
     obtain ⟨_,rfl⟩:=J
     exact .set _ _ _
    ·cases J
   ·cases J
  ·cases J
 ·cases J
theorem aeL {s d:TypeId} {x:V} (J:p9 P s d x h=some (v,U)):Loc h U (fp x):=by
 unfold p9 at J
 split at J
 ·split at J
  ·split at J
   ·split at J<;>simp at J
    obtain ⟨_,rfl⟩:=J
    exact .set _ _ _
   ·cases J
  ·cases J
 ·cases J
theorem aeM {t:TypeId} {x:V} (J:oX P t x h=some U):Loc h U (fp x):=by
 unfold oX at J
 split at J
 ·simp at J;obtain rfl:=J;exact .refl _ _
 ·simp at J;obtain rfl:=J;exact .refl _ _
 ·split at J<;>simp at J
  obtain rfl:=J;exact .refl _ _
 ·split at J
  ·split at J
   ·simp at J;obtain rfl:=J;exact .refl _ _
   ·split at J<;>simp at J
    obtain rfl:=J
    exact .set _ _ _
  ·cases J
 ·cases J
theorem aeN {t:TypeId} {d s:V} (J:p7 P t d s h=some (v,U)):Loc h U (fp d):=by
 unfold p7 at J
 split at J
 ·cases J
 split at J
 ·split at J<;>simp at J
  obtain ⟨_,rfl⟩:=J
  exact .refl _ _
 ·split at J
  ·split at J
   ·simp at J;obtain ⟨_,rfl⟩:=J;exact .refl _ _
   ·split at J
    ·split at J<;>simp at J
     obtain ⟨_,rfl⟩:=J
     exact .set _ _ _
    ·cases J
  ·cases J
 ·cases J
theorem aeO {tx e:TypeId} {zs:List V} {sz bs:Nat} {s x:V} (W:List Nat) (J:Hj P tx e zs sz bs s x h=some (v,U)):Loc h U W:=by
 unfold Hj at J
 split at J
 ·split at J
  ·split at J<;>simp at J
   obtain ⟨_,rfl⟩:=J
   exact .push _ _ _
  ·cases J
 ·cases J
theorem aeP {t tx:TypeId} {s x:V} (J:k6 P t tx s x h=some (v,U)):Loc h U (fp s):=by
 unfold k6 at J
 split at J
 ·cases J
 split at J
 case h_2=>cases J
 split at J
 case isFalse=>cases J
 split at J
 ·exact aeO _ J
 split at J
 ·split at J
  ·simp at J;obtain ⟨_,rfl⟩:=J;exact .refl _ _
  ·split at J<;>simp at J
   obtain ⟨_,rfl⟩:=J
   exact .push _ _ _
 ·split at J
  ·simp at J;obtain ⟨_,rfl⟩:=J;exact .refl _ _
  ·split at J<;>simp at J
   obtain ⟨_,rfl⟩:=J
   exact .push _ _ _
 ·split at J
  ·simp at J;obtain ⟨_,rfl⟩:=J;exact .refl _ _
  split at J
  case isFalse=>cases J
  split at J
  case h_2=>cases J
  split at J
  ·split at J
   ·split at J<;>simp at J
    obtain ⟨_,rfl⟩:=J
    exact .set _ _ _
   ·split at J<;>simp at J
    obtain ⟨_,rfl⟩:=J
    exact .push _ _ _
  ·split at J<;>simp at J
   obtain ⟨_,rfl⟩:=J
   exact (Loc.set _ _ _).trans (.push _ _ _)
 ·cases J
theorem aeQ {it:V} {l:List (V×I)} (J:r7 it h=some l):∀ u k,(u,k) ∈ l→Loc h k (fp it):=by
 intro u k hm
 unfold r7 at J
 split at J
 ·split at J
  ·split at J
   ·split at J
    ·cases J
    ·simp at J
     subst J
     rcases List.mem_append.1 hm with hm | hm
     ·split at hm<;>simp at hm
      obtain ⟨_,rfl⟩:=hm
      exact .refl _ _
     ·simp at hm
      obtain ⟨_,_,_,_,_,rfl⟩:=hm
      exact .set _ _ _
   ·cases J
  ·cases J
 ·cases J
theorem aeR {b:Builtin} {types:List TypeId} {ty:TypeId} {cs:Array Bool} {args:List V} (W:List Nat) (gb:∀ x r,args=x::r→b=.append∨b=.copy∨b=.delete∨b=.clear→W=fp x) (J:mX P b types ty cs args h=some (v,U)):Loc h U W:=by
 unfold mX at J
 split at J
 ·split at J<;>simp at J
  obtain ⟨_,rfl⟩:=J;exact .refl _ _
 ·rw [gb _ _ rfl (by simp)];exact aeP J
 ·rw [gb _ _ rfl (by simp)];exact aeN J
 ·rw [gb _ _ rfl (by simp)]
  simp only [Option.map_eq_some_iff,Prod.mk.injEq] at J
  obtain ⟨_,J,_,rfl⟩:=J
  exact aeI J
 ·rw [gb _ _ rfl (by simp)]
  simp only [Option.map_eq_some_iff,Prod.mk.injEq] at J
  obtain ⟨_,J,_,rfl⟩:=J
  exact aeM J
 ·split at J<;>simp at J
  obtain ⟨_,rfl⟩:=J;exact .refl _ _
 ·split at J
  ·split at J<;>simp at J
   obtain ⟨_,rfl⟩:=J;exact .refl _ _
  ·cases J
theorem aeS {c:Call} {ty:TypeId} {ba:Operand→V} (ar:∃ b,c.callee=.builtin b) (J:gZ P c ty ba h=some (.val v U)):Loc h U (q6 ba (.call c)):=by
 obtain ⟨b,ar⟩:=ar
 obtain ⟨callee,args,types⟩:=c
 simp only at ar
 subst ar
 unfold gZ at J
 cases b
 case panic=>simp only at J;split at J<;>simp at J
 all_goals
  simp only at J
  split at J
  case h_2=>cases J
  rename_i u k hu
  simp at J
  obtain ⟨_,rfl⟩:=J
  refine aeR _ (fun x r aL av=>?_) hu
  first
   | (exfalso;simp at av;done)
   | (
     unfold q6
     cases aw:args.toList with
     | nil=>rw [aw] at aL;cases aL
     | cons y l=>
      rw [aw] at aL
      simp at aL
      simp only [aw]
      rw [aL.1])
def RR:Op→Bool
 | .call ⟨.builtin _,_,_⟩=>false
 | .call _=>true
 | _=>false
theorem aeT {o:Oper} {ba:Operand→V} (al:RR o.op=false) (J:cG P o ba h=some (.val v U)):Loc h U (q6 ba o.op):=by
 obtain ⟨dst,op,type,pos,after,guard⟩:=o
 have DJ:∀ {x:Option V} {W:List Nat},eI x h=some (.val v U)→Loc h U W:=fun {x W} af=>by
  obtain ⟨_,rfl⟩:=oZ af
  exact .refl _ _
 cases op<;>simp only [cG] at J
 case move x=>simp at J;obtain ⟨_,rfl⟩:=J;exact .refl _ _
 case assign x=>simp at J;obtain ⟨_,rfl⟩:=J;exact .refl _ _
 case pick c a b=>split at J<;>simp at J;obtain ⟨_,rfl⟩:=J;exact .refl _ _
 case alloc e=>exact aeC _ (oY J)
 case box e x=>exact aeD _ (oY J)
 case buildSlice t l ps=>exact aeE _ (oY J)
 case store t a x=>exact AI (w4 J).1
 case nilCheck x=>split at J<;>simp at J<;>(obtain ⟨_,rfl⟩:=J;exact .refl _ _)
 case convert s d x=>
  split at J
  ·simp at J;obtain ⟨_,rfl⟩:=J;exact .refl _ _
  ·exact aeL (oY J)
 case makeInterface t x=>split at J<;>simp at J;obtain ⟨_,rfl⟩:=J;exact .refl _ _
 case makeFunc fn xs ys=>cases fn<;>simp at J;obtain ⟨_,rfl⟩:=J;exact .refl _ _
 case makeMap t r=>exact aeG _ (oY J)
 case makeSlice t l c=>exact aeF _ (oY J)
 case mapUpdate t m k x=>exact RQ (w4 J).1
 case insert t m k x=>exact RQ (w4 J).1
 case mapEntry t m k=>exact aeK (oY J)
 case entryStore t m s x=>exact aeJ (w4 J).1
 case range t x=>exact aeH _ (oY J)
 case next it s=>
  cases s
  ·simp only at J;split at J<;>simp at J
  ·cases J
 case extract t k=>
  split at J
  ·exact DJ J
  ·cases J
 case call c=>
  obtain ⟨callee,args,types⟩:=c
  cases callee with
  | builtin b=>exact aeS ⟨b,rfl⟩ J
  | value f=>cases al
  | invoke r m=>cases al
 case panic x=>split at J<;>simp at J
 all_goals first
  | exact DJ J
  | cases J
end
end
end Go.Proofs.YtceanabgcnieeaaGreatDoor.Ab
namespace Go.Proofs.YtceanabgcnieeaaGreatDoor.Ab
noncomputable section
open Go Go.RowKit
def bJ.fU (ops:Array Oper) (es:List Nat):bJ→Nat→Bool→Bool→Array Bool→Bool
 | .done,n,top,cM,listed=>top&&n==0&&(Region.ready .any ops listed).isEmpty
 | .stop,_,top,_,_=>!top
 | .q k s,n,top,cM,listed=>match n,ops[k]? with
  | n+1,some o=>top&&!es.contains k&&(Region.ready .any ops listed).contains k&&Region.free .any ops listed k&&qk o.op&&cM&&s.fU ops es n true cM (listed.setIfInBounds k true)
  | _,_=>false
 | .c k s,n,top,cM,listed=>match n,ops[k]? with
  | n+1,some o=>top&&!es.contains k&&(Region.ready .any ops listed).contains k&&Region.free .any ops listed k&&xn ops es listed k&&s.fU ops es n true cM (listed.setIfInBounds k true)
  | _,_=>false
 | .a k s,n,top,cM,listed=>match n with
  | n+1=>top&&es.contains k&&Region.ready .any ops listed==[k]&&B7 ops k&&s.fU ops es n true false (listed.setIfInBounds k true)
  | 0=>false
 | .e k s alt,n,top,cM,listed=>match n with
  | n+1=>(!top||((Region.ready .any ops listed).contains k&&(Region.ready .any ops listed).all fun i=>(k::alt.keys).contains i))&&es.contains k&&s.fU ops es n true true (listed.setIfInBounds k true)&&alt.fU ops es (n+1) false cM listed
  | 0=>false
section
variable {P:Program} {ops:Array Oper} {es:List Nat} {M:Nat→Prop} {J:I} {K:ak→I→Prop} {X:I→Prop}
def hx (P:Program) (ol:List Oper) (M:Nat→Prop) (J:I) (K:ak→I→Prop) (X:I→Prop):bJ→ak→I→Prop
 | .done,f,h=>K f h
 | .stop,_,_=>True
 | .q k s,f,h=>match ol[k]? with
  | some o=>(match ej ol o.guard f with
   | some true=>∃ v,cG P o (f.eval J) J=some (.val v J)∧(∀ i,lO (f.eval J) o.op=some i→¬M i)∧hx P ol M J K X s (f.put o.dst v) h
   | some false=>hx P ol M J K X s (f.put o.dst (.tuple [])) h
   | none=>False)
  | none=>False
 | .c k s,f,h=>match ol[k]? with
  | some o=>(match ej ol o.guard f with
   | some true=>∃ v,cG P o (f.eval h) h=some (.val v h)∧hx P ol M J K X s (f.put o.dst v) h
   | some false=>hx P ol M J K X s (f.put o.dst (.tuple [])) h
   | none=>False)
  | none=>False
 | .a k s,f,h=>match ol[k]? with
  | some o=>(match ej ol o.guard f with
   | some true=>eL P o (fun bE U=>hx P ol M J K X s bE U) (fun _ h=>X h) f h
   | some false=>hx P ol M J K X s (f.put o.dst (.tuple [])) h
   | none=>False)
  | none=>False
 | .e k s alt,f,h=>(match ol[k]? with
  | some o=>(match ej ol o.guard f with
   | some true=>eL P o (fun bE U=>aa J U M∧hx P ol M J K X s bE U) (fun _ h=>X h) f h
   | some false=>aa J h M∧hx P ol M J K X s (f.put o.dst (.tuple [])) h
   | none=>False)
  | none=>False)∧hx P ol M J K X alt f h
theorem GT (DL:vM J):∀ (s:bJ) (n:Nat) (cM:Bool) (listed:Array Bool) (f:ak) (h:I),(cM=true→aa J h M)→Down ops listed→hx P ops.toList M J K X s f h →
  (s.fU ops es n true cM listed=true→anyS P ops es M J K X n listed f h) ∧
  (∀ m,n=m+1→s.fU ops es n false cM listed=true→∀ i ∈ s.keys,i ∈ Region.ready .any ops listed→es.contains i=true∧Clause P ops es M J K X m listed f h i):=by
 intro s
 induction s with
 | done=>
  intro n cM listed f h gA dr he
  refine ⟨fun aU=>?_,fun m hm aU=>by simp [bJ.fU] at aU⟩
  simp only [bJ.fU,Bool.true_and,Bool.and_eq_true,beq_iff_eq,List.isEmpty_iff] at aU
  obtain ⟨rfl,aq⟩:=aU
  exact ⟨aq,he⟩
 | stop=>
  intro n cM listed f h gA dr he
  exact ⟨fun aU=>by simp [bJ.fU] at aU,fun m hm aU i hi=>by simp [bJ.keys] at hi⟩
 | q k s ih=>
  intro n cM listed f h gA dr he
  refine ⟨fun aU=>?_,fun m hm aU i hi=>by simp [bJ.keys] at hi⟩
  cases n with
  | zero=>simp [bJ.fU] at aU
  | succ n=>
   cases av:ops[k]? with
   | none=>simp [bJ.fU,av] at aU
   | some o=>
    simp only [bJ.fU,av,Bool.true_and,Bool.and_eq_true,Bool.not_eq_true'] at aU
    obtain ⟨⟨⟨⟨⟨eK,aq⟩,fo⟩,cO⟩,fy⟩,dy⟩:=aU
    have dL:=xp aq
    have gB:ops.toList[k]?=some o:=by simpa using av
    simp only [hx,gB] at he
    cases hw:ej ops.toList o.guard f with
    | none=>rw [hw] at he;exact he.elim
    | some b=>
     rw [hw] at he
     cases b with
     | true=>
      obtain ⟨v,bN,hm,fh⟩:=he
      refine zc av eK n listed f h (Region.free_spec av fo) dL dr ?_ ((ih n cM _ _ h gA (dr.add dL) fh).1 dy)
      exact .inl ⟨gA fy,fun U cF=>.inl ⟨hw,.inl (by rw [DK cF];exact Q9 DL cF cO hm bN)⟩⟩
     | false=>
      refine zc (v:=.tuple []) av eK n listed f h (Region.free_spec av fo) dL dr ?_ ((ih n cM _ _ h gA (dr.add dL) he).1 dy)
      exact .inl ⟨gA fy,fun U cF=>.inr ⟨hw,rfl⟩⟩
 | c k s ih=>
  intro n cM listed f h gA dr he
  refine ⟨fun aU=>?_,fun m hm aU i hi=>by simp [bJ.keys] at hi⟩
  cases n with
  | zero=>simp [bJ.fU] at aU
  | succ n=>
   cases av:ops[k]? with
   | none=>simp [bJ.fU,av] at aU
   | some o=>
    simp only [bJ.fU,av,Bool.true_and,Bool.and_eq_true,Bool.not_eq_true'] at aU
    obtain ⟨⟨⟨⟨eK,aq⟩,fo⟩,ma⟩,dy⟩:=aU
    have dL:=xp aq
    have gB:ops.toList[k]?=some o:=by simpa using av
    simp only [hx,gB] at he
    cases hw:ej ops.toList o.guard f with
    | none=>rw [hw] at he;exact he.elim
    | some b=>
     rw [hw] at he
     cases b with
     | true=>
      obtain ⟨v,bN,fh⟩:=he
      refine zc av eK n listed f h (Region.free_spec av fo) dL dr ?_ ((ih n cM _ _ h gA (dr.add dL) fh).1 dy)
      exact .inr ⟨ma,.inl ⟨hw,.inl bN⟩⟩
     | false=>
      refine zc (v:=.tuple []) av eK n listed f h (Region.free_spec av fo) dL dr ?_ ((ih n cM _ _ h gA (dr.add dL) he).1 dy)
      exact .inr ⟨ma,.inr ⟨hw,rfl⟩⟩
 | a k s ih=>
  intro n cM listed f h gA dr he
  refine ⟨fun aU=>?_,fun m hm aU i hi=>by simp [bJ.keys] at hi⟩
  cases n with
  | zero=>simp [bJ.fU] at aU
  | succ n=>
   simp only [bJ.fU,Bool.true_and,Bool.and_eq_true,beq_iff_eq] at aU
   obtain ⟨⟨⟨eK,aq⟩,ql⟩,dy⟩:=aU
   have dL:k ∈ Region.ready .any ops listed:=by rw [aq];simp
   refine ⟨fun ay=>(by rw [ay] at aq;cases aq),fun i hi o av=>?_⟩
   rw [aq] at hi
   simp at hi
   subst hi
   rw [if_pos eK]
   have gB:ops.toList[i]?=some o:=by simpa using av
   simp only [hx,gB] at he
   cases hw:ej ops.toList o.guard f with
   | none=>rw [hw] at he;exact he.elim
   | some b=>
    rw [hw] at he
    cases b with
    | true=>exact zb (fun bE U ad=>⟨.inl ql,(ih n false _ _ U (by simp) (dr.add dL) ad).1 dy⟩) (fun _ _ h=>h) he
    | false=>exact (ih n false _ _ h (by simp) (dr.add dL) he).1 dy
 | e k s alt rK om=>
  intro n cM listed f h gA dr he
  have main:∀ (m:Nat) (top:Bool),n=m+1→(bJ.e k s alt).fU ops es n top cM listed=true→∀ i ∈ (bJ.e k s alt).keys,i ∈ Region.ready .any ops listed→es.contains i=true∧Clause P ops es M J K X m listed f h i:=by
   intro m top aJ aU i hi qn
   subst aJ
   simp only [bJ.fU,Bool.and_eq_true] at aU
   obtain ⟨⟨⟨_,eK⟩,dy⟩,halt⟩:=aU
   simp only [hx] at he
   simp only [bJ.keys,List.mem_cons] at hi
   by_cases xr:i=k
   ·subst xr
    refine ⟨eK,fun o av=>?_⟩
    have gB:ops.toList[i]?=some o:=by simpa using av
    have h1:=he.1
    rw [gB] at h1
    simp only at h1
    cases hw:ej ops.toList o.guard f with
    | none=>rw [hw] at h1;exact h1.elim
    | some b=>
     rw [hw] at h1
     cases b with
     | true=>exact zb (fun bE U ad=>⟨.inr ad.1,(rK m true _ _ U (fun _=>ad.1) (dr.add qn) ad.2).1 dy⟩) (fun _ _ h=>h) h1
     | false=>exact (rK m true _ _ h (fun _=>h1.1) (dr.add qn) h1.2).1 dy
   ·rcases hi with hi | hi
    ·exact absurd hi xr
    ·exact (om (m+1) cM listed f h gA dr he.2).2 m rfl halt i hi qn
  refine ⟨fun aU=>?_,fun m hm aU=>main m false hm aU⟩
  cases n with
  | zero=>simp [bJ.fU] at aU
  | succ m=>
   have s8:(Region.ready .any ops listed).all (fun i=>(k::alt.keys).contains i)=true∧(Region.ready .any ops listed).contains k=true:=by
    simp only [bJ.fU,Bool.and_eq_true,Bool.not_true,Bool.false_or] at aU
    exact ⟨aU.1.1.1.2,aU.1.1.1.1⟩
   have gO:∀ i ∈ Region.ready .any ops listed,i ∈ (bJ.e k s alt).keys:=fun i hi=>by
    have:=(List.all_eq_true.1 s8.1) i hi
    exact xp this
   refine ⟨fun ay=>?_,fun i hi o av=>?_⟩
   ·have:=xp s8.2
    rw [ay] at this
    cases this
   ·obtain ⟨h1,ab⟩:=main m true rfl aU i (gO i hi) hi
    rw [if_pos h1]
    exact ab o av
theorem aZ.Eu {n id:Nat} {Q:ey→ak→I→Prop} (M:Nat→Prop) (s:bJ) (hm:P.follows .mixedOrders=true) (b3:s.fU ops es ops.size true true (Array.replicate ops.size false)=true) (aU:ops.toList.all (fun o=>j3 n o.dst)=true) {f:ak} {h:I}
  (ae:vM h→hx P ops.toList M h (fun f h=>Q .normal f h) (fun h=>∀ f,Q .panic f h) s f h):aZ P n (.region id ops true) Q f h:=by
 intro ρ B aG a w hw aB
 refine wpIn_wide.1 (wpIn_region_any (n:=0) hm (y0 (ρ0:=ρ) (es:=es) aU _ _ f h ρ a _ (Ren.le.refl ρ) hw.drew aB ?_))
 have:=(GT (es:=es) hw.wf s _ true _ f h (fun _=>aa.refl _ _) (fun k o av hk=>by simp [Array.getElem?_replicate] at hk;split at hk<;>simp_all) (ae hw.wf)).1 b3
 exact DH (fun f h af=>af f) _ _ _ _ this
end
end
end Go.Proofs.YtceanabgcnieeaaGreatDoor.Ab
namespace Go.Proofs.YtceanabgcnieeaaGreatDoor.Ab
noncomputable section
open Go Go.RowKit
def RS:V→Bool
 | .top | .bool _ | .int .. | .float .. | .complex .. | .string _ | .nilFunc | .nilIface | .en | .ag | .dk | .z0 | .gr=>true
 | _=>false
inductive ja (π:Nat→Nat):V→V→Prop
 | same (v) (h:RS v=true):ja π v v
 | ptr (i o):ja π (.ptr i o) (.ptr (π i) o)
 | aj (i o n c):ja π (.aj i o n c) (.aj (π i) o n c)
 | map (i):ja π (.map i) (.map (π i))
 | an (n) {cs ds:List V} (aw:cs.length=ds.length) (h:∀ (k:Nat) (v u:V),cs[k]?=some v→ds[k]?=some u→ja π v u):ja π (.an n cs) (.an n ds)
 | at {cs ds:List V} (aw:cs.length=ds.length) (h:∀ (k:Nat) (v u:V),cs[k]?=some v→ds[k]?=some u→ja π v u):ja π (.at cs) (.at ds)
 | agg {cs ds:List V} (aw:cs.length=ds.length) (h:∀ (k:Nat) (v u:V),cs[k]?=some v→ds[k]?=some u→ja π v u):ja π (.agg cs) (.agg ds)
 | tuple {cs ds:List V} (aw:cs.length=ds.length) (h:∀ (k:Nat) (v u:V),cs[k]?=some v→ds[k]?=some u→ja π v u):ja π (.tuple cs) (.tuple ds)
 | kB (i):ja π (.func (.yield i) [] []) (.func (.yield (π i)) [] [])
 | func (fn) (ay:yB fn=false) {cs ds es di:List V} (aw:cs.length=ds.length) (h:∀ (k:Nat) (v u:V),cs[k]?=some v→ds[k]?=some u→ja π v u) (gz:es.length=di.length) (ab:∀ (k:Nat) (v u:V),es[k]?=some v→di[k]?=some u→ja π v u):ja π (.func fn cs es) (.func fn ds di)
 | iface (t) {v u:V} (h:ja π v u):ja π (.iface t v) (.iface t u)
theorem xE {α β:Type} {l:List α} {m:List β} (h:l.length=m.length) {k:Nat} {y:β} (aX:m[k]?=some y):∃ x,l[k]?=some x :=
 ⟨l[k]'(by rw [h];exact (List.getElem?_eq_some_iff.1 aX).1),List.getElem?_eq_getElem _⟩
theorem ax.turn {π:Nat→Nat} {ρ ρ2:Ren} (aq:∀ i x,ρ.ren i=some x→ρ2.ren (π i)=some x) (aB:ρ2.frz=ρ.frz) {v u:V} (aN:ja π v u):∀ {x:Value},ax ρ v x→ax ρ2 u x:=by
 induction aN with
 | same v h=>
  intro x af
  cases af<;>simp [RS] at h
  ·exact .top _
  ·exact .bool _
  ·exact .int _ _
  ·exact .float _ _
  ·exact .complex _ _ _
  ·exact .string _
  ·exact .nilFunc
  ·exact .nilIface
  ·exact .en
  ·exact .ag
  ·exact .dk
  ·exact .z0 _ trivial
  ·exact .gr _ _
 | ptr i o=>intro x af;cases af with | ptr h o=>exact .ptr (aq _ _ h) o
 | aj i o n c=>intro x af;cases af with | aj h _ _ _ aw=>exact .aj (aq _ _ h) o n c aw
 | map i=>intro x af;cases af with | map h=>exact .map (aq _ _ h)
 | @an n cs ds aw h ih=>
  intro x af
  cases af with
  | an o n cap ar aJ av af=>
   exact .an o n cap (by rw [aB];exact ar) aJ (by rw [←aw];exact av) fun k u v' hu fm=>by
    obtain ⟨v,aN⟩:=xE aw hu
    exact ih k v u aN hu (af k v v' aN fm)
  | fH a c aL=>
   have:ds=[]:=List.eq_nil_of_length_eq_zero aw.symm
   subst this
   exact .fH a c aL
 | @«at» cs ds aw h ih=>
  intro x af
  cases af with
  | «at» o ar av af=>
   exact .at o (by rw [aB];exact ar) (by rw [←aw];exact av) fun k u v' hu fm=>by
    obtain ⟨v,aN⟩:=xE aw hu
    exact ih k v u aN hu (af k v v' aN fm)
 | @agg cs ds aw h ih=>
  intro x af
  cases af with
  | agg J af=>
   exact .agg (aw.symm.trans J) fun k u v' hu fm=>by
    obtain ⟨v,aN⟩:=xE aw hu
    exact ih k v u aN hu (af k v v' aN fm)
 | @tuple cs ds aw h ih=>
  intro x af
  cases af with
  | tuple J af=>
   exact .tuple (aw.symm.trans J) fun k u v' hu fm=>by
    obtain ⟨v,aN⟩:=xE aw hu
    exact ih k v u aN hu (af k v v' aN fm)
 | kB i=>intro x af;cases af with
  | kB h=>exact .kB (aq _ _ h)
  | func _ ay=>cases ay
 | @func fn ay cs ds es di aw h gz ab ih om=>
  intro x af
  cases af with
  | kB h=>cases ay
  | func fn _ J bM af aX=>
   exact .func fn ay (aw.symm.trans J) (gz.symm.trans bM) (fun k u v' hu fm=>by
    obtain ⟨v,aN⟩:=xE aw hu
    exact ih k v u aN hu (af k v v' aN fm)) fun k u v' hu fm=>by
    obtain ⟨v,aN⟩:=xE gz hu
    exact om k v u aN hu (aX k v v' aN fm)
 | iface t h ih=>
  intro x af
  cases af with
  | iface t h=>exact .iface t (ih h)
theorem ax.kd {π:Nat→Nat} {ρ:Ren} (aq:∀ i x,ρ.ren i=some x→π i=i) {v:V} {x:Value} (aN:ax ρ v x):ja π v v:=by
 induction aN with
 | ptr h o=>rename_i i b c;have:=ja.ptr (π:=π) i o;rw [aq _ _ h] at this;exact this
 | aj h o l c aw=>rename_i i b mW;have:=ja.aj (π:=π) i o l c;rw [aq _ _ h] at this;exact this
 | map h=>rename_i i b c;have:=ja.map (π:=π) i;rw [aq _ _ h] at this;exact this
 | @an b o n cap arr cs ar aJ av af ih=>
  refine .an n rfl fun k v u a b=>?_
  rw [a] at b;cases b
  have hk:k<cs.length:=(List.getElem?_eq_some_iff.1 a).1
  exact ih k v _ a (Array.getElem?_eq_getElem (show o+k<arr.size by omega))
 | fH a c aL=>exact .an 0 rfl fun k v u a b=>by simp at a
 | @«at» b o arr cs ar av af ih=>
  refine .at rfl fun k v u a b=>?_
  rw [a] at b;cases b
  have hk:k<cs.length:=(List.getElem?_eq_some_iff.1 a).1
  exact ih k v _ a (Array.getElem?_eq_getElem (show o+k<arr.size by omega))
 | kB h=>rename_i i b c;have:=ja.kB (π:=π) i;rw [aq _ _ h] at this;exact this
 | @func fn ay xs ys dE pZ J bM af aX ih om=>
  refine .func fn ay rfl (fun k v u a b=>?_) rfl fun k v u a b=>?_
  ·rw [a] at b;cases b
   have hk:k<xs.length:=(List.getElem?_eq_some_iff.1 a).1
   exact ih k v _ a (Array.getElem?_eq_getElem (show k<dE.size by omega))
  ·rw [a] at b;cases b
   have hk:k<ys.length:=(List.getElem?_eq_some_iff.1 a).1
   exact om k v _ a (Array.getElem?_eq_getElem (show k<pZ.size by omega))
 | iface t h ih=>exact .iface t ih
 | @agg xs dE J af ih=>
  refine .agg rfl fun k v u a b=>?_
  rw [a] at b;cases b
  have hk:k<xs.length:=(List.getElem?_eq_some_iff.1 a).1
  exact ih k v _ a (Array.getElem?_eq_getElem (show k<dE.size by omega))
 | @tuple xs dE J af ih=>
  refine .tuple rfl fun k v u a b=>?_
  rw [a] at b;cases b
  have hk:k<xs.length:=(List.getElem?_eq_some_iff.1 a).1
  exact ih k v _ a (Array.getElem?_eq_getElem (show k<dE.size by omega))
 | _=>exact .same _ rfl
def Ig (π:Nat→Nat) (l m:List V):Prop:=l.length=m.length∧∀ (k:Nat) (v u:V),l[k]?=some v→m[k]?=some u→ja π v u
theorem aQ.turn {π:Nat→Nat} {ρ ρ2:Ren} (aq:∀ i x,ρ.ren i=some x→ρ2.ren (π i)=some x) (aB:ρ2.frz=ρ.frz) {l m:List V} (h:Ig π l m) {b7:List Value} (aw:aQ ρ l b7):aQ ρ2 m b7 :=
 ⟨h.1.symm.trans aw.1,fun k u v' hu fm=>by
  obtain ⟨v,aN⟩:=xE h.1 hu
  exact ax.turn aq aB (h.2 k v u aN hu) (aw.2 k v v' aN fm)⟩
theorem aQ.kd {π:Nat→Nat} {ρ:Ren} (aq:∀ i x,ρ.ren i=some x→π i=i) {l:List V} {b7:List Value} (aw:aQ ρ l b7):Ig π l l :=
 ⟨rfl,fun k v u a b=>by
  rw [a] at b;cases b
  obtain ⟨v',fm,h⟩:=aw.get a
  exact h.kd aq⟩
def zo (π:Nat→Nat):nX→nX→Prop
 | .ix,.ix=>True
 | .loop j p a c y,.loop Ih CY du k5 k7=>Ih=π j∧p=CY∧a=du∧c=k5∧y=k7
 | _,_=>False
theorem k4.turn {π:Nat→Nat} {ρ ρ2:Ren} (aq:∀ i x,ρ.ren i=some x→ρ2.ren (π i)=some x) {w:World} {b:Nat} {arr:List Value} {k k2:nX} (h:zo π k k2) (az:k4 ρ w b arr k):k4 ρ2 w b arr k2:=by
 cases k with
 | ix=>cases k2 with
  | ix=>exact az
  | loop=>exact h.elim
 | loop j p a c y=>cases k2 with
  | ix=>exact h.elim
  | loop Ih CY du k5 k7=>
   obtain ⟨rfl,rfl,rfl,rfl,rfl⟩:=h
   obtain ⟨D,wJ,q,h1,ab⟩:=az
   exact ⟨D,wJ,q,aq _ _ h1,ab⟩
theorem k4.kd {π:Nat→Nat} {ρ:Ren} (aq:∀ i x,ρ.ren i=some x→π i=i) {w:World} {b:Nat} {arr:List Value} {k:nX} (az:k4 ρ w b arr k):zo π k k:=by
 cases k with
 | ix=>exact trivial
 | loop j p a c y=>
  obtain ⟨D,wJ,q,h1,ab⟩:=az
  exact ⟨(aq _ _ h1).symm,rfl,rfl,rfl,rfl⟩
def Ev (π:Nat→Nat):aD→aD→Prop
 | .dead,.dead=>True
 | .cells c e x,.cells d f y=>Ig π c d∧e=f∧x=y
 | .map es a1,.map di dl=>es.length=di.length∧a1=dl∧∀ (k:Nat) (p q:Nat×V×V),es[k]?=some p→di[k]?=some q→p.1=q.1∧ja π p.2.1 q.2.1∧ja π p.2.2 q.2.2
 | .iter m s a b,.iter e0 bF du fe=>e0=π m∧s=bF∧a=du∧b=fe
 | .dP k vs,.dP k' fP=>zo π k k'∧Ig π vs fP
 | _,_=>False
theorem gu.turn {π:Nat→Nat} {ρ ρ2:Ren} (aq:∀ i x,ρ.ren i=some x→ρ2.ren (π i)=some x) (aB:ρ2.frz=ρ.frz) {B:Nat} {w:World} {i:Nat} {o cw:aD} (h:Ev π o cw) (av:gu ρ B w i o):gu ρ2 B w (π i) cw:=by
 cases o with
 | dead=>cases cw<;>first | exact trivial | exact h.elim
 | cells c e x=>
  cases cw with
  | cells d f y=>
   obtain ⟨h1,rfl,rfl⟩:=h
   obtain ⟨b,bh,arr,bC,a2,a3,a4,a5,uk,Ii⟩:=av
   refine ⟨b,bh,arr,aq _ _ bC,by rw [aB];exact a2,a3,a4,by rw [←h1.1];exact a5,?_,by rw [←h1.1];exact Ii⟩
   rw [←h1.1]
   exact aQ.turn aq aB h1 uk
  | _=>exact h.elim
 | map es a1=>
  cases cw with
  | map di dl=>
   obtain ⟨h1,rfl,aI⟩:=h
   obtain ⟨b,bh,arr,bC,a2,a3,a4,a5,uk⟩:=av
   refine ⟨b,bh,arr,aq _ _ bC,by rw [aB];exact a2,a3,a4,h1.symm.trans a5,fun k q dG ae he=>?_⟩
   obtain ⟨p,az⟩:=xE h1 ae
   obtain ⟨hW,cZ,qT⟩:=aI k p q az ae
   obtain ⟨bf,bx,c3⟩:=uk k p dG az he
   exact ⟨hW.symm.trans bf,ax.turn aq aB cZ bx,ax.turn aq aB qT c3⟩
  | _=>exact h.elim
 | iter m s a b=>
  cases cw with
  | iter e0 bF du fe=>
   obtain ⟨rfl,rfl,rfl,rfl⟩:=h
   obtain ⟨b,bh,pt,p1,bC,a2,a3,a4,a5⟩:=av
   exact ⟨b,bh,pt,p1,aq _ _ bC,by rw [aB];exact a2,a3,aq _ _ a4,a5⟩
  | _=>exact h.elim
 | dP k vs=>
  cases cw with
  | dP k' fP=>
   obtain ⟨ab,aI⟩:=h
   obtain ⟨b,bh,arr,bC,a2,a3,a4,a5⟩:=av
   exact ⟨b,bh,arr,aq _ _ bC,by rw [aB];exact a2,a3,a4.turn aq ab,aQ.turn aq aB aI a5⟩
  | _=>exact h.elim
theorem gu.kd {π:Nat→Nat} {ρ:Ren} (aq:∀ i x,ρ.ren i=some x→π i=i) {B:Nat} {w:World} {i:Nat} {o:aD} (av:gu ρ B w i o):Ev π o o:=by
 cases o with
 | dead=>exact trivial
 | cells c e x=>
  obtain ⟨b,bh,arr,bC,a2,a3,a4,a5,uk,Ii⟩:=av
  exact ⟨uk.kd aq,rfl,rfl⟩
 | map es a1=>
  obtain ⟨b,bh,arr,bC,a2,a3,a4,a5,uk⟩:=av
  refine ⟨rfl,rfl,fun k p q az ae=>?_⟩
  rw [az] at ae;cases ae
  obtain ⟨bf,bx,c3⟩:=uk k p _ az (Array.getElem?_eq_getElem (show k<arr.size by rw [←a5];exact (List.getElem?_eq_some_iff.1 az).1))
  exact ⟨rfl,bx.kd aq,c3.kd aq⟩
 | iter m s a b=>
  obtain ⟨b,bh,pt,p1,bC,a2,a3,a4,a5⟩:=av
  exact ⟨(aq _ _ a4).symm,rfl,rfl,rfl⟩
 | dP k vs=>
  obtain ⟨b,bh,arr,bC,a2,a3,a4,a5⟩:=av
  exact ⟨a4.kd aq,a5.kd aq⟩
def mI (n:Nat) (ay:I) (f:ak) (h:I) (f2:ak) (ab:I):Prop :=
 ∀ (ρ0 ρ:Ren) (B:Nat) (aG ws w:World) (a:Act),aM ρ0 B aG ay ws→ρ0.le ρ→aM ρ B aG h w→df ρ n f a→∃ ρ2:Ren,ρ0.le ρ2∧aM ρ2 B aG ab w∧df ρ2 n f2 a
theorem mI.of {π ι:Nat→Nat} (h1:∀ i,ι (π i)=i) (ab:∀ j,π (ι j)=j) {n:Nat} {ez k k2:I} {f f2:ak} (pE:∀ i,i<ez.n→π i=i) (Ij:∀ i,k.n≤i→k.n≤ι i) (aJ:k2.n=k.n) (aE:k2.glob=ez.glob)
  (av:∀ j,Ev π (k.get j) (k2.get (π j))∨(j<ez.n∧k.get j=ez.get j∧k2.get j=ez.get j)) (aB:∀ t,t<n→ja π (f t) (f2 t)) (gy:∀ t,n≤t→f2 t=.top):mI n ez f k f2 k2:=by
 intro ρ0 ρ B aG ws w a Ew hle hw fo
 have aq:∀ i x,ρ.ren i=some x→({ ρ with ren:=fun j=>ρ.ren (ι j) }:Ren).ren (π i)=some x:=fun i x af=>by simp only [h1];exact af
 have lt:∀ i x,ρ0.ren i=some x→i<ez.n:=fun i x af=>Ew.heap.lt af
 have io:∀ i,i<ez.n→ι i=i:=fun i hi=>by have:=h1 i;rw [pE i hi] at this;exact this
 have le:ρ0.le { ρ with ren:=fun j=>ρ.ren (ι j) }:=⟨fun i x af=>by simp only [io i (lt i x af)];exact hle.ren i x af,hle.frz,hle.dfr⟩
 refine ⟨_,le,⟨⟨fun j aC=>?_,fun i j b c k5 hi aC aK a6=>?_,fun j=>?_,hw.heap.frz,fun g cs kt=>?_,hw.heap.base⟩,hw.below⟩,⟨fun t=>?_,fo.size,fo.defers⟩⟩
 ·exact hw.heap.gv _ (Ij j (by omega))
 ·have live:∀ i,k2.get i≠.dead→k.get (ι i)≠.dead:=fun i hi a7=>by
   rcases av (ι i) with mz | ⟨bC,a2,a3⟩
   ·rw [a7,ab] at mz
    apply hi
    cases hk:k2.get i with
    | dead=>rfl
    | _=>rw [hk] at mz;exact mz.elim
   ·have e:ι i=i:=by have:=pE _ bC;rw [ab] at this;exact this.symm
    rw [e] at a7 a2 a3
    exact hi (a3.trans (a2.symm.trans a7))
  have:=hw.heap.inj (ι i) (ι j) b c k5 (live i hi) (live j aC) aK a6
  rw [←ab i,this,ab]
 ·rcases av (ι j) with mz | ⟨bC,a2,a3⟩
  ·have:=gu.turn aq rfl mz (hw.heap.obj (ι j))
   rw [ab] at this
   exact this
  ·have e:ι j=j:=by have:=pE _ bC;rw [ab] at this;exact this.symm
   rw [e] at bC a2 a3
   have f1:=gu.kd (π:=π) (fun i x af=>pE i (lt i x af)) (Ew.heap.obj j)
   have c0:=hw.heap.obj j
   rw [a2] at c0
   rw [a3]
   have:=gu.turn aq rfl f1 c0
   rw [pE j bC] at this
   exact this
 ·rw [aE] at kt
  obtain ⟨arr,hW,cZ⟩:=Ew.heap.glob g cs kt
  exact ⟨arr,hle.frz _ _ hW,cZ.mono le⟩
 ·by_cases bM:t<n
  ·exact ax.turn aq rfl (aB t bM) (fo.tmps t)
  ·rw [gy t (by omega)];exact .top _
theorem aZ.Ik {P:Program} {n:Nat} {c:Code} {Q:ey→ak→I→Prop} {f:ak} {h:I} (J:aZ P n c (fun e f1 h1=>∃ f2 ab,mI n h f1 h1 f2 ab∧Q e f2 ab) f h):aZ P n c Q f h:=by
 intro ρ B aG a w hw aB
 refine wp_mono (J ρ B aG a w hw aB) fun e du w' ⟨ρ',x,bE,U,af,bo,bG,aw,f2,ab,al,ct⟩=>?_
 obtain ⟨ρ2,hW,cZ,qT⟩:=al ρ ρ' B aG w w' du hw aw bo bG
 exact ⟨ρ2,x,f2,ab,af,cZ,qT,hW,ct⟩
end
end Go.Proofs.YtceanabgcnieeaaGreatDoor.Ab
namespace Go.Proofs.YtceanabgcnieeaaGreatDoor.Ab
noncomputable section
open Go Go.RowKit
theorem aM.zp {ρ:Ren} {B:Nat} {aG:World} {h ab:I} {w:World} (R:aM ρ B aG h w) (aJ:h.n≤ab.n) (aE:ab.glob=h.glob) (av:∀ i,ab.get i=h.get i∨ab.get i=.dead):aM ρ B aG ab w:=by
 have aw:∀ i,ab.get i≠.dead→ab.get i=h.get i:=fun i hi=>(av i).resolve_right hi
 refine ⟨⟨fun i hi=>R.heap.gv i (by omega),fun i j b c k5 hi aC=>?_,fun i=>?_,R.heap.frz,fun g cs h=>R.heap.glob g cs (by rw [←aE];exact h),R.heap.base⟩,R.below⟩
 ·rw [aw i hi] at hi;rw [aw j aC] at aC;exact R.heap.inj i j b c k5 hi aC
 ·rcases av i with h | h
  ·rw [h];exact R.heap.obj i
  ·rw [h];exact trivial
theorem kC.A2 {ρ:Ren} {B:Nat} {h:I} {w:World} (H:kC ρ B h w) {i:Nat} (hi:h.n≤i):h.get i=.dead:=by
 have h1:=H.obj i
 have ab:=H.gv i hi
 cases aE:h.get i with
 | dead=>rfl
 | cells c e ex=>rw [aE] at h1;obtain ⟨b,bh,arr,aI,_⟩:=h1;rw [ab] at aI;cases aI
 | map es a1=>rw [aE] at h1;obtain ⟨b,bh,arr,aI,_⟩:=h1;rw [ab] at aI;cases aI
 | iter m since seen st=>rw [aE] at h1;obtain ⟨b,bh,pt,p1,aI,_⟩:=h1;rw [ab] at aI;cases aI
 | dP k vs=>rw [aE] at h1;obtain ⟨b,bh,arr,aI,_⟩:=h1;rw [ab] at aI;cases aI
section
variable {P:Program} {n:Nat} {Q:ey→ak→I→Prop}
def kf (P:Program) (n:Nat) (c:Code) (Q:ey→ak→I→Prop):Nat→ak→I→Prop
 | 0,_,_=>False
 | m+1,f,h=>aZ P n c (andThen (kf P n c Q m) Q) f h
theorem aZ.kf {c:Code} (m:Nat) {f:ak} {h:I} (J:Ab.kf P n c Q m f h):aZ P n (.loop c) Q f h:=by
 intro ρ B aG a w hw aB
 have key:∀ m f h,Ab.kf P n c Q m f h→∀ ρ1:Ren,ρ.le ρ1→∀ a w,aM ρ1 B aG h w→df ρ1 n f a→Code.rounds P c (jm n B aG ρ Q) m a w:=by
  intro m
  induction m with
  | zero=>intro f h pA;exact pA.elim
  | succ m ih=>
   intro f h pA ρ1 hle a w hw aB
   rw [rounds_succ]
   refine wp_mono (pA ρ1 B aG a w hw aB) fun e du w' ⟨ρ',x,bE,U,af,bo,bG,aw,ct⟩=>?_
   cases x<;>cases e<;>simp only [lL] at af
   ·exact ih bE U ct ρ' (hle.trans aw) du w' bo bG
   ·exact ⟨ρ',.exit _,bE,U,af,bo,bG,hle.trans aw,ct⟩
   ·exact ⟨ρ',.goto _,bE,U,af,bo,bG,hle.trans aw,ct⟩
   ·exact ⟨ρ',.ret,bE,U,trivial,bo,bG,hle.trans aw,ct⟩
   ·exact ⟨ρ',.panic,bE,U,af,bo,bG,hle.trans aw,ct⟩
 exact wp_loop_rounds m (key m f h J ρ (Ren.le.refl ρ) a w hw aB)
def Il (P:Program) (n l:Nat) (c:Code) (Q:ey→ak→I→Prop):Nat→ak→I→Prop
 | 0,_,_=>False
 | m+1,f,h=>aZ P n c (xu l (Il P n l c Q m) Q) f h
theorem aZ.Ex {c r:Code} {l:Nat} (aw:findLabel c l=some r) (m:Nat) {f:ak} {h:I} (J:aZ P n c (xu l (Il P n l r Q m) Q) f h):aZ P n (.scope c) Q f h:=by
 intro ρ B aG a w hw aB
 have key:∀ m f h,Il P n l r Q m f h→∀ ρ1:Ren,ρ.le ρ1→∀ a w,aM ρ1 B aG h w→df ρ1 n f a→DS P l r (jm n B aG ρ Q) m a w:=by
  intro m
  induction m with
  | zero=>intro f h pA;exact pA.elim
  | succ m ih=>
   intro f h pA ρ1 hle a w hw aB
   refine wp_mono (pA ρ1 B aG a w hw aB) fun e du w' ⟨ρ',bO,bE,U,af,bo,bG,dq,ct⟩=>?_
   cases bO<;>cases e<;>simp only [lL] at af
   ·exact ⟨ρ',.normal,bE,U,trivial,bo,bG,hle.trans dq,ct⟩
   ·exact ⟨ρ',.exit _,bE,U,af,bo,bG,hle.trans dq,ct⟩
   ·obtain ⟨rfl,aX⟩:=ct
    exact ⟨af.symm,ih bE U aX ρ' (hle.trans dq) du w' bo bG⟩
   ·exact ⟨ρ',.ret,bE,U,trivial,bo,bG,hle.trans dq,ct⟩
   ·exact ⟨ρ',.panic,bE,U,af,bo,bG,hle.trans dq,ct⟩
 refine i7 aw m (wp_mono (J ρ B aG a w hw aB) fun e du w' ⟨ρ',x,bE,U,af,bo,bG,dq,ct⟩=>?_)
 cases x<;>cases e<;>simp only [lL] at af
 ·exact ⟨ρ',.normal,bE,U,trivial,bo,bG,dq,ct⟩
 ·exact ⟨ρ',.exit _,bE,U,af,bo,bG,dq,ct⟩
 ·obtain ⟨rfl,aX⟩:=ct
  exact ⟨af.symm,key m bE U aX ρ' dq du w' bo bG⟩
 ·exact ⟨ρ',.ret,bE,U,trivial,bo,bG,dq,ct⟩
 ·exact ⟨ρ',.panic,bE,U,af,bo,bG,dq,ct⟩
theorem aeU {c:Code} {f:ak} {h:I} (J:aZ P n c (fun x f h=>Q x f h∧∀ j,x≠.goto j) f h):aZ P n (.scope c) Q f h:=by
 intro ρ B aG a w hw aB
 intro b k cs
 obtain ⟨e,a₁,w₁,⟨ρ',x,bE,U,af,bo,bG,dq,ct,aE⟩,ho⟩:=J ρ B aG a w hw aB b (.inScope c::k) cs
 cases x<;>cases e<;>simp only [lL] at af
 ·exact ⟨.normal,a₁,w₁,⟨ρ',.normal,bE,U,trivial,bo,bG,dq,ct⟩,.head step_scope (Steps.trans ho (.one step_inScope))⟩
 ·exact ⟨.exit _,a₁,w₁,⟨ρ',.exit _,bE,U,af,bo,bG,dq,ct⟩,fun k' hk=>.head step_scope (ho k' (by simp [exitTo,hk]))⟩
 ·exact (aE _ rfl).elim
 ·exact ⟨.ret,a₁,w₁,⟨ρ',.ret,bE,U,trivial,bo,bG,dq,ct⟩,.of_steps (.one step_scope) ho⟩
 ·exact ⟨.panic _,a₁,w₁,⟨ρ',.panic,bE,U,af,bo,bG,dq,ct⟩,.of_steps (.one step_scope) ho⟩
end
theorem ah.Ey {P:Program} {fid:FuncId} {fn:Func} {c:Code} (iD:P.funcs[fid]?=some fn) (ar:fn.body=some c) {args:List V} (hlen:args.length≤fn.ntmps)
  {h:I} {R:V→I→Prop} (ae:aZ P fn.ntmps c (sK P fn R fun _=>False) (Ab.dQ args) h):ah P fid args h R:=by
 intro ρ B aG w args' hw aL
 refine calls_of_wp iD ar ?_
 have fin:∀ (ρ':Ren) (f:ak) (U:I) (du:Act) (w':World),Ren.le { ρ with dfr:=[] } ρ'→aM ρ' B aG U w'→df ρ' fn.ntmps f du→(match iZ P fn.results.toList f U with | some r=>R r U | none=>False) →
   du.defers=[]∧∃ v,(results fn du.tmps).run P w'=.ok v w'∧((∃ (ρ':Ren) (r:V) (r':Value) (U:I),Ending.returned v=.returned r'∧ax ρ' r r'∧aM ρ' B aG U w'∧ρ.le ρ'∧R r U) ∨
    (∃ (ρ':Ren) (gT:List PanicEntry) (U:I),Ending.returned v=.panicked gT∧w7 gT∧aM ρ' B aG U w'∧ρ.le ρ'∧False)):=by
  intro ρ' f U du w' aw bo bG ct
  refine ⟨bG.defers.trans aw.dfr,?_⟩
  cases jX:iZ P fn.results.toList f U with
  | none=>simp [jX] at ct
  | some r=>
  simp only [jX] at ct
  obtain ⟨r',h1,ab⟩:=Hw bo bG jX
  exact ⟨r',h1,.inl ⟨_,r,r',U,rfl,ab.dfr ρ.dfr,bo.dfr ρ.dfr,aw.mU,ct⟩⟩
 refine wp_mono (ae { ρ with dfr:=[] } B aG _ w (hw.dfr []) (Hx (aL.dfr []) hlen rfl)) fun e du w' ⟨ρ',x,f,U,af,bo,bG,aw,ct⟩=>?_
 cases x<;>cases e<;>simp only [lL] at af
 ·exact fin ρ' f U du w' aw bo bG ct
 ·exact ct.elim
 ·exact ct.elim
 ·exact fin ρ' f U du w' aw bo bG ct
 ·exact ct.elim
structure Ext (P:Program) (G:List (Nat×List V)) where
 mixed:P.follows .mixedOrders=true
 ext:FuncId→Nat
 sl:∀ f,(ext f=1→mY P f)∧(ext f=2→l3 P f)∧(ext f=3→l4 P f)
 zq:TypeId→String→Option FuncId
 dX:∀ t s f,zq t s=some f→dX P t s f
 vP:FuncId→Bool
 sm:FuncId→Bool
 A3:∀ g,sm g=true→∀ (fJ fK:V) (h:I) (R:I→Prop),R h→Mn P g [fJ,fK] h R
 sn:FuncId→Bool
 Ez:FuncId→List V→bg→Option (V×bg)
 A4:∀ f a s r bF,sn f=true→Ez f a s=some (r,bF)→fj s bF∧ah P f a (s.a G) fun x h=>x=r∧h=bF.a G
abbrev cH:=ey×Fr×bg
def vQ {α β:Type}:List α→(α→Option (List β))→Option (List β)
 | [],_=>some []
 | x::l,k=>match k x with
  | some a=>match vQ l k with
   | some b=>some (a++b)
   | none=>none
  | none=>none
theorem RT {α β:Type} {k:α→Option (List β)}:∀ {l:List α} {out:List β},vQ l k=some out→∀ x ∈ l,∃ a,k x=some a∧∀ y ∈ a,y ∈ out
 | [],_,_,x,af=>by simp at af
 | z::l,out,h,x,af=>by
  unfold vQ at h
  split at h
  case h_2=>cases h
  rename_i a aL
  split at h
  case h_2=>cases h
  rename_i b ar
  obtain rfl:=Option.some.inj h
  rcases List.mem_cons.1 af with rfl | af
  ·exact ⟨a,aL,fun y aX=>List.mem_append.2 (.inl aX)⟩
  ·obtain ⟨a2,h1,ab⟩:=RT ar x af
   exact ⟨a2,h1,fun y aX=>List.mem_append.2 (.inr (ab y aX))⟩
theorem RU {α β:Type} {k:α→Option (List β)}:∀ {l:List α} {out:List β},vQ l k=some out→∀ y ∈ out,∃ x ∈ l,∃ a,k x=some a∧y ∈ a
 | [],_,h,y,aX=>by
  obtain rfl:=Option.some.inj h
  simp at aX
 | z::l,out,h,y,aX=>by
  unfold vQ at h
  split at h
  case h_2=>cases h
  rename_i a aL
  split at h
  case h_2=>cases h
  rename_i b ar
  obtain rfl:=Option.some.inj h
  rcases List.mem_append.1 aX with aX | aX
  ·exact ⟨z,by simp,a,aL,aX⟩
  ·obtain ⟨x,af,a2,h1,ab⟩:=RU ar y aX
   exact ⟨x,by simp [af],a2,h1,ab⟩
def um {α β:Type} (l:List α) (k:α→Option (List β)):Option (List β):=match l with
 | [p]=>k p
 | _=>vQ l k
theorem RV {α β:Type} (l:List α) (k:α→Option (List β)):um l k=vQ l k:=by
 unfold um
 split
 ·rename_i p
  unfold vQ
  cases k p<;>simp [vQ]
 ·rfl
theorem m8 {α β:Type} {k:α→Option (List β)} {l:List α} {out:List β} (h:um l k=some out):∀ x ∈ l,∃ a,k x=some a∧∀ y ∈ a,y ∈ out:=RT (by rw [←RV];exact h)
theorem m9 {α β:Type} {k:α→Option (List β)} {l:List α} {out:List β} (h:um l k=some out):∀ y ∈ out,∃ x ∈ l,∃ a,k x=some a∧y ∈ a:=RU (by rw [←RV];exact h)
def sa:Nat→List V→Fr→Fr
 | _,[],t=>t
 | i,v::l,t=>sa (i+1) l (t.set v i)
theorem m6:∀ (l:List V) (i:Nat) (t:Fr) (j:Nat),(sa i l t).a j=if i≤j∧j<i+l.length then l.getD (j - i) .top else t.a j
 | [],i,t,j=>by rw [sa,if_neg (by simp)]
 | v::l,i,t,j=>by
  have J:Fr.a (Tr.set v t i)=t.a.put (some i) v:=Fr.hY t (some i) v
  rw [sa,m6 l,J]
  show (if _ then _ else if j=i then v else t.a j)=_
  by_cases h1:j=i
  ·subst h1
   rw [if_neg (by omega),if_pos rfl,if_pos ⟨Nat.le_refl _,by simp⟩]
   simp
  ·rw [if_neg h1]
   by_cases ab:i≤j∧j<i+(v::l).length
   ·rw [List.length_cons] at ab
    rw [if_pos (by omega),if_pos (by simp;omega),show j - i=(j - (i+1))+1 by omega]
    simp
   ·rw [List.length_cons] at ab
    rw [if_neg (by omega),if_neg (by simp;omega)]
theorem Im (l:List V):(sa 0 l .e).a=dQ l:=by
 funext j
 rw [m6]
 unfold dQ
 by_cases h:j<l.length
 ·rw [if_pos (by omega),Nat.sub_zero]
 ·rw [if_neg (by omega)]
  simp [List.getD,List.getElem?_eq_none (Nat.le_of_not_lt h),Fr.a,Tr.get]
def bg.enter (s:bg):bg:={ s with b:=s.n,w:=[] }
def bg.leave (s s1:bg):bg:={ s1 with b:=s.b,w:=s1.w.foldl (note s.b) s.w }
theorem EA {s s1:bg} (k:fj s.enter s1):fj s (s.leave s1) :=
 ⟨k.n,rfl,fun j h=>Ce h,fun j aJ ar hw=>k.bt j aJ aJ fun h=>hw (zn h ar),fun j aC=>k.jv j aC⟩
def A5:V→V→Bool
 | .int .i64 a,.int .i64 b=>a==b
 | .bool a,.bool b=>a==b
 | .aj i o n c,.aj j p m d=>i==j&&o==p&&n==m&&c==d
 | .ptr i o,.ptr j p=>i==j&&o==p
 | .ag,.ag=>true
 | .en,.en=>true
 | .z0,.z0=>true
 | _,_=>false
theorem RW {a b:V} (h:A5 a b=true):a=b:=by
 unfold A5 at h
 split at h<;>simp_all
def A6:List V→List V→Bool
 | [],[]=>true
 | a::l,b::m=>A5 a b&&A6 l m
 | _,_=>false
theorem RX:∀ {a b:List V},A6 a b=true→a=b
 | [],[],_=>rfl
 | a::l,b::m,h=>by
  simp only [A6,Bool.and_eq_true] at h
  rw [RW h.1,RX h.2]
 | [],_::_,h=>by cases h
 | _::_,[],h=>by cases h
def EB:aD→aD→Bool
 | .cells c e x,.cells d f y=>A6 c d&&e==f&&x==y
 | .dead,.dead=>true
 | _,_=>false
theorem aeV {a b:aD} (h:EB a b=true):a=b:=by
 unfold EB at h
 split at h
 ·simp only [Bool.and_eq_true,beq_iff_eq] at h
  rw [RX h.1.1,h.1.2,h.2]
 ·rfl
 ·cases h
def tf (s:bg) (m:Nat) (r:V) (s1:bg):bg:={ s1 with n:=m,t:=(fp r++s1.w).foldl (fun t i=>t.set (s1.obj i) i) s.t }
def Io (s:bg) (m:Nat) (o2:V) (s0:bg) (p:V×bg):Bool:=A5 p.1 o2&&Nat.ble p.2.n m&&p.2.b==s0.b&&p.2.w==s0.w&&(fp o2++s0.w).all fun i=>EB (p.2.obj i) (s0.obj i)
def vR (m:Nat) (l:List (V×bg)):Nat:=l.foldl (fun m p=>cond (Nat.ble p.2.n m) m p.2.n) m
def MH (s:bg):List (V×bg)→Option (List (V×bg))
 | []=>none
 | [(r,s1)]=>some [(r,s.leave s1)]
 | (r,s1)::l=>cond (Nat.ble s1.n (vR s1.n l)&&l.all (Io s (vR s1.n l) r s1)) (some [(r,s.leave (tf s (vR s1.n l) r s1))]) none
theorem fold_congr {g k:Nat→aD}:∀ {W:List Nat} {t:Tr aD},(∀ i ∈ W,g i=k i)→W.foldl (fun t i=>t.set (g i) i) t=W.foldl (fun t i=>t.set (k i) i) t
 | [],t,_=>rfl
 | i::W,t,h=>by
  rw [List.foldl_cons,List.foldl_cons,h i (by simp)]
  exact fold_congr fun j aC=>h j (by simp [aC])
theorem aeW {s s0:bg} {m:Nat} {o2:V} {p:V×bg} (h:Io s m o2 s0 p=true):p.1=o2∧p.2.n≤m∧tf s m p.1 p.2=tf s m o2 s0:=by
 obtain ⟨r,n,t,b,w⟩:=p
 obtain ⟨hZ,t0,gx,aG⟩:=s0
 simp only [Io,Bool.and_eq_true,beq_iff_eq,List.all_eq_true] at h
 obtain ⟨⟨⟨⟨h1,ab⟩,aI⟩,h4⟩,h5⟩:=h
 have h1:=RW h1
 subst h1 aI h4
 refine ⟨rfl,Nat.le_of_ble_eq_true ab,?_⟩
 unfold tf
 congr 1
 exact fold_congr fun i hi=>aeV (h5 i hi)
theorem pp (s:bg) (m:Nat) (r:V) (s1:bg) (i:Nat):(tf s m r s1).obj i=if i ∈ fp r++s1.w then s1.obj i else s.obj i:=MF _ _ _ _
theorem aeX {s s1:bg} {m:Nat} {r:V} (k:fj s.enter s1) (a7:∀ i,s.n≤i→s.obj i=.dead) (i:Nat):(tf s m r s1).obj i=s1.obj i∨(tf s m r s1).obj i=.dead:=by
 rw [pp]
 by_cases h:i ∈ fp r++s1.w
 ·rw [if_pos h];exact .inl rfl
 ·rw [if_neg h]
  by_cases hi:i<s.n
  ·exact .inl (k.bt i hi hi fun hw=>h (List.mem_append.2 (.inr hw))).symm
  ·exact .inr (a7 i (by omega))
theorem aeY {s s1:bg} {m:Nat} {r:V} (hm:s1.n≤m) (k:fj s.enter s1):fj s.enter (tf s m r s1) :=
 ⟨Nat.le_trans k.n hm,k.b,k.w,fun j aJ ar hw=>by
  rw [pp]
  by_cases h:j ∈ fp r++s1.w
  ·rw [if_pos h];exact k.bt j aJ ar hw
  ·rw [if_neg h];rfl,fun j aC=>by
  rw [pp]
  by_cases h:j ∈ fp r++s1.w
  ·rw [if_pos h];exact k.jv j (Nat.le_trans hm aC)
  ·rw [if_neg h];rfl⟩
end
end Go.Proofs.YtceanabgcnieeaaGreatDoor.Ab
namespace Go.Proofs.YtceanabgcnieeaaGreatDoor.Ab
open Go Go.RowKit
noncomputable section
def jb (m i:Nat):Bool:=!Nat.beq (Nat.land 1 (Nat.shiftRight m i)) 0
theorem zr (m i:Nat):jb m i=m.testBit i:=by
 unfold jb Nat.testBit
 show (!Nat.beq (1 &&& m >>> i) 0)=_
 cases h:(1 &&& m >>> i)<;>rfl
def bit (i:Nat):Nat:=Nat.shiftLeft 1 i
theorem Ip (a b i:Nat):jb (Nat.lor a b) i=(jb a i||jb b i):=by
 rw [zr,zr,zr]
 exact Nat.testBit_or a b i
theorem RY (i j:Nat):jb (bit i) j=decide (i=j):=by
 rw [zr]
 show (1 <<< i).testBit j=_
 rw [Nat.shiftLeft_eq,Nat.one_mul,Nat.testBit_two_pow]
theorem Iq (i:Nat):jb 0 i=false:=by rw [zr];simp
theorem aeZ {a m:Nat} (h:Nat.lor a m=m) {i:Nat} (hi:jb a i=true):jb m i=true:=by
 rw [←h,Ip,hi];rfl
theorem ae0 {a m:Nat} (h:∀ i,jb a i=true→jb m i=true):Nat.lor a m=m:=by
 apply Nat.eq_of_testBit_eq
 intro i
 show (a ||| m).testBit i=_
 rw [Nat.testBit_or,←zr,←zr]
 cases al:jb a i
 ·rfl
 ·rw [h i al];rfl
def EC (T:Nat→Nat) (l:List Edge) (m:Nat):Nat:=l.foldl (fun m e=>cond (Region.binds .any e) (Nat.lor (Nat.lor m (bit e.on)) (T e.on)) m) m
theorem MI (T:Nat→Nat):∀ (l:List Edge) (m i:Nat),jb (EC T l m) i=true↔jb m i=true∨∃ e ∈ l,Region.binds .any e=true∧(e.on=i∨jb (T e.on) i=true)
 | [],m,i=>by simp [EC]
 | e::l,m,i=>by
  unfold EC
  rw [List.foldl_cons]
  refine (MI T l _ i).trans ?_
  cases ar:Region.binds .any e with
  | true=>
   have aK:jb (Nat.lor (Nat.lor m (bit e.on)) (T e.on)) i=(jb m i||decide (e.on=i)||jb (T e.on) i):=by rw [Ip,Ip,RY]
   simp only [cond_true,aK,Bool.or_eq_true,decide_eq_true_eq,List.mem_cons,exists_eq_or_imp,ar,true_and,or_assoc]
  | false=>simp [ar]
def xF (o:Oper):Nat:=EC (fun _=>0) o.after.toList 0
theorem MJ {o:Oper} {i:Nat}:jb (xF o) i=true↔∃ e ∈ o.after,Region.binds .any e=true∧e.on=i:=by
 unfold xF
 rw [MI]
 simp [Iq]
structure tg (ops:Array Oper) (listed:Array Bool) (lm:Nat):Prop where
 size:listed.size=ops.size
 bit:∀ i,jb lm i=listed.getD i false
theorem tg.add {ops:Array Oper} {listed:Array Bool} {lm k:Nat} (h:tg ops listed lm) (hk:k<ops.size):tg ops (listed.setIfInBounds k true) (Nat.lor lm (Ab.bit k)) :=
 ⟨by simp [h.size],fun i=>by
  rw [Ip,RY,h.bit]
  have J:=h.size
  by_cases hi:k=i
  ·subst hi
   simp [Array.getD,J,hk]
  ·simp only [hi,decide_false,Bool.or_false,Array.getD_eq_getD_getElem?,Array.getElem?_setIfInBounds,if_false]⟩
theorem tg.zero (ops:Array Oper):tg ops (Array.replicate ops.size false) 0 :=
 ⟨by simp,fun i=>by
  rw [Iq]
  simp only [Array.getD_eq_getD_getElem?,Array.getElem?_replicate]
  split<;>rfl⟩
def rQ (ops:Array Oper) (lm i:Nat):Bool:=match ops[i]? with
 | some o=>!jb lm i&&Nat.beq (Nat.lor (xF o) lm) lm
 | none=>false
def zt (ops:Array Oper) (lm:Nat):List Nat:=(List.range ops.size).filter (rQ ops lm)
theorem Ir {ops:Array Oper} {listed:Array Bool} {lm:Nat} (h:tg ops listed lm):zt ops lm=Region.ready .any ops listed:=by
 unfold zt Region.ready
 refine List.filter_congr fun i hi=>?_
 rw [List.mem_range] at hi
 have av:ops[i]?=some ops[i]:=Array.getElem?_eq_getElem hi
 have aE:listed.getD i true=listed.getD i false:=by
  simp [Array.getD,h.size,hi]
 unfold rQ
 rw [av,aE,←h.bit]
 simp only [Option.map_some,Option.getD_some]
 congr 1
 apply Bool.eq_iff_iff.2
 rw [Array.all_eq_true']
 constructor
 ·intro ad e he
  have ad:=Nat.eq_of_beq_eq_true ad
  cases ar:Region.binds .any e with
  | false=>rfl
  | true=>
   have:=aeZ ad (MJ.2 ⟨e,he,ar,rfl⟩)
   rw [h.bit] at this
   simp [this]
 ·intro ad
  have:Nat.lor (xF ops[i]) lm=lm:=ae0 fun j aC=>by
   obtain ⟨e,he,ar,rfl⟩:=MJ.1 aC
   have:=ad e he
   rw [h.bit]
   simpa [ar] using this
  rw [this]
  exact Nat.beq_refl _
def t8 (ops:Array Oper) (lm i:Nat):Bool :=
 match ops[i]? with
 | none=>false
 | some jO=>(List.range ops.size).all fun j=>Nat.beq j i||jb lm j||match ops[j]? with
   | some fS=>jb (xF fS) i||jO.apart ops fS
   | none=>true
theorem RZ {ops:Array Oper} {listed:Array Bool} {lm i:Nat} (h:tg ops listed lm) (aB:t8 ops lm i=true):Region.free .any ops listed i=true:=by
 unfold t8 at aB
 unfold Region.free
 split at aB
 ·cases aB
 ·rename_i jO av
  rw [List.all_eq_true] at aB
  simp only [av]
  rw [List.all_eq_true]
  try simp only [List.all_eq_true]
  intro j aC
  have J8:=List.mem_range.1 aC
  have:=aB j aC
  have fS:ops[j]?=some ops[j]:=Array.getElem?_eq_getElem J8
  rw [fS] at this⊢
  simp only [Bool.or_eq_true] at this⊢
  rcases this with (h1 | h1) | h1 | h1
  ·exact .inl (.inl (by rw [Nat.eq_of_beq_eq_true h1];simp))
  ·exact .inl (.inr (by
    rw [h.bit] at h1
    simpa [Array.getD,h.size,J8] using h1))
  ·obtain ⟨e,he,ar,R0⟩:=MJ.1 h1
   exact .inr (.inl (by rw [Array.any_eq_true'];exact ⟨e,he,by simp [ar,R0]⟩))
  ·exact .inr (.inr h1)
theorem R1 {ops:Array Oper}:∀ {n k i:Nat},ga ops n k i=true→ga ops (n+1) k i=true
 | 0,k,i,h=>by simp [ga] at h
 | n+1,k,i,h=>by
  unfold ga at h
  unfold ga
  split at h
  ·rename_i o av
   rw [Array.any_eq_true'] at h⊢
   obtain ⟨e,he,h1⟩:=h
   refine ⟨e,he,?_⟩
   simp only [Bool.and_eq_true,Bool.or_eq_true] at h1⊢
   exact ⟨h1.1,h1.2.imp id R1⟩
  ·cases h
theorem R2 {ops:Array Oper} {n m k i:Nat} (A7:n≤m) (h:ga ops n k i=true):ga ops m k i=true:=by
 obtain ⟨d,rfl⟩:=Nat.exists_eq_add_of_le A7
 clear A7
 induction d with
 | zero=>exact h
 | succ d ih=>exact R1 ih
def uo (T:Tr Nat) (i:Nat):Nat:=match T.get i with
 | some m=>m
 | none=>0
def ED:List Oper→Nat→Tr Nat→Tr Nat
 | [],_,T=>T
 | o::l,i,T=>ED l (i+1) (T.set (EC (uo T) o.after.toList 0) i)
def MK (ops:Array Oper) (i:Nat) (T:Tr Nat):Prop:=∀ k j,jb (uo T k) j=true→k<i∧ga ops (k+1) k j=true
theorem R3 {ops:Array Oper}:∀ (l:List Oper) (i:Nat) (T:Tr Nat),MK ops i T→ops.toList.drop i=l→i≤ops.size→MK ops ops.size (ED l i T)
 | [],i,T,h,_,hi=>fun k j hk=>⟨Nat.lt_of_lt_of_le (h k j hk).1 hi,(h k j hk).2⟩
 | o::l,i,T,h,a7,hi=>by
  have aT:i<ops.size:=by
   apply Nat.lt_of_not_le
   intro ad
   rw [List.drop_eq_nil_of_le (by simpa using ad)] at a7
   cases a7
  have av:ops[i]?=some o:=by
   have:ops.toList[i]?=some o:=by
    have:=congrArg (fun l=>l[0]?) a7
    simpa using this
   simpa using this
  refine R3 l (i+1) _ (fun k j hk=>?_) ?_ aT
  ·unfold uo at hk
   rw [Tr.ll] at hk
   by_cases iy:k=i
   ·subst iy
    rw [if_pos rfl] at hk
    refine ⟨Nat.lt_succ_self _,?_⟩
    rcases (MI _ _ _ _).1 hk with ay | ⟨e,he,ar,ab⟩
    ·rw [Iq] at ay;cases ay
    ·unfold ga
     rw [av]
     simp only
     rw [Array.any_eq_true']
     refine ⟨e,by simpa using he,?_⟩
     simp only [Bool.and_eq_true,Bool.or_eq_true,beq_iff_eq]
     refine ⟨ar,ab.imp id fun aI=>?_⟩
     obtain ⟨h4,h5⟩:=h _ _ aI
     exact R2 h4 h5
   ·rw [if_neg iy] at hk
    obtain ⟨h4,h5⟩:=h k j hk
    exact ⟨Nat.lt_succ_of_lt h4,h5⟩
  ·have:=congrArg List.tail a7
   simpa using this
def rR (ops:Array Oper):Tr Nat:=ED ops.toList 0 .e
theorem ML (ops:Array Oper) {k j:Nat} (h:jb (uo (rR ops) k) j=true):ga ops ops.size k j=true:=by
 have ay:MK ops 0 .e:=fun k j hk=>by
  have:uo .e k=0:=rfl
  rw [this,Iq] at hk
  cases hk
 obtain ⟨h1,ab⟩:=R3 ops.toList 0 .e ay rfl (Nat.zero_le _) k j h
 exact R2 h1 ab
def EE (T:Tr Nat) (es:List Nat) (lm i:Nat):Bool:=es.all fun e=>jb lm e||jb (uo T e) i
def Is (n:Nat) (T:Tr Nat) (k:Nat):Bool:=(List.range n).all fun i=>Nat.beq i k||jb (uo T k) i||jb (uo T i) k
theorem ae1 {ops:Array Oper} {listed:Array Bool} {lm i:Nat} {es:List Nat} (h:tg ops listed lm) (J:∀ e ∈ es,e<ops.size) (av:EE (rR ops) es lm i=true):xn ops es listed i=true:=by
 unfold EE at av
 unfold xn
 rw [List.all_eq_true] at av⊢
 intro e he
 have:=av e he
 simp only [Bool.or_eq_true] at this⊢
 refine this.imp (fun h1=>?_) (ML ops)
 rw [h.bit] at h1
 simpa [Array.getD,h.size,J e he] using h1
theorem ae2 {ops:Array Oper} {k:Nat} (av:Is ops.size (rR ops) k=true):B7 ops k=true:=by
 unfold Is at av
 unfold B7
 rw [List.all_eq_true] at av⊢
 intro e he
 have:=av e he
 simp only [Bool.or_eq_true,beq_iff_eq] at this⊢
 rcases this with (h1 | h1) | h1
 ·exact .inl (.inl (Nat.eq_of_beq_eq_true h1))
 ·exact .inl (.inr (ML _ h1))
 ·exact .inr (ML _ h1)
def bJ.jw (ops:Array Oper) (T:Tr Nat) (es:List Nat):bJ→Nat→Bool→Bool→Nat→Bool
 | .done,n,top,cM,lm=>top&&Nat.beq n 0&&(zt ops lm).isEmpty
 | .stop,_,top,_,_=>!top
 | .q k s,n,top,cM,lm=>match n,ops[k]? with
  | n+1,some o=>top&&!es.contains k&&rQ ops lm k&&t8 ops lm k&&qk o.op&&cM&&s.jw ops T es n true cM (Nat.lor lm (bit k))
  | _,_=>false
 | .c k s,n,top,cM,lm=>match n,ops[k]? with
  | n+1,some o=>top&&!es.contains k&&rQ ops lm k&&t8 ops lm k&&EE T es lm k&&s.jw ops T es n true cM (Nat.lor lm (bit k))
  | _,_=>false
 | .a k s,n,top,cM,lm=>match n with
  | n+1=>top&&es.contains k&&rQ ops lm k&&(zt ops lm==[k])&&Is ops.size T k&&s.jw ops T es n true false (Nat.lor lm (bit k))
  | 0=>false
 | .e k s alt,n,top,cM,lm=>match n with
  | n+1=>Nat.blt k ops.size&&(!top||(rQ ops lm k&&(zt ops lm).all fun i=>(k::alt.keys).contains i))&&es.contains k&&s.jw ops T es n true true (Nat.lor lm (bit k))&&alt.jw ops T es (n+1) false cM lm
  | 0=>false
theorem It {ops:Array Oper} {listed:Array Bool} {lm k:Nat} (h:tg ops listed lm) (aq:rQ ops lm k=true):(Region.ready .any ops listed).contains k=true∧k<ops.size:=by
 have hk:k<ops.size:=by
  unfold rQ at aq
  split at aq
  ·rename_i o av;exact (Array.getElem?_eq_some_iff.1 av).1
  ·cases aq
 refine ⟨?_,hk⟩
 rw [←Ir h]
 simp [zt,hk,aq]
theorem ae3 {ops:Array Oper} {es:List Nat} (J:∀ e ∈ es,e<ops.size):∀ (s:bJ) (n:Nat) (top cM:Bool) (lm:Nat) (listed:Array Bool),tg ops listed lm→s.jw ops (rR ops) es n top cM lm=true→s.fU ops es n top cM listed=true:=by
 intro s
 induction s with
 | done=>
  intro n top cM lm listed aw h
  simp only [bJ.jw,Bool.and_eq_true] at h
  rw [Ir aw] at h
  simp only [bJ.fU,Bool.and_eq_true,beq_iff_eq]
  exact ⟨⟨h.1.1,Nat.eq_of_beq_eq_true h.1.2⟩,h.2⟩
 | stop=>intro n top cM lm listed aw h;exact h
 | q k s ih=>
  intro n top cM lm listed aw h
  cases n with
  | zero=>simp [bJ.jw] at h
  | succ n=>
   cases av:ops[k]? with
   | none=>simp [bJ.jw,av] at h
   | some o=>
    simp only [bJ.jw,av,Bool.and_eq_true] at h
    obtain ⟨⟨⟨⟨⟨⟨h1,ab⟩,aI⟩,h4⟩,h5⟩,dT⟩,lP⟩:=h
    obtain ⟨cq,ck⟩:=It aw aI
    simp only [bJ.fU,av,Bool.and_eq_true]
    exact ⟨⟨⟨⟨⟨⟨h1,ab⟩,cq⟩,RZ aw h4⟩,h5⟩,dT⟩,ih _ _ _ _ _ (aw.add ck) lP⟩
 | c k s ih=>
  intro n top cM lm listed aw h
  cases n with
  | zero=>simp [bJ.jw] at h
  | succ n=>
   cases av:ops[k]? with
   | none=>simp [bJ.jw,av] at h
   | some o=>
    simp only [bJ.jw,av,Bool.and_eq_true] at h
    obtain ⟨⟨⟨⟨⟨h1,ab⟩,aI⟩,h4⟩,h5⟩,lP⟩:=h
    obtain ⟨cq,ck⟩:=It aw aI
    simp only [bJ.fU,av,Bool.and_eq_true]
    exact ⟨⟨⟨⟨⟨h1,ab⟩,cq⟩,RZ aw h4⟩,ae1 aw J h5⟩,ih _ _ _ _ _ (aw.add ck) lP⟩
 | a k s ih=>
  intro n top cM lm listed aw h
  cases n with
  | zero=>simp [bJ.jw] at h
  | succ n=>
   simp only [bJ.jw,Bool.and_eq_true] at h
   obtain ⟨⟨⟨⟨⟨h1,ab⟩,aI⟩,h4⟩,h5⟩,lP⟩:=h
   obtain ⟨cq,ck⟩:=It aw aI
   rw [Ir aw] at h4
   simp only [bJ.fU,Bool.and_eq_true]
   exact ⟨⟨⟨⟨h1,ab⟩,h4⟩,ae2 h5⟩,ih _ _ _ _ _ (aw.add ck) lP⟩
 | e k s alt ih om=>
  intro n top cM lm listed aw h
  cases n with
  | zero=>simp [bJ.jw] at h
  | succ n=>
   simp only [bJ.jw,Bool.and_eq_true] at h
   obtain ⟨⟨⟨⟨ay,h1⟩,ab⟩,aI⟩,h4⟩:=h
   have hk:k<ops.size:=Nat.le_of_ble_eq_true ay
   simp only [bJ.fU,Bool.and_eq_true]
   refine ⟨⟨⟨?_,ab⟩,ih _ _ _ _ _ (aw.add hk) aI⟩,om _ _ _ _ _ aw h4⟩
   simp only [Bool.or_eq_true,Bool.and_eq_true] at h1⊢
   refine h1.imp id fun h5=>⟨(It aw h5.1).1,?_⟩
   rw [←Ir aw]
   exact h5.2
end
end Go.Proofs.YtceanabgcnieeaaGreatDoor.Ab
namespace Go.Proofs.YtceanabgcnieeaaGreatDoor.Ab
noncomputable section
open Go Go.RowKit
def EF (op:Op):Program→Oper→(Operand→V)→I→Option Step:=match op with
 | .move x=>fun _ _ ba h=>some (.val (ba x) h)
 | .assign x=>fun _ _ ba h=>some (.val (ba x) h)
 | .pick c a b=>fun _ _ ba h=>match ba c with
  | .bool t=>some (.val (if t then ba a else ba b) h)
  | _=>none
 | .alloc e=>fun P _ _ h=>dV (vo P e h)
 | .box e x=>fun _ _ ba h=>dV (mV e (ba x) h)
 | .load t a=>fun P _ ba h=>eI (i6 P t (ba a) h) h
 | .store t a x=>fun P _ ba h=>nN (vn P t (ba a) (ba x) h)
 | .binOp op t x y _=>fun P _ ba h=>eI (cl P op t x y (ba x) (ba y)) h
 | .unOp op _ x=>fun P _ ba h=>eI (rF P op (ba x)) h
 | .slice t x lo hi mx=>fun P _ ba h=>eI (jL P t (ba x) (lo.map ba) (hi.map ba) (mx.map ba)) h
 | .fieldAddr s x k=>fun P _ ba h=>eI (wL P s (ba x) k) h
 | .field t x k=>fun P _ ba h=>eI (yM P t (ba x) k) h
 | .indexAddr t x gm=>fun P _ ba h=>eI (ik P t (ba x) (ba gm)) h
 | .index t x gm=>fun P _ ba h=>eI (ua P t (ba x) (ba gm)) h
 | .extract t k=>fun _ _ ba h=>match ba t with
  | .tuple vs=>eI vs[k]? h
  | _=>none
 | .call c=>fun P o ba h=>gZ P c o.type ba h
 | _=>fun P o ba h=>cG P o ba h
theorem EG (P:Program) (o:Oper) (ba:Operand→V) (h:I):EF o.op P o ba h=cG P o ba h:=by
 obtain ⟨dst,op,type,pos,after,guard⟩:=o
 cases op<;>rfl
def R4 (op:Op) {α:Type}:(Call→α)→(Operand→α)→α→α:=match op with
 | .call c=>(match c.callee with
  | .builtin _=>fun _ _ d=>d
  | _=>fun a _ _=>a c)
 | .next it false=>fun _ b _=>b it
 | _=>fun _ _ d=>d
section
variable (P:Program) (G:List (Nat×List V)) (X:Ext P G)
def Iu (args:List V):List Nat:=match args with | x::_=>fp x | []=>[]
def th (fn:Func) (s:bg):List cH→Option (List (V×bg))
 | []=>some []
 | (e,f,s1)::l=>match e with
  | .normal | .ret=>match iZ P fn.results.toList f.a (s1.a G),th fn s l with
   | some r,some o=>some ((r,s1)::o)
   | _,_=>none
  | _=>none
noncomputable def Iv (rc:Nat→Code→Fr→bg→Option (List cH)) (fid:FuncId) (args:List V) (s:bg):Option (List (V×bg)) :=
 match P.funcs[fid]? with
  | none=>none
  | some fn=>match fn.body with
   | none=>none
   | some c=>cond (Nat.ble args.length fn.ntmps) (match rc fn.ntmps c (sa 0 args .e) s.enter with
    | some outs=>match th P G fn s outs with
     | some l=>MH s l
     | none=>none
    | none=>none) none
def bg.kf (s:bg) (p:Tmp) (a b:Code) (vs:List V):bg:={ n:=s.n+1+1,t:=(s.t.set (.dP .ix []) s.n).set (.dP (.loop s.n p a b false) vs) (s.n+1),b:=s.n+1+1,w:=[] }
noncomputable def MM (rc:Nat→Code→Fr→bg→Option (List cH)) (fid:FuncId) (args:List V) (s:bg):Option (List (V×bg)) :=
 match P.funcs[fid]? with
 | some fn=>match fn.body with
  | some (.seq A (.seq q0 (.block rS (.rangeFunc (.tmp g) ps a b))))=>match ps.toList with
   | [p]=>cond (Nat.ble args.length fn.ntmps) (match rc fn.ntmps A (sa 0 args .e) s.enter with
    | some [(.normal,f1,s1)]=>match rc fn.ntmps q0 f1 s1 with
     | some [(.normal,f2,s2)]=>match f2.a g with
      | .func (.func gf) [] caps=>cond (bP P gf) (match Iv P G rc gf (.func (.yield (s2.n+1)) [] []::caps) (s2.kf p a b ((List.range fn.ntmps).map f2.a)) with
       | some [(_,gp)]=>cond (!gp.w.elem s2.n&&!gp.w.elem (s2.n+1)) (match iZ P fn.results.toList f2.a (({ gp with t:=(gp.t.set .dead (s2.n+1)).set .dead s2.n }:bg).a G) with
        | some r=>some [(r,{ n:=gp.n,t:=(gp.t.set .dead (s2.n+1)).set .dead s2.n,b:=s.b,w:=(s2.w++gp.w).foldl (note s.b) s.w })]
        | none=>none) none
       | _=>none) none
      | _=>none
     | _=>none
    | _=>none) none
   | _=>none
  | _=>none
 | none=>none
def MN:ey→Bool
 | .normal=>true
 | .ret=>true
 | _=>false
noncomputable def MO (rc:Nat→Code→Fr→bg→Option (List cH)) (fid:FuncId) (args:List V) (s:bg):Option (List (V×bg)) :=
 match P.funcs[fid]? with
 | some fn=>match fn.body with
  | some (.seq A (.seq q0 (.seq (.region AP ops false) C)))=>match ops.toList with
   | [⟨some t,.makeFunc (.func g) xs ys,_,_,_,none⟩,⟨none,.defer ⟨.value (.tmp k1),zs,_⟩,_,_,_,none⟩]=>match xs.toList,ys.toList,zs.toList with
    | [],[.tmp x,.tmp y],[]=>cond (Nat.beq k1 t&&Nat.blt t fn.ntmps&&bP P g&&X.sm g&&Nat.ble args.length fn.ntmps) (match rc fn.ntmps A (sa 0 args .e) s.enter with
     | some [(.normal,f1,s1)]=>match rc fn.ntmps q0 f1 s1 with
      | some [(.normal,f2,s2)]=>match rc fn.ntmps C (f2.put (some t) .top) s2 with
       | some [(e,f3,h0)]=>cond (MN e) (match iZ P fn.results.toList f3.a (h0.a G) with
        | some r=>some [(r,s.leave h0)]
        | none=>none) none
       | _=>none
      | _=>none
     | _=>none) none
    | _,_,_=>none
   | _=>none
  | _=>none
 | none=>none
def EH (P:Program) (fid:FuncId):Bool :=
 match P.funcs[fid]? with
 | none=>false
 | some fn=>match fn.body with
  | some (.seq _ (.seq _ (.seq (.region _ ops false) _)))=>(match ops.toList with
   | [_,⟨_,.defer _,_,_,_,_⟩]=>true
   | _=>false)
  | _=>false
noncomputable def zu (rc:Nat→Code→Fr→bg→Option (List cH)) (fid:FuncId) (args:List V) (s:bg):Option (List (V×bg)) :=
 match cond (X.sn fid) (X.Ez fid args s) none with
 | some p=>some [p]
 | none=>cond (X.vP fid) (MM P G rc fid args s) (cond (EH P fid) (MO P G X rc fid args s) (Iv P G rc fid args s))
noncomputable def EI (fid:FuncId) (args:List V) (s:bg):Option (List (V×bg)) :=
 match X.ext fid with
 | 1=>(w2 (s.a G) args).map fun v=>[(v,s)]
 | 2=>(rI (s.a G) args).map fun v=>[(v,s)]
 | 3=>cond (rP (Iu args) s.n) ((pk (s.a G) args).map fun p=>[(p.1,sync s p.2 (Iu args))]) none
 | _=>none
noncomputable def EJ (o:Oper) (f:Fr) (s:bg):Option (List (V×bg)) :=
 cond (l8 o.op) (match EF o.op P o (f.a.eval (s.a G)) (s.a G) with
  | some (.val v _)=>some [(v,s)]
  | _=>none) (match EF o.op P o (f.a.eval (s.a G)) (s.a G) with
 | some (.val v U)=>cond (rP (q6 (f.a.eval (s.a G)) o.op) s.n) (some [(v,sync s U (q6 (f.a.eval (s.a G)) o.op))]) none
 | _=>none)
noncomputable def Iw (rc:Nat→Code→Fr→bg→Option (List cH)) (y:Nat→List V→bg→Option (List (V×bg))) (c:Call) (f:Fr) (s:bg):Option (List (V×bg)) :=
 match c.callee with
 | .builtin _=>none
 | .value g=>match f.a.eval (s.a G) g with
  | .func (.func fid) xs ys=>cond (bP P fid) (zu P G X rc fid (xs++c.args.toList.map (f.a.eval (s.a G))++ys) s) (EI P G X fid (xs++c.args.toList.map (f.a.eval (s.a G))++ys) s)
  | .func (.yield i) [] []=>y i (c.args.toList.map (f.a.eval (s.a G))) s
  | _=>none
 | .invoke r name=>match f.a.eval (s.a G) r with
  | .iface t v=>match X.zq t name with
   | some fid=>zu P G X rc fid (v::c.args.toList.map (f.a.eval (s.a G))) s
   | none=>none
  | _=>none
def Ix (it:V) (s:bg):Option (List (V×bg)):=cond (rP (fp it) s.n) ((r7 it (s.a G)).map fun l=>l.map fun p=>(p.1,sync s p.2 (fp it))) none
noncomputable def zv (rc:Nat→Code→Fr→bg→Option (List cH)) (y:Nat→List V→bg→Option (List (V×bg))) (o:Oper) (f:Fr) (s:bg):Option (List (V×bg)) :=
 R4 o.op (fun c=>Iw P G X rc y c f s) (fun it=>Ix G (f.a.eval (s.a G) it) s) (EJ P G o f s)
noncomputable def ox (rc:Nat→Code→Fr→bg→Option (List cH)) (y:Nat→List V→bg→Option (List (V×bg))) (ol l:List Oper):Fr→bg→Option (List (Fr×bg)) :=
 List.rec (motive:=fun _=>Fr→bg→Option (List (Fr×bg))) (fun f s=>some [(f,s)]) (fun o _ ih f s=>match ej ol o.guard f.a with
  | some true=>match zv P G X rc y o f s with
   | some outs=>um outs fun p=>ih (f.put o.dst p.1) p.2
   | none=>none
  | some false=>ih (f.put o.dst (.tuple [])) s
  | none=>none) l
theorem ae4 (rc:Nat→Code→Fr→bg→Option (List cH)) (y:Nat→List V→bg→Option (List (V×bg))) (ol l:List Oper) (o:Oper) (f:Fr) (s:bg):ox P G X rc y ol (o::l) f s=match ej ol o.guard f.a with
  | some true=>match zv P G X rc y o f s with
   | some outs=>um outs fun p=>ox P G X rc y ol l (f.put o.dst p.1) p.2
   | none=>none
  | some false=>ox P G X rc y ol l (f.put o.dst (.tuple [])) s
  | none=>none:=rfl
structure jc where
 R:List Nat
 W:List Nat
 T:List (Nat×Nat×Nat)
 f:Fr
 s:bg
def jc.ti (r:Option Nat) (o:jc):jc:={ o with R:=match r with | some i=>i::o.R | none=>o.R }
def jc.jx (w:List Nat) (t:Nat×Nat×Nat) (o:jc):jc:={ o with W:=w++o.W,T:=t::o.T }
noncomputable def pF (rc:Nat→Code→Fr→bg→Option (List cH)) (y:Nat→List V→bg→Option (List (V×bg))) (ol:List Oper) (s0:bg):bJ→Fr→bg→Option (List jc)
 | .done,f,s=>some [⟨[],[],[],f,s⟩]
 | .stop,_,_=>some []
 | .q k ku,f,s=>match ol[k]? with
  | some o=>match ej ol o.guard f.a with
   | some true=>cond (l8 o.op) (match EF o.op P o (f.a.eval (s0.a G)) (s0.a G) with
    | some (.val v _)=>match pF rc y ol s0 ku (f.put o.dst v) s with
     | some (x::l)=>some ((x::l).map (jc.ti (lO (f.a.eval (s0.a G)) o.op)))
     | _=>none
    | _=>none) none
   | some false=>pF rc y ol s0 ku (f.put o.dst (.tuple [])) s
   | none=>none
  | none=>none
 | .c k ku,f,s=>match ol[k]? with
  | some o=>match ej ol o.guard f.a with
   | some true=>cond (l8 o.op) (match EF o.op P o (f.a.eval (s.a G)) (s.a G) with
    | some (.val v _)=>pF rc y ol s0 ku (f.put o.dst v) s
    | _=>none) none
   | some false=>pF rc y ol s0 ku (f.put o.dst (.tuple [])) s
   | none=>none
  | none=>none
 | .a k ku,f,s=>match ol[k]? with
  | some o=>match ej ol o.guard f.a with
   | some true=>match zv P G X rc y o f s with
    | some [(v,s1)]=>(pF rc y ol s0 ku (f.put o.dst v) s1).map fun l=>l.map (jc.jx [] (k,s.n,s1.n))
    | _=>none
   | some false=>pF rc y ol s0 ku (f.put o.dst (.tuple [])) s
   | none=>none
  | none=>none
 | .e k ku alt,f,s=>match pF rc y ol s0 alt f s with
  | some m=>(match ol[k]? with
   | some o=>match ej ol o.guard f.a with
    | some true=>match zv P G X rc y o f s with
     | some [(v,s1)]=>match pF rc y ol s0 ku (f.put o.dst v) s1 with
      | some (x::l)=>some ((x::l).map (jc.jx s1.w (k,s.n,s1.n))++m)
      | _=>none
     | _=>none
    | some false=>match pF rc y ol s0 ku (f.put o.dst (.tuple [])) s with
     | some (x::l)=>some ((x::l).map (jc.jx s.w (k,s.n,s.n))++m)
     | _=>none
    | none=>none
   | none=>none)
  | none=>none
def eO {α:Type} (p:α→α→Bool):List α→List α→Bool
 | [],[]=>true
 | a::l,b::m=>p a b&&eO p l m
 | _,_=>false
def k0 (π:Nat→Nat):Nat→V→V→Bool
 | 0,_,_=>false
 | k+1,a,b=>match a,b with
  | .ptr i o,.ptr j p=>π i==j&&o==p
  | .aj i o n c,.aj j p m d=>π i==j&&o==p&&n==m&&c==d
  | .map i,.map j=>π i==j
  | .an n cs,.an m ds=>n==m&&eO (k0 π k) cs ds
  | .at cs,.at ds=>eO (k0 π k) cs ds
  | .agg cs,.agg ds=>eO (k0 π k) cs ds
  | .tuple cs,.tuple ds=>eO (k0 π k) cs ds
  | .func (.func f) cs es,.func (.func g) ds di=>f==g&&eO (k0 π k) cs ds&&eO (k0 π k) es di
  | .iface t v,.iface u w=>t==u&&k0 π k v w
  | .top,.top=>true
  | .bool a,.bool b=>a==b
  | .int k a,.int l b=>decide (k=l)&&a==b
  | .ag,.ag=>true
  | .en,.en=>true
  | .dk,.dk=>true
  | .z0,.z0=>true
  | .nilFunc,.nilFunc=>true
  | .nilIface,.nilIface=>true
  | _,_=>false
def vS (π:Nat→Nat):aD→aD→Bool
 | .dead,.dead=>true
 | .cells c e x,.cells d f y=>eO (k0 π 9) c d&&e==f&&x==y
 | .map es a1,.map di dl=>a1==dl&&eO (fun p q:Nat×V×V=>p.1==q.1&&k0 π 9 p.2.1 q.2.1&&k0 π 9 p.2.2 q.2.2) es di
 | .iter m s a b,.iter e0 bF du fe=>π m==e0&&s==bF&&a==du&&b==fe
 | _,_=>false
def jy (a b:Nat) (L:List (Nat×Nat)) (i:Nat):Nat:=cond (Nat.ble a i&&Nat.blt i b) (match L.find? fun p=>p.1==i with | some p=>p.2 | none=>i) i
def J9 (Cf uq:List (Nat×Nat×Nat)):List (Nat×Nat):=uq.flatMap fun t=>match Cf.find? fun u=>u.1==t.1 with | some u=>(List.range' t.2.1 (t.2.2 - t.2.1)).zip (List.range' u.2.1 (u.2.2 - u.2.1)) | none=>[]
def Iy (n:Nat) (s0:bg) (F:Fr) (s1:bg) (Cf:List (Nat×Nat×Nat)) (o:jc):Bool :=
 let L:=J9 Cf o.T
 let π:=jy s0.n s1.n L
 let ι:=jy s0.n s1.n (L.map fun p=>(p.2,p.1))
 o.s.n==s1.n&&o.s.w==s1.w&&(List.range' s0.n (s1.n - s0.n)).all (fun i=>ι (π i)==i&&π (ι i)==i&&Nat.ble s0.n (π i)&&Nat.blt (π i) s1.n&&vS π (o.s.obj i) (s1.obj (π i))) &&
  o.s.w.all (fun i=>vS π (o.s.obj i) (s1.obj i))&&(List.range n).all fun t=>k0 π 9 (o.f.a t) (F.a t)
def R5 (n:Nat) (s0:bg):List jc→Option (Fr×bg)
 | []=>none
 | [o]=>some (o.f,o.s)
 | o::l=>
  let F:=sa 0 ((List.range n).map o.f.a) .e
  cond ((o::l).all (Iy n s0 F o.s o.T)) (some (F,o.s)) none
def q7 (ops:Array Oper):List Nat:=(List.range ops.size).filter fun k=>match ops[k]? with | some o=>!qk o.op | none=>true
def zw (ops:Array Oper) (T:Tr Nat) (es:List Nat):Nat→Bool→Nat→bJ
 | 0,_,_=>.done
 | n+1,cM,lm=>match zt ops lm with
  | []=>.done
  | k::r=>match (k::r).find? fun i=>!es.contains i&&t8 ops lm i&&(cM||EE T es lm i) with
   | some i=>cond (EE T es lm i) (.c i (zw ops T es n cM (Nat.lor lm (bit i)))) (.q i (zw ops T es n cM (Nat.lor lm (bit i))))
   | none=>match r with
    | []=>cond (Is ops.size T k&&es.all fun e=>Nat.beq e k||jb lm e) (.a k (zw ops T es n false (Nat.lor lm (bit k)))) (.e k (zw ops T es n true (Nat.lor lm (bit k))) .stop)
    | _=>(k::r).foldr (fun i t=>.e i (zw ops T es n true (Nat.lor lm (bit i))) t) .stop
theorem ae5 {ops:Array Oper}:∀ e ∈ q7 ops,e<ops.size:=fun e he=>by
 unfold q7 at he
 exact List.mem_range.1 (List.mem_filter.1 he).1
noncomputable def Iz (rc:Nat→Code→Fr→bg→Option (List cH)) (y:Nat→List V→bg→Option (List (V×bg))) (n:Nat) (ops:Array Oper) (ku:bJ) (f:Fr) (s:bg):Option (List cH) :=
 cond (ku.jw ops (rR ops) (q7 ops) ops.size true true 0) (match pF P G X rc y ops.toList s.enter ku f s.enter with
  | some l=>cond (l.all fun o=>o.R.all fun r=>l.all fun p=>!p.W.elem r) (match R5 n s.enter l with
   | some (bE,s1)=>some [(.normal,bE,s.leave s1)]
   | none=>none) none
  | none=>none) none
noncomputable def Cg (rc:Nat→Code→Fr→bg→Option (List cH)) (i:Nat) (args:List V) (s:bg):Option (List (V×bg)) :=
 match s.obj i,args with
 | .dP (.loop jd p (.region cq mc false) (.block rS (.region ck me false)) false) vs,[v]=>
  cond (Nat.blt p vs.length&&Nat.blt i s.n&&(mc.toList.all fun o=>j3 vs.length o.dst)&&(me.toList.all fun o=>j3 vs.length o.dst))
   (match ox P G X rc (fun _ _ _=>none) mc.toList mc.toList ((sa 0 vs .e).put (some p) v) s.enter with
   | some [(f1,s1)]=>cond (!s1.w.elem i) (match ox P G X rc (fun _ _ _=>none) me.toList me.toList f1 ({ s1 with t:=s1.t.set (.dP (.loop jd p (.region cq mc false) (.block rS (.region ck me false)) true) vs) i }:bg).enter with
    | some [(_,h0)]=>cond (!h0.w.elem i) (some [(.bool true,{ n:=h0.n,t:=h0.t.set (.dP (.loop jd p (.region cq mc false) (.block rS (.region ck me false)) false) vs) i,b:=s.b,w:=(s1.w++h0.w).foldl (note s.b) s.w })]) none
    | _=>none) none
   | _=>none) none
 | _,_=>none
noncomputable def Ch (rc:Nat→Code→Fr→bg→Option (List cH)) (n:Nat) (c:Code) (k:Nat):Fr→bg→Option (List cH) :=
 Nat.rec (motive:=fun _=>Fr→bg→Option (List cH)) (fun _ _=>none) (fun _ ih f s=>match rc n c f s with
  | some l=>um l fun r=>match r.1 with
   | .normal=>ih r.2.1 r.2.2
   | _=>some [r]
  | none=>none) k
theorem ae6 (rc:Nat→Code→Fr→bg→Option (List cH)) (n:Nat) (c:Code) (k:Nat) (f:Fr) (s:bg):Ch rc n c (k+1) f s=match rc n c f s with
  | some l=>um l fun r=>match r.1 with
   | .normal=>Ch rc n c k r.2.1 r.2.2
   | _=>some [r]
  | none=>none:=rfl
noncomputable def EK (rc:Nat→Code→Fr→bg→Option (List cH)) (n l:Nat) (c:Code):Nat→Fr→bg→Option (List cH)
 | 0,_,_=>none
 | k+1,f,s=>match rc n c f s with
  | some [(.goto j,f1,s1)]=>cond (Nat.beq j l) (EK rc n l c k f1 s1) none
  | some [(e,f1,s1)]=>some [(e,f1,s1)]
  | _=>none
noncomputable def zx (rc:Nat→Code→Fr→bg→Option (List cH)) (n:Nat):Code→Fr→bg→Option (List cH)
 | .skip,f,s=>some [(.normal,f,s)]
 | .label _,f,s=>some [(.normal,f,s)]
 | .exit i,f,s=>some [(.exit i,f,s)]
 | .goto l,f,s=>some [(.goto l,f,s)]
 | .ret,f,s=>some [(.ret,f,s)]
 | .seq a b,f,s=>match rc n a f s with
  | some l=>um l fun r=>match r.1 with
   | .normal=>rc n b r.2.1 r.2.2
   | _=>some [r]
  | none=>none
 | .cond c a b,f,s=>match f.a.eval (s.a G) c with
  | .bool true=>rc n a f s
  | .bool false=>rc n b f s
  | _=>none
 | .block i b,f,s=>match rc n b f s with
  | some l=>some (l.map fun r=>match r.1 with
   | .exit j=>(cond (Nat.beq j i) .normal (.exit j),r.2)
   | _=>r)
  | none=>none
 | .loop b,f,s=>Ch rc n b 5000 f s
 | .scope c,f,s=>match rc n c f s with
  | some [(.goto l,f1,s1)]=>match findLabel c l with
   | some r=>EK rc n l r 100 f1 s1
   | none=>none
  | some [(e,f1,s1)]=>some [(e,f1,s1)]
  | _=>none
 | .region _ ops false,f,s=>cond (ops.toList.all fun o=>j3 n o.dst) (match ox P G X rc (Cg P G X rc) ops.toList ops.toList f s with
  | some l=>some (l.map fun p=>(.normal,p))
  | none=>none) none
 | .region _ ops true,f,s=>cond (ops.toList.all fun o=>j3 n o.dst) (Iz P G X rc (Cg P G X rc) n ops (zw ops (rR ops) (q7 ops) ops.size true 0) f s) none
 | _,_,_=>none
noncomputable def iL (rc:Nat→Code→Fr→bg→Option (List cH)) (n:Nat) (a b:Code) (f:Fr) (s:bg):Option (List cH) :=
 match rc n a f s with
  | some l=>um l fun r=>match r.1 with
   | .normal=>rc n b r.2.1 r.2.2
   | _=>some [r]
  | none=>none
noncomputable def ae7 (rc:Nat→Code→Fr→bg→Option (List cH)) (n:Nat) (c:Operand) (a b:Code) (f:Fr) (s:bg):Option (List cH) :=
 match f.a.eval (s.a G) c with
  | .bool true=>rc n a f s
  | .bool false=>rc n b f s
  | _=>none
noncomputable def ae8 (rc:Nat→Code→Fr→bg→Option (List cH)) (n:Nat) (i:Nat) (b:Code) (f:Fr) (s:bg):Option (List cH) :=
 match rc n b f s with
  | some l=>some (l.map fun r=>match r.1 with
   | .exit j=>(cond (Nat.beq j i) .normal (.exit j),r.2)
   | _=>r)
  | none=>none
noncomputable def ae9 (rc:Nat→Code→Fr→bg→Option (List cH)) (n:Nat) (b:Code) (f:Fr) (s:bg):Option (List cH) :=
 Ch rc n b 5000 f s
noncomputable def afa (rc:Nat→Code→Fr→bg→Option (List cH)) (n:Nat) (c:Code) (f:Fr) (s:bg):Option (List cH) :=
 match rc n c f s with
  | some [(.goto l,f1,s1)]=>match findLabel c l with
   | some r=>EK rc n l r 100 f1 s1
   | none=>none
  | some [(e,f1,s1)]=>some [(e,f1,s1)]
  | _=>none
noncomputable def MP (rc:Nat→Code→Fr→bg→Option (List cH)) (n:Nat) (ops:Array Oper) (f:Fr) (s:bg):Option (List cH) :=
 cond (ops.toList.all fun o=>j3 n o.dst) (match ox P G X rc (Cg P G X rc) ops.toList ops.toList f s with
  | some l=>some (l.map fun p=>(.normal,p))
  | none=>none) none
noncomputable def afb (rc:Nat→Code→Fr→bg→Option (List cH)) (n:Nat) (ops:Array Oper) (f:Fr) (s:bg):Option (List cH) :=
 cond (ops.toList.all fun o=>j3 n o.dst) (Iz P G X rc (Cg P G X rc) n ops (zw ops (rR ops) (q7 ops) ops.size true 0) f s) none
end
def afc (c:Code):(P:Program)→(G:List (Nat×List V))→Ext P G→(Nat→Code→Fr→bg→Option (List cH))→Nat→Fr→bg→Option (List cH):=match c with
 | .skip=>fun _ _ _ _ _ f s=>some [(.normal,f,s)]
 | .label _=>fun _ _ _ _ _ f s=>some [(.normal,f,s)]
 | .exit i=>fun _ _ _ _ _ f s=>some [(.exit i,f,s)]
 | .goto l=>fun _ _ _ _ _ f s=>some [(.goto l,f,s)]
 | .ret=>fun _ _ _ _ _ f s=>some [(.ret,f,s)]
 | .seq a b=>fun _ _ _ rc n f s=>iL rc n a b f s
 | .cond c a b=>fun _ G _ rc n f s=>ae7 G rc n c a b f s
 | .block i b=>fun _ _ _ rc n f s=>ae8 rc n i b f s
 | .loop b=>fun _ _ _ rc n f s=>ae9 rc n b f s
 | .scope c=>fun _ _ _ rc n f s=>afa rc n c f s
 | .region _ ops false=>fun P G X rc n f s=>MP P G X rc n ops f s
 | .region _ ops true=>fun P G X rc n f s=>afb P G X rc n ops f s
 | _=>fun _ _ _ _ _ _ _=>none
section
variable (P:Program) (G:List (Nat×List V)) (X:Ext P G)
noncomputable def IA (rc:Nat→Code→Fr→bg→Option (List cH)) (n:Nat) (c:Code) (f:Fr) (s:bg):Option (List cH):=afc c P G X rc n f s
theorem afd (rc:Nat→Code→Fr→bg→Option (List cH)) (n:Nat) (c:Code) (f:Fr) (s:bg):IA P G X rc n c f s=zx P G X rc n c f s:=by
 unfold IA
 cases c with
 | region i ops b=>cases b<;>rfl
 | _=>rfl
noncomputable def vT (k:Nat):Nat→Code→Fr→bg→Option (List cH) :=
 Nat.rec (motive:=fun _=>Nat→Code→Fr→bg→Option (List cH)) (fun _ _ _ _=>none) (fun _ r=>IA P G X r) k
end
end
end Go.Proofs.YtceanabgcnieeaaGreatDoor.Ab
namespace Go.Proofs.YtceanabgcnieeaaGreatDoor.Ab
noncomputable section
open Go Go.RowKit
section
variable {P:Program} {G:List (Nat×List V)} {X:Ext P G}
def iM (P:Program) (G:List (Nat×List V)) (rc:Nat→Code→Fr→bg→Option (List cH)):Prop :=
 ∀ n c f s outs,rc n c f s=some outs→(∀ o ∈ outs,fj s o.2.2)∧∀ Q:ey→ak→I→Prop,(∀ o ∈ outs,Q o.1 o.2.1.a (o.2.2.a G))→aZ P n c Q f.a (s.a G)
theorem R6 {fn:Func} {s:bg}:∀ {res:List cH} {l:List (V×bg)},th P G fn s res=some l→(∀ o ∈ res,(o.1=.normal∨o.1=.ret)∧∃ r,iZ P fn.results.toList o.2.1.a (o.2.2.a G)=some r∧(r,o.2.2) ∈ l)∧∀ p ∈ l,∃ o ∈ res,o.2.2=p.2
 | [],l,h=>by
  obtain rfl:=Option.some.inj h
  simp
 | (e,f,s1)::res,l,h=>by
  have go:(e=.normal∨e=.ret)→(match iZ P fn.results.toList f.a (s1.a G),th P G fn s res with | some r,some o=>some ((r,s1)::o) | _,_=>none)=some l →
    (∀ o ∈ (e,f,s1)::res,(o.1=.normal∨o.1=.ret)∧∃ r,iZ P fn.results.toList o.2.1.a (o.2.2.a G)=some r∧(r,o.2.2) ∈ l)∧∀ p ∈ l,∃ o ∈ (e,f,s1)::res,o.2.2=p.2:=fun he h=>by
   split at h
   case h_2=>cases h
   rename_i r o aq av
   obtain rfl:=Option.some.inj h
   have ih:=R6 av
   refine ⟨fun x af=>?_,fun p az=>?_⟩
   ·rcases List.mem_cons.1 af with rfl | af
    ·exact ⟨he,r,aq,by simp⟩
    ·obtain ⟨h1,ck,ab,aI⟩:=ih.1 x af
     exact ⟨h1,ck,ab,by simp [aI]⟩
   ·rcases List.mem_cons.1 az with rfl | az
    ·exact ⟨(e,f,s1),by simp,rfl⟩
    ·obtain ⟨x,af,he⟩:=ih.2 p az
     exact ⟨x,by simp [af],he⟩
  unfold th at h
  cases e with
  | normal=>exact go (.inl rfl) h
  | ret=>exact go (.inr rfl) h
  | exit i=>cases h
  | goto l=>cases h
  | panic=>cases h
theorem afe {fid:FuncId} {args:List V} {s:bg} {l outs:List (V×bg)} (hk:∀ p ∈ l,fj s.enter p.2) (J:ah P fid args (s.a G) fun r h=>∃ p ∈ l,r=p.1∧h=p.2.a G) (aC:MH s l=some outs) :
  (∀ p ∈ outs,fj s p.2)∧ah P fid args (s.a G) fun r h=>∃ p ∈ outs,r=p.1∧h=p.2.a G:=by
 unfold MH at aC
 split at aC
 ·cases aC
 ·rename_i r s1
  obtain rfl:=Option.some.inj aC
  refine ⟨fun p az=>?_,J.mono fun r' U ⟨p,az,aK,a6⟩=>?_⟩
  ·rw [List.mem_singleton] at az;subst az;exact EA (hk (r,s1) (by simp))
  ·rw [List.mem_singleton] at az;subst az;exact ⟨_,List.mem_singleton.2 rfl,aK,a6⟩
 ·rename_i r s1 b7 bc
  generalize vR s1.n b7=m at aC
  cases al:(Nat.ble s1.n m&&b7.all (Io s m r s1)) with
  | false=>rw [al] at aC;cases aC
  | true=>
  rw [al] at aC
  obtain rfl:=Option.some.inj aC
  rw [Bool.and_eq_true] at al
  obtain ⟨hm,al⟩:=al
  have hm:=Nat.le_of_ble_eq_true hm
  refine ⟨fun p az=>?_,fun ρ B aG w args' hw aL=>?_⟩
  ·rw [List.mem_singleton] at az;subst az;exact EA (aeY hm (hk (r,s1) (by simp)))
  ·have a7:∀ i,s.n≤i→s.obj i=.dead:=fun i hi=>hw.heap.A2 (i:=i) hi
   refine (J ρ B aG w args' hw aL).mono fun e w' ad=>?_
   rcases ad with ⟨ρ',r',v',U,h1,ab,aI,h4,p,az,aK,a6⟩ | ⟨ρ',gT,U,h1,ab,aI,h4,h5⟩
   ·have xG:p.1=r∧p.2.n≤m∧tf s m p.1 p.2=tf s m r s1:=by
     rcases List.mem_cons.1 az with rfl | az
     ·exact ⟨rfl,hm,rfl⟩
     ·exact aeW (List.all_eq_true.1 al p az)
    subst aK a6
    refine .inl ⟨ρ',p.1,v',(s.leave (tf s m r s1)).a G,h1,ab,?_,h4,_,List.mem_singleton.2 rfl,xG.1,rfl⟩
    rw [←xG.2.2]
    exact aI.zp xG.2.1 rfl fun i=>aeX (m:=m) (hk p az) a7 i
   ·exact h5.elim
theorem R7 {rc:Nat→Code→Fr→bg→Option (List cH)} (aq:iM P G rc) {fid:FuncId} {args:List V} {s:bg} {outs:List (V×bg)} (al:Iv P G rc fid args s=some outs) :
  (∀ p ∈ outs,fj s p.2)∧ah P fid args (s.a G) fun r h=>∃ p ∈ outs,r=p.1∧h=p.2.a G:=by
 unfold Iv at al
 split at al
 ·cases al
 rename_i fn iD
 split at al
 ·cases al
 rename_i c ar
 cases aw:Nat.ble args.length fn.ntmps with
 | false=>rw [aw] at al;cases al
 | true=>
 rw [aw] at al
 simp only [cond_true] at al
 split at al
 case h_2=>cases al
 rename_i res tj
 split at al
 case h_2=>cases al
 rename_i l MQ
 obtain ⟨bj,k2⟩:=aq _ _ _ _ _ tj
 obtain ⟨cq,ck⟩:=R6 MQ
 refine afe (fun p az=>?_) ?_ al
 ·obtain ⟨o,av,e⟩:=ck p az
  rw [←e];exact bj o av
 ·refine ah.Ey iD ar (Nat.le_of_ble_eq_true aw) ?_
  rw [←Im]
  refine k2 _ fun o av=>?_
  obtain ⟨he,r,h1,ab⟩:=cq o av
  rcases he with he | he
  ·rw [he]
   show (match iZ P fn.results.toList o.2.1.a (o.2.2.a G) with | some r=>_ | none=>False)
   rw [h1];exact ⟨_,ab,rfl,rfl⟩
  ·rw [he]
   show (match iZ P fn.results.toList o.2.1.a (o.2.2.a G) with | some r=>_ | none=>False)
   rw [h1];exact ⟨_,ab,rfl,rfl⟩
theorem IB (G:List (Nat×List V)) (s:bg) (i:Nat) (o:aD):({ s with t:=s.t.set o i }:bg).a G=(s.a G).set i o:=by
 show I.mk s.n (fun j=>gD (s.t.set o i) j) (cJ G)=I.mk s.n (fun j=>if j=i then o else gD s.t j) (cJ G)
 congr 1
 funext j
 exact te _ _ _ _
theorem R8 (G:List (Nat×List V)) (s:bg) (o:aD) (b:Nat) (w:List Nat):({ n:=s.n+1,t:=s.t.set o s.n,b:=b,w:=w }:bg).a G=(s.a G).push o:=by
 show I.mk (s.n+1) (fun j=>gD (s.t.set o s.n) j) (cJ G)=I.mk (s.n+1) (fun j=>if j=s.n then o else gD s.t j) (cJ G)
 congr 1
 funext j
 exact te _ _ _ _
theorem IC {l:List Nat} {i:Nat} (h:(!l.elem i)=true):i ∉ l:=by
 simpa using h
theorem aff {rc:Nat→Code→Fr→bg→Option (List cH)} (aq:iM P G rc) {fid:FuncId} {args:List V} {s:bg} {outs:List (V×bg)} (al:MM P G rc fid args s=some outs) :
  (∀ p ∈ outs,fj s p.2)∧ah P fid args (s.a G) fun r h=>∃ p ∈ outs,r=p.1∧h=p.2.a G:=by
 unfold MM at al
 split at al
 case h_2=>cases al
 rename_i fn iD
 split at al
 case h_2=>cases al
 rename_i A q0 rS g ps a b ar
 split at al
 case h_2=>cases al
 rename_i p EL
 have EL:ps=#[p]:=by apply Array.ext';simpa using EL
 subst EL
 cases aw:Nat.ble args.length fn.ntmps with
 | false=>rw [aw] at al;cases al
 | true=>
 rw [aw] at al
 simp only [cond_true] at al
 split at al
 case h_2=>cases al
 rename_i f1 s1 h1
 split at al
 case h_2=>cases al
 rename_i f2 s2 ab
 split at al
 case h_2=>cases al
 rename_i gf caps aE
 cases fx:bP P gf with
 | false=>rw [fx] at al;cases al
 | true=>
 rw [fx] at al
 simp only [cond_true] at al
 split at al
 case h_2=>cases al
 rename_i EM gp h4
 cases hw:(!gp.w.elem s2.n&&!gp.w.elem (s2.n+1)) with
 | false=>rw [hw] at al;cases al
 | true=>
 rw [hw] at al
 simp only [cond_true] at al
 split at al
 case h_2=>cases al
 rename_i r tj
 obtain rfl:=Option.some.inj al
 simp only [Bool.and_eq_true] at hw
 have bK:=IC hw.1
 have bV:=IC hw.2
 obtain ⟨bj,aK⟩:=aq _ _ _ _ _ h1
 obtain ⟨k2,a6⟩:=aq _ _ _ _ _ ab
 have bj:=bj _ (List.mem_singleton.2 rfl)
 have k2:=k2 _ (List.mem_singleton.2 rfl)
 have EN:fj s.enter s2:=bj.trans k2
 obtain ⟨gM,hj⟩:=R7 aq h4
 have gM:=gM _ (List.mem_singleton.2 rfl)
 have n4:s2.n+1+1≤gp.n:=gM.n
 have fw:s.n≤s2.n:=EN.n
 obtain ⟨vs,lS⟩:∃ vs,vs=(List.range fn.ntmps).map f2.a:=⟨_,rfl⟩
 rw [←lS] at h4 hj gM
 have ol:∀ j,(s2.kf p a b vs).obj j=if j=s2.n+1 then .dP (.loop s2.n p a b false) vs else if j=s2.n then .dP .ix [] else s2.obj j:=fun j=>by
  show gD ((s2.t.set (.dP .ix []) s2.n).set (.dP (.loop s2.n p a b false) vs) (s2.n+1)) j=_
  rw [te,te];rfl
 have tk:(s2.kf p a b vs).a G=((s2.a G).push (.dP .ix [])).push (.dP (.loop s2.n p a b false) vs):=by
  have c2:=R8 G s2 (.dP .ix []) 0 []
  have eE:=R8 G { n:=s2.n+1,t:=s2.t.set (.dP .ix []) s2.n,b:=0,w:=[] } (.dP (.loop s2.n p a b false) vs) (s2.n+1+1) []
  rw [c2] at eE
  exact eE
 have g1:gp.obj (s2.n+1)=.dP (.loop s2.n p a b false) vs:=(gM.bt _ (show s2.n+1<s2.n+1+1 by omega) (show s2.n+1<s2.n+1+1 by omega) bV).trans (by rw [ol];simp)
 have g0:gp.obj s2.n=.dP .ix []:=(gM.bt _ (show s2.n<s2.n+1+1 by omega) (show s2.n<s2.n+1+1 by omega) bK).trans (by rw [ol,if_neg (by omega),if_pos rfl])
 have xH:∀ (r8:Nat) (ww:List Nat) j,j≠s2.n→j≠s2.n+1→(bg.mk gp.n ((gp.t.set .dead (s2.n+1)).set .dead s2.n) r8 ww).obj j=gp.obj j:=fun r8 ww j h1 ab=>by
  show gD ((gp.t.set .dead (s2.n+1)).set .dead s2.n) j=_
  rw [te,te,if_neg h1,if_neg ab];rfl
 refine ⟨fun q ae=>?_,ah.dQ (p:=p) (g:=g) (gf:=gf) (K:=fun f h=>f=f2.a∧h=s2.a G) (caps:=fun _=>caps) iD ar fx (Nat.le_of_ble_eq_true aw) ?_ (fun f h hk=>by rw [hk.1];exact aE) fun f h hk=>?_⟩
 ·rw [List.mem_singleton] at ae
  subst ae
  refine ⟨by show s.n≤gp.n;omega,rfl,fun j h=>Ce h,fun j aJ ar hw=>?_,fun j aC=>?_⟩
  ·have eS:j ∉ s2.w∧j ∉ gp.w:=⟨fun h=>hw (zn (List.mem_append.2 (.inl h)) ar),fun h=>hw (zn (List.mem_append.2 (.inr h)) ar)⟩
   refine (xH _ _ j (by omega) (by omega)).trans ((gM.bt j (show j<s2.n+1+1 by omega) (show j<s2.n+1+1 by omega) eS.2).trans ?_)
   rw [ol,if_neg (by omega),if_neg (by omega)]
   exact EN.bt j aJ aJ eS.1
  ·have aC:gp.n≤j:=aC
   refine (xH _ _ j (by omega) (by omega)).trans ((gM.jv j aC).trans ?_)
   rw [ol,if_neg (by omega),if_neg (by omega)]
   exact EN.jv j (by omega)
 ·rw [←Im]
  refine aK _ fun o av=>?_
  rw [List.mem_singleton] at av
  subst av
  refine ⟨rfl,a6 _ fun o av=>?_⟩
  rw [List.mem_singleton] at av
  subst av
  exact ⟨rfl,rfl,rfl⟩
 ·obtain ⟨rfl,rfl⟩:=hk
  have j5:(bg.mk gp.n ((gp.t.set .dead (s2.n+1)).set .dead s2.n) gp.b gp.w).a G=((gp.a G).set (s2.n+1) .dead).set s2.n .dead:=by
   have c2:=IB G gp (s2.n+1) .dead
   have eE:=IB G { gp with t:=gp.t.set .dead (s2.n+1) } s2.n .dead
   rw [c2] at eE
   exact eE
  rw [←lS]
  have hj:=hj
  rw [tk] at hj
  refine hj.mono fun r' U ⟨q,ae,qu,z2⟩=>?_
  rw [List.mem_singleton] at ae
  subst ae z2
  refine ⟨g1,g0,r,?_,_,List.mem_singleton.2 rfl,rfl,?_⟩
  ·show iZ P fn.results.toList f2.a (((gp.a G).set (s2.n+1) .dead).set s2.n .dead)=some r
   rw [←j5];exact tj
  ·exact j5.symm
theorem afg {rc:Nat→Code→Fr→bg→Option (List cH)} (aq:iM P G rc) {fid:FuncId} {args:List V} {s:bg} {outs:List (V×bg)} (al:MO P G X rc fid args s=some outs) :
  (∀ p ∈ outs,fj s p.2)∧ah P fid args (s.a G) fun r h=>∃ p ∈ outs,r=p.1∧h=p.2.a G:=by
 unfold MO at al
 split at al
 case h_2=>cases al
 rename_i fn iD
 split at al
 case h_2=>cases al
 rename_i A q0 AP ops C ar
 split at al
 case h_2=>cases al
 rename_i t g xs ys DV zf zh k1 zs DX DW zg zi zy
 split at al
 case h_2=>cases al
 rename_i x y af aX bB
 have af:xs=#[]:=by apply Array.ext';simpa using af
 have aX:ys=#[.tmp x,.tmp y]:=by apply Array.ext';simpa using aX
 have bB:zs=#[]:=by apply Array.ext';simpa using bB
 subst af aX bB
 cases aw:(Nat.beq k1 t&&Nat.blt t fn.ntmps&&bP P g&&X.sm g&&Nat.ble args.length fn.ntmps) with
 | false=>rw [aw] at al;cases al
 | true=>
 rw [aw] at al
 simp only [cond_true] at al
 simp only [Bool.and_eq_true] at aw
 obtain ⟨⟨⟨⟨fg,dN⟩,jM⟩,EO⟩,R9⟩:=aw
 have fg:=Nat.eq_of_beq_eq_true fg
 subst fg
 have zy:ops=#[⟨some k1,.makeFunc (.func g) #[] #[.tmp x,.tmp y],DV,zf,zh,none⟩,⟨none,.defer ⟨.value (.tmp k1),#[],DX⟩,DW,zg,zi,none⟩]:=by apply Array.ext';simpa using zy
 subst zy
 split at al
 case h_2=>cases al
 rename_i f1 s1 h1
 split at al
 case h_2=>cases al
 rename_i f2 s2 ab
 split at al
 case h_2=>cases al
 rename_i e f3 h0 aI
 cases he:MN e with
 | false=>rw [he] at al;cases al
 | true=>
 rw [he] at al
 simp only [cond_true] at al
 split at al
 case h_2=>cases al
 rename_i r tj
 obtain rfl:=Option.some.inj al
 obtain ⟨bj,aK⟩:=aq _ _ _ _ _ h1
 obtain ⟨k2,a6⟩:=aq _ _ _ _ _ ab
 obtain ⟨b2,dB⟩:=aq _ _ _ _ _ aI
 have bj:=bj _ (List.mem_singleton.2 rfl)
 have k2:=k2 _ (List.mem_singleton.2 rfl)
 have b2:=b2 _ (List.mem_singleton.2 rfl)
 have he:e=.ret∨e=.normal:=by cases e<;>simp_all [MN]
 refine ⟨fun q ae=>?_,ah.DU (M:=fun f h=>f=f2.a∧h=s2.a G) (KR:=fun _ _ f h=>f=f3.a∧h=h0.a G) (KP:=fun _ _ _ _=>False) iD ar (Nat.lt_of_succ_le (by simpa [Nat.blt] using dN)) jM (Nat.le_of_ble_eq_true R9) ?_ (fun f h hk=>?_) (fun fJ fK f h hk=>?_) fun _ _ _ _ hk=>hk.elim⟩
 ·rw [List.mem_singleton] at ae
  subst ae
  exact EA ((bj.trans k2).trans b2)
 ·rw [←Im]
  refine aK _ fun o av=>?_
  rw [List.mem_singleton] at av
  subst av
  refine ⟨rfl,a6 _ fun o av=>?_⟩
  rw [List.mem_singleton] at av
  subst av
  exact .inr ⟨rfl,rfl,rfl⟩
 ·obtain ⟨rfl,rfl⟩:=hk
  rw [←Fr.hY]
  refine dB _ fun o av=>?_
  rw [List.mem_singleton] at av
  subst av
  exact .inl ⟨he,rfl,rfl⟩
 ·obtain ⟨rfl,rfl⟩:=hk
  refine X.A3 g EO fJ fK _ _ ?_
  unfold Ca
  rw [tj]
  exact ⟨_,List.mem_singleton.2 rfl,rfl,rfl⟩
theorem MR {rc:Nat→Code→Fr→bg→Option (List cH)} (aq:iM P G rc) {fid:FuncId} {args:List V} {s:bg} {outs:List (V×bg)} (al:zu P G X rc fid args s=some outs) :
  (∀ p ∈ outs,fj s p.2)∧ah P fid args (s.a G) fun r h=>∃ p ∈ outs,r=p.1∧h=p.2.a G:=by
 unfold zu at al
 split at al
 ·rename_i p az
  cases av:X.sn fid with
  | true=>
   rw [av] at az
   obtain rfl:=Option.some.inj al
   obtain ⟨h1,ab⟩:=X.A4 fid args s p.1 p.2 av az
   exact ⟨fun q ae=>by rw [List.mem_singleton] at ae;subst ae;exact h1,ab.mono fun r h ⟨aK,a6⟩=>⟨p,by simp,aK,a6⟩⟩
  | false=>rw [av] at az;cases az
 ·cases aE:X.vP fid with
  | true=>rw [aE] at al;exact aff aq al
  | false=>
   rw [aE] at al
   simp only [cond_false] at al
   cases a7:EH P fid with
   | true=>rw [a7] at al;exact afg aq al
   | false=>rw [a7] at al;exact R7 aq al
def tl (P:Program) (G:List (Nat×List V)) (y:Nat→List V→bg→Option (List (V×bg))):Prop :=
 ∀ i args s outs,y i args s=some outs→(∀ p ∈ outs,fj s p.2)∧jl P i args (s.a G) fun r h=>∃ p ∈ outs,r=p.1∧h=p.2.a G
def q8 (P:Program) (G:List (Nat×List V)) (o:Oper) (f:Fr) (s:bg) (outs:List (V×bg)):Prop :=
 (∀ p ∈ outs,fj s p.2)∧∀ next exc:ak→I→Prop,(∀ p ∈ outs,next (f.a.put o.dst p.1) (p.2.a G))→eL P o next exc f.a (s.a G)
theorem Sa {o:Oper} {f:Fr} {s:bg} {outs:List (V×bg)} (aJ:RR o.op=false) (h:EJ P G o f s=some outs):q8 P G o f s outs:=by
 unfold EJ at h
 rw [EG] at h
 cases pA:l8 o.op with
 | true=>
  rw [pA] at h
  simp only [cond_true] at h
  split at h
  case h_2=>cases h
  rename_i v U he
  obtain rfl:=Option.some.inj h
  obtain ⟨v',aN⟩:=ui pA he
  have aN:v=v'∧U=s.a G:=by injection aN with a b;exact ⟨a,b⟩
  obtain ⟨rfl,rfl⟩:=aN
  refine ⟨fun p az=>?_,fun next exc ae=>?_⟩
  ·rw [List.mem_singleton] at az;subst az;exact fj.refl s
  ·have:=ae _ (List.mem_singleton.2 rfl)
   unfold eL
   rw [he]
   exact this
 | false=>
 rw [pA] at h
 simp only [cond_false] at h
 split at h
 case h_2=>cases h
 rename_i v U he
 cases gb:rP (q6 (f.a.eval (s.a G)) o.op) s.n with
 | false=>rw [gb] at h;cases h
 | true=>
 rw [gb] at h
 obtain rfl:=Option.some.inj h
 have l:=aeT aJ he
 refine ⟨fun p az=>?_,fun next exc ae=>?_⟩
 ·rw [List.mem_singleton] at az;subst az;exact MG G s U _ l gb
 ·have:=ae _ (List.mem_singleton.2 rfl)
  rw [Et G s U _ l] at this
  unfold eL
  rw [he]
  exact this
theorem afh {o:Oper} {c:Call} {g:Operand} {ba:Operand→V} {h:I} {fid:FuncId} {xs ys:List V} (av:o.op=.call c) (al:c.callee=.value g) (aE:ba g=.func (.func fid) xs ys) (hk:bP P fid=true) :
  cG P o ba h=some (.call fid (xs++c.args.toList.map ba++ys)):=by
 unfold cG gZ
 simp only [av,al,aE,hk,if_true]
theorem afi {o:Oper} {c:Call} {g:Operand} {ba:Operand→V} {h:I} {i:Nat} (av:o.op=.call c) (al:c.callee=.value g) (aE:ba g=.func (.yield i) [] []):cG P o ba h=some (.round i (c.args.toList.map ba)):=by
 unfold cG gZ
 simp only [av,al,aE]
theorem afj {o:Oper} {c:Call} {g:Operand} {ba:Operand→V} {h U:I} {fid:FuncId} {xs ys:List V} {v:V} (av:o.op=.call c) (al:c.callee=.value g) (aE:ba g=.func (.func fid) xs ys) (hk:bP P fid=false) (af:lV P fid (xs++c.args.toList.map ba++ys) h=some (v,U)) :
  cG P o ba h=some (.val v U):=by
 unfold cG gZ
 simp only [av,al,aE,hk,af]
 rfl
theorem afk {o:Oper} {c:Call} {r:Operand} {name:String} {ba:Operand→V} {h:I} {fid:FuncId} {t:TypeId} {v:V} (av:o.op=.call c) (al:c.callee=.invoke r name) (aE:ba r=.iface t v) (hm:dX P t name fid) :
  cG P o ba h=some (.call fid (v::c.args.toList.map ba)):=by
 unfold cG gZ
 simp only [av,al,aE]
 exact Qs hm
theorem afl {h U:I} {args:List V} {v:V} (J:pk h args=some (v,U)):Loc h U (Iu args):=by
 unfold pk at J
 split at J
 ·split at J
  ·split at J<;>simp at J
   obtain ⟨_,rfl⟩:=J
   exact .set _ _ _
  ·cases J
 ·cases J
theorem Sb {o:Oper} {f:Fr} {s:bg} {outs:List (V×bg)} {fid:FuncId} {args:List V} (he:cG P o (f.a.eval (s.a G)) (s.a G)=some (.call fid args)) (h:(∀ p ∈ outs,fj s p.2)∧ah P fid args (s.a G) fun r h=>∃ p ∈ outs,r=p.1∧h=p.2.a G):q8 P G o f s outs:=by
 refine ⟨h.1,fun next exc ae=>?_⟩
 unfold eL
 rw [he]
 exact cd.mono h.2 (fun r U ⟨p,az,aK,a6⟩=>by subst aK a6;exact ae p az) fun _ aB=>aB.elim
theorem afm {rc:Nat→Code→Fr→bg→Option (List cH)} (aq:iM P G rc) {y:Nat→List V→bg→Option (List (V×bg))} (h8:tl P G y) {o:Oper} {c:Call} {f:Fr} {s:bg} {outs:List (V×bg)} (av:o.op=.call c) (h:Iw P G X rc y c f s=some outs):q8 P G o f s outs:=by
 unfold Iw at h
 split at h
 ·cases h
 ·rename_i g al
  split at h
  case h_3=>cases h
  case h_2=>
   rename_i i aE
   obtain ⟨h1,ab⟩:=h8 _ _ _ _ h
   refine ⟨h1,fun next exc ae=>?_⟩
   unfold eL
   rw [afi av al aE]
   exact ab.mono fun r U ⟨p,az,aK,a6⟩=>by subst aK a6;exact ae p az
  rename_i fid xs ys aE
  cases hk:bP P fid with
  | true=>
   rw [hk] at h
   exact Sb (afh av al aE hk) (MR aq h)
  | false=>
   rw [hk] at h
   simp only [cond_false] at h
   unfold EI at h
   have one:∀ (v:V) (U:I) (W:List Nat),lV P fid (xs++c.args.toList.map (f.a.eval (s.a G))++ys) (s.a G)=some (v,U)→∀ s1,fj s s1→s1.a G=U→q8 P G o f s [(v,s1)]:=fun v U W af s1 fy n9=>by
    refine ⟨fun p az=>?_,fun next exc ae=>?_⟩
    ·rw [List.mem_singleton] at az;subst az;exact fy
    ·have:=ae _ (List.mem_singleton.2 rfl)
     rw [n9] at this
     unfold eL
     rw [afj av al aE hk af]
     exact this
   split at h
   ·rename_i af
    simp only [Option.map_eq_some_iff] at h
    obtain ⟨v,h1,rfl⟩:=h
    exact one v _ [] (ZC ((X.sl fid).1 af) h1) s (fj.refl s) rfl
   ·rename_i af
    simp only [Option.map_eq_some_iff] at h
    obtain ⟨v,h1,rfl⟩:=h
    exact one v _ [] (Qq ((X.sl fid).2.1 af) h1) s (fj.refl s) rfl
   ·rename_i af
    cases gb:rP (Iu (xs++c.args.toList.map (f.a.eval (s.a G))++ys)) s.n with
    | false=>rw [gb] at h;cases h
    | true=>
    rw [gb] at h
    simp only [cond_true,Option.map_eq_some_iff] at h
    obtain ⟨p,h1,rfl⟩:=h
    have l:=afl h1
    exact one p.1 p.2 [] (Qr ((X.sl fid).2.2 af) h1) _ (MG G s p.2 _ l gb) (Et G s p.2 _ l)
   ·cases h
 ·rename_i r name al
  split at h
  case h_2=>cases h
  rename_i t v aE
  split at h
  case h_2=>cases h
  rename_i fid hm
  exact Sb (afk av al aE (X.dX _ _ _ hm)) (MR aq h)
theorem afn {o:Oper} {it:Operand} {f:Fr} {s:bg} {outs:List (V×bg)} (av:o.op=.next it false) (h:Ix G (f.a.eval (s.a G) it) s=some outs):q8 P G o f s outs:=by
 unfold Ix at h
 cases gb:rP (fp (f.a.eval (s.a G) it)) s.n with
 | false=>rw [gb] at h;cases h
 | true=>
 rw [gb] at h
 simp only [cond_true,Option.map_eq_some_iff] at h
 obtain ⟨l,h1,rfl⟩:=h
 have aw:=aeQ h1
 refine ⟨fun p az=>?_,fun next exc ae=>?_⟩
 ·obtain ⟨q,ae,rfl⟩:=List.mem_map.1 az
  exact MG G s q.2 _ (aw q.1 q.2 ae) gb
 ·have he:cG P o (f.a.eval (s.a G)) (s.a G)=some (.alts l):=by
   obtain ⟨dst,op,type,pos,after,guard⟩:=o
   simp only at av
   subst av
   unfold cG
   simp only [h1]
  unfold eL
  rw [he]
  intro v U hm
  have:=ae _ (List.mem_map.2 ⟨(v,U),hm,rfl⟩)
  rw [Et G s U _ (aw v U hm)] at this
  exact this
theorem afo (X:Ext P G) (rc:Nat→Code→Fr→bg→Option (List cH)) (y:Nat→List V→bg→Option (List (V×bg))) (o:Oper) (f:Fr) (s:bg):zv P G X rc y o f s =
 match o.op with
 | .call c=>match c.callee with
  | .builtin _=>EJ P G o f s
  | _=>Iw P G X rc y c f s
 | .next it false=>Ix G (f.a.eval (s.a G) it) s
 | _=>EJ P G o f s:=by
 unfold zv R4
 cases br:o.op with
 | call c=>simp only;cases c.callee<;>rfl
 | next it b=>cases b<;>rfl
 | _=>rfl
theorem MS {rc:Nat→Code→Fr→bg→Option (List cH)} (aq:iM P G rc) {y:Nat→List V→bg→Option (List (V×bg))} (h8:tl P G y) {o:Oper} {f:Fr} {s:bg} {outs:List (V×bg)} (h:zv P G X rc y o f s=some outs):q8 P G o f s outs:=by
 rw [afo] at h
 split at h
 ·rename_i c br
  split at h
  ·rename_i b ar
   refine Sa ?_ h
   rw [br]
   obtain ⟨fv,BZ,ty⟩:=c
   simp only at ar
   subst ar
   rfl
  ·exact afm aq h8 br h
 ·rename_i it br
  exact afn br h
 ·rename_i h1 ab
  refine Sa ?_ h
  cases br:o.op<;>first | rfl | (exfalso;exact h1 _ br)
theorem Ci {rc:Nat→Code→Fr→bg→Option (List cH)} (aq:iM P G rc) {y:Nat→List V→bg→Option (List (V×bg))} (h8:tl P G y) {ol:List Oper}:∀ {l:List Oper} {f:Fr} {s:bg} {outs:List (Fr×bg)},ox P G X rc y ol l f s=some outs →
  (∀ p ∈ outs,fj s p.2)∧∀ K E:ak→I→Prop,(∀ p ∈ outs,K p.1.a (p.2.a G))→il P ol l K E f.a (s.a G)
 | [],f,s,outs,h=>by
  obtain rfl:=Option.some.inj h
  exact ⟨fun p az=>by rw [List.mem_singleton] at az;subst az;exact fj.refl s,fun K E ae=>ae _ (List.mem_singleton.2 rfl)⟩
 | o::l,f,s,outs,h=>by
  rw [ae4] at h
  split at h
  ·rename_i hw
   split at h
   case h_2=>cases h
   rename_i c0 h1
   have st:=MS aq h8 h1
   refine ⟨fun p az=>?_,fun K E ae=>?_⟩
   ·obtain ⟨x,af,a,aL,aX⟩:=m9 h p az
    exact (st.1 x af).trans ((Ci aq h8 aL).1 p aX)
   ·unfold il
    rw [hw]
    refine st.2 _ _ fun p az=>?_
    obtain ⟨a,aL,aX⟩:=m8 h p az
    have:=(Ci aq h8 aL).2 K E fun y xI=>ae y (aX y xI)
    rw [Fr.hY] at this
    exact this
  ·rename_i hw
   have ih:=Ci aq h8 h
   refine ⟨ih.1,fun K E ae=>?_⟩
   unfold il
   rw [hw]
   have:=ih.2 K E ae
   rw [Fr.hY] at this
   exact this
  ·cases h
theorem ur {rc:Nat→Code→Fr→bg→Option (List cH)} (aq:iM P G rc) {y:Nat→List V→bg→Option (List (V×bg))} (h8:tl P G y) {ol:List Oper} {s0:bg} (ay:s0.b=s0.n):∀ {ku:bJ} {f:Fr} {s:bg} {outs:List jc},pF P G X rc y ol s0 ku f s=some outs→fj s0 s →
  (∀ o ∈ outs,fj s o.s)∧∀ M:Nat→Prop,(∀ o ∈ outs,∀ j ∈ o.W,M j)→(∀ o ∈ outs,∀ r ∈ o.R,¬M r)→∀ (K:ak→I→Prop) (E:I→Prop),(∀ o ∈ outs,K o.f.a (o.s.a G))→hx P ol M (s0.a G) K E ku f.a (s.a G)
 | .done,f,s,outs,h,ez=>by
  obtain rfl:=Option.some.inj h
  exact ⟨fun o av=>by rw [List.mem_singleton] at av;subst av;exact fj.refl _,fun M _ _ K E hk=>hk _ (List.mem_singleton.2 rfl)⟩
 | .stop,f,s,outs,h,ez=>by
  obtain rfl:=Option.some.inj h
  exact ⟨fun o av=>by simp at av,fun M _ _ K E hk=>trivial⟩
 | .q k ku,f,s,outs,h,ez=>by
  unfold pF at h;try simp only [EG] at h
  split at h
  case h_2=>cases h
  rename_i o av
  split at h
  ·rename_i hw
   cases hi:l8 o.op with
   | false=>rw [hi] at h;cases h
   | true=>
   rw [hi] at h
   simp only [cond_true] at h
   split at h
   case h_2=>cases h
   rename_i v U he
   split at h
   case h_2=>cases h
   rename_i x l bB
   obtain rfl:=Option.some.inj h
   obtain ⟨bj,aK⟩:=ur aq h8 ay bB ez
   refine ⟨fun p az=>?_,fun M hm ed K E hk=>?_⟩
   ·obtain ⟨q,ae,rfl⟩:=List.mem_map.1 az
    exact bj q ae
   obtain ⟨v2,a6⟩:=ui hi he
   simp only [Step.val.injEq] at a6
   obtain ⟨rfl,rfl⟩:=a6
   unfold hx
   rw [av]
   simp only [hw]
   refine ⟨v,he,fun i eh=>?_,?_⟩
   ·refine ed _ (List.mem_map.2 ⟨x,by simp,rfl⟩) i ?_
    simp [jc.ti,eh]
   ·have:=aK M (fun q ae j aC=>hm _ (List.mem_map.2 ⟨q,ae,rfl⟩) j aC) (fun q ae r aq=>ed _ (List.mem_map.2 ⟨q,ae,rfl⟩) r (by unfold jc.ti;split<;>simp [aq])) K E fun q ae=>(show K (jc.ti (lO (f.a.eval (s0.a G)) o.op) q).f.a ((jc.ti (lO (f.a.eval (s0.a G)) o.op) q).s.a G) from hk _ (List.mem_map.2 ⟨q,ae,rfl⟩))
    rw [Fr.hY] at this
    exact this
  ·rename_i hw
   obtain ⟨bj,aK⟩:=ur aq h8 ay h ez
   refine ⟨bj,fun M hm ed K E hk=>?_⟩
   unfold hx
   rw [av]
   simp only [hw]
   have:=aK M hm ed K E hk
   rw [Fr.hY] at this
   exact this
  ·cases h
 | .c k ku,f,s,outs,h,ez=>by
  unfold pF at h;try simp only [EG] at h
  split at h
  case h_2=>cases h
  rename_i o av
  split at h
  ·rename_i hw
   cases hi:l8 o.op with
   | false=>rw [hi] at h;cases h
   | true=>
   rw [hi] at h
   simp only [cond_true] at h
   split at h
   case h_2=>cases h
   rename_i v U he
   obtain ⟨bj,aK⟩:=ur aq h8 ay h ez
   refine ⟨bj,fun M hm ed K E hk=>?_⟩
   obtain ⟨v2,a6⟩:=ui hi he
   simp only [Step.val.injEq] at a6
   obtain ⟨rfl,rfl⟩:=a6
   unfold hx
   rw [av]
   simp only [hw]
   refine ⟨v,he,?_⟩
   have:=aK M hm ed K E hk
   rw [Fr.hY] at this
   exact this
  ·rename_i hw
   obtain ⟨bj,aK⟩:=ur aq h8 ay h ez
   refine ⟨bj,fun M hm ed K E hk=>?_⟩
   unfold hx
   rw [av]
   simp only [hw]
   have:=aK M hm ed K E hk
   rw [Fr.hY] at this
   exact this
  ·cases h
 | .a k ku,f,s,outs,h,ez=>by
  unfold pF at h;try simp only [EG] at h
  split at h
  case h_2=>cases h
  rename_i o av
  split at h
  ·rename_i hw
   split at h
   case h_2=>cases h
   rename_i v s2 bZ
   simp only [Option.map_eq_some_iff] at h
   obtain ⟨l,bB,rfl⟩:=h
   have st:=MS aq h8 bZ
   have fi:=st.1 _ (List.mem_singleton.2 rfl)
   obtain ⟨bj,aK⟩:=ur aq h8 ay bB (ez.trans fi)
   refine ⟨fun p az=>?_,fun M hm ed K E hk=>?_⟩
   ·obtain ⟨q,ae,rfl⟩:=List.mem_map.1 az
    exact fi.trans (bj q ae)
   unfold hx
   rw [av]
   simp only [hw]
   refine st.2 _ _ fun p az=>?_
   rw [List.mem_singleton] at az
   subst az
   have:=aK M (fun q ae j aC=>hm _ (List.mem_map.2 ⟨q,ae,rfl⟩) j (by simpa [jc.jx] using aC)) (fun q ae r aq=>ed _ (List.mem_map.2 ⟨q,ae,rfl⟩) r aq) K E fun q ae=>(show K (jc.jx [] (k,s.n,s2.n) q).f.a ((jc.jx [] (k,s.n,s2.n) q).s.a G) from hk _ (List.mem_map.2 ⟨q,ae,rfl⟩))
   rw [Fr.hY] at this
   exact this
  ·rename_i hw
   obtain ⟨bj,aK⟩:=ur aq h8 ay h ez
   refine ⟨bj,fun M hm ed K E hk=>?_⟩
   unfold hx
   rw [av]
   simp only [hw]
   have:=aK M hm ed K E hk
   rw [Fr.hY] at this
   exact this
  ·cases h
 | .e k ku alt,f,s,outs,h,ez=>by
  have Ka:∀ {s2:bg},fj s0 s2→∀ M:Nat→Prop,(∀ j ∈ s2.w,M j)→aa (s0.a G) (s2.a G) M:=fun {s2} a M hm=>
   ⟨a.n,fun j aC td=>a.bt j aC (by rw [ay];exact aC) fun hw=>td (hm j hw),rfl⟩
  unfold pF at h;try simp only [EG] at h
  split at h
  case h_2=>cases h
  rename_i m Sc
  obtain ⟨bC,a2⟩:=ur aq h8 ay Sc ez
  split at h
  case h_2=>cases h
  rename_i o av
  split at h
  ·rename_i hw
   split at h
   case h_2=>cases h
   rename_i v s2 bZ
   split at h
   case h_2=>cases h
   rename_i x l bB
   obtain rfl:=Option.some.inj h
   have st:=MS aq h8 bZ
   have fi:=st.1 _ (List.mem_singleton.2 rfl)
   obtain ⟨bj,aK⟩:=ur aq h8 ay bB (ez.trans fi)
   refine ⟨fun p az=>?_,fun M hm ed K E hk=>?_⟩
   ·rcases List.mem_append.1 az with az | az
    ·obtain ⟨q,ae,rfl⟩:=List.mem_map.1 az
     exact fi.trans (bj q ae)
    ·exact bC p az
   have up:∀ q ∈ x::l,jc.jx s2.w (k,s.n,s2.n) q ∈ (x::l).map (jc.jx s2.w (k,s.n,s2.n))++m:=fun q ae=>List.mem_append.2 (.inl (List.mem_map.2 ⟨q,ae,rfl⟩))
   unfold hx
   rw [av]
   simp only [hw]
   refine ⟨st.2 _ _ fun p az=>?_,a2 M (fun q ae=>hm q (List.mem_append.2 (.inr ae))) (fun q ae=>ed q (List.mem_append.2 (.inr ae))) K E fun q ae=>hk q (List.mem_append.2 (.inr ae))⟩
   rw [List.mem_singleton] at az
   subst az
   refine ⟨Ka (ez.trans fi) M fun j aC=>hm _ (up x (by simp)) j (List.mem_append.2 (.inl aC)),?_⟩
   have:=aK M (fun q ae j aC=>hm _ (up q ae) j (List.mem_append.2 (.inr aC))) (fun q ae r aq=>ed _ (up q ae) r aq) K E fun q ae=>(show K (jc.jx s2.w (k,s.n,s2.n) q).f.a ((jc.jx s2.w (k,s.n,s2.n) q).s.a G) from hk _ (up q ae))
   rw [Fr.hY] at this
   exact this
  ·rename_i hw
   split at h
   case h_2=>cases h
   rename_i x l bB
   obtain rfl:=Option.some.inj h
   obtain ⟨bj,aK⟩:=ur aq h8 ay bB ez
   refine ⟨fun p az=>?_,fun M hm ed K E hk=>?_⟩
   ·rcases List.mem_append.1 az with az | az
    ·obtain ⟨q,ae,rfl⟩:=List.mem_map.1 az
     exact bj q ae
    ·exact bC p az
   have up:∀ q ∈ x::l,jc.jx s.w (k,s.n,s.n) q ∈ (x::l).map (jc.jx s.w (k,s.n,s.n))++m:=fun q ae=>List.mem_append.2 (.inl (List.mem_map.2 ⟨q,ae,rfl⟩))
   unfold hx
   rw [av]
   simp only [hw]
   refine ⟨⟨Ka ez M fun j aC=>hm _ (up x (by simp)) j (List.mem_append.2 (.inl aC)),?_⟩,a2 M (fun q ae=>hm q (List.mem_append.2 (.inr ae))) (fun q ae=>ed q (List.mem_append.2 (.inr ae))) K E fun q ae=>hk q (List.mem_append.2 (.inr ae))⟩
   have:=aK M (fun q ae j aC=>hm _ (up q ae) j (List.mem_append.2 (.inr aC))) (fun q ae r aq=>ed _ (up q ae) r aq) K E fun q ae=>(show K (jc.jx s.w (k,s.n,s.n) q).f.a ((jc.jx s.w (k,s.n,s.n) q).s.a G) from hk _ (up q ae))
   rw [Fr.hY] at this
   exact this
  ·cases h
theorem ID {α:Type} {p:α→α→Bool}:∀ {l m:List α},eO p l m=true→l.length=m.length∧∀ (k:Nat) (a b:α),l[k]?=some a→m[k]?=some b→p a b=true
 | [],[],_=>⟨rfl,by simp⟩
 | a::l,b::m,h=>by
  simp only [eO,Bool.and_eq_true] at h
  obtain ⟨h1,ab⟩:=ID h.2
  refine ⟨by simp [h1],fun k x y af aX=>?_⟩
  cases k with
  | zero=>simp at af aX;subst af aX;exact h.1
  | succ k=>exact ab k x y (by simpa using af) (by simpa using aX)
 | [],_::_,h=>by cases h
 | _::_,[],h=>by cases h
theorem Cj {π:Nat→Nat}:∀ {k:Nat} {a b:V},k0 π k a b=true→ja π a b
 | 0,_,_,h=>by cases h
 | k+1,a,b,h=>by
  have ls:∀ {cs ds:List V},eO (k0 π k) cs ds=true→cs.length=ds.length∧∀ (j:Nat) (v u:V),cs[j]?=some v→ds[j]?=some u→ja π v u:=fun ad=>
   let ⟨h1,ab⟩:=ID ad;⟨h1,fun j v u a b=>Cj (ab j v u a b)⟩
  unfold k0 at h
  split at h
  ·simp only [Bool.and_eq_true,beq_iff_eq] at h;obtain ⟨rfl,rfl⟩:=h;exact .ptr _ _
  ·simp only [Bool.and_eq_true,beq_iff_eq] at h;obtain ⟨⟨⟨rfl,rfl⟩,rfl⟩,rfl⟩:=h;exact .aj _ _ _ _
  ·simp only [beq_iff_eq] at h;subst h;exact .map _
  ·simp only [Bool.and_eq_true,beq_iff_eq] at h;obtain ⟨rfl,h⟩:=h;exact .an _ (ls h).1 (ls h).2
  ·exact .at (ls h).1 (ls h).2
  ·exact .agg (ls h).1 (ls h).2
  ·exact .tuple (ls h).1 (ls h).2
  ·simp only [Bool.and_eq_true,beq_iff_eq] at h;obtain ⟨⟨rfl,h1⟩,ab⟩:=h;exact .func _ rfl (ls h1).1 (ls h1).2 (ls ab).1 (ls ab).2
  ·simp only [Bool.and_eq_true,beq_iff_eq] at h;obtain ⟨rfl,h⟩:=h;exact .iface _ (Cj h)
  ·exact .same _ rfl
  ·simp only [beq_iff_eq] at h;subst h;exact .same _ rfl
  ·simp only [Bool.and_eq_true,beq_iff_eq,decide_eq_true_eq] at h;obtain ⟨rfl,rfl⟩:=h;exact .same _ rfl
  ·exact .same _ rfl
  ·exact .same _ rfl
  ·exact .same _ rfl
  ·exact .same _ rfl
  ·exact .same _ rfl
  ·exact .same _ rfl
  ·cases h
theorem Sd {π:Nat→Nat} {a b:aD} (h:vS π a b=true):Ev π a b:=by
 unfold vS at h
 split at h
 ·exact trivial
 ·simp only [Bool.and_eq_true,beq_iff_eq] at h
  obtain ⟨⟨h1,rfl⟩,rfl⟩:=h
  obtain ⟨bC,a2⟩:=ID h1
  exact ⟨⟨bC,fun k v u x y=>Cj (a2 k v u x y)⟩,rfl,rfl⟩
 ·simp only [Bool.and_eq_true,beq_iff_eq] at h
  obtain ⟨rfl,h1⟩:=h
  obtain ⟨bC,a2⟩:=ID h1
  refine ⟨bC,rfl,fun k p q x y=>?_⟩
  have:=a2 k p q x y
  simp only [Bool.and_eq_true,beq_iff_eq] at this
  exact ⟨this.1.1,Cj this.1.2,Cj this.2⟩
 ·simp only [Bool.and_eq_true,beq_iff_eq] at h
  obtain ⟨⟨⟨rfl,rfl⟩,rfl⟩,rfl⟩:=h
  exact ⟨rfl,rfl,rfl,rfl⟩
 ·cases h
theorem afp {n:Nat} {s0 s1:bg} {F:Fr} {Cf:List (Nat×Nat×Nat)} {o:jc} (ar:s0.b=s0.n) (h:Iy n s0 F s1 Cf o=true) (eM:∀ t,n≤t→F.a t=.top) (bj:fj s0 s1) (afq:fj s0 o.s) (a7:∀ i,s1.n≤i→s1.obj i=.dead) (Se:∀ i,o.s.n≤i→o.s.obj i=.dead):mI n (s0.a G) o.f.a (o.s.a G) F.a (s1.a G):=by
 unfold Iy at h
 simp only [Bool.and_eq_true,beq_iff_eq,List.all_eq_true,List.mem_range'_1,List.mem_range] at h
 obtain ⟨⟨⟨⟨aJ,hw⟩,az⟩,Sf⟩,aB⟩:=h
 have anl:=bj.n
 generalize kh:J9 Cf o.T=L at *
 have EP:∀ i,s0.n≤i→i<s1.n→(jy s0.n s1.n (L.map fun p=>(p.2,p.1)) (jy s0.n s1.n L i)=i∧jy s0.n s1.n L (jy s0.n s1.n (L.map fun p=>(p.2,p.1)) i)=i∧s0.n≤jy s0.n s1.n L i∧jy s0.n s1.n L i<s1.n)∧Ev (jy s0.n s1.n L) (o.s.obj i) (s1.obj (jy s0.n s1.n L i)):=fun i hi eN=>by
  obtain ⟨⟨⟨⟨bC,a2⟩,a3⟩,a4⟩,a5⟩:=az i ⟨hi,by omega⟩
  exact ⟨⟨bC,a2,Nat.le_of_ble_eq_true a3,Nat.lt_of_succ_le (by simpa [Nat.blt] using a4)⟩,Sd a5⟩
 have out:∀ (M:List (Nat×Nat)) i,¬(s0.n≤i∧i<s1.n)→jy s0.n s1.n M i=i:=fun M i hi=>by
  unfold jy
  have:(Nat.ble s0.n i&&Nat.blt i s1.n)=false:=by
   rw [Bool.eq_false_iff]
   intro ad
   simp only [Bool.and_eq_true] at ad
   exact hi ⟨Nat.le_of_ble_eq_true ad.1,Nat.lt_of_succ_le (by simpa [Nat.blt] using ad.2)⟩
  rw [this];rfl
 refine mI.of (π:=jy s0.n s1.n L) (ι:=jy s0.n s1.n (L.map fun p=>(p.2,p.1))) (fun i=>?_) (fun i=>?_) (fun i hi=>?_) (fun i hi=>?_) aJ.symm rfl (fun j=>?_) (fun t bM=>Cj (aB t bM)) eM
 ·by_cases hi:s0.n≤i∧i<s1.n
  ·exact (EP i hi.1 hi.2).1.1
  ·rw [out L i hi,out _ i hi]
 ·by_cases hi:s0.n≤i∧i<s1.n
  ·exact (EP i hi.1 hi.2).1.2.1
  ·rw [out _ i hi,out L i hi]
 ·exact out L i (by show ¬(s0.n≤i∧i<s1.n);have:i<s0.n:=hi;omega)
 ·have hi:o.s.n≤i:=hi
  rw [out _ i (by omega)];exact hi
 ·by_cases h1:j<s0.n
  ·by_cases ab:j ∈ o.s.w
   ·left
    have:=Sf j ab
    rw [out L j (by omega)]
    exact Sd this
   ·right
    exact ⟨h1,afq.bt j h1 (by rw [ar];exact h1) ab,bj.bt j h1 (by rw [ar];exact h1) (by rw [←hw];exact ab)⟩
  ·left
   by_cases ab:j<s1.n
   ·exact (EP j (by omega) ab).2
   ·rw [out L j (by omega)]
    have aK:(o.s.a G).get j=.dead:=Se j (by omega)
    have a6:(s1.a G).get j=.dead:=a7 j (by omega)
    rw [aK,a6]
    exact trivial
end
end
end Go.Proofs.YtceanabgcnieeaaGreatDoor.Ab
namespace Go.Proofs.YtceanabgcnieeaaGreatDoor.Ab
noncomputable section
open Go Go.RowKit
section
variable {P:Program} {G:List (Nat×List V)} {X:Ext P G} {rc:Nat→Code→Fr→bg→Option (List cH)}
theorem afr (aq:iM P G rc) {y:Nat→List V→bg→Option (List (V×bg))} (h8:tl P G y) {n id:Nat} {ops:Array Oper} {ku:bJ} {f:Fr} {s:bg} {outs:List cH} (aU:(ops.toList.all fun o=>j3 n o.dst)=true) (h:Iz P G X rc y n ops ku f s=some outs) :
  (∀ o ∈ outs,fj s o.2.2)∧∀ Q:ey→ak→I→Prop,(∀ o ∈ outs,Q o.1 o.2.1.a (o.2.2.a G))→aZ P n (.region id ops true) Q f.a (s.a G):=by
 unfold Iz at h
 cases b3:ku.jw ops (rR ops) (q7 ops) ops.size true true 0 with
 | false=>rw [b3] at h;cases h
 | true=>
 rw [b3] at h
 have b3:=ae3 ae5 ku _ _ _ _ _ (tg.zero ops) b3
 simp only [cond_true] at h
 split at h
 case h_2=>cases h
 rename_i l az
 cases aL:l.all fun o=>o.R.all fun r=>l.all fun p=>!p.W.elem r with
 | false=>rw [aL] at h;cases h
 | true=>
 rw [aL] at h
 simp only [cond_true] at h
 split at h
 case h_2=>cases h
 rename_i bE s1 aC
 obtain rfl:=Option.some.inj h
 obtain ⟨bj,aK⟩:=ur (s0:=s.enter) aq h8 rfl az (fj.refl _)
 have Sg:∀ o ∈ l,∀ r ∈ o.R,¬∃ p ∈ l,r ∈ p.W:=fun o av r aq ⟨p,az,hw⟩=>by
  have:=List.all_eq_true.1 (List.all_eq_true.1 (List.all_eq_true.1 aL o av) r aq) p az
  simp only [Bool.not_eq_true',List.elem_eq_mem,decide_eq_false_iff_not] at this
  exact this hw
 have fin:∀ {Q:ey→ak→I→Prop},(∀ o ∈ l,Q .normal o.f.a (o.s.a G))→aZ P n (.region id ops true) Q f.a (s.a G):=fun {Q} ae=>
  aZ.Eu (fun j=>∃ p ∈ l,j ∈ p.W) ku X.mixed b3 aU fun _=>aK _ (fun o av j aC=>⟨o,av,aC⟩) Sg _ _ ae
 unfold R5 at aC
 split at aC
 ·cases aC
 ·rename_i o
  simp only [Option.some.injEq,Prod.mk.injEq] at aC
  obtain ⟨rfl,rfl⟩:=aC
  refine ⟨fun p az=>by rw [List.mem_singleton] at az;subst az;exact EA (bj o (by simp)),fun Q ae=>fin fun p az=>?_⟩
  rw [List.mem_singleton] at az
  subst az
  exact ae _ (List.mem_singleton.2 rfl)
 ·rename_i o b7 bc
  simp only at aC
  cases al:(o::b7).all (Iy n s.enter (sa 0 ((List.range n).map o.f.a) .e) o.s o.T) with
  | false=>rw [al] at aC;cases aC
  | true=>
  rw [al] at aC
  simp only [cond_true,Option.some.injEq,Prod.mk.injEq] at aC
  obtain ⟨rfl,rfl⟩:=aC
  refine ⟨fun p az=>by rw [List.mem_singleton] at az;subst az;exact EA (bj o (by simp)),fun Q ae=>aZ.Ik ?_⟩
  intro ρ B aG a w hw fo
  have a7:∀ i,s.n≤i→s.obj i=.dead:=fun i hi=>hw.heap.A2 (i:=i) hi
  refine (fin (Q:=fun e f1 h1=>∃ f2 ab,mI n (s.a G) f1 h1 f2 ab∧Q e f2 ab) fun p az=>?_) ρ B aG a w hw fo
  refine ⟨_,_,afp (s0:=s.enter) rfl (List.all_eq_true.1 al p az) (fun t bM=>?_) (bj o (by simp)) (bj p az) ?_ ?_,ae _ (List.mem_singleton.2 rfl)⟩
  ·rw [m6,if_neg (by simp;omega)];rfl
  ·exact fun i hi=>((bj o (by simp)).jv i hi).trans (a7 i (Nat.le_trans (bj o (by simp)).n hi))
  ·exact fun i hi=>((bj p az).jv i hi).trans (a7 i (Nat.le_trans (bj p az).n hi))
theorem Sh:tl P G fun _ _ _=>none:=fun _ _ _ _ h=>by cases h
theorem afs (vs:List V):(List.range vs.length).map (dQ vs)=vs:=by
 apply List.ext_getElem
 ·simp
 ·intro k h1 ab
  simp [dQ,ab]
theorem Si (aq:iM P G rc):tl P G (Cg P G X rc):=by
 intro i args s outs h
 unfold Cg at h
 split at h
 case h_2=>cases h
 rename_i jd p cq mc rS ck me vs v aE
 cases al:(Nat.blt p vs.length&&Nat.blt i s.n&&(mc.toList.all fun o=>j3 vs.length o.dst)&&(me.toList.all fun o=>j3 vs.length o.dst)) with
 | false=>rw [al] at h;cases h
 | true=>
 rw [al] at h
 simp only [cond_true] at h
 simp only [Bool.and_eq_true] at al
 obtain ⟨⟨⟨bf,bx⟩,c3⟩,kl⟩:=al
 have bf:p<vs.length:=Nat.lt_of_succ_le (by simpa [Nat.blt] using bf)
 have bx:i<s.n:=Nat.lt_of_succ_le (by simpa [Nat.blt] using bx)
 split at h
 case h_2=>cases h
 rename_i f1 s1 h1
 cases bK:!s1.w.elem i with
 | false=>rw [bK] at h;cases h
 | true=>
 rw [bK] at h
 simp only [cond_true] at h
 split at h
 case h_2=>cases h
 rename_i f2 h0 ab
 cases jR:!h0.w.elem i with
 | false=>rw [jR] at h;cases h
 | true=>
 rw [jR] at h
 obtain rfl:=Option.some.inj h
 have bK:=IC bK
 have jR:=IC jR
 obtain ⟨bj,aK⟩:=Ci aq Sh h1
 obtain ⟨b2,dB⟩:=Ci aq Sh ab
 have bj:=bj _ (List.mem_singleton.2 rfl)
 have b2:=b2 _ (List.mem_singleton.2 rfl)
 obtain ⟨bs,hE⟩:∃ bs,bs=aD.dP (.loop jd p (.region cq mc false) (.block rS (.region ck me false)) true) vs:=⟨_,rfl⟩
 obtain ⟨rd,h9⟩:∃ rd,rd=aD.dP (.loop jd p (.region cq mc false) (.block rS (.region ck me false)) false) vs:=⟨_,rfl⟩
 rw [←hE] at ab b2 dB
 rw [←h9] at aE
 have c9:s.n≤s1.n:=bj.n
 have n3:s1.n≤h0.n:=b2.n
 have g1:s1.obj i=rd:=(bj.bt i bx bx bK).trans aE
 have cw:∀ j,(bg.enter { s1 with t:=s1.t.set bs i }).obj j=if j=i then bs else s1.obj j:=fun j=>te _ _ _ _
 have g3:h0.obj i=bs:=(b2.bt i (show i<s1.n by omega) (show i<s1.n by omega) jR).trans (by rw [cw,if_pos rfl])
 have kG:∀ (r8:Nat) (ww:List Nat) j,(bg.mk h0.n (h0.t.set rd i) r8 ww).obj j=if j=i then rd else h0.obj j:=fun r8 ww j=>te _ _ _ _
 refine ⟨fun q ae=>?_,?_⟩
 ·rw [List.mem_singleton] at ae
  subst ae
  rw [←h9]
  refine ⟨by show s.n≤h0.n;omega,rfl,fun j h=>Ce h,fun j aJ ar hw=>?_,fun j aC=>?_⟩
  ·have eS:j ∉ s1.w∧j ∉ h0.w:=⟨fun h=>hw (zn (List.mem_append.2 (.inl h)) ar),fun h=>hw (zn (List.mem_append.2 (.inr h)) ar)⟩
   rw [kG]
   by_cases aC:j=i
   ·subst aC;rw [if_pos rfl];exact aE.symm
   ·rw [if_neg aC]
    refine (b2.bt j (show j<s1.n by omega) (show j<s1.n by omega) eS.2).trans ?_
    rw [cw,if_neg aC]
    exact bj.bt j aJ aJ eS.1
  ·have aC:h0.n≤j:=aC
   rw [kG,if_neg (by omega)]
   refine (b2.jv j aC).trans ?_
   rw [cw,if_neg (by omega)]
   exact bj.jv j (show s1.n≤j by omega)
 ·have nh:=afs vs
  have j8:(fun t=>if t<vs.length then dQ vs t else .top)=dQ vs:=by
   funext t
   by_cases bM:t<vs.length
   ·rw [if_pos bM]
   ·rw [if_neg bM]
    unfold dQ
    simp [List.getD,List.getElem?_eq_none (Nat.le_of_not_lt bM)]
  have f0:Eb vs.length (dQ vs) p v=((sa 0 vs .e).put (some p) v).a:=by
   rw [Fr.hY,Im]
   unfold Eb
   rw [j8]
  refine jl.of (n:=vs.length) (f:=dQ vs) (i:=i) (jd:=jd) (p:=p) (assign:=.region cq mc false) (body:=.block rS (.region ck me false)) bf (by rw [nh,←h9];exact aE) (fun f h=>f=f1.a∧h=s1.a G) (fun l=>?_) fun l bE U hm=>?_
  ·rw [nh,←h9,f0]
   refine mb.region c3 (aK _ _ fun q ae=>?_)
   rw [List.mem_singleton] at ae
   subst ae
   exact ⟨rfl,g1,rfl,rfl⟩
  ·obtain ⟨rfl,rfl⟩:=hm
   rw [nh,←h9,←hE]
   have s2:(bg.enter { s1 with t:=s1.t.set bs i }).a G=(s1.a G).set i bs:=IB G s1 i bs
   rw [←s2]
   refine mb.block (mb.region kl (dB _ _ fun q ae=>?_))
   rw [List.mem_singleton] at ae
   subst ae
   refine ⟨rfl,g3,_,List.mem_singleton.2 rfl,rfl,?_⟩
   exact (IB G h0 i rd).symm
theorem MT (aq:iM P G rc) {n:Nat} {c:Code}:∀ {k:Nat} {f:Fr} {s:bg} {outs:List cH},Ch rc n c k f s=some outs →
  (∀ o ∈ outs,fj s o.2.2)∧∀ Q:ey→ak→I→Prop,(∀ o ∈ outs,Q o.1 o.2.1.a (o.2.2.a G))→kf P n c Q k f.a (s.a G)
 | 0,_,_,_,h=>nomatch (show (none:Option (List cH))=some _ from h)
 | k+1,f,s,outs,h=>by
  rw [ae6] at h
  split at h
  case h_2=>cases h
  rename_i l aw
  obtain ⟨bj,aK⟩:=aq _ _ _ _ _ aw
  refine ⟨fun o av=>?_,fun Q ae=>?_⟩
  ·obtain ⟨x,af,a,aL,aX⟩:=m9 h o av
   obtain ⟨e,f1,s1⟩:=x
   cases e with
   | normal=>exact (bj _ af).trans ((MT aq aL).1 o aX)
   | _=>
    obtain rfl:=Option.some.inj aL
    rw [List.mem_singleton] at aX
    subst aX
    exact bj _ af
  ·refine aK _ fun x af=>?_
   obtain ⟨a,aL,aX⟩:=m8 h x af
   obtain ⟨e,f1,s1⟩:=x
   cases e with
   | normal=>exact (MT aq aL).2 Q fun y xI=>ae y (aX y xI)
   | _=>
    obtain rfl:=Option.some.inj aL
    exact ae _ (aX _ (List.mem_singleton.2 rfl))
theorem Sj (aq:iM P G rc) {n l:Nat} {c:Code}:∀ {k:Nat} {f:Fr} {s:bg} {outs:List cH},EK rc n l c k f s=some outs →
  (∀ o ∈ outs,fj s o.2.2)∧∀ Q:ey→ak→I→Prop,(∀ o ∈ outs,Q o.1 o.2.1.a (o.2.2.a G))→Il P n l c Q k f.a (s.a G)
 | 0,_,_,_,h=>by cases h
 | k+1,f,s,outs,h=>by
  unfold EK at h
  split at h
  ·rename_i j f1 s1 h1
   obtain ⟨bj,aK⟩:=aq _ _ _ _ _ h1
   cases aC:Nat.beq j l with
   | false=>rw [aC] at h;cases h
   | true=>
   rw [aC] at h
   simp only [cond_true] at h
   have aC:=Nat.eq_of_beq_eq_true aC
   have ih:=Sj aq h
   refine ⟨fun o av=>(bj _ (List.mem_singleton.2 rfl)).trans (ih.1 o av),fun Q ae=>aK _ fun x af=>?_⟩
   rw [List.mem_singleton] at af
   subst af
   exact ⟨aC,ih.2 Q ae⟩
  ·rename_i e f1 s1 bc h1
   obtain ⟨bj,aK⟩:=aq _ _ _ _ _ h1
   obtain rfl:=Option.some.inj h
   refine ⟨bj,fun Q ae=>aK _ fun x af=>?_⟩
   have:=ae x af
   rw [List.mem_singleton] at af
   subst af
   cases e with
   | goto j=>exact (bc j rfl).elim
   | _=>exact this
  ·cases h
theorem aft (aq:iM P G rc):iM P G (IA P G X rc):=by
 intro n c f s outs h
 rw [afd] at h
 have one:∀ {c:Code} {e:ey},(∀ Q:ey→ak→I→Prop,Q e f.a (s.a G)→aZ P n c Q f.a (s.a G))→some [(e,f,s)]=some outs→(∀ o ∈ outs,fj s o.2.2)∧∀ Q:ey→ak→I→Prop,(∀ o ∈ outs,Q o.1 o.2.1.a (o.2.2.a G))→aZ P n c Q f.a (s.a G):=fun hw h=>by
  obtain rfl:=Option.some.inj h
  exact ⟨fun o av=>by rw [List.mem_singleton] at av;subst av;exact fj.refl s,fun Q ae=>hw Q (ae _ (List.mem_singleton.2 rfl))⟩
 cases c with
 | skip=>exact one (fun Q ae=>.skip ae) h
 | label l=>exact one (fun Q ae=>.label ae) h
 | exit i=>exact one (fun Q ae=>.exit ae) h
 | goto l=>exact one (fun Q ae=>.goto ae) h
 | ret=>exact one (fun Q ae=>.ret ae) h
 | refuse w=>cases h
 | rangeFunc a b c d=>cases h
 | seq a b=>
  simp only [zx] at h
  split at h
  case h_2=>cases h
  rename_i l aw
  obtain ⟨bj,aK⟩:=aq _ _ _ _ _ aw
  refine ⟨fun o av=>?_,fun Q ae=>?_⟩
  ·obtain ⟨x,af,a,aL,aX⟩:=m9 h o av
   obtain ⟨e,f1,s1⟩:=x
   cases e with
   | normal=>exact (bj _ af).trans ((aq _ _ _ _ _ aL).1 o aX)
   | _=>
    obtain rfl:=Option.some.inj aL
    rw [List.mem_singleton] at aX
    subst aX
    exact bj _ af
  ·refine aZ.seq (aK _ fun x af=>?_)
   obtain ⟨a,aL,aX⟩:=m8 h x af
   obtain ⟨e,f1,s1⟩:=x
   cases e with
   | normal=>exact (aq _ _ _ _ _ aL).2 Q fun y xI=>ae y (aX y xI)
   | _=>
    obtain rfl:=Option.some.inj aL
    exact ae _ (aX _ (List.mem_singleton.2 rfl))
 | cond c a b=>
  simp only [zx] at h
  split at h
  ·rename_i al
   obtain ⟨bj,aK⟩:=aq _ _ _ _ _ h
   exact ⟨bj,fun Q ae=>aZ.cond al (aK Q ae)⟩
  ·rename_i al
   obtain ⟨bj,aK⟩:=aq _ _ _ _ _ h
   exact ⟨bj,fun Q ae=>aZ.cond al (aK Q ae)⟩
  ·cases h
 | block i b=>
  simp only [zx] at h
  split at h
  case h_2=>cases h
  rename_i l aw
  obtain ⟨bj,aK⟩:=aq _ _ _ _ _ aw
  obtain rfl:=Option.some.inj h
  refine ⟨fun o av=>?_,fun Q ae=>aZ.block (aK _ fun x af=>?_)⟩
  ·obtain ⟨x,af,rfl⟩:=List.mem_map.1 av
   obtain ⟨e,f1,s1⟩:=x
   have:=bj _ af
   cases e<;>exact this
  ·have:=ae _ (List.mem_map.2 ⟨x,af,rfl⟩)
   obtain ⟨e,f1,s1⟩:=x
   cases e with
   | exit j=>
    simp only at this
    show if j=i then Q .normal f1.a (s1.a G) else Q (.exit j) f1.a (s1.a G)
    cases aC:Nat.beq j i with
    | true=>
     rw [aC] at this
     rw [if_pos (Nat.eq_of_beq_eq_true aC)]
     exact this
    | false=>
     rw [aC] at this
     rw [if_neg (Nat.ne_of_beq_eq_false aC)]
     exact this
   | _=>exact this
 | loop b=>
  obtain ⟨bj,aK⟩:=MT aq (show Ch rc n b 5000 f s=some outs from h)
  exact ⟨bj,fun Q ae=>aZ.kf 5000 (aK Q ae)⟩
 | scope c=>
  simp only [zx] at h
  split at h
  ·rename_i l f1 s1 h1
   obtain ⟨bj,aK⟩:=aq _ _ _ _ _ h1
   split at h
   case h_2=>cases h
   rename_i r aB
   have ih:=Sj aq h
   refine ⟨fun o av=>(bj _ (List.mem_singleton.2 rfl)).trans (ih.1 o av),fun Q ae=>aZ.Ex aB 100 (aK _ fun x af=>?_)⟩
   rw [List.mem_singleton] at af
   subst af
   exact ⟨rfl,ih.2 Q ae⟩
  ·rename_i e f1 s1 bc h1
   obtain ⟨bj,aK⟩:=aq _ _ _ _ _ h1
   obtain rfl:=Option.some.inj h
   refine ⟨bj,fun Q ae=>?_⟩
   exact aeU (aK _ fun x af=>⟨ae x af,fun j aC=>by
    rw [List.mem_singleton] at af
    subst af
    exact bc j aC⟩)
  ·cases h
 | region id ops d=>
  cases d with
  | false=>
   simp only [zx] at h
   cases aU:(ops.toList.all fun o=>j3 n o.dst) with
   | false=>rw [aU] at h;cases h
   | true=>
   rw [aU] at h
   simp only [cond_true] at h
   split at h
   case h_2=>cases h
   rename_i l aw
   obtain ⟨bj,aK⟩:=Ci aq (Si aq) aw
   obtain rfl:=Option.some.inj h
   refine ⟨fun o av=>?_,fun Q ae=>aZ.region aU (aK _ _ fun p az=>?_)⟩
   ·obtain ⟨p,az,rfl⟩:=List.mem_map.1 av
    exact bj p az
   ·exact ae _ (List.mem_map.2 ⟨p,az,rfl⟩)
  | true=>
   simp only [zx] at h
   cases aU:(ops.toList.all fun o=>j3 n o.dst) with
   | false=>rw [aU] at h;cases h
   | true=>
   rw [aU] at h
   exact afr aq (Si aq) aU h
theorem Sk:∀ k,iM P G (vT P G X k)
 | 0=>fun n c f s outs h=>nomatch (show (none:Option (List cH))=some _ from h)
 | k+1=>aft (Sk k)
theorem ul {fid:FuncId} {args:List V} {s:bg} {k:Nat} {r:V} {s1:bg} (h:zu P G X (vT P G X k) fid args s=some [(r,s1)]):fj s s1∧ah P fid args (s.a G) fun x h=>x=r∧h=s1.a G:=by
 obtain ⟨h1,ab⟩:=MR (Sk k) h
 refine ⟨h1 _ (List.mem_singleton.2 rfl),ab.mono fun x h ⟨p,az,aK,a6⟩=>?_⟩
 rw [List.mem_singleton] at az
 subst az
 exact ⟨aK,a6⟩
end
end
end Go.Proofs.YtceanabgcnieeaaGreatDoor.Ab
namespace Go.Proofs.YtceanabgcnieeaaGreatDoor.Ab
open Go Go.RowKit
noncomputable section
theorem uu {α:Type} {p:α→α→Bool} (az:∀ a b,p a b=true→a=b):∀ {l m:List α},eO p l m=true→l=m
 | [],[],_=>rfl
 | a::l,b::m,h=>by
  simp only [eO,Bool.and_eq_true] at h
  rw [az a b h.1,uu az h.2]
 | [],_::_,h=>by simp [eO] at h
 | _::_,[],h=>by simp [eO] at h
def kx:Nat→V→V→Bool
 | 0,_,_=>false
 | k+1,a,b=>match a,b with
  | .ptr i o,.ptr j p=>Nat.beq i j&&Nat.beq o p
  | .aj i o n c,.aj j p m d=>Nat.beq i j&&Nat.beq o p&&Nat.beq n m&&Nat.beq c d
  | .map i,.map j=>Nat.beq i j
  | .an n cs,.an m ds=>Nat.beq n m&&eO (kx k) cs ds
  | .at cs,.at ds=>eO (kx k) cs ds
  | .agg cs,.agg ds=>eO (kx k) cs ds
  | .tuple cs,.tuple ds=>eO (kx k) cs ds
  | .func (.func f) cs es,.func (.func g) ds di=>Nat.beq f g&&eO (kx k) cs ds&&eO (kx k) es di
  | .iface t v,.iface u w=>Nat.beq t u&&kx k v w
  | .bool a,.bool b=>a==b
  | .int k a,.int l b=>decide (k=l)&&decide (a=b)
  | .top,.top=>true
  | .ag,.ag=>true
  | .en,.en=>true
  | .dk,.dk=>true
  | .z0,.z0=>true
  | .nilFunc,.nilFunc=>true
  | .nilIface,.nilIface=>true
  | _,_=>false
theorem Ck:∀ {k:Nat} {a b:V},kx k a b=true→a=b
 | 0,_,_,h=>by simp [kx] at h
 | k+1,a,b,h=>by
  have ih:∀ a b,kx k a b=true→a=b:=fun a b=>Ck
  have q9:∀ {i j:Nat},Nat.beq i j=true→i=j:=fun h=>Nat.eq_of_beq_eq_true h
  unfold kx at h
  split at h<;>try simp only [Bool.and_eq_true,decide_eq_true_eq,beq_iff_eq,reduceCtorEq] at h
  ·rw [q9 h.1,q9 h.2]
  ·rw [q9 h.1.1.1,q9 h.1.1.2,q9 h.1.2,q9 h.2]
  ·rw [q9 h]
  ·rw [q9 h.1,uu ih h.2]
  ·rw [uu ih h]
  ·rw [uu ih h]
  ·rw [uu ih h]
  ·rw [q9 h.1.1,uu ih h.1.2,uu ih h.2]
  ·rw [q9 h.1,ih _ _ h.2]
  ·rw [h]
  ·rw [h.1,h.2]
  all_goals rfl
def ra:aD→aD→Bool
 | .dead,.dead=>true
 | .cells c e x,.cells d f y=>eO (kx 9) c d&&Nat.beq e f&&decide (x=y)
 | .map es a1,.map di dl=>decide (a1=dl)&&eO (fun p q:Nat×V×V=>Nat.beq p.1 q.1&&kx 9 p.2.1 q.2.1&&kx 9 p.2.2 q.2.2) es di
 | _,_=>false
theorem IE {a b:aD} (h:ra a b=true):a=b:=by
 have q9:∀ {i j:Nat},Nat.beq i j=true→i=j:=fun h=>Nat.eq_of_beq_eq_true h
 unfold ra at h
 split at h
 ·rfl
 ·simp only [Bool.and_eq_true,decide_eq_true_eq] at h
  rw [uu (fun _ _=>Ck) h.1.1,q9 h.1.2,h.2]
 ·simp only [Bool.and_eq_true,decide_eq_true_eq] at h
  rw [h.1,uu (fun p q Kb=>by
   simp only [Bool.and_eq_true] at Kb
   obtain ⟨⟨h1,ab⟩,aI⟩:=Kb
   obtain ⟨a,b,c⟩:=p
   obtain ⟨du,fe,k5⟩:=q
   simp only at h1 ab aI
   rw [q9 h1,Ck ab,Ck aI]) h.2]
 ·cases h
def A8 (L:List (Nat×aD)):Tr aD:=L.foldl (fun t p=>t.set p.2 p.1) .e
theorem ER (L:List (Nat×aD)) (i:Nat):gD (A8 L) i=.dead∨∃ p ∈ L,p.1=i∧gD (A8 L) i=p.2:=by
 have:∀ (L:List (Nat×aD)) (t:Tr aD),gD (L.foldl (fun t p=>t.set p.2 p.1) t) i=gD t i∨∃ p ∈ L,p.1=i∧gD (L.foldl (fun t p=>t.set p.2 p.1) t) i=p.2:=by
  intro L
  induction L with
  | nil=>intro t;exact .inl rfl
  | cons p L ih=>
   intro t
   rw [List.foldl_cons]
   rcases ih (t.set p.2 p.1) with h | ⟨q,ae,h1,ab⟩
   ·rw [h,te]
    by_cases hi:i=p.1
    ·rw [if_pos hi];exact .inr ⟨p,by simp,hi.symm,rfl⟩
    ·rw [if_neg hi];exact .inl rfl
   ·exact .inr ⟨q,by simp [ae],h1,ab⟩
 exact this L .e
structure bW where
 fid:FuncId
 args:List V
 n:Nat
 b:Nat
 w:List Nat
 L:List (Nat×aD)
 r:V
 n':Nat
 w':List Nat
 L':List (Nat×aD)
def bW.S (e:bW):bg:={ n:=e.n,t:=A8 e.L,b:=e.b,w:=e.w }
def bW.lb (e:bW):bg:={ n:=e.n',t:=A8 e.L',b:=e.b,w:=e.w' }
section
variable {P:Program} {G:List (Nat×List V)}
def bW.Ok (P:Program) (G:List (Nat×List V)) (e:bW):Prop:=fj e.S e.lb∧ah P e.fid e.args (e.S.a G) fun x h=>x=e.r∧h=e.lb.a G
def bW.gE (P:Program) (G:List (Nat×List V)) (X:Ext P G) (k:Nat) (e:bW):Bool :=
 match zu P G X (vT P G X k) e.fid e.args e.S with
 | some [(v,s1)]=>kx 9 v e.r&&Nat.ble s1.n e.n'&&decide (s1.w=e.w')&&(e.L'.all fun p=>ra (s1.obj p.1) p.2&&Nat.blt p.1 e.n')&&(e.L.all fun p=>Nat.blt p.1 e.n) &&
  (List.range e.b).all fun j=>ra (e.lb.obj j) (e.S.obj j)||e.w'.contains j
 | _=>false
theorem bW.da {X:Ext P G} {k:Nat} {e:bW} (h:e.gE P G X k=true):e.Ok P G:=by
 unfold bW.gE at h
 split at h
 case h_2=>cases h
 rename_i v s1 al
 simp only [Bool.and_eq_true,List.all_eq_true,decide_eq_true_eq,Bool.or_eq_true] at h
 obtain ⟨⟨⟨⟨⟨h1,ab⟩,aI⟩,h4⟩,h5⟩,dT⟩:=h
 have ab:=Nat.le_of_ble_eq_true ab
 obtain ⟨bj,bf⟩:=ul al
 have aN:=Ck h1
 have MU:∀ j,e.n'≤j→e.lb.obj j=.dead:=fun j aC=>(ER e.L' j).resolve_right fun ⟨p,az,aK,_⟩=>by
  have:=Nat.le_of_ble_eq_true (h4 p az).2
  omega
 have jv:∀ j,e.n≤j→e.S.obj j=.dead:=fun j aC=>(ER e.L j).resolve_right fun ⟨p,az,aK,_⟩=>by
  have:=Nat.le_of_ble_eq_true (h5 p az)
  omega
 have aJ:e.n≤e.n':=Nat.le_trans bj.n ab
 refine ⟨⟨aJ,rfl,fun j aC=>?_,fun j aC ar hw=>?_,fun j aC=>?_⟩,fun ρ B aG w args' hw aL=>?_⟩
 ·have:=bj.w j aC
  rw [aI] at this
  exact this
 ·rcases dT j (List.mem_range.2 ar) with h | h
  ·exact IE h
  ·exact absurd (show j ∈ e.w' by simpa using h) hw
 ·rw [MU j aC,jv j (Nat.le_trans aJ aC)]
 ·refine (bf ρ B aG w args' hw aL).mono fun afu w' ad=>?_
  rcases ad with ⟨ρ',r',v',U,aK,a6,dB,hj,j5,xJ⟩ | ⟨ρ',gT,U,aK,a6,dB,hj,j5⟩
  ·subst j5 xJ
   refine .inl ⟨ρ',_,v',e.lb.a G,aK,a6,dB.zp ab rfl fun i=>?_,hj,aN,rfl⟩
   rcases ER e.L' i with a7 | ⟨p,az,c2,eE⟩
   ·exact .inr a7
   ·subst c2
    exact .inl (eE.trans (IE (h4 p az).1).symm)
  ·exact j5.elim
def A9 (t:Tr aD):Nat→Bool:=Tr.rec (motive:=fun _=>Nat→Bool) (fun _=>true) (fun v _ _ l r n=>(Nat.blt 0 n||v.isNone)&&(l (Nat.div n 2)&&r (Nat.div (Nat.sub n 1) 2))) t
theorem MV:∀ (t:Tr aD) (n i:Nat),A9 t n=true→n≤i→t.get i=none
 | .e,_,_,_,_=>rfl
 | .n v l r,n,i,h,hi=>by
  have h:((Nat.blt 0 n||v.isNone)&&(A9 l (n / 2)&&A9 r ((n - 1) / 2)))=true:=h
  simp only [Bool.and_eq_true,Bool.or_eq_true] at h
  obtain ⟨h1,ab,aI⟩:=h
  rw [Tr.ju]
  by_cases bB:i=0
  ·rw [if_pos bB]
   rcases h1 with h1 | h1
   ·have:=Nat.le_of_ble_eq_true h1;omega
   ·simpa using h1
  ·rw [if_neg bB]
   by_cases hm:i % 2=0
   ·rw [if_pos hm];exact MV r _ _ aI (by omega)
   ·rw [if_neg hm];exact MV l _ _ ab (by omega)
def bW.Ba (e:bW) (s:bg):Bool:=Nat.beq s.n e.n&&Nat.beq s.b e.b&&decide (s.w=e.w)&&(e.L.all fun p=>ra (s.obj p.1) p.2&&Nat.blt p.1 e.n)&&A9 s.t s.n &&
 (List.range e.b).all fun j=>ra (e.S.obj j) (s.obj j)
theorem bW.use {e:bW} (he:e.Ok P G) {s:bg} (h:e.Ba s=true):fj s e.lb∧ah P e.fid e.args (s.a G) fun x h=>x=e.r∧h=e.lb.a G:=by
 unfold bW.Ba at h
 simp only [Bool.and_eq_true,List.all_eq_true,decide_eq_true_eq] at h
 obtain ⟨⟨⟨⟨⟨h1,ab⟩,aI⟩,h4⟩,h5⟩,dT⟩:=h
 have h1:s.n=e.S.n:=Nat.eq_of_beq_eq_true h1
 have ab:s.b=e.S.b:=Nat.eq_of_beq_eq_true ab
 have aI:s.w=e.S.w:=aI
 have jv:∀ j,e.n≤j→e.S.obj j=.dead:=fun j aC=>(ER e.L j).resolve_right fun ⟨p,az,aK,_⟩=>by
  have:=Nat.le_of_ble_eq_true (h4 p az).2
  omega
 have dY:fj s e.S:=⟨Nat.le_of_eq h1,ab.symm,fun j aC=>by rw [←aI];exact aC,fun j aJ ar _=>IE (dT j (List.mem_range.2 (by rw [ab] at ar;exact ar))),fun j aC=>by
  rw [jv j aC]
  unfold bg.obj
  rw [MV s.t s.n j h5 (by omega)]⟩
 refine ⟨dY.trans he.1,fun ρ B aG w args' hw aL=>he.2 ρ B aG w args' (hw.zp (Nat.le_of_eq h1) rfl fun i=>?_) aL⟩
 rcases ER e.L i with a7 | ⟨p,az,c2,eE⟩
 ·exact .inr a7
 ·subst c2
  exact .inl (eE.trans (IE (h4 p az).1).symm)
def MW (T:List bW) (fid:FuncId) (args:List V) (s:bg):Option (V×bg):=(T.find? fun e=>Nat.beq e.fid fid&&eO (kx 9) e.args args&&e.Ba s).map fun e=>(e.r,e.lb)
theorem afv {T:List bW} (cV:∀ e ∈ T,e.Ok P G) {fid:FuncId} {args:List V} {s bF:bg} {r:V} (h:MW T fid args s=some (r,bF)):fj s bF∧ah P fid args (s.a G) fun x h=>x=r∧h=bF.a G:=by
 unfold MW at h
 cases aB:T.find? fun e=>Nat.beq e.fid fid&&eO (kx 9) e.args args&&e.Ba s with
 | none=>rw [aB] at h;cases h
 | some e=>
  rw [aB] at h
  have az:=List.find?_some aB
  simp only [Bool.and_eq_true] at az
  obtain ⟨⟨h1,ab⟩,aI⟩:=az
  have h1:=Nat.eq_of_beq_eq_true h1
  have ab:=uu (fun _ _=>Ck) ab
  subst h1 ab
  simp only [Option.map_some,Option.some.injEq,Prod.mk.injEq] at h
  obtain ⟨rfl,rfl⟩:=h
  exact bW.use (cV e (List.mem_of_find?_eq_some aB)) aI
end
end
end Go.Proofs.YtceanabgcnieeaaGreatDoor.Ab
namespace Go.Proofs.YtceanabgcnieeaaGreatDoor.Ab
open Go Go.RowKit
theorem Pure.closed {P:Program} {fid:FuncId} {b:Bool} {g:Nat→Option (List V)} (al:ah P fid [] (ta g) fun r _=>r=.bool b) {h:I} (aE:∀ k cs,g k=some cs→h.glob k=some cs∧∀ v ∈ cs,∃ gF n,v=.int gF n):Pure P fid [] h (.bool b):=by
 intro ρ B aG w args' hw aL
 have rJ:zj g w:=fun k cs hk=>by
  obtain ⟨h1,ab⟩:=aE k cs hk
  obtain ⟨arr,aB,aq⟩:=hw.heap.glob k cs h1
  obtain ⟨e,ei,ae⟩:=hw.heap.frz k arr aB
  refine ⟨arr,e,ei,ae,aq.1,fun i v v' aN fm=>?_⟩
  obtain ⟨gF,n,rfl⟩:=ab v (List.mem_of_getElem? aN)
  have:=aq.2 i _ v' aN fm
  cases this
  exact .int _ _
 have xy:aQ (be w) [] args'.toList:=by
  have:=aL.eq_nil
  rw [this]
  exact .nil _
 refine (al (be w) w.heap.size w w args' (Mq rJ) xy).mono fun e w' ad=>?_
 rcases ad with ⟨ρ',r,r',U,he,qa,bo,_,ed⟩ | ⟨_,_,_,_,_,_,_,dH⟩
 ·subst ed
  refine .inl ⟨ρ,.bool b,r',h,he,?_,⟨⟨hw.heap.gv,hw.heap.inj,fun i=>?_,fun k arr aB=>?_,hw.heap.glob,Nat.le_trans hw.heap.base bo.below.size⟩,?_⟩,Ren.le.refl ρ,rfl,rfl⟩
  ·cases qa
   exact .bool b
  ·by_cases a7:h.get i=.dead
   ·rw [a7];trivial
   ·obtain ⟨k,bh,aq,aT,_⟩:=hw.heap.live a7
    exact (hw.heap.obj i).au (Ren.le.refl ρ) fun k' k5 ar=>by
     rw [aq] at ar
     cases ar
     exact ⟨bo.below.block k aT,id⟩
  ·obtain ⟨e,ei,ae⟩:=hw.heap.frz k arr aB
   exact ⟨e,ei,(bo.below.block k (Array.getElem?_eq_some_iff.1 ae).1).trans ae⟩
  ·exact hw.below.trans ⟨bo.below.os,bo.below.tape,bo.below.output,bo.below.size,fun k hk=>bo.below.block k (Nat.lt_of_lt_of_le hk hw.heap.base),bo.below.drawn⟩
 ·exact dH.elim
end Go.Proofs.YtceanabgcnieeaaGreatDoor.Ab
namespace Go.Proofs.YtceanabgcnieeaaGreatDoor.Ab
open Go Go.RowKit
def vU (g:Nat→Option (List V)) (h:I):Prop:=∀ k cs,g k=some cs→h.glob k=some cs∧∀ v ∈ cs,∃ gF n,v=.int gF n
theorem vU.ok {g:Nat→Option (List V)} {h:I} (aE:vU g h) {ρ:Ren} {B:Nat} {aG w:World} (hw:aM ρ B aG h w):zj g w:=fun k cs hk=>by
 obtain ⟨h1,ab⟩:=aE k cs hk
 obtain ⟨arr,aB,aq⟩:=hw.heap.glob k cs h1
 obtain ⟨e,ei,ae⟩:=hw.heap.frz k arr aB
 refine ⟨arr,e,ei,ae,aq.1,fun i v v' aN fm=>?_⟩
 obtain ⟨gF,n,rfl⟩:=ab v (List.mem_of_getElem? aN)
 have:=aq.2 i _ v' aN fm
 cases this
 exact .int _ _
theorem afw {ρ:Ren} {B:Nat} {aG w:World} {h:I} {args:List V} {args':List Value} (hw:aM ρ B aG h w) (iI:aO args) (aL:aQ ρ args args'):aQ (be w) args args' :=
 ⟨aL.1,fun k v v' h1 ab=>iI v (List.mem_of_getElem? h1) ρ _ v' (aL.2 k v v' h1 ab) fun b a aB=>by
  obtain ⟨e,ei,ae⟩:=hw.heap.frz b a aB
  exact HL ae⟩
end Go.Proofs.YtceanabgcnieeaaGreatDoor.Ab
namespace Go.Proofs.YtceanabgcnieeaaGreatDoor.Ab
open Go Go.RowKit
def nG (k:Nat):Nat→V→V
 | 0,_=>.top
 | f+1,v=>match v with
  | .ptr i o=>.ptr (i+k) o
  | .aj i o n c=>.aj (i+k) o n c
  | .map i=>.map (i+k)
  | .int a b=>.int a b
  | .bool b=>.bool b
  | .ag=>.ag
  | .en=>.en
  | .dk=>.dk
  | .z0=>.z0
  | .nilFunc=>.nilFunc
  | .nilIface=>.nilIface
  | .func (.func g) [] []=>.func (.func g) [] []
  | .agg cs=>.agg (cs.map (nG k f))
  | .tuple cs=>.tuple (cs.map (nG k f))
  | _=>.top
theorem MX {ρ ρ2:Ren} {k:Nat} (aq:∀ i x,ρ.ren i=some x→ρ2.ren (i+k)=some x):∀ (f:Nat) {v:V} {x:Value},ax ρ v x→ax ρ2 (nG k f v) x
 | 0,_,_,_=>.top _
 | f+1,v,x,h=>by
  have ih:∀ {v:V} {x:Value},ax ρ v x→ax ρ2 (nG k f v) x:=fun h=>MX aq f h
  unfold nG
  split
  ·cases h with | ptr h o=>exact .ptr (aq _ _ h) _
  ·cases h with | aj h o n c aw=>exact .aj (aq _ _ h) _ _ _ aw
  ·cases h with | map h=>exact .map (aq _ _ h)
  ·cases h;exact .int _ _
  ·cases h;exact .bool _
  ·cases h;exact .ag
  ·cases h;exact .en
  ·cases h;exact .dk
  ·cases h with | z0 a aL=>exact .z0 a aL
  ·cases h;exact .nilFunc
  ·cases h;exact .nilIface
  ·cases h with
   | func fn aX J bM af JY=>exact .func _ aX J bM (fun k v v' h=>by simp at h) (fun k v v' h=>by simp at h)
  ·cases h with
   | agg J af=>
    refine .agg (by rw [List.length_map];exact J) fun j v v' h1 ab=>?_
    rw [List.getElem?_map,Option.map_eq_some_iff] at h1
    obtain ⟨a,h1,rfl⟩:=h1
    exact ih (af j a v' h1 ab)
  ·cases h with
   | tuple J af=>
    refine .tuple (by rw [List.length_map];exact J) fun j v v' h1 ab=>?_
    rw [List.getElem?_map,Option.map_eq_some_iff] at h1
    obtain ⟨a,h1,rfl⟩:=h1
    exact ih (af j a v' h1 ab)
  ·exact .top _
def Bb (k f:Nat):aD→aD
 | .cells c e x=>.cells (c.map (nG k f)) e x
 | .map es a1=>.map (es.map fun e=>(e.1,nG k f e.2.1,nG k f e.2.2)) a1
 | _=>.dead
def nH (f:Nat) (h H:I):I:={ n:=h.n+H.n,get:=fun j=>if j<h.n then h.get j else Bb h.n f (H.get (j - h.n)),glob:=h.glob }
theorem Sl {f:Nat} {h H:I} {j:Nat} (aC:j<h.n):(nH f h H).get j=h.get j:=if_pos aC
theorem tm {f:Nat} {h H:I} (i:Nat):(nH f h H).get (i+h.n)=Bb h.n f (H.get i):=by
 show (if i+h.n<h.n then _ else _)=_
 rw [if_neg (by omega),Nat.add_sub_cancel]
theorem zz (f:Nat) (h H:I):aa h (nH f h H) none_:=⟨Nat.le_add_right _ _,fun j aC _=>Sl aC,rfl⟩
theorem aM.join {ρ ρ':Ren} {B:Nat} {aG w w' afx:World} {h H:I} {f:Nat} (hw:aM ρ B aG h w) (bo:aM ρ' w.heap.size afx H w') (ni:fC w.heap.size w w') :
  ∃ ρ2:Ren,ρ.le ρ2∧aM ρ2 B aG (nH f h H) w'∧∀ i x,ρ'.ren i=some x→ρ2.ren (i+h.n)=some x:=by
 have hold:∀ k a,ρ.frz k=some a→k<w.heap.size:=fun k a aB=>by
  obtain ⟨e,ei,ae⟩:=hw.heap.frz k a aB
  exact (Array.getElem?_eq_some_iff.1 ae).1
 have iS:∀ b,w.heap.size≤b→ρ.frz b=none:=fun b ar=>by
  cases aB:ρ.frz b with
  | none=>rfl
  | some a=>have:=hold b a aB;omega
 obtain ⟨ρ2,hρ⟩:∃ ρ2:Ren,ρ2={ ρ with ren:=fun j=>if j<h.n then ρ.ren j else ρ'.ren (j - h.n) }:=⟨_,rfl⟩
 have ro:∀ j,j<h.n→ρ2.ren j=ρ.ren j:=fun j aC=>by rw [hρ];simp [aC]
 have Cl:∀ j,h.n≤j→ρ2.ren j=ρ'.ren (j - h.n):=fun j aC=>by rw [hρ];simp [Nat.not_lt.2 aC]
 have xz:∀ i x,ρ.ren i=some x→ρ2.ren i=some x:=fun i x hi=>by
  by_cases gO:i<h.n
  ·rw [ro i gO];exact hi
  ·rw [hw.heap.gv i (by omega)] at hi;cases hi
 have le:ρ.le ρ2:=⟨xz,fun i x hi=>by rw [hρ];exact hi,by rw [hρ]⟩
 have ei:ρ2.frz=ρ.frz:=by rw [hρ]
 have aq:∀ i x,ρ'.ren i=some x→ρ2.ren (i+h.n)=some x:=fun i x hi=>by rw [Cl _ (by omega),Nat.add_sub_cancel];exact hi
 have sh:∀ {v:V} {x:Value},ax ρ' v x→ax ρ2 (nG h.n f v) x:=fun aN=>MX aq f aN
 have uZ:∀ j b c,h.get j≠.dead→ρ.ren j=some (b,c)→b<w.heap.size:=fun j b c aC dL=>by
  obtain ⟨k,pf,fs,aT,_⟩:=hw.heap.live aC
  rw [dL] at fs
  cases fs
  exact aT
 have Bc:∀ o,Bb h.n f o≠.dead→o≠.dead:=fun o av e=>by subst e;exact av rfl
 have u0:∀ j b c,H.get j≠.dead→ρ'.ren j=some (b,c)→w.heap.size≤b:=fun j b c aC dL=>by
  obtain ⟨k,pf,fs,aT,_,_,b3⟩:=bo.heap.live aC
  rw [dL] at fs
  cases fs
  exact b3
 have go:∀ j,j<h.n→(nH f h H).get j=h.get j:=fun j aC=>Sl aC
 have IF:∀ j,h.n≤j→(nH f h H).get j=Bb h.n f (H.get (j - h.n)):=fun j aC=>if_neg (by omega)
 refine ⟨ρ2,le,⟨⟨fun i hi=>?_,fun i j b bf bx hi aC h1 ab=>?_,fun i=>?_,fun k arr aB=>?_,fun k cs hk=>?_,Nat.le_trans hw.heap.base ni.size⟩,?_⟩,aq⟩
 ·have hi:h.n+H.n≤i:=hi
  rw [Cl i (by omega)]
  exact bo.heap.gv _ (by omega)
 ·by_cases aK:i<h.n
  ·rw [ro i aK] at h1
   rw [go i aK] at hi
   by_cases a6:j<h.n
   ·rw [ro j a6] at ab
    rw [go j a6] at aC
    exact hw.heap.inj i j b bf bx hi aC h1 ab
   ·rw [Cl j (by omega)] at ab
    rw [IF j (by omega)] at aC
    have:=uZ i b bf hi h1
    have:=u0 _ b bx (Bc _ aC) ab
    omega
  ·rw [Cl i (by omega)] at h1
   rw [IF i (by omega)] at hi
   by_cases a6:j<h.n
   ·rw [ro j a6] at ab
    rw [go j a6] at aC
    have:=uZ j b bx aC ab
    have:=u0 _ b bf (Bc _ hi) h1
    omega
   ·rw [Cl j (by omega)] at ab
    rw [IF j (by omega)] at aC
    have:=bo.heap.inj _ _ b bf bx (Bc _ hi) (Bc _ aC) h1 ab
    omega
 ·by_cases aK:i<h.n
  ·rw [go i aK]
   by_cases a7:h.get i=.dead
   ·rw [a7];trivial
   ·obtain ⟨k,pf,dL,aT,_⟩:=hw.heap.live a7
    exact (hw.heap.obj i).au le fun k' k5 h7=>by
     rw [dL] at h7
     cases h7
     exact ⟨ni.block k aT,fun ad=>by rw [ei];exact ad⟩
  ·rw [IF i (by omega)]
   have av:=bo.heap.obj (i - h.n)
   have Cm:=Cl i (by omega)
   cases aE:H.get (i - h.n) with
   | cells c e ex=>
    rw [aE] at av
    obtain ⟨b,bh,arr,h1,ab,aI,h4,h5,dT,lP⟩:=av
    refine ⟨b,bh,arr,by rw [Cm];exact h1,by rw [ei];exact iS b aI,Nat.le_trans hw.heap.base aI,h4,by rw [List.length_map];exact h5,?_,by rw [List.length_map];exact lP⟩
    rw [List.length_map]
    refine ⟨by rw [List.length_map];exact dT.1,fun j v v' aN fm=>?_⟩
    rw [List.getElem?_map,Option.map_eq_some_iff] at aN
    obtain ⟨a,aN,rfl⟩:=aN
    exact sh (dT.2 j a v' aN fm)
   | map es a1=>
    rw [aE] at av
    obtain ⟨b,bh,arr,h1,ab,aI,h4,h5⟩:=av
    refine ⟨b,bh,arr,by rw [Cm];exact h1,by rw [ei];exact iS b aI,Nat.le_trans hw.heap.base aI,h4,by rw [List.length_map];exact h5.1,fun j v v' aN fm=>?_⟩
    rw [List.getElem?_map,Option.map_eq_some_iff] at aN
    obtain ⟨a,aN,rfl⟩:=aN
    obtain ⟨c2,eE,jt⟩:=h5.2 j a v' aN fm
    exact ⟨c2,sh eE,sh jt⟩
   | _=>trivial
 ·rw [ei] at aB
  obtain ⟨e,w3,ae⟩:=hw.heap.frz k arr aB
  exact ⟨e,w3,(ni.block k (Array.getElem?_eq_some_iff.1 ae).1).trans ae⟩
 ·obtain ⟨arr,h1,ab⟩:=hw.heap.glob k cs hk
  exact ⟨arr,le.frz _ _ h1,ab.1,fun i v v' aN fm=>(ab.2 i v v' aN fm).mono le⟩
 ·exact hw.below.trans ⟨ni.os,ni.tape,ni.output,ni.size,fun k hk=>ni.block k (Nat.lt_of_lt_of_le hk hw.heap.base),ni.drawn⟩
theorem ah.shift {P:Program} {fid:FuncId} {args:List V} {o2:V} {H:I} {g:Nat→Option (List V)} (f:Nat) (al:ah P fid args (ta g) fun r U=>r=o2∧U=H) (iI:aO args) {h:I} (aE:vU g h) :
  ah P fid args h fun r U=>r=nG h.n f o2∧U=nH f h H:=by
 intro ρ B aG w args' hw aL
 refine (al (be w) w.heap.size w w args' (Mq (aE.ok hw)) (afw hw iI aL)).mono fun afu w' ad=>?_
 rcases ad with ⟨ρ',r,r',U,he,qa,bo,_,aK,a6⟩ | ⟨_,_,_,_,_,_,_,dH⟩
 ·subst aK a6
  obtain ⟨ρ2,Sm,eS,aq⟩:=hw.join (f:=f) bo bo.below
  exact .inl ⟨ρ2,_,r',_,he,MX aq f qa,eS,Sm,rfl,rfl⟩
 ·exact dH.elim
end Go.Proofs.YtceanabgcnieeaaGreatDoor.Ab
