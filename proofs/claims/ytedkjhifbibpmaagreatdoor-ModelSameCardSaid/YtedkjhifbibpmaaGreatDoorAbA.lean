/-
  Rules of the machine on abstract states. Conditions: as each theorem says.
-/
import Derived.WalkKit
import Derived.Below
import Derived.Laws.AppendOwn
import Derived.Laws.CopyRow
import Derived.Laws.Rows
import Derived.Deep.MidRow
import Derived.Deep.AppendSrc
import Derived.Laws.MakeOwn
import Derived.Lib.AppendZerosOnto
import Derived.Laws.BytesArg
import Derived.Laws.Tables
set_option linter.unusedVariables false
set_option linter.unusedSimpArgs false
namespace Go.Proofs.YtedkjhifbibpmaaGreatDoor.Ab
structure mm (B:Nat) (w w':World):Prop where
 os:w'.os=w.os
 tape:w'.tape=w.tape
 output:w'.output=w.output
 size:w.heap.size≤w'.heap.size
 block:∀ k,k<B→w'.heap[k]?=w.heap[k]?
 drawn:w.drawn≤w'.drawn
theorem mm.below {B:Nat} {w w':World} (h:mm B w w'):RowKit.Below B w w':=⟨h.os,h.tape,h.output,h.size,h.block⟩
theorem mm.refl (B:Nat) (w:World):mm B w w:=⟨rfl,rfl,rfl,Nat.le_refl _,fun _ _=>rfl,Nat.le_refl _⟩
theorem mm.trans {B:Nat} {a b c:World} (h:mm B a b) (k:mm B b c):mm B a c :=
 ⟨k.os.trans h.os,k.tape.trans h.tape,k.output.trans h.output,Nat.le_trans h.size k.size,fun i hi=>(k.block i hi).trans (h.block i hi),Nat.le_trans h.drawn k.drawn⟩
theorem mm.drew {B:Nat} {a w:World} (h:mm B a w):mm B a w.drew:=⟨h.os,h.tape,h.output,h.size,h.block,Nat.le_trans h.drawn (Nat.le_succ _)⟩
theorem mm.alloc {B:Nat} {a w:World} (h:mm B a w) (cp:B≤w.heap.size) (o:Obj):mm B a (w.alloc o) :=
 h.trans ⟨rfl,rfl,rfl,by simp,fun k hk=>RowKit.Below.heap_alloc _ _ _ (by omega),Nat.le_refl _⟩
inductive V where
 | top
 | bool (b:Bool)
 | int (k:IntKind) (n:Int)
 | float (k:FloatKind) (b:Nat)
 | complex (k:FloatKind) (a b:Nat)
 | string (s:ByteArray)
 | nilFunc
 | nilIface
 | cZ
 | ah
 | oQ
 | z0
 | eT
 | ptr (i o:Nat)
 | bp (i o len cap:Nat)
 | ag (n:Nat) (cs:List V)
 | at (cs:List V)
 | map (i:Nat)
 | func (fn:Fn) (first captured:List V)
 | iface (t:TypeId) (v:V)
 | agg (cs:List V)
 | tuple (vs:List V)
 deriving Inhabited
def kR:Value→V
 | .bool b=>.bool b
 | .int k n=>.int k n
 | .float k b=>.float k b
 | .complex k a b=>.complex k a b
 | .string s=>.string s
 | .nilFunc=>.nilFunc
 | .nilIface=>.nilIface
 | .pointer none=>.cZ
 | .slice none 0 0=>.ah
 | .map none=>.oQ
 | .func fn xs ys=>if xs.isEmpty&&ys.isEmpty then .func fn [] [] else .top
 | .tuple xs=>if xs.isEmpty then .tuple [] else .top
 | _=>.top
def jQ:Value→V
 | .agg xs=>.agg (xs.toList.map kR)
 | .iface t v=>.iface t (kR v)
 | v=>kR v
inductive aV where
 | dead
 | cells (c:List V) (elem:TypeId) (ex:Option Nat)
 | map (es:List (Nat×V×V)) (clock:Nat)
 | iter (m:Nat) (since:Nat) (seen:List Nat) (vZ:Nat)
 | o3 (b:Nat) (mk:List Value→Obj) (vs:List V)
structure J where
 n:Nat
 get:Nat→aV
 glob:Nat→Option (List V)
def J.set (h:J) (i:Nat) (o:aV):J:={ h with get:=fun j=>if j=i then o else h.get j }
def J.push (h:J) (o:aV):J:={ h with n:=h.n+1,get:=fun j=>if j=h.n then o else h.get j }
def cN:Nat:=2 ^ 64
def kx (c cap:Nat):Nat:=if cap<cN then cap else c - (cap - cN)
structure Ren where
 ren:Nat→Option (Nat×Nat)
 frz:Nat→Option (Array Value)
 dfr:List Deferred:=[]
structure Ren.le (ρ ρ':Ren):Prop where
 ren:∀ i x,ρ.ren i=some x→ρ'.ren i=some x
 frz:∀ i x,ρ.frz i=some x→ρ'.frz i=some x
 dfr:ρ'.dfr=ρ.dfr
theorem Ren.le.refl (ρ:Ren):ρ.le ρ:=⟨fun _ _ h=>h,fun _ _ h=>h,rfl⟩
theorem Ren.le.trans {a b c:Ren} (h:a.le b) (k:b.le c):a.le c:=⟨fun i x ak=>k.ren i x (h.ren i x ak),fun i x ak=>k.frz i x (h.frz i x ak),k.dfr.trans h.dfr⟩
inductive a1 (ρ:Ren):V→Value→Prop
 | top (v):a1 ρ .top v
 | bool (b):a1 ρ (.bool b) (.bool b)
 | int (k n):a1 ρ (.int k n) (.int k n)
 | float (k b):a1 ρ (.float k b) (.float k b)
 | complex (k a b):a1 ρ (.complex k a b) (.complex k a b)
 | string (s):a1 ρ (.string s) (.string s)
 | nilFunc:a1 ρ .nilFunc .nilFunc
 | nilIface:a1 ρ .nilIface .nilIface
 | cZ:a1 ρ .cZ (.pointer none)
 | ah:a1 ρ .ah (.slice none 0 0)
 | oQ:a1 ρ .oQ (.map none)
 | z0 (a:Option Addr) (a6:True):a1 ρ .z0 (.slice a 0 0)
 | eT (a:Addr) (c:Nat):a1 ρ .eT (.slice (some a) 0 c)
 | ptr {i b c:Nat} (h:ρ.ren i=some (b,c)) (o:Nat):a1 ρ (.ptr i o) (.pointer (some ⟨b,o,none⟩))
 | bp {i b c:Nat} (h:ρ.ren i=some (b,c)) (o len cap:Nat) (aM:len≤kx c cap) :
   a1 ρ (.bp i o len cap) (.slice (some ⟨b,o,none⟩) len (kx c cap))
 | ag {b:Nat} (o n cap:Nat) {arr:Array Value} {cs:List V} (av:ρ.frz b=some arr) (aG:n≤cap) (bc:o+cs.length≤arr.size)
   (ak:∀ (k:Nat) (v:V) (v':Value),cs[k]?=some v→arr[o+k]?=some v'→a1 ρ v v'):a1 ρ (.ag n cs) (.slice (some ⟨b,o,none⟩) n cap)
 | jE (a:Option Addr) (c:Nat) (a6:a=none→c=0):a1 ρ (.ag 0 []) (.slice a 0 c)
 | at {b:Nat} (o:Nat) {arr:Array Value} {cs:List V} (av:ρ.frz b=some arr) (bc:o+cs.length≤arr.size)
   (ak:∀ (k:Nat) (v:V) (v':Value),cs[k]?=some v→arr[o+k]?=some v'→a1 ρ v v'):a1 ρ (.at cs) (.pointer (some ⟨b,o,none⟩))
 | map {i b c:Nat} (h:ρ.ren i=some (b,c)):a1 ρ (.map i) (.map (some b))
 | func (fn:Fn) {xs ys:List V} {jR D0:Array Value} (ad:xs.length=jR.size) (bw:ys.length=D0.size)
   (ak:∀ (k:Nat) (v:V) (v':Value),xs[k]?=some v→jR[k]?=some v'→a1 ρ v v') (bs:∀ (k:Nat) (v:V) (v':Value),ys[k]?=some v→D0[k]?=some v'→a1 ρ v v') :
   a1 ρ (.func fn xs ys) (.func fn jR D0)
 | iface (t:TypeId) {v:V} {v':Value} (h:a1 ρ v v'):a1 ρ (.iface t v) (.iface t v')
 | agg {xs:List V} {jR:Array Value} (ad:xs.length=jR.size) (ak:∀ (k:Nat) (v:V) (v':Value),xs[k]?=some v→jR[k]?=some v'→a1 ρ v v'):a1 ρ (.agg xs) (.agg jR)
 | tuple {xs:List V} {jR:Array Value} (ad:xs.length=jR.size) (ak:∀ (k:Nat) (v:V) (v':Value),xs[k]?=some v→jR[k]?=some v'→a1 ρ v v'):a1 ρ (.tuple xs) (.tuple jR)
theorem a1.DZ {ρ ρ':Ren} (LU:∀ i x,ρ.ren i=some x→ρ'.ren i=some x) (QS:∀ i x,ρ.frz i=some x→ρ'.frz i=some x) {v:V} {v':Value} (h:a1 ρ v v'):a1 ρ' v v':=by
 induction h with
 | top v=>exact .top v
 | bool b=>exact .bool b
 | int k n=>exact .int k n
 | float k b=>exact .float k b
 | complex k a b=>exact .complex k a b
 | string s=>exact .string s
 | nilFunc=>exact .nilFunc
 | nilIface=>exact .nilIface
 | cZ=>exact .cZ
 | ah=>exact .ah
 | oQ=>exact .oQ
 | z0 a a6=>exact .z0 a a6
 | eT a c=>exact .eT a c
 | ptr h o=>exact .ptr (LU _ _ h) o
 | bp h o len cap aM=>exact .bp (LU _ _ h) o len cap aM
 | ag o n cap av aG bc _ ih=>exact .ag o n cap (QS _ _ av) aG bc ih
 | jE a c a6=>exact .jE a c a6
 | «at» o av bc _ ih=>exact .at o (QS _ _ av) bc ih
 | map h=>exact .map (LU _ _ h)
 | func fn ad bw _ _ rf aaA=>exact .func fn ad bw rf aaA
 | iface t _ ih=>exact .iface t ih
 | agg ad _ ih=>exact .agg ad ih
 | tuple ad _ ih=>exact .tuple ad ih
theorem a1.mono {ρ ρ':Ren} (hρ:ρ.le ρ') {v:V} {v':Value} (h:a1 ρ v v'):a1 ρ' v v':=h.DZ hρ.ren hρ.frz
theorem a1.dfr {ρ:Ren} {v:V} {v':Value} (h:a1 ρ v v') (d:List Deferred):a1 { ρ with dfr:=d } v v':=a1.DZ (ρ:=ρ) (ρ':={ ρ with dfr:=d }) (fun _ _ h=>h) (fun _ _ h=>h) h
def bx (ρ:Ren) (l:List V) (ck:List Value):Prop:=l.length=ck.length∧∀ (k:Nat) (v:V) (v':Value),l[k]?=some v→ck[k]?=some v'→a1 ρ v v'
section
variable {ρ ρ':Ren} {l m:List V} {ck jf:List Value}
theorem bx.mono (hρ:ρ.le ρ') (h:bx ρ l ck):bx ρ' l ck :=
 ⟨h.1,fun k v v' a b=>(h.2 k v v' a b).mono hρ⟩
theorem bx.nil (ρ:Ren):bx ρ [] []:=⟨rfl,by simp⟩
theorem bx.cons {v:V} {v':Value} (h:a1 ρ v v') (aM:bx ρ l ck):bx ρ (v::l) (v'::ck):=by
 refine ⟨by simp [aM.1],fun k a b a6 av=>?_⟩
 cases k with
 | zero=>simp at a6 av;subst a6;subst av;exact h
 | succ k=>exact aM.2 k a b (by simpa using a6) (by simpa using av)
theorem bx.fh {v:V} (h:bx ρ (v::l) ck):∃ v' nV,ck=v'::nV∧a1 ρ v v'∧bx ρ l nV:=by
 cases ck with
 | nil=>have:=h.1;simp at this
 | cons v' nV=>exact ⟨v',nV,rfl,h.2 0 v v' rfl rfl,⟨by simpa using h.1,fun k a b a6 av=>h.2 (k+1) a b (by simpa using a6) (by simpa using av)⟩⟩
theorem bx.eq_nil (h:bx ρ [] ck):ck=[]:=by
 have:=h.1;simp at this;exact List.eq_nil_of_length_eq_zero this.symm
theorem bx.get (h:bx ρ l ck) {k:Nat} {v:V} (aN:l[k]?=some v):∃ v',ck[k]?=some v'∧a1 ρ v v':=by
 have hk:k<l.length:=(List.getElem?_eq_some_iff.1 aN).1
 have fq:k<ck.length:=by rw [←h.1];exact hk
 exact ⟨ck[k],List.getElem?_eq_getElem fq,h.2 k v _ aN (List.getElem?_eq_getElem fq)⟩
theorem bx.take (h:bx ρ l ck) (n:Nat):bx ρ (l.take n) (ck.take n):=by
 refine ⟨by simp [h.1],fun k a b a6 av=>?_⟩
 rw [List.getElem?_take] at a6 av
 split at a6<;>simp_all
 exact h.2 k a b a6 av
theorem bx.drop (h:bx ρ l ck) (n:Nat):bx ρ (l.drop n) (ck.drop n):=by
 refine ⟨by simp [h.1],fun k a b a6 av=>?_⟩
 rw [List.getElem?_drop] at a6 av
 exact h.2 _ a b a6 av
theorem bx.append (h:bx ρ l ck) (g:bx ρ m jf):bx ρ (l++m) (ck++jf):=by
 refine ⟨by simp [h.1,g.1],fun k a b a6 av=>?_⟩
 by_cases hk:k<l.length
 ·rw [List.getElem?_append_left hk] at a6
  rw [List.getElem?_append_left (by rw [←h.1];exact hk)] at av
  exact h.2 k a b a6 av
 ·rw [List.getElem?_append_right (by omega)] at a6
  rw [List.getElem?_append_right (by rw [←h.1];omega)] at av
  rw [←h.1] at av
  exact g.2 _ a b a6 av
theorem bx.set (h:bx ρ l ck) {v:V} {v':Value} (aN:a1 ρ v v') (n:Nat):bx ρ (l.set n v) (ck.set n v'):=by
 refine ⟨by simp [h.1],fun k a b a6 av=>?_⟩
 rw [List.getElem?_set] at a6 av
 by_cases hk:n=k
 ·subst hk
  simp at a6 av
  obtain ⟨_,rfl⟩:=a6
  obtain ⟨_,rfl⟩:=av
  exact aN
 ·simp [hk] at a6 av
  exact h.2 k a b a6 av
theorem bx.replicate {v:V} {v':Value} (aN:a1 ρ v v') (n:Nat):bx ρ (List.replicate n v) (List.replicate n v'):=by
 refine ⟨by simp,fun k a b a6 av=>?_⟩
 simp [List.getElem?_replicate] at a6 av
 obtain ⟨_,rfl⟩:=a6
 obtain ⟨_,rfl⟩:=av
 exact aN
theorem bx.of_map {f:Value→V} (aC:∀ v,a1 ρ (f v) v) (l:List Value):bx ρ (l.map f) l:=by
 refine ⟨by simp,fun k a b a6 av=>?_⟩
 simp [av] at a6
 subst a6
 exact aC b
end
def hd (ρ:Ren) (xs:List V) (jR:Array Value):Prop:=xs.length=jR.size∧∀ (k:Nat) (v:V) (v':Value),xs[k]?=some v→jR[k]?=some v'→a1 ρ v v'
theorem hd.list {ρ:Ren} {xs:List V} {jR:Array Value} (h:hd ρ xs jR):bx ρ xs jR.toList:=⟨by simpa using h.1,by simpa using h.2⟩
theorem bx.arr {ρ:Ren} {xs:List V} {jR:List Value} (h:bx ρ xs jR):hd ρ xs jR.toArray:=⟨by simpa using h.1,by simpa using h.2⟩
theorem bx.nt {ρ:Ren} {xs:List V} {jR:Array Value} (h:bx ρ xs jR.toList):hd ρ xs jR:=⟨by simpa using h.1,by simpa using h.2⟩
theorem hd.agg {ρ:Ren} {xs:List V} {jR:Array Value} (h:hd ρ xs jR):a1 ρ (.agg xs) (.agg jR):=.agg h.1 h.2
theorem hd.tuple {ρ:Ren} {xs:List V} {jR:Array Value} (h:hd ρ xs jR):a1 ρ (.tuple xs) (.tuple jR):=.tuple h.1 h.2
theorem hd.mono {ρ ρ':Ren} (hρ:ρ.le ρ') {l:List V} {ck:Array Value} (h:hd ρ l ck):hd ρ' l ck:=⟨h.1,fun k v v' a b=>(h.2 k v v' a b).mono hρ⟩
theorem Jv (ρ:Ren) (v:Value):a1 ρ (kR v) v:=by
 unfold kR
 split
 ·exact .bool _
 ·exact .int _ _
 ·exact .float _ _
 ·exact .complex _ _ _
 ·exact .string _
 ·exact .nilFunc
 ·exact .nilIface
 ·exact .cZ
 ·exact .ah
 ·exact .oQ
 ·rename_i fn xs ys
  split
  ·rename_i h
   simp at h
   obtain ⟨rfl,rfl⟩:=h
   exact .func fn rfl rfl (by simp) (by simp)
  ·exact .top _
 ·rename_i xs
  split
  ·rename_i h
   simp at h
   subst h
   exact .tuple rfl (by simp)
  ·exact .top _
 ·exact .top _
theorem LV (ρ:Ren) (v:Value):a1 ρ (jQ v) v:=by
 unfold jQ
 split
 ·exact (bx.of_map (Jv ρ) _).nt.agg
 ·exact .iface _ (Jv ρ _)
 ·exact Jv ρ v
def r3:V→Option Value
 | .bool b=>some (.bool b)
 | .int k n=>some (.int k n)
 | .float k b=>some (.float k b)
 | .complex k a b=>some (.complex k a b)
 | .string s=>some (.string s)
 | .nilFunc=>some .nilFunc
 | .nilIface=>some .nilIface
 | .cZ=>some (.pointer none)
 | .ah=>some (.slice none 0 0)
 | .oQ=>some (.map none)
 | .tuple []=>some (.tuple #[])
 | _=>none
def jO:List V→Option (List Value)
 | []=>some []
 | v::r=>match r3 v,jO r with
  | some a,some l=>some (a::l)
  | _,_=>none
def r4:V→Option Value
 | .agg xs=>(jO xs).map fun l=>.agg l.toArray
 | .iface t v=>(r3 v).map fun a=>.iface t a
 | v=>r3 v
theorem D1 {ρ:Ren} {v:V} {v' a:Value} (h:a1 ρ v v') (aC:r3 v=some a):v'=a:=by
 cases h<;>simp [r3] at aC<;>try exact aC
 rename_i xs jR ad ak
 cases xs with
 | nil=>simp at aC ad;rw [←aC,Array.eq_empty_of_size_eq_zero ad.symm]
 | cons x t=>simp at aC
theorem aaB {ρ:Ren}:∀ {l:List V} {ck a:List Value},bx ρ l ck→jO l=some a→ck=a
 | [],ck,a,h,aC=>by simp [jO] at aC;rw [aC];exact h.eq_nil
 | v::l,ck,a,h,aC=>by
  obtain ⟨v',nV,rfl,aN,bw⟩:=h.fh
  unfold jO at aC
  split at aC
  ·rename_i b c av aF
   simp at aC
   rw [←aC,D1 aN av,aaB bw aF]
  ·cases aC
theorem D2 {ρ:Ren} {v:V} {v' a:Value} (h:a1 ρ v v') (aC:r4 v=some a):v'=a:=by
 unfold r4 at aC
 split at aC
 ·cases h with
  | agg ad ak=>
   rename_i xs jR
   cases aM:jO xs with
   | none=>simp [aM] at aC
   | some l=>
    simp [aM] at aC
    have:=aaB (hd.list ⟨ad,ak⟩) aM
    rw [←aC,←this]
 ·cases h with
  | iface t h=>
   rename_i u wT
   cases hu:r3 u with
   | none=>simp [hu] at aC
   | some b=>simp [hu] at aC;rw [←aC,D1 h hu]
 ·exact D1 h aC
def LW (ex:Option Nat) (cm size len:Nat):Prop:=match ex with | none=>size=len | some s=>size=cm * s∧cm<2 ^ 63
def lj (ρ:Ren) (es:List (Nat×V×V)) (arr:Array MapEntry):Prop :=
 es.length=arr.size∧∀ (k:Nat) (e:Nat×V×V) (fo:MapEntry),es[k]?=some e→arr[k]?=some fo→e.1=fo.born∧a1 ρ e.2.1 fo.key∧a1 ρ e.2.2 fo.val
def ua (ρ:Ren) (B:Nat) (w:World) (i:Nat):aV→Prop
 | .dead=>True
 | .cells c e ex=>∃ b cm arr,ρ.ren i=some (b,cm)∧ρ.frz b=none∧B≤b∧w.heap[b]?=some (.cells arr e (0,0))∧c.length≤arr.size∧bx ρ c (arr.toList.take c.length) ∧
   LW ex cm arr.size c.length
 | .map es clock=>∃ b cm arr,ρ.ren i=some (b,cm)∧ρ.frz b=none∧B≤b∧w.heap[b]?=some (.map arr clock)∧lj ρ es arr
 | .iter m since seen vZ=>∃ b cm bm GU,ρ.ren i=some (b,cm)∧ρ.frz b=none∧B≤b∧ρ.ren m=some (bm,GU)∧w.heap[b]?=some (.mapIter (some bm) since seen.toArray vZ)
 | .o3 b mk vs=>∃ cm arr,ρ.ren i=some (b,cm)∧ρ.frz b=none∧B≤b∧w.heap[b]?=some (mk arr)∧bx ρ vs arr
structure vA (ρ:Ren) (B:Nat) (h:J) (w:World):Prop where
 qb:∀ i,h.n≤i→ρ.ren i=none
 inj:∀ i j b c lL,h.get i≠.dead→h.get j≠.dead→ρ.ren i=some (b,c)→ρ.ren j=some (b,lL)→i=j
 obj:∀ i,ua ρ B w i (h.get i)
 frz:∀ b arr,ρ.frz b=some arr→∃ e ky,w.heap[b]?=some (.cells arr e ky)
 glob:∀ g cs,h.glob g=some cs→∃ arr,ρ.frz g=some arr∧hd ρ cs arr
 base:B≤w.heap.size
abbrev aE:=Nat→V
def aE.put (f:aE) (d:Option Tmp) (v:V):aE :=
 match d with
 | some d=>fun t=>if t=d then v else f t
 | none=>f
def aE.eval (f:aE) (h:J):Operand→V
 | .tmp t=>f t
 | .const v=>jQ v
 | .global g=>match h.glob g with | some cs=>.at cs | none=>.top
 | .func ca=>.func (.func ca) [] []
structure hN (ρ:Ren) (n:Nat) (f:aE) (a:Act):Prop where
 tmps:∀ t,a1 ρ (f t) (a.tmps.getD t undef)
 size:a.tmps.size=n
 defers:a.defers=ρ.dfr
theorem hN.mono {ρ ρ':Ren} (hρ:ρ.le ρ') {n:Nat} {f:aE} {a:Act} (h:hN ρ n f a):hN ρ' n f a:=⟨fun t=>(h.tmps t).mono hρ,h.size,h.defers.trans hρ.dfr.symm⟩
def zC (n:Nat) (d:Option Tmp):Bool:=match d with | some t=>decide (t<n) | none=>true
theorem hN.put {ρ:Ren} {n:Nat} {f:aE} {a:Act} (h:hN ρ n f a) {v:V} {v':Value} (aN:a1 ρ v v') (d:Option Tmp) (bb:zC n d=true) :
  hN ρ n (f.put d v) (a.put d v'):=by
 cases d with
 | none=>exact h
 | some d=>
  have bb:d<n:=by simpa [zC] using bb
  refine ⟨fun t=>?_,by simp [Act.put,h.size],h.defers⟩
  simp only [Act.put,aE.put]
  by_cases bw:t=d
  ·subst bw
   simp [h.size,bb,aN]
  ·have:=h.tmps t
   simp [bw] at this⊢
   rw [Array.getElem?_setIfInBounds_ne (by omega)]
   exact this
theorem vA.Dy {ρ:Ren} {B:Nat} {h:J} {w:World} (H:vA ρ B h w) (g:Nat):a1 ρ (match h.glob g with | some cs=>.at cs | none=>.top) (.pointer (some ⟨g,0,none⟩)):=by
 cases aB:h.glob g with
 | none=>exact .top _
 | some cs=>
  obtain ⟨arr,aC,aU⟩:=H.glob g cs aB
  exact .at 0 aC (by simp [aU.1]) (by simpa using aU.2)
theorem hN.eval {ρ:Ren} {n B:Nat} {f:aE} {a:Act} {h:J} {w:World} (aC:hN ρ n f a) (H:vA ρ B h w) (x:Operand):a1 ρ (f.eval h x) (a.eval x):=by
 cases x with
 | tmp t=>exact aC.tmps t
 | const v=>exact LV ρ v
 | global g=>exact H.Dy g
 | func ca=>exact .func _ rfl rfl (by simp) (by simp)
open Go Go.RowKit
structure bt (ρ:Ren) (B:Nat) (bg:World) (h:J) (w:World):Prop where
 heap:vA ρ B h w
 below:mm B bg w
def dQ (P:Program) (t:TypeId):Option Nat:=(P.info? t).map (·.size)
def PJ (P:Program) (t:TypeId):Option Nat:=(P.info? t).map (·.bytes)
def qH (P:Program) (t:TypeId):Option Value:=(P.info? t).bind (·.zero)
def wU (P:Program) (t:TypeId):Option Bool:=(P.underlying t).map (·.isRow)
def A0 (P:Program) (t:TypeId):Option TypeId:=match P.underlying t with | some (.slice e)=>some e | _=>none
theorem vA.lt {ρ:Ren} {B:Nat} {h:J} {w:World} (H:vA ρ B h w) {i b cm:Nat} (hi:ρ.ren i=some (b,cm)):i<h.n:=by
 apply Nat.lt_of_not_le
 intro hle
 rw [H.qb i hle] at hi
 cases hi
theorem vA.live {ρ:Ren} {B:Nat} {h:J} {w:World} (H:vA ρ B h w) {i:Nat} (hi:h.get i≠.dead) :
  ∃ b cm,ρ.ren i=some (b,cm)∧b<w.heap.size∧i<h.n∧ρ.frz b=none∧B≤b:=by
 have:=H.obj i
 cases aB:h.get i with
 | dead=>exact absurd aB hi
 | cells c e ex=>
  rw [aB] at this
  obtain ⟨b,cm,arr,aU,aC,cp,hw,_⟩:=this
  exact ⟨b,cm,aU,(Array.getElem?_eq_some_iff.1 hw).1,H.lt aU,aC,cp⟩
 | map es cl=>
  rw [aB] at this
  obtain ⟨b,cm,arr,aU,aC,cp,hw,_⟩:=this
  exact ⟨b,cm,aU,(Array.getElem?_eq_some_iff.1 hw).1,H.lt aU,aC,cp⟩
 | iter m s l st=>
  rw [aB] at this
  obtain ⟨b,cm,bm,GU,aU,aC,cp,hm,hw⟩:=this
  exact ⟨b,cm,aU,(Array.getElem?_eq_some_iff.1 hw).1,H.lt aU,aC,cp⟩
 | o3 b mk vs=>
  rw [aB] at this
  obtain ⟨cm,arr,aU,aC,cp,hw,aM⟩:=this
  exact ⟨b,cm,aU,(Array.getElem?_eq_some_iff.1 hw).1,H.lt aU,aC,cp⟩
theorem lj.mono {ρ ρ':Ren} (hρ:ρ.le ρ') {es:List (Nat×V×V)} {arr:Array MapEntry} (h:lj ρ es arr):lj ρ' es arr :=
 ⟨h.1,fun k e fo a b=>let ⟨x,y,z⟩:=h.2 k e fo a b;⟨x,y.mono hρ,z.mono hρ⟩⟩
theorem ua.aj {ρ ρ':Ren} (hρ:ρ.le ρ') {B:Nat} {w w':World} {i:Nat} {o:aV} (h:ua ρ B w i o)
  (hk:∀ b c,ρ.ren i=some (b,c)→w'.heap[b]?=w.heap[b]?∧(ρ.frz b=none→ρ'.frz b=none)):ua ρ' B w' i o:=by
 cases o with
 | dead=>trivial
 | cells c e ex=>
  obtain ⟨b,cm,arr,aU,aC,cp,hw,aF,aM,ak⟩:=h
  exact ⟨b,cm,arr,hρ.ren _ _ aU,(hk b cm aU).2 aC,cp,(hk b cm aU).1.trans hw,aF,aM.mono hρ,ak⟩
 | map es cl=>
  obtain ⟨b,cm,arr,aU,aC,cp,hw,hm⟩:=h
  exact ⟨b,cm,arr,hρ.ren _ _ aU,(hk b cm aU).2 aC,cp,(hk b cm aU).1.trans hw,hm.mono hρ⟩
 | iter m s l st=>
  obtain ⟨b,cm,bm,GU,aU,aC,cp,hm,hw⟩:=h
  exact ⟨b,cm,bm,GU,hρ.ren _ _ aU,(hk b cm aU).2 aC,cp,hρ.ren _ _ hm,(hk b cm aU).1.trans hw⟩
 | o3 b mk vs=>
  obtain ⟨cm,arr,aU,aC,cp,hw,aM⟩:=h
  exact ⟨cm,arr,hρ.ren _ _ aU,(hk b cm aU).2 aC,cp,(hk b cm aU).1.trans hw,aM.mono hρ⟩
def Ren.add (ρ:Ren) (i b cm:Nat):Ren:={ ρ with ren:=fun j=>if j=i then some (b,cm) else ρ.ren j }
theorem Ren.xV {ρ:Ren} {i:Nat} (hi:ρ.ren i=none) (b cm:Nat):ρ.le (ρ.add i b cm):=by
 refine ⟨fun j x aX=>?_,fun _ _ h=>h,rfl⟩
 simp only [Ren.add]
 by_cases gP:j=i
 ·subst gP;rw [hi] at aX;cases aX
 ·simp [gP,aX]
theorem Ren.sm {ρ:Ren} {i b cm:Nat}:(ρ.add i b cm).ren i=some (b,cm):=by simp [Ren.add]
theorem bt.HD {ρ:Ren} {B:Nat} {bg:World} {h:J} {w w':World} (R:bt ρ B bg h w) {o:aV} (cm:Nat)
  (bz:w.heap.size<w'.heap.size) (hold:∀ k,k<w.heap.size→w'.heap[k]?=w.heap[k]?) (av:mm B w w')
  (sn:ua (ρ.add h.n w.heap.size cm) B w' h.n o) :
  ρ.le (ρ.add h.n w.heap.size cm)∧bt (ρ.add h.n w.heap.size cm) B bg (h.push o) w':=by
 have hle:=Ren.xV (R.heap.qb _ (Nat.le_refl _)) w.heap.size cm
 have kg:∀ b arr,ρ.frz b=some arr→b<w.heap.size:=fun b arr aC=>by
  obtain ⟨e,ky,hw⟩:=R.heap.frz b arr aC
  exact (Array.getElem?_eq_some_iff.1 hw).1
 refine ⟨hle,⟨⟨fun i hi=>?_,fun i j b bd bH hi aX h1 ae=>?_,fun i=>?_,fun b arr aC=>?_,fun g cs aB=>?_,?_⟩,R.below.trans av⟩⟩
 ·simp only [J.push] at hi
  simp [Ren.add,show i≠h.n by omega,R.heap.qb i (by omega)]
 ·simp only [J.push] at hi aX
  simp only [Ren.add] at h1 ae
  by_cases bS:i=h.n<;>by_cases jS:j=h.n
  ·omega
  ·simp [bS] at h1;simp [jS] at ae aX
   obtain ⟨c2,xW,aU,aH,_⟩:=R.heap.live aX
   rw [aU] at ae;simp at ae;omega
  ·simp [jS] at ae;simp [bS] at h1 hi
   obtain ⟨c2,xW,aU,aH,_⟩:=R.heap.live hi
   rw [aU] at h1;simp at h1;omega
  ·simp [bS] at h1 hi;simp [jS] at ae aX
   exact R.heap.inj i j b bd bH hi aX h1 ae
 ·by_cases bS:i=h.n
  ·subst bS
   simpa only [J.push,if_true] using sn
  ·simp only [J.push,if_neg bS]
   by_cases bb:h.get i=.dead
   ·rw [bb];trivial
   ·refine (R.heap.obj i).aj hle fun b bd aU=>⟨hold b ?_,fun h=>h⟩
    obtain ⟨c2,xW,ly,aH,_⟩:=R.heap.live bb
    rw [ly] at aU;simp at aU
    obtain ⟨rfl,rfl⟩:=aU
    exact aH
 ·obtain ⟨e,ky,hw⟩:=R.heap.frz b arr aC
  exact ⟨e,ky,(hold b (kg b arr aC)).trans hw⟩
 ·obtain ⟨arr,aC,aU⟩:=R.heap.glob g cs aB
  exact ⟨arr,aC,aU.mono hle⟩
 ·exact Nat.le_trans R.heap.base (Nat.le_of_lt bz)
theorem bt.push {ρ:Ren} {B:Nat} {bg:World} {h:J} {w w':World} (R:bt ρ B bg h w) {c:List V} {arr:Array Value} {e:TypeId} {ex:Option Nat} (cm:Nat)
  (bz:w.heap.size<w'.heap.size) (hold:∀ k,k<w.heap.size→w'.heap[k]?=w.heap[k]?) (sn:w'.heap[w.heap.size]?=some (.cells arr e (0,0)))
  (av:mm B w w') (aF:c.length≤arr.size) (aM:bx ρ c (arr.toList.take c.length)) (ak:LW ex cm arr.size c.length) :
  ∃ ρ':Ren,ρ.le ρ'∧ρ'.ren h.n=some (w.heap.size,cm)∧bt ρ' B bg (h.push (.cells c e ex)) w':=by
 have hle:=Ren.xV (R.heap.qb _ (Nat.le_refl _)) w.heap.size cm
 have Jw:ρ.frz w.heap.size=none:=by
  cases aC:ρ.frz w.heap.size with
  | none=>rfl
  | some a=>
   obtain ⟨e,ky,hw⟩:=R.heap.frz _ _ aC
   have:=(Array.getElem?_eq_some_iff.1 hw).1
   omega
 obtain ⟨h1,ae⟩:=R.HD (o:=.cells c e ex) cm bz hold av ⟨w.heap.size,cm,arr,Ren.sm,Jw,R.heap.base,sn,aF,aM.mono hle,ak⟩
 exact ⟨_,h1,Ren.sm,ae⟩
theorem bt.PK {ρ:Ren} {B:Nat} {bg:World} {h:J} {w w':World} (R:bt ρ B bg h w) {arr:Array Value} {e:TypeId} {ky:Nat×Nat}
  (bz:w.heap.size<w'.heap.size) (hold:∀ k,k<w.heap.size→w'.heap[k]?=w.heap[k]?) (sn:w'.heap[w.heap.size]?=some (.cells arr e ky)) (av:mm B w w') :
  ∃ ρ':Ren,ρ.le ρ'∧ρ'.frz w.heap.size=some arr∧bt ρ' B bg h w':=by
 have kg:∀ b arr,ρ.frz b=some arr→b<w.heap.size:=fun b arr aC=>by
  obtain ⟨e,ky,hw⟩:=R.heap.frz b arr aC
  exact (Array.getElem?_eq_some_iff.1 hw).1
 have hle:ρ.le { ρ with frz:=fun b=>if b=w.heap.size then some arr else ρ.frz b }:=by
  refine ⟨fun _ _ h=>h,fun b a av=>?_,rfl⟩
  have:=kg b a av
  simp [show b≠w.heap.size by omega,av]
 refine ⟨_,hle,by simp,⟨⟨R.heap.qb,R.heap.inj,fun i=>?_,fun b a aC=>?_,fun g cs aB=>?_,Nat.le_trans R.heap.base (Nat.le_of_lt bz)⟩,R.below.trans av⟩⟩
 ·by_cases bb:h.get i=.dead
  ·rw [bb];trivial
  ·obtain ⟨c2,xW,ly,aH,_⟩:=R.heap.live bb
   refine (R.heap.obj i).aj hle fun b bd aU=>?_
   rw [ly] at aU;simp at aU
   obtain ⟨rfl,rfl⟩:=aU
   exact ⟨hold _ aH,fun h=>by simp [show c2≠w.heap.size by omega,h]⟩
 ·simp only at aC
  by_cases Pm:b=w.heap.size
  ·subst Pm;simp at aC;subst aC;exact ⟨e,ky,sn⟩
  ·simp [Pm] at aC
   obtain ⟨e,ky,hw⟩:=R.heap.frz b a aC
   exact ⟨e,ky,(hold b (kg b a aC)).trans hw⟩
 ·obtain ⟨nt,aC,aU⟩:=R.heap.glob g cs aB
  exact ⟨nt,hle.frz _ _ aC,aU.mono hle⟩
theorem bt.zD {ρ:Ren} {B:Nat} {bg:World} {h:J} {w w':World} (R:bt ρ B bg h w) {i b cm:Nat} (hi:ρ.ren i=some (b,cm)) (aM:h.get i≠.dead) {o:aV}
  (hold:∀ k,k≠b→w'.heap[k]?=w.heap[k]?) (bz:w.heap.size≤w'.heap.size) (av:mm B w w') (sn:ua ρ B w' i o):bt ρ B bg (h.set i o) w':=by
 have kS:ρ.frz b=none:=by
  obtain ⟨c2,xW,ly,_,_,aC,_⟩:=R.heap.live aM
  rw [ly] at hi;simp at hi;rw [←hi.1];exact aC
 refine ⟨⟨R.heap.qb,fun j k c2 bd bH aX hk h1 ae=>?_,fun j=>?_,fun c2 arr aC=>?_,R.heap.glob,Nat.le_trans R.heap.base bz⟩,R.below.trans av⟩
 ·refine R.heap.inj j k c2 bd bH ?_ ?_ h1 ae
  ·by_cases dJ:j=i
   ·subst dJ;exact aM
   ·simpa [J.set,dJ] using aX
  ·by_cases tI:k=i
   ·subst tI;exact aM
   ·simpa [J.set,tI] using hk
 ·by_cases dJ:j=i
  ·subst dJ
   simpa only [J.set,if_true] using sn
  ·simp only [J.set,if_neg dJ]
   by_cases bb:h.get j=.dead
   ·rw [bb];trivial
   ·refine (R.heap.obj j).aj (Ren.le.refl ρ) fun b1 bd aU=>⟨hold b1 ?_,fun h=>h⟩
    intro Di
    subst Di
    exact dJ (R.heap.inj i j b1 cm bd aM bb hi aU).symm
 ·obtain ⟨e,ky,hw⟩:=R.heap.frz c2 arr aC
  have:c2≠b:=by intro U;subst U;rw [kS] at aC;cases aC
  exact ⟨e,ky,(hold c2 this).trans hw⟩
theorem bt.kill {ρ:Ren} {B:Nat} {bg:World} {h:J} {w:World} (R:bt ρ B bg h w) (i:Nat):bt ρ B bg (h.set i .dead) w:=by
 refine ⟨⟨R.heap.qb,fun j k c2 bd bH aX hk h1 ae=>?_,fun j=>?_,R.heap.frz,R.heap.glob,R.heap.base⟩,R.below⟩
 ·refine R.heap.inj j k c2 bd bH ?_ ?_ h1 ae
  ·by_cases dJ:j=i
   ·subst dJ;simp [J.set] at aX
   ·simpa [J.set,dJ] using aX
  ·by_cases tI:k=i
   ·subst tI;simp [J.set] at hk
   ·simpa [J.set,tI] using hk
 ·by_cases dJ:j=i
  ·subst dJ;simp only [J.set,if_true];trivial
  ·simp only [J.set,if_neg dJ];exact R.heap.obj j
theorem bt.drew {ρ:Ren} {B:Nat} {bg:World} {h:J} {w:World} (R:bt ρ B bg h w):bt ρ B bg h w.drew:=by
 refine ⟨⟨R.heap.qb,R.heap.inj,fun i=>?_,R.heap.frz,R.heap.glob,R.heap.base⟩,R.below.drew⟩
 exact (R.heap.obj i).aj (Ren.le.refl ρ) fun b c aU=>⟨rfl,fun h=>h⟩
theorem bt.freeze {ρ:Ren} {B:Nat} {bg:World} {h:J} {w:World} (R:bt ρ B bg h w) {i:Nat} {c:List V} {e:TypeId} {ex:Option Nat} (aB:h.get i=.cells c e ex) :
  ∃ ρ':Ren,ρ.le ρ'∧bt ρ' B bg (h.set i .dead) w∧∃ b cm arr,ρ.ren i=some (b,cm)∧ρ'.frz b=some arr∧c.length≤arr.size∧bx ρ c (arr.toList.take c.length):=by
 have bc:=R.heap.obj i
 rw [aB] at bc
 obtain ⟨b,cm,arr,aU,aC,cp,hw,aF,aM,ak⟩:=bc
 have hle:ρ.le { ρ with frz:=fun k=>if k=b then some arr else ρ.frz k }:=by
  refine ⟨fun _ _ h=>h,fun k a hk=>?_,rfl⟩
  have:k≠b:=by intro U;subst U;rw [aC] at hk;cases hk
  simp [this,hk]
 have K:=R.kill i
 refine ⟨_,hle,⟨⟨K.heap.qb,K.heap.inj,fun j=>?_,fun k a hk=>?_,fun g cs aB=>?_,K.heap.base⟩,K.below⟩,b,cm,arr,aU,by simp,aF,aM⟩
 ·by_cases bb:(h.set i .dead).get j=.dead
  ·rw [bb];trivial
  ·refine (K.heap.obj j).aj hle fun b1 bH oC=>⟨rfl,fun ae=>?_⟩
   have:b1≠b:=by
    intro U
    subst U
    by_cases dJ:j=i
    ·subst dJ;simp [J.set] at bb
    ·refine dJ (R.heap.inj j i b1 bH cm ?_ (by rw [aB];simp) oC aU)
     simpa [J.set,dJ] using bb
   simp [this,ae]
 ·simp only at hk
  by_cases ZG:k=b
  ·subst ZG;simp at hk;subst hk;exact ⟨e,(0,0),hw⟩
  ·simp [ZG] at hk
   exact R.heap.frz k a hk
 ·obtain ⟨nt,dp,ly⟩:=R.heap.glob g cs aB
  exact ⟨nt,hle.frz _ _ dp,ly.mono hle⟩
def Yields (P:Program) (s:Sem Value) (ρ:Ren) (B:Nat) (bg w:World) (v:V) (h':J):Prop :=
 ∃ ρ' v' w',s.run P w=.ok v' w'∧a1 ρ' v v'∧bt ρ' B bg h' w'∧ρ.le ρ'
theorem Yields.same {P:Program} {s:Sem Value} {ρ:Ren} {B:Nat} {bg w:World} {v:V} {v':Value} {h:J} (R:bt ρ B bg h w) (aU:s.run P w=.ok v' w) (aN:a1 ρ v v') :
  Yields P s ρ B bg w v h:=⟨ρ,v',w,aU,aN,R,Ren.le.refl ρ⟩
def c8 (P:Program) (s:Sem Value) (ρ:Ren) (w:World) (v:V):Prop:=∃ v',s.run P w=.ok v' w∧a1 ρ v v'
theorem c8.mk {P:Program} {s:Sem Value} {ρ:Ren} {w:World} {v:V} {v':Value} (aU:s.run P w=.ok v' w) (aN:a1 ρ v v'):c8 P s ρ w v:=⟨v',aU,aN⟩
theorem c8.mD {P:Program} {s:Sem Value} {ρ:Ren} {B:Nat} {bg w:World} {v:V} {h:J} (k:c8 P s ρ w v) (R:bt ρ B bg h w):Yields P s ρ B bg w v h :=
 let ⟨_,aU,aN⟩:=k
 .same R aU aN
def jp (h:J):V→Option (List V)
 | .ptr i o=>match h.get i with
  | .cells c _ _=>if o≤c.length then some (c.drop o) else none
  | _=>none
 | .at cs=>some cs
 | _=>none
theorem GE {w:World} {b o:Nat} {arr:Array Value} {e:TypeId} {ky:Nat×Nat} (hw:w.heap[b]?=some (.cells arr e ky)) (n m:Nat):w.rangeAt b o (((arr.toList.take m).drop o).take n):=by
 intro j v aN
 simp only [World.cell?,hw,Option.isSome_none,Bool.false_eq_true,if_false]
 rw [List.getElem?_take] at aN
 split at aN
 ·rw [List.getElem?_drop,List.getElem?_take] at aN
  split at aN
  ·simpa using aN
  ·cases aN
 ·cases aN
theorem ii {ρ:Ren} {B:Nat} {h:J} {w:World} (H:vA ρ B h w) {p:V} {aiL:Value} (aW:a1 ρ p aiL) {cs:List V} (ad:jp h p=some cs) :
  ∃ b o,aiL=.pointer (some ⟨b,o,none⟩)∧∀ n,n≤cs.length→∃ vs,w.rangeAt b o vs∧bx ρ (cs.take n) vs∧vs.length=n:=by
 unfold jp at ad
 split at ad
 ·rename_i i o
  split at ad
  case h_2=>cases ad
  rename_i c e ex aB
  split at ad
  case isFalse=>cases ad
  rename_i bc
  obtain rfl:_=cs:=by simpa using ad
  have ZH:=H.obj i
  rw [aB] at ZH
  obtain ⟨b1,oD,arr,aU,aC,cp,hw,aF,aM,ak⟩:=ZH
  cases aW with
  | ptr hi o=>
  rw [aU] at hi;simp at hi
  obtain ⟨rfl,rfl⟩:=hi
  refine ⟨b1,o,rfl,fun n aG=>⟨((arr.toList.take c.length).drop o).take n,GE hw n _,(aM.drop o).take n,?_⟩⟩
  simp at aG⊢;omega
 ·rename_i l
  obtain rfl:l=cs:=by simpa using ad
  cases aW with
  | «at» o av bc ak=>
  rename_i b arr
  obtain ⟨e,ky,hw⟩:=H.frz b arr av
  refine ⟨b,o,rfl,fun n aG=>⟨((arr.toList.take arr.size).drop o).take n,GE hw n _,?_,?_⟩⟩
  ·have gw:bx ρ l ((arr.toList.drop o).take l.length):=by
    refine ⟨by simp;omega,fun k v v' h1 ae=>?_⟩
    rw [List.getElem?_take] at ae
    split at ae
    ·rw [List.getElem?_drop] at ae
     exact ak k v v' h1 (by simpa using ae)
    ·cases ae
   have:=gw.take n
   rw [List.take_take,Nat.min_eq_left aG] at this
   have ar:arr.toList.take arr.size=arr.toList:=List.take_of_length_le (by simp)
   rw [ar];exact this
  ·simp;omega
 ·cases ad
def D3 (P:Program) (t:TypeId) (x:V) (h:J):Option V :=
 match jp h x,wU P t,dQ P t with
 | some cs,some true,some n=>if n≤cs.length then some (.agg (cs.take n)) else none
 | some (v::_),some false,some _=>some v
 | _,_,_=>none
theorem aiM {P:Program} {t:TypeId} {x v:V} {dm:Value} {h:J} (ad:D3 P t x h=some v) {ρ:Ren} {B:Nat} {bg w:World} (R:bt ρ B bg h w) (ak:a1 ρ x dm) :
  (∃ a,dm=.pointer (some a))∧c8 P (Instr.loadAt t dm) ρ w v:=by
 unfold D3 at ad
 cases af:P.info? t with
 | none=>simp [dQ,af] at ad
 | some dy=>
 cases hu:P.underlying t with
 | none=>simp [wU,hu] at ad
 | some d=>
 simp only [wU,hu,dQ,af,Option.map_some] at ad
 cases aW:jp h x with
 | none=>simp [aW] at ad
 | some cs=>
 obtain ⟨b,o,rfl,dZ⟩:=ii R.heap ak aW
 refine ⟨⟨_,rfl⟩,?_⟩
 cases bb:d.isRow with
 | true=>
  simp only [aW,bb] at ad
  split at ad
  case isFalse=>cases ad
  rename_i aG
  obtain rfl:_=v:=by simpa using ad
  obtain ⟨vs,h1,ae,aA⟩:=dZ _ aG
  exact c8.mk (run_loadAt_mid w b o t vs d h1 hu bb (by simp [af,aA])) (ae.arr).agg
 | false=>
  cases cs with
  | nil=>simp [aW,bb] at ad
  | cons u r=>
   simp only [aW,bb,Option.some.injEq] at ad
   subst ad
   obtain ⟨vs,h1,ae,aA⟩:=dZ 1 (by simp)
   simp only [List.take_succ_cons,List.take_zero] at ae
   obtain ⟨v',nV,rfl,jg,_⟩:=ae.fh
   have A1:=h1 0 v' rfl
   refine c8.mk ?_ jg
   have D4:(isAgg t).run P w=.ok false w:=by
    unfold isAgg
    rw [Sem.run_bind,run_underlying hu w]
    cases d<;>simp_all
   simp only [Nat.add_zero] at A1
   simp [Instr.loadAt,Instr.sureAddr,loadVar,D4,load,Sem.run,A1]
theorem bx.dfr {ρ:Ren} {l:List V} {ck:List Value} (h:bx ρ l ck) (d:List Deferred):bx { ρ with dfr:=d } l ck:=⟨h.1,fun k v v' a b=>(h.2 k v v' a b).dfr d⟩
theorem lj.dfr {ρ:Ren} {es:List (Nat×V×V)} {arr:Array MapEntry} (h:lj ρ es arr) (d:List Deferred):lj { ρ with dfr:=d } es arr :=
 ⟨h.1,fun k e fo a b=>⟨(h.2 k e fo a b).1,(h.2 k e fo a b).2.1.dfr d,(h.2 k e fo a b).2.2.dfr d⟩⟩
theorem ua.dfr {ρ:Ren} {B:Nat} {w:World} {i:Nat} {o:aV} (h:ua ρ B w i o) (d:List Deferred):ua { ρ with dfr:=d } B w i o:=by
 cases o with
 | dead=>trivial
 | cells c e ex=>
  obtain ⟨b,cm,arr,aU,aC,cp,hw,aF,aM,ak⟩:=h
  exact ⟨b,cm,arr,aU,aC,cp,hw,aF,aM.dfr d,ak⟩
 | map es cl=>
  obtain ⟨b,cm,arr,aU,aC,cp,hw,hm⟩:=h
  exact ⟨b,cm,arr,aU,aC,cp,hw,hm.dfr d⟩
 | iter m s l st=>
  obtain ⟨b,cm,bm,GU,aU,aC,cp,hm,hw⟩:=h
  exact ⟨b,cm,bm,GU,aU,aC,cp,hm,hw⟩
 | o3 b mk vs=>
  obtain ⟨cm,arr,aU,aC,cp,hw,aM⟩:=h
  exact ⟨cm,arr,aU,aC,cp,hw,aM.dfr d⟩
theorem bt.dfr {ρ:Ren} {B:Nat} {bg:World} {h:J} {w:World} (R:bt ρ B bg h w) (d:List Deferred):bt { ρ with dfr:=d } B bg h w :=
 ⟨⟨R.heap.qb,R.heap.inj,fun i=>(R.heap.obj i).dfr d,R.heap.frz,fun g cs aB=>by
  obtain ⟨arr,h1,ae⟩:=R.heap.glob g cs aB
  exact ⟨arr,h1,ae.1,fun k v v' a b=>(ae.2 k v v' a b).dfr d⟩,R.heap.base⟩,R.below⟩
theorem Ren.le.ub {ρ ρ':Ren} {d:List Deferred} (h:Ren.le { ρ with dfr:=d } ρ'):ρ.le { ρ' with dfr:=ρ.dfr }:=⟨h.ren,h.frz,rfl⟩
def V.cells:V→Option (List V)
 | .agg cs=>some cs
 | .top=>none
 | .tuple _=>none
 | v=>some [v]
def V.one:V→Bool
 | .agg _ | .tuple _ | .top=>false
 | _=>true
theorem a1.one {ρ:Ren} {v:V} {v':Value} (h:a1 ρ v v') (bc:v.one=true):v'.oneCell'=true:=by cases h<;>simp [V.one] at bc<;>rfl
theorem a1.aaC {ρ:Ren} {v:V} {v':Value} (h:a1 ρ v v') (bc:v.one=true):v'.cells=#[v']:=by cases h<;>simp [V.one] at bc<;>rfl
theorem a1.cells {ρ:Ren} {v:V} {v':Value} (h:a1 ρ v v') {cs:List V} (aF:v.cells=some cs):bx ρ cs v'.cells.toList:=by
 have key:∀ u:V,a1 ρ u v'→u.one=true→u.cells=some [u]→bx ρ [u] v'.cells.toList:=fun u hu h1 _=>by
  rw [hu.aaC h1]
  exact .cons hu (.nil ρ)
 cases h with
 | agg ad ak=>
         obtain rfl:_=cs:=by simpa [V.cells] using aF
         exact hd.list ⟨ad,ak⟩
 | top=>simp [V.cells] at aF
 | tuple ad ak=>simp [V.cells] at aF
 | _=>
     obtain rfl:_=cs:=by simpa [V.cells] using aF
     exact key _ (by constructor<;>assumption) rfl rfl
theorem bx.one {ρ:Ren} {l:List V} {ck:List Value} (h:bx ρ l ck) (aM:l.all (·.one)=true):∀ v ∈ ck,v.oneCell'=true:=by
 intro v aN
 obtain ⟨k,hk⟩:=List.getElem?_of_mem aN
 have aH:k<ck.length:=(List.getElem?_eq_some_iff.1 hk).1
 have hC:k<l.length:=by rw [h.1];exact aH
 exact (h.2 k l[k] v (List.getElem?_eq_getElem hC) hk).one ((List.all_eq_true.1 aM) _ (List.getElem_mem hC))
def lay {α:Type} (c:List α) (o:Nat) (vs:List α):List α:=c.take o++vs++c.drop (o+vs.length)
theorem qc {α:Type} (c:List α) (o:Nat) (vs:List α) (h:o+vs.length≤c.length):(lay c o vs).length=c.length:=by
 simp [lay];omega
theorem bx.lay {ρ:Ren} {c:List V} {lL:List Value} (h:bx ρ c lL) {vs:List V} {nY:List Value} (aN:bx ρ vs nY) (o:Nat):bx ρ (lay c o vs) (lay lL o nY):=by
 unfold Ab.lay
 rw [←aN.1]
 exact ((h.take o).append aN).append (h.drop _)
theorem PL {α:Type} (c:List α) (o:Nat) (vs:List α) (n:Nat) (h:o+vs.length≤n) (aG:n≤c.length):(lay c o vs).take n=lay (c.take n) o vs:=by
 apply List.ext_getElem?
 intro k
 simp only [Ab.lay,List.getElem?_take,List.getElem?_append,List.length_append,List.length_take,List.getElem?_drop]
 by_cases h1:k<n
 ·simp only [h1,if_true]
  have ar:min o c.length=o:=by omega
  have aT:min o (min n c.length)=o:=by omega
  simp only [ar,aT]
  by_cases ae:k<o+vs.length
  ·simp only [ae,if_true]
  ·simp only [ae,if_false]
   first | done | rw [if_pos (by omega)]
 ·simp only [h1,if_false]
  rw [if_neg (by omega)]
  rw [if_neg (by omega)]
theorem QT {P:Program} {h:J} {i:Nat} {c:List V} {e:TypeId} {ex:Option Nat} (aB:h.get i=.cells c e ex) {ρ:Ren} {B:Nat} {bg w:World} (R:bt ρ B bg h w)
  {b cm:Nat} (hi:ρ.ren i=some (b,cm)) (o:Nat) {vs:List V} {nY:List Value} (aN:bx ρ vs nY) (b3:vs.all (·.one)=true) (hf:o+vs.length≤c.length) :
  ∃ w',(storeCells ⟨b,o,none⟩ nY).run P w=.ok () w'∧bt ρ B bg (h.set i (.cells (lay c o vs) e ex)) w':=by
 have bc:=R.heap.obj i
 rw [aB] at bc
 obtain ⟨b1,oD,arr,aU,aC,cp,hw,aF,aM,ak⟩:=bc
 rw [aU] at hi;simp at hi
 obtain ⟨rfl,rfl⟩:=hi
 have X3:o+nY.length≤arr.size:=by rw [←aN.1];omega
 have cR:=run_storeCells_at P b1 o e nY 0 arr w hw (by simpa using X3) (aN.one b3)
 simp only [Nat.add_zero] at cR
 refine ⟨_,cR,R.zD aU (by rw [aB];simp) (fun k hk=>?_) ?_ ?_ ?_⟩
 ·simp [World.setRow,Array.getElem?_modify,Ne.symm hk]
 ·simp [World.setRow]
 ·refine ⟨rfl,rfl,rfl,by simp [World.setRow],fun k hk=>?_,Nat.le_refl _⟩
  simp [World.setRow,Array.getElem?_modify,show b1≠k by omega]
 ·refine ⟨b1,oD,_,aU,aC,cp,setRow_heap w b1 arr _ e (0,0) hw,?_,?_,?_⟩
  ·rw [qc _ _ _ hf];simp;omega
  ·rw [qc _ _ _ hf]
   have:=aM.lay aN o
   rw [←PL arr.toList o nY c.length (by rw [←aN.1];exact hf) (by simpa using aF)] at this
   exact this
  ·rw [qc _ _ _ hf]
   have hlen:(arr.toList.take o++nY++arr.toList.drop (o+nY.length)).toArray.size=arr.size:=by simp;omega
   rw [hlen]
   exact ak
def PM (P:Program) (t:TypeId) (x v:V) (h:J):Option J :=
 match x,v.cells with
 | .ptr i o,some vs=>
  match h.get i with
  | .cells c e ex=>if some vs.length=dQ P t∧vs.all (·.one)=true∧o+vs.length≤c.length then some (h.set i (.cells (lay c o vs) e ex)) else none
  | _=>none
 | _,_=>none
theorem amD {P:Program} {t:TypeId} {x v:V} {dm v':Value} {h h':J} (ad:PM P t x v h=some h') {ρ:Ren} {B:Nat} {bg w:World} (R:bt ρ B bg h w)
  (ak:a1 ρ x dm) (aN:a1 ρ v v'):∃ w',(Instr.storeAt t dm v').run P w=.ok () w'∧bt ρ B bg h' w':=by
 unfold PM at ad
 split at ad
 case h_2=>cases ad
 rename_i i o vs o4
 cases ak with
 | ptr hi o=>
 rename_i b cm
 split at ad
 case h_2=>cases ad
 rename_i c e ex aB
 split at ad
 case isFalse=>cases ad
 rename_i nq
 obtain ⟨bz,b3,hf⟩:=nq
 obtain rfl:_=h':=by simpa using ad
 have dk:=aN.cells o4
 obtain ⟨w',eg,ij⟩:=QT (P:=P) aB R hi o dk b3 hf
 refine ⟨w',?_,ij⟩
 have hlen:v'.cells.size=vs.length:=by have:=dk.1;simpa using this.symm
 cases af:P.info? t with
 | none=>simp [dQ,af] at bz
 | some dy=>
  simp [dQ,af] at bz
  simp [Instr.storeAt,Instr.sureAddr,storeVar,sizeOf,typeInfo,af,hlen,bz,eg]
theorem aaD {h:J} {ρ:Ren} {B:Nat} {bg w:World} (R:bt ρ B bg h w) {c:List V} {lL:List Value} (e:TypeId) (aF:bx ρ c lL) (cm:Nat) :
  ∃ ρ':Ren,ρ.le ρ'∧ρ'.ren h.n=some (w.heap.size,cm)∧bt ρ' B bg (h.push (.cells c e none)) (w.alloc (.cells lL.toArray e)) :=
 R.push (arr:=lL.toArray) cm (by simp) (fun k hk=>Below.heap_alloc w _ k hk) (heap_alloc_new w _) ((mm.refl _ _).alloc R.heap.base _)
  (by simp [aF.1]) (by simpa [aF.1] using aF) (show _=_ by simp [aF.1])
theorem aiN {P:Program} {h:J} {ρ:Ren} {B:Nat} {bg w:World} (R:bt ρ B bg h w) {cs:List V} {v':Value} (e:TypeId) (aN:bx ρ cs v'.cells.toList) (s:Sem Value)
  (ad:s.run P w=.ok (.pointer (some ⟨w.heap.size,0,none⟩)) (w.alloc (.cells v'.cells e))) :
  Yields P s ρ B bg w (.ptr h.n 0) (h.push (.cells cs e none)):=by
 obtain ⟨ρ',hle,aG,ij⟩:=aaD R e aN 0
 exact ⟨ρ',_,_,ad,.ptr aG 0,by simpa using ij,hle⟩
def iA (P:Program) (e:TypeId):Option (List V):=match qH P e with | some z=>(jQ z).cells | none=>none
theorem PN {P:Program} {e:TypeId} {zs:List V} (h:iA P e=some zs):∃ z,qH P e=some z∧∀ ρ,bx ρ zs z.cells.toList:=by
 unfold iA at h
 split at h
 ·rename_i z b4
  exact ⟨z,b4,fun ρ=>(LV ρ z).cells h⟩
 ·cases h
def PO (P:Program) (e:TypeId) (h:J):Option (V×J) :=
 match iA P e with
 | some zs=>some (.ptr h.n 0,h.push (.cells zs e none))
 | none=>none
def Cr (e:TypeId) (x:V) (h:J):Option (V×J) :=
 match x.cells with
 | some cs=>some (.ptr h.n 0,h.push (.cells cs e none))
 | none=>none
theorem amE {P:Program} {e:TypeId} {v:V} {h h':J} (ad:PO P e h=some (v,h')) {ρ:Ren} {B:Nat} {bg w:World} (R:bt ρ B bg h w) :
  Yields P (Instr.alloc e true (.tuple #[])) ρ B bg w v h':=by
 unfold PO at ad
 split at ad
 case h_2=>cases ad
 rename_i zs iP
 obtain ⟨z,b4,jg⟩:=PN iP
 simp at ad
 obtain ⟨rfl,rfl⟩:=ad
 refine aiN R e (jg ρ) _ ?_
 cases af:P.info? e with
 | none=>simp [qH,af] at b4
 | some dy=>
  simp [qH,af] at b4
  simp [Instr.alloc,zeroValue,typeInfo,af,b4,newVar,newRow]
theorem amF {P:Program} {e:TypeId} {x v:V} {dm:Value} {h h':J} (ad:Cr e x h=some (v,h')) {ρ:Ren} {B:Nat} {bg w:World} (R:bt ρ B bg h w) (ak:a1 ρ x dm) :
  Yields P (Instr.box e dm) ρ B bg w v h':=by
 unfold Cr at ad
 split at ad
 case h_2=>cases ad
 rename_i cs dZ
 simp at ad
 obtain ⟨rfl,rfl⟩:=ad
 exact aiN R e (ak.cells dZ) _ (by simp [Instr.box,newVar,newRow])
theorem a1.v7 {ρ:Ren} {i o:Nat} {dm:Value} (h:a1 ρ (.ptr i o) dm):∃ b c,ρ.ren i=some (b,c)∧dm=.pointer (some ⟨b,o,none⟩):=by
 cases h with
 | ptr hi=>exact ⟨_,_,hi,rfl⟩
theorem a1.kT {ρ:Ren} {i o len cap:Nat} {dm:Value} (h:a1 ρ (.bp i o len cap) dm):∃ b c,ρ.ren i=some (b,c)∧len≤kx c cap∧dm=.slice (some ⟨b,o,none⟩) len (kx c cap):=by
 cases h with
 | bp hi _ _ _ aM=>exact ⟨_,_,hi,aM,rfl⟩
theorem a1.A3 {ρ:Ren} {cs:List V} {dm:Value} (h:a1 ρ (.at cs) dm):∃ (b o:Nat) (arr:Array Value),ρ.frz b=some arr∧o+cs.length≤arr.size ∧
  (∀ (k:Nat) (v:V) (v':Value),cs[k]?=some v→arr[o+k]?=some v'→a1 ρ v v')∧dm=.pointer (some ⟨b,o,none⟩):=by
 cases h with
 | «at» o av bc ak=>exact ⟨_,o,_,av,bc,ak,rfl⟩
theorem a1.pX {ρ:Ren} {n:Nat} {cs:List V} {dm:Value} (h:a1 ρ (.ag n cs) dm):(n=0∧cs=[]∧∃ (a:Option Addr) (c:Nat),(a=none→c=0)∧dm=.slice a 0 c)∨∃ (b o cap:Nat) (arr:Array Value),ρ.frz b=some arr∧n≤cap∧o+cs.length≤arr.size ∧
  (∀ (k:Nat) (v:V) (v':Value),cs[k]?=some v→arr[o+k]?=some v'→a1 ρ v v')∧dm=.slice (some ⟨b,o,none⟩) n cap:=by
 cases h with
 | ag o _ cap av aG bc ak=>exact .inr ⟨_,o,cap,_,av,aG,bc,ak,rfl⟩
 | jE a c a6=>exact .inl ⟨rfl,rfl,a,c,a6,rfl⟩
theorem a1.D5 {ρ:Ren} {b o:Nat} {arr:Array Value} {cs:List V} (av:ρ.frz b=some arr) (bc:o+cs.length≤arr.size)
  (ak:∀ (k:Nat) (v:V) (v':Value),cs[k]?=some v→arr[o+k]?=some v'→a1 ρ v v') (d:Nat) (bb:d≤cs.length):a1 ρ (.at (cs.drop d)) (.pointer (some ⟨b,o+d,none⟩)) :=
 .at (o+d) av (by simp;omega) fun k v v' h1 ae=>by
  rw [List.getElem?_drop] at h1
  exact ak _ v v' h1 (by rw [←Nat.add_assoc];exact ae)
theorem a1.Hg {ρ:Ren} {b o n cap:Nat} {arr:Array Value} {cs:List V} (av:ρ.frz b=some arr) (bc:o+cs.length≤arr.size)
  (ak:∀ (k:Nat) (v:V) (v':Value),cs[k]?=some v→arr[o+k]?=some v'→a1 ρ v v') (d m:Nat) (bb:d≤cs.length) (aG:n≤cap):a1 ρ (.ag n ((cs.drop d).take m)) (.slice (some ⟨b,o+d,none⟩) n cap) :=
 .ag (o+d) n cap av aG (by simp;omega) fun k v v' h1 ae=>by
  rw [List.getElem?_take] at h1
  split at h1
  ·rw [List.getElem?_drop] at h1
   exact ak _ v v' h1 (by rw [←Nat.add_assoc];exact ae)
  ·cases h1
def LX (P:Program) (s:TypeId) (x:V) (k:Nat):Option V :=
 match P.underlying s with
 | some (.struct dT)=>
  match dT[k]? with
  | some f=>match dQ P f.type with
   | some (_+1)=>match x with
    | .ptr i o=>some (.ptr i (o+f.offset))
    | .at cs=>if f.offset≤cs.length then some (.at (cs.drop f.offset)) else none
    | _=>none
   | _=>none
  | none=>none
 | _=>none
theorem amG {P:Program} {s:TypeId} {x v:V} {dm:Value} {k:Nat} {h:J} (ad:LX P s x k=some v) {ρ:Ren} {B:Nat} {bg w:World} (R:bt ρ B bg h w) (ak:a1 ρ x dm) :
  c8 P (Instr.fieldAt s dm k) ρ w v:=by
 unfold LX at ad
 split at ad
 case h_2=>cases ad
 rename_i dT hu
 split at ad
 case h_2=>cases ad
 rename_i f aC
 split at ad
 case h_2=>cases ad
 rename_i n aG
 have af:∃ dy,P.info? f.type=some dy∧dy.size≠0:=by
  cases af:P.info? f.type with
  | none=>simp [dQ,af] at aG
  | some dy=>simp [dQ,af] at aG;exact ⟨dy,rfl,by omega⟩
 obtain ⟨dy,af,aG⟩:=af
 have eg:∀ b o,(Instr.fieldAt s (.pointer (some ⟨b,o,none⟩)) k).run P w=.ok (.pointer (some ⟨b,o+f.offset,none⟩)) w:=fun b o=>by
  simp [Instr.fieldAt,run_underlying hu,aC,Instr.sureAddr,fieldPlace,sizeOf,typeInfo,af,aG,Addr.add_mid]
 split at ad
 ·rename_i i o
  obtain rfl:_=v:=by simpa using ad
  obtain ⟨b,c,hi,rfl⟩:=ak.v7
  exact c8.mk (eg b o) (.ptr hi _)
 ·split at ad
  case isFalse=>cases ad
  rename_i bb
  obtain rfl:_=v:=by simpa using ad
  obtain ⟨b,o,arr,av,bc,ic,rfl⟩:=ak.A3
  exact c8.mk (eg b o) (.D5 av bc ic _ bb)
 ·cases ad
def ir (P:Program) (t:TypeId) (x rf:V):Option V :=
 match rf with
 | .int _ n=>
  match P.underlying t,x with
  | some (.array len e),.ptr i o=>
   match dQ P e with
   | some sz=>if 0≤n∧n<len then some (.ptr i (o+n.toNat * sz)) else none
   | none=>none
  | some (.array len e),.at cs=>
   match dQ P e with
   | some sz=>if 0≤n∧n<len∧n.toNat * sz≤cs.length then some (.at (cs.drop (n.toNat * sz))) else none
   | none=>none
  | some (.slice e),.bp i o len _=>
   match dQ P e with
   | some sz=>if 0≤n∧n<len then some (.ptr i (o+n.toNat * sz)) else none
   | none=>none
  | some (.slice e),.ag len cs=>
   match dQ P e with
   | some sz=>if 0≤n∧n<len∧n.toNat * sz≤cs.length then some (.at (cs.drop (n.toNat * sz))) else none
   | none=>none
  | _,_=>none
 | _=>none
theorem amH {P:Program} {t:TypeId} {x rf v:V} {dm Jx:Value} {h:J} (ad:ir P t x rf=some v) {ρ:Ren} {B:Nat} {bg w:World} (R:bt ρ B bg h w)
  (ak:a1 ρ x dm) (fR:a1 ρ rf Jx):c8 P (Instr.indexAt t dm Jx) ρ w v:=by
 unfold ir at ad
 split at ad
 case h_2=>cases ad
 rename_i k n
 cases fR with
 | int k n=>
 have sc:∀ e dy (len cap b o:Nat),P.underlying t=some (.slice e)→P.info? e=some dy→0≤n∧n<len →
   (Instr.indexAt t (.slice (some ⟨b,o,none⟩) len cap) (.int k n)).run P w=.ok (.pointer (some ⟨b,o+n.toNat * dy.size,none⟩)) w:=fun e dy len cap b o hu af av=>by
  simp [Instr.indexAt,asIntOf,run_underlying hu,av,sizeOf,typeInfo,af,Addr.add_mid]
 have Dj:∀ e dy (len b o:Nat),P.underlying t=some (.array len e)→P.info? e=some dy→0≤n∧n<len →
   (Instr.indexAt t (.pointer (some ⟨b,o,none⟩)) (.int k n)).run P w=.ok (.pointer (some ⟨b,o+n.toNat * dy.size,none⟩)) w:=fun e dy len b o hu af av=>by
  simp [Instr.indexAt,asIntOf,run_underlying hu,Instr.sureAddr,av,sizeOf,typeInfo,af,Addr.add_mid]
 split at ad
 ·rename_i len e i o hu
  cases ak with
  | ptr hi o=>
  split at ad
  case h_2=>cases ad
  rename_i sz bz
  split at ad
  case isFalse=>cases ad
  rename_i av
  obtain rfl:_=v:=by simpa using ad
  cases af:P.info? e with
  | none=>simp [dQ,af] at bz
  | some dy=>
   simp [dQ,af] at bz
   subst bz
   exact c8.mk (Dj e dy len _ o hu af av) (.ptr hi _)
 ·rename_i len e cs hu
  cases ak with
  | «at» o kS bc ak=>
  split at ad
  case h_2=>cases ad
  rename_i sz bz
  split at ad
  case isFalse=>cases ad
  rename_i av
  obtain rfl:_=v:=by simpa using ad
  cases af:P.info? e with
  | none=>simp [dQ,af] at bz
  | some dy=>
   simp [dQ,af] at bz
   subst bz
   exact c8.mk (Dj e dy len _ o hu af ⟨av.1,av.2.1⟩) (.D5 kS bc ak _ av.2.2)
 ·rename_i e i o len cap hu
  cases ak with
  | bp hi o len cap aM=>
  split at ad
  case h_2=>cases ad
  rename_i sz bz
  split at ad
  case isFalse=>cases ad
  rename_i av
  obtain rfl:_=v:=by simpa using ad
  cases af:P.info? e with
  | none=>simp [dQ,af] at bz
  | some dy=>
   simp [dQ,af] at bz
   subst bz
   exact c8.mk (sc e dy len _ _ o hu af av) (.ptr hi _)
 ·rename_i e len cs hu
  split at ad
  case h_2=>cases ad
  rename_i sz bz
  split at ad
  case isFalse=>cases ad
  rename_i av
  obtain rfl:_=v:=by simpa using ad
  cases af:P.info? e with
  | none=>simp [dQ,af] at bz
  | some dy=>
   simp [dQ,af] at bz
   subst bz
   cases ak with
   | ag o _ cap kS aG bc ak=>exact c8.mk (sc e dy len cap _ o hu af ⟨av.1,av.2.1⟩) (.D5 kS bc ak _ av.2.2)
   | jE a c a6=>omega
 ·cases ad
def Cs:V→Option Nat
 | .int _ n=>if 0≤n then some n.toNat else none
 | _=>none
theorem LY {v:V} {v':Value} {n:Nat} (h:Cs v=some n) {ρ:Ren} (aN:a1 ρ v v'):∃ k,v'=.int k (n:Int):=by
 unfold Cs at h
 split at h
 ·rename_i k m
  split at h
  ·cases aN
   simp at h
   exact ⟨k,by rw [←h];congr;omega⟩
  ·cases h
 ·cases h
def qI (lo:Option V):Option Nat:=match lo with | none=>some 0 | some v=>Cs v
def iB (len:Nat) (hi:Option V):Option Nat:=match hi with | none=>some len | some v=>Cs v
def Dz (i o len cap sz l U m:Nat):Option V :=
 if cap<cN then
  if l≤U∧U≤m∧m≤cap then some (.bp i (if m=l then o else o+l * sz) (U - l) (m - l)) else none
 else
  if m=cap∧l≤U∧U≤len then (if l=0∨l<len then some (.bp i (o+l * sz) (U - l) (cap+l)) else some (.ag 0 [])) else none
def HE (n sz l U m:Nat) (mx:Bool) (cs:List V):Option V :=
 if l≤U∧U≤m∧m≤n∧l * sz≤cs.length then
  if mx=true∧m=l then some .z0 else some (.ag (U - l) ((cs.drop (l * sz)).take ((U - l) * sz)))
 else none
def kz (P:Program) (t:TypeId) (x:V) (lo hi mx:Option V):Option V :=
 match P.underlying t,x with
 | some (.slice e),.bp i o len cap=>
  match dQ P e,qI lo,iB len hi,iB cap mx with
  | some sz,some l,some U,some m=>if mx.isSome=true∧cN≤cap then (if hi.isSome=true∧m≤len∧len<cN then Dz i o len len sz l U m else none)
   else if mx.isSome∧(hi.isNone∨cN≤cap) then none else Dz i o len cap sz l U m
  | _,_,_,_=>none
 | some (.slice e),.ag n cs=>
  match dQ P e,qI lo,iB n hi,iB n mx with
  | some sz,some l,some U,some m=>if mx.isSome∧hi.isNone then none else HE n sz l U m mx.isSome cs
  | _,_,_,_=>none
 | some (.slice e),.ah=>
  match dQ P e,qI lo,iB 0 hi,iB 0 mx with
  | some _,some 0,some 0,some 0=>if mx.isSome∧hi.isNone then none else some .ah
  | _,_,_,_=>none
 | some (.slice e),.z0=>
  match dQ P e,qI lo,iB 0 hi,iB 0 mx with
  | some _,some 0,some 0,some 0=>if mx.isSome∧hi.isNone then none else some .z0
  | _,_,_,_=>none
 | some (.array n e),.ptr i o=>
  match dQ P e,qI lo,iB n hi,iB n mx with
  | some sz,some l,some U,some m=>if mx.isSome∧hi.isNone then none else if n<cN then Dz i o n n sz l U m else none
  | _,_,_,_=>none
 | some (.array n e),.at cs=>
  match dQ P e,qI lo,iB n hi,iB n mx with
  | some sz,some l,some U,some m=>if mx.isSome∧hi.isNone then none else HE n sz l U m mx.isSome cs
  | _,_,_,_=>none
 | some .string,.string s=>
  match qI lo,iB s.size hi,mx with
  | some l,some U,none=>if l≤U∧U≤s.size then some (.string (s.extract l U)) else none
  | _,_,_=>none
 | _,_=>none
theorem HF {P:Program} {w:World} {k:IntKind} {n y:Nat} {code:BoundsCode} (h:n≤y):(Instr.sliceBound (.int k (n:Int)) y code).run P w=.ok n w:=by
 simp [Instr.sliceBound,asIntOf,h]
theorem DA {P:Program} {w:World} {isSlice:Bool} {len cap l U m:Nat} {lo hi mx:Option V} {sT q3 tJ:Option Value} {ρ:Ren}
  (cA:Option.Rel (a1 ρ) lo sT) (eb:Option.Rel (a1 ρ) hi q3) (jk:Option.Rel (a1 ρ) mx tJ)
  (h1:qI lo=some l) (ae:iB len hi=some U) (aA:∃ mE,iB mE mx=some m∧(mx=none→m=cap)) (aM:l≤U) (hm:U≤m) (aF:m≤cap) (oE:¬(mx.isSome∧hi.isNone)) :
  (Instr.sliceBounds isSlice len cap sT q3 tJ).run P w=.ok (l,U,m) w:=by
 obtain ⟨mE,aA,Pn⟩:=aA
 cases cA with
 | none=>
  simp [qI] at h1;subst h1
  cases eb with
  | none=>
   simp [iB] at ae;subst ae
   cases jk with
   | none=>simp [Instr.sliceBounds,Pn rfl]
   | some jk=>simp at oE
  | some eb=>
   simp only [iB] at ae
   obtain ⟨k2,rfl⟩:=LY ae eb
   cases jk with
   | none=>obtain rfl:=Pn rfl;simp [Instr.sliceBounds,HF hm]
   | some jk=>simp only [iB] at aA;obtain ⟨k3,rfl⟩:=LY aA jk;simp [Instr.sliceBounds,HF hm,HF aF]
 | some cA=>
  simp only [qI] at h1
  obtain ⟨bo,rfl⟩:=LY h1 cA
  cases eb with
  | none=>
   simp [iB] at ae;subst ae
   cases jk with
   | none=>obtain rfl:=Pn rfl;simp [Instr.sliceBounds,HF aM]
   | some jk=>simp at oE
  | some eb=>
   simp only [iB] at ae
   obtain ⟨k2,rfl⟩:=LY ae eb
   cases jk with
   | none=>obtain rfl:=Pn rfl;simp [Instr.sliceBounds,HF hm,HF aM]
   | some jk=>simp only [iB] at aA;obtain ⟨k3,rfl⟩:=LY aA jk;simp [Instr.sliceBounds,HF hm,HF aF,HF aM]
theorem aaE {ρ:Ren} {i b cm o len cap sz l U m:Nat} (hi:ρ.ren i=some (b,cm)) (aM:len≤kx cm cap) {v:V} (h:Dz i o len cap sz l U m=some v) :
  ∃ jf,(m<cN∧cap<cN→jf=m)∧(cN≤cap→m=cap∧jf=kx cm cap)∧l≤U∧U≤jf∧jf≤kx cm cap ∧
   a1 ρ v (.slice (if jf=l then some ⟨b,o,none⟩ else some (Addr.add ⟨b,o,none⟩ (l * sz))) (U - l) (jf - l)):=by
 unfold Dz at h
 split at h
 ·rename_i aF
  split at h
  ·rename_i av
   obtain rfl:_=v:=by simpa using h
   refine ⟨m,fun _=>rfl,fun h=>by omega,av.1,av.2.1,by simp [kx,aF,av.2.2],?_⟩
   have key:a1 ρ (.bp i (if m=l then o else o+l * sz) (U - l) (m - l)) (.slice (some ⟨b,if m=l then o else o+l * sz,none⟩) (U - l) (kx cm (m - l))) :=
    .bp hi _ _ _ (by simp [kx,show m - l<cN by omega];omega)
   simp only [kx,show m - l<cN by omega,if_true] at key
   by_cases hJ:m=l
   ·simpa [hJ] using key
   ·simpa [hJ,Addr.add_mid] using key
  ·cases h
 ·rename_i aF
  split at h
  ·rename_i av
   refine ⟨kx cm cap,fun h=>by omega,fun _=>⟨av.1,rfl⟩,av.2.1,by omega,Nat.le_refl _,?_⟩
   split at h
   case isFalse hll=>
    obtain rfl:_=v:=by simpa using h
    rw [show U - l=0 by omega]
    refine .jE _ _ fun aG=>?_
    split at aG<;>cases aG
   rename_i hll
   obtain rfl:_=v:=by simpa using h
   have ar:kx cm (cap+l)=kx cm cap - l:=by simp [kx,aF,show ¬cap+l<cN by omega];omega
   have key:a1 ρ (.bp i (o+l * sz) (U - l) (cap+l)) (.slice (some ⟨b,o+l * sz,none⟩) (U - l) (kx cm (cap+l))) :=
    .bp hi _ _ _ (by rw [ar];omega)
   rw [ar] at key
   by_cases hJ:kx cm cap=l
   ·have:l=0:=by omega
    subst this
    simpa [hJ] using key
   ·simpa [hJ,Addr.add_mid] using key
  ·cases h
theorem aiO {ρ:Ren} {b o n sz l U m jf:Nat} {arr:Array Value} {cs:List V} {mx:Bool} {v:V} (av:ρ.frz b=some arr) (bc:o+cs.length≤arr.size)
  (ak:∀ (k:Nat) (v:V) (v':Value),cs[k]?=some v→arr[o+k]?=some v'→a1 ρ v v') (h:HE n sz l U m mx cs=some v) (hm:mx=true→jf=m) (tK:U≤jf) :
  a1 ρ v (.slice (if jf=l then some ⟨b,o,none⟩ else some (Addr.add ⟨b,o,none⟩ (l * sz))) (U - l) (jf - l)):=by
 unfold HE at h
 split at h
 case isFalse=>cases h
 rename_i aF
 split at h
 ·rename_i b4
  obtain rfl:_=v:=by simpa using h
  have:=hm b4.1
  have ar:jf - l=0:=by omega
  have aT:U - l=0:=by omega
  rw [ar,aT]
  exact .z0 _ trivial
 ·obtain rfl:_=v:=by simpa using h
  by_cases hJ:jf=l
  ·have aT:U - l=0:=by omega
   rw [if_pos hJ,aT]
   have:=a1.Hg av bc ak 0 0 (by omega) (Nat.zero_le (jf - l))
   simpa using this
  ·rw [if_neg hJ,Addr.add_mid]
   exact .Hg av bc ak (l * sz) _ (by omega) (by omega)
theorem aiP {n sz l U m:Nat} {mx:Bool} {cs:List V} {v:V} (h:HE n sz l U m mx cs=some v):l≤U∧U≤m∧m≤n:=by
 unfold HE at h
 split at h
 ·rename_i aF;exact ⟨aF.1,aF.2.1,aF.2.2.1⟩
 ·cases h
theorem amI {P:Program} {t:TypeId} {x v:V} {dm:Value} {lo hi mx:Option V} {sT q3 tJ:Option Value} {h:J} (ad:kz P t x lo hi mx=some v) {ρ:Ren} {B:Nat} {bg w:World} (R:bt ρ B bg h w)
  (ak:a1 ρ x dm) (cA:Option.Rel (a1 ρ) lo sT) (eb:Option.Rel (a1 ρ) hi q3) (jk:Option.Rel (a1 ρ) mx tJ):c8 P (Instr.sliceAt t dm sT q3 tJ) ρ w v:=by
 have lY:∀ e dy (b o len cap l U m:Nat),P.underlying t=some (.slice e)→P.info? e=some dy→(Instr.sliceBounds true len cap sT q3 tJ).run P w=.ok (l,U,m) w →
   (Instr.sliceAt t (.slice (some ⟨b,o,none⟩) len cap) sT q3 tJ).run P w=.ok (.slice (if m=l then some ⟨b,o,none⟩ else some (Addr.add ⟨b,o,none⟩ (l * dy.size))) (U - l) (m - l)) w:=fun e dy b o len cap l U m hu af av=>by
  simp only [Instr.sliceAt,Sem.run_bind,run_underlying hu,Result.andThen_ok,Instr.slice,av]
  by_cases hJ:m=l
  ·simp [hJ,sizeOf,typeInfo,af]
  ·simp [hJ,sizeOf,typeInfo,af]
 have QU:∀ e dy (b o n l U m:Nat),P.underlying t=some (.array n e)→P.info? e=some dy→(Instr.sliceBounds false n n sT q3 tJ).run P w=.ok (l,U,m) w →
   (Instr.sliceAt t (.pointer (some ⟨b,o,none⟩)) sT q3 tJ).run P w=.ok (.slice (if m=l then some ⟨b,o,none⟩ else some (Addr.add ⟨b,o,none⟩ (l * dy.size))) (U - l) (m - l)) w:=fun e dy b o n l U m hu af av=>by
  by_cases hJ:m=l
  ·simp [Instr.sliceAt,run_underlying hu,Instr.sureAddr,av,hJ,sizeOf,typeInfo,af]
  ·simp [Instr.sliceAt,run_underlying hu,Instr.sureAddr,av,hJ,sizeOf,typeInfo,af]
 unfold kz at ad
 split at ad
 ·rename_i e i o len cap hu
  cases ak with
  | bp aU o len cap aM=>
  rename_i b cm
  split at ad
  case h_2=>cases ad
  rename_i sz l U m bz h1 ae aA
  cases af:P.info? e with
  | none=>simp [dQ,af] at bz
  | some dy=>
  simp [dQ,af] at bz
  subst bz
  split at ad
  ·rename_i Hh
   split at ad
   case isFalse=>cases ad
   rename_i hJ
   have dk:kx cm len=len:=by simp [kx,hJ.2.2]
   obtain ⟨jf,A4,tK,cw,a2,a3,jg⟩:=aaE aU (by rw [dk];exact Nat.le_refl _) ad
   obtain rfl:=A4 ⟨by omega,hJ.2.2⟩
   refine c8.mk (lY e dy b o len _ l U jf hu af ?_) jg
   obtain ⟨Ct,rfl⟩:=Option.isSome_iff_exists.1 Hh.1
   refine DA cA eb jk h1 ae ⟨cap,aA,by simp⟩ cw a2 (by omega) (fun U=>?_)
   have:=U.2
   cases hi
   ·simp at hJ
   ·simp at this
  rename_i Hh
  split at ad
  case isTrue=>cases ad
  rename_i oE
  obtain ⟨jf,A4,tK,cw,a2,a3,jg⟩:=aaE aU aM ad
  refine c8.mk (lY e dy b o len _ l U jf hu af ?_) jg
  by_cases aF:cap<cN
  ·have fA:kx cm cap=cap:=by simp [kx,aF]
   have Hh:m<cN:=by
    have:=ad
    unfold Dz at this
    simp only [aF,if_true] at this
    split at this
    ·omega
    ·cases this
   obtain rfl:=A4 ⟨Hh,aF⟩
   refine DA cA eb jk h1 ae ⟨cap,aA,fun aG=>?_⟩ cw a2 a3 (fun U=>oE ⟨U.1,.inl U.2⟩)
   subst aG;simp [iB] at aA;omega
  ·obtain ⟨rfl,rfl⟩:=tK (by omega)
   have aaF:mx=none:=by
    cases mx with
    | none=>rfl
    | some _=>exact absurd ⟨rfl,.inr (by omega)⟩ oE
   subst aaF
   exact DA cA eb jk h1 ae ⟨kx cm m,rfl,fun _=>rfl⟩ cw a2 a3 (by simp)
 ·rename_i e n cs hu
  split at ad
  case h_2=>cases ad
  rename_i sz l U m bz h1 ae aA
  split at ad
  case isTrue=>cases ad
  rename_i oE
  cases af:P.info? e with
  | none=>simp [dQ,af] at bz
  | some dy=>
  simp [dQ,af] at bz
  subst bz
  have hle:=aiP ad
  cases ak with
  | ag o _ cap kS aG bc ak=>
   rename_i b arr
   have:∃ jf,(mx.isSome=true→jf=m)∧U≤jf∧(Instr.sliceBounds true n cap sT q3 tJ).run P w=.ok (l,U,jf) w:=by
    cases mx with
    | none=>exact ⟨cap,by simp,by omega,DA cA eb jk h1 ae ⟨cap,rfl,fun _=>rfl⟩ hle.1 (by omega) (Nat.le_refl _) (by simp)⟩
    | some _=>exact ⟨m,fun _=>rfl,hle.2.1,DA cA eb jk h1 ae ⟨n,aA,by simp⟩ hle.1 hle.2.1 (by omega) oE⟩
   obtain ⟨jf,ar,aT,cg⟩:=this
   exact c8.mk (lY e dy b o n cap l U jf hu af cg) (aiO kS bc ak ad ar aT)
  | jE a c a6=>
   have ar:l=0:=by omega
   have aT:U=0:=by omega
   have cg:m=0:=by omega
   subst ar;subst aT;subst cg
   cases HG:mx.isSome with
   | true=>
    have av:(Instr.sliceBounds true 0 c sT q3 tJ).run P w=.ok (0,0,0) w :=
     DA cA eb jk h1 ae ⟨0,aA,fun aG=>by rw [aG] at HG;cases HG⟩ (Nat.le_refl _) (Nat.le_refl _) (Nat.zero_le _) oE
    have eg:(Instr.sliceAt t (.slice a 0 c) sT q3 tJ).run P w=.ok (.slice a 0 0) w:=by
     cases a with
     | none=>
      obtain rfl:=a6 rfl
      simp [Instr.sliceAt,run_underlying hu,Instr.slice,av,sizeOf,typeInfo,af]
     | some a=>simp [Instr.sliceAt,run_underlying hu,Instr.slice,av,sizeOf,typeInfo,af]
    refine c8.mk eg ?_
    unfold HE at ad
    simp [HG] at ad
    obtain rfl:_=v:=by simpa using ad
    exact .z0 a trivial
   | false=>
    have aiQ:mx=none:=by cases mx<;>simp at HG⊢
    subst aiQ
    have av:(Instr.sliceBounds true 0 c sT q3 tJ).run P w=.ok (0,0,c) w :=
     DA cA eb jk h1 ae ⟨c,rfl,fun _=>rfl⟩ (Nat.le_refl _) (Nat.zero_le _) (Nat.le_refl _) oE
    have eg:(Instr.sliceAt t (.slice a 0 c) sT q3 tJ).run P w=.ok (.slice a 0 c) w:=by
     cases a with
     | none=>
      obtain rfl:=a6 rfl
      simp [Instr.sliceAt,run_underlying hu,Instr.slice,av,sizeOf,typeInfo,af]
     | some a=>
      by_cases sd:c=0
      ·subst sd;simp [Instr.sliceAt,run_underlying hu,Instr.slice,av,sizeOf,typeInfo,af]
      ·simp [Instr.sliceAt,run_underlying hu,Instr.slice,av,sizeOf,typeInfo,af,Addr.add,Ne.symm sd]
    refine c8.mk eg ?_
    unfold HE at ad
    simp at ad
    obtain rfl:_=v:=by simpa using ad
    exact .jE a c a6
 ·rename_i e hu
  cases ak
  split at ad
  case h_2=>cases ad
  rename_i sz bz h1 ae aA
  split at ad
  case isTrue=>cases ad
  rename_i oE
  obtain rfl:_=v:=by simpa using ad
  refine c8.mk ?_ .ah
  have av:(Instr.sliceBounds true 0 0 sT q3 tJ).run P w=.ok (0,0,0) w :=
   DA cA eb jk h1 ae ⟨0,aA,fun _=>rfl⟩ (Nat.le_refl _) (Nat.le_refl _) (Nat.le_refl _) oE
  cases af:P.info? e with
  | none=>simp [dQ,af] at bz
  | some dy=>simp [Instr.sliceAt,run_underlying hu,Instr.slice,av,sizeOf,typeInfo,af]
 ·rename_i e hu
  cases ak with
  | z0 a a6=>
  split at ad
  case h_2=>cases ad
  rename_i sz bz h1 ae aA
  split at ad
  case isTrue=>cases ad
  rename_i oE
  obtain rfl:_=v:=by simpa using ad
  refine c8.mk ?_ (.z0 a trivial)
  have av:(Instr.sliceBounds true 0 0 sT q3 tJ).run P w=.ok (0,0,0) w :=
   DA cA eb jk h1 ae ⟨0,aA,fun _=>rfl⟩ (Nat.le_refl _) (Nat.le_refl _) (Nat.le_refl _) oE
  cases af:P.info? e with
  | none=>simp [dQ,af] at bz
  | some dy=>cases a<;>simp [Instr.sliceAt,run_underlying hu,Instr.slice,av,sizeOf,typeInfo,af]
 ·rename_i n e i o hu
  cases ak with
  | ptr aU o=>
  rename_i b cm
  split at ad
  case h_2=>cases ad
  rename_i sz l U m bz h1 ae aA
  split at ad
  case isTrue=>cases ad
  rename_i oE
  split at ad
  case isFalse=>cases ad
  rename_i QV
  cases af:P.info? e with
  | none=>simp [dQ,af] at bz
  | some dy=>
  simp [dQ,af] at bz
  subst bz
  have fA:kx cm n=n:=by simp [kx,QV]
  obtain ⟨jf,A4,tK,cw,a2,a3,jg⟩:=aaE aU (by rw [fA];exact Nat.le_refl _) ad
  rw [fA] at a3
  have Hh:m<cN:=by
   have:=ad
   unfold Dz at this
   simp only [QV,if_true] at this
   split at this
   ·omega
   ·cases this
  obtain rfl:=A4 ⟨Hh,QV⟩
  exact c8.mk (QU e dy b o n l U jf hu af (DA cA eb jk h1 ae ⟨n,aA,fun aG=>by subst aG;simp [iB] at aA;omega⟩ cw a2 a3 oE)) jg
 ·rename_i n e cs hu
  cases ak with
  | «at» o kS bc ak=>
  rename_i b arr
  split at ad
  case h_2=>cases ad
  rename_i sz l U m bz h1 ae aA
  split at ad
  case isTrue=>cases ad
  rename_i oE
  cases af:P.info? e with
  | none=>simp [dQ,af] at bz
  | some dy=>
  simp [dQ,af] at bz
  subst bz
  have hle:=aiP ad
  refine c8.mk (QU e dy b o n l U m hu af (DA cA eb jk h1 ae ⟨n,aA,fun aG=>by subst aG;simp [iB] at aA;omega⟩ hle.1 hle.2.1 hle.2.2 oE)) (aiO kS bc ak ad (fun _=>rfl) hle.2.1)
 ·rename_i s hu
  cases ak
  split at ad
  case h_2=>cases ad
  rename_i l U h1 ae
  split at ad
  case isFalse=>cases ad
  rename_i av
  obtain rfl:_=v:=by simpa using ad
  refine c8.mk ?_ (.string _)
  cases jk
  have av:(Instr.sliceBounds false s.size s.size sT q3 none).run P w=.ok (l,U,s.size) w :=
   DA cA eb .none h1 ae ⟨s.size,rfl,fun _=>rfl⟩ av.1 av.2 (Nat.le_refl _) (by simp)
  simp [Instr.sliceAt,run_underlying hu,Instr.slice,av]
 ·cases ad
def made {α:Type} (z:List α) (n:Nat):List α:=(List.replicate n z).flatten
theorem PQ {α:Type} (z:List α) (n:Nat):made z (n+1)=made z n++z:=by simp [made,List.replicate_succ']
theorem A5 {α:Type} (z:List α) (n:Nat):(made z n).length=n * z.length:=by
 induction n with
 | zero=>simp [made]
 | succ n ih=>rw [PQ,List.length_append,ih,Nat.succ_mul]
theorem aaG {α:Type} (z:α) (n:Nat):made [z] n=List.replicate n z:=by
 induction n with
 | zero=>rfl
 | succ n ih=>rw [PQ,ih];simp [List.replicate_succ']
theorem X4 (z:Array Value) (n:Nat):(madeCells z (n * z.size)).toList=made z.toList n:=by
 have e:∀ k,(madeCells z k).toList=(List.range k).map (fun i=>z[i % z.size]!):=fun k=>by simp [madeCells]
 rw [e]
 induction n with
 | zero=>simp [made]
 | succ n ih=>
  rw [Nat.succ_mul,List.range_add,List.map_append,ih,PQ]
  congr 1
  apply List.ext_getElem
  ·simp
  ·intro k h1 ae
   have hk:k<z.size:=by simpa using ae
   simp [Nat.mod_eq_of_lt hk,hk]
theorem bx.made {ρ:Ren} {z:List V} {GV:List Value} (h:bx ρ z GV) (n:Nat):bx ρ (made z n) (made GV n):=by
 induction n with
 | zero=>simp [Ab.made,bx.nil]
 | succ n ih=>rw [PQ,PQ];exact ih.append h
def GW (P:Program) (t:TypeId) (l c:V) (h:J):Option (V×J) :=
 match A0 P t,Cs l,Cs c with
 | some e,some l,some c=>
  match iA P e,PJ P e with
  | some zs,some an=>if some zs.length=dQ P e∧l≤c∧an * c≤140737488355328∧c≤140737488355328 then
    some (.bp h.n 0 l c,h.push (.cells (made zs c) e none)) else none
  | _,_=>none
 | _,_,_=>none
theorem amJ {P:Program} {t:TypeId} {l c v:V} {ck lL:Value} {h h':J} (ad:GW P t l c h=some (v,h')) {ρ:Ren} {B:Nat} {bg w:World} (R:bt ρ B bg h w)
  (aM:a1 ρ l ck) (aF:a1 ρ c lL):Yields P (Instr.makeSlice t ck lL) ρ B bg w v h':=by
 unfold GW at ad
 split at ad
 case h_2=>cases ad
 rename_i e aiR xX he h1 ae
 split at ad
 case h_2=>cases ad
 rename_i zs an iP lz
 split at ad
 case isFalse=>cases ad
 rename_i nq
 obtain ⟨bd,c3,dU,c5⟩:=nq
 simp at ad
 obtain ⟨rfl,rfl⟩:=ad
 obtain ⟨z,b4,jg⟩:=PN iP
 obtain ⟨bo,rfl⟩:=LY h1 aM
 obtain ⟨k2,rfl⟩:=LY ae aF
 have hu:P.underlying t=some (.slice e):=by
  unfold A0 at he
  split at he
  ·rename_i hu;rw [hu];simpa using he
  ·cases he
 cases af:P.info? e with
 | none=>simp [qH,af] at b4
 | some dy=>
  simp [qH,af] at b4
  simp [PJ,af] at lz
  simp [dQ,af] at bd
  have A6:=(jg ρ).1
  simp at A6
  have aU:=run_make (P:=P) w t e dy z hu af b4 bo k2 (aiR:Int) (xX:Int) (by omega) (by omega) (by rw [lz];omega) (by omega)
  have X5:(madeCells z.cells (xX * dy.size)).toList=made z.cells.toList xX:=by rw [←bd,A6];exact X4 _ _
  have sU:madeCells z.cells (xX * dy.size)=(made z.cells.toList xX).toArray:=by rw [←X5]
  simp only [Int.toNat_natCast,sU] at aU
  obtain ⟨ρ',hle,aG,ij⟩:=aaD R e ((jg ρ).made xX) xX
  refine ⟨ρ',_,_,aU,?_,ij,hle⟩
  have se:xX<cN:=by unfold cN;omega
  have:=a1.bp aG 0 aiR xX (by simp [kx,se,c3])
  simpa [kx,se] using this
def iC (P:Program) (sz:Nat) (tx:TypeId) (x:V) (h:J):Option (Nat×List V) :=
 match P.underlying tx,x with
 | some (.slice _),.ah=>some (0,[])
 | some (.slice _),.z0=>some (0,[])
 | some (.slice _),.eT=>some (0,[])
 | some (.slice _),.ag n cs=>if cs.length=n * sz∧cs.all (·.one)=true then some (n,cs) else none
 | some (.slice _),.bp i o n _=>
  match h.get i with
  | .cells c _ _=>if o+n * sz≤c.length∧((c.drop o).take (n * sz)).all (·.one)=true then some (n,(c.drop o).take (n * sz)) else none
  | _=>none
 | some .string,.string s=>if sz=1 then some (s.size,(byteCells s).map kR) else none
 | _,_=>none
theorem amK (s:ByteArray):(byteCells s).map kR=s.data.toList.map fun b=>V.int .u8 b.toNat:=by simp [byteCells,kR]
theorem aaH (ρ:Ren) (s:ByteArray):bx ρ ((byteCells s).map kR) (byteCells s):=bx.of_map (Jv ρ) _
theorem amL {P:Program} {sz:Nat} {tx:TypeId} {x:V} {dm:Value} {h:J} {n:Nat} {news:List V} (ad:iC P sz tx x h=some (n,news)) {ρ:Ren} {B:Nat} {bg w:World} (R:bt ρ B bg h w)
  (ak:a1 ρ x dm):∃ hr,Src P sz tx dm n hr w∧bx ρ news hr∧news.length=n * sz∧news.all (·.one)=true:=by
 unfold iC at ad
 split at ad
 ·rename_i e hu
  cases ak
  simp at ad
  obtain ⟨rfl,rfl⟩:=ad
  exact ⟨[],Src.ofNil w hu 0,.nil ρ,by simp,rfl⟩
 ·rename_i e hu
  simp at ad
  obtain ⟨rfl,rfl⟩:=ad
  cases ak with
  | z0 a a6=>
   cases a with
   | none=>exact ⟨[],Src.ofNil w hu 0,.nil ρ,by simp,rfl⟩
   | some a=>exact ⟨[],Src.ofSlice w hu a 0 0 [] (by simp) (by simp) (by simp),.nil ρ,by simp,rfl⟩
 ·rename_i e hu
  simp at ad
  obtain ⟨rfl,rfl⟩:=ad
  cases ak with
  | eT a c=>exact ⟨[],Src.ofSlice w hu a 0 c [] (by simp) (by simp) (by simp),.nil ρ,by simp,rfl⟩
 ·rename_i e m cs hu
  split at ad
  case isFalse=>cases ad
  rename_i aF
  simp at ad
  obtain ⟨rfl,rfl⟩:=ad
  rcases ak.pX with ⟨rfl,rfl,a,wV,a6,rfl⟩ | ⟨b,o,cap,arr,av,aG,bc,ic,rfl⟩
  ·cases a with
   | none=>
    obtain rfl:=a6 rfl
    exact ⟨[],Src.ofNil w hu 0,.nil ρ,by simp,rfl⟩
   | some a=>exact ⟨[],Src.ofSlice w hu a 0 wV [] (by simp) (by simp) (by simp),.nil ρ,by simp,rfl⟩
  ·have gj:a1 ρ (.at cs) (.pointer (some ⟨b,o,none⟩)):=.at o av bc ic
   obtain ⟨b1,e4,he,dZ⟩:=ii R.heap gj (cs:=cs) rfl
   simp at he
   obtain ⟨rfl,rfl⟩:=he
   obtain ⟨vs,h1,ae,aA⟩:=dZ cs.length (Nat.le_refl _)
   rw [List.take_length] at ae
   exact ⟨vs,Src.ofSlice w hu ⟨b,o,none⟩ m cap vs (by rw [aA,aF.1]) (fun j u hu=>by rw [Addr.add_mid];exact h1 j u hu) (ae.one aF.2),ae,aF.1,aF.2⟩
 ·rename_i e i o ef cap hu
  obtain ⟨b,cm,hi,aM,rfl⟩:=ak.kT
  split at ad
  case h_2=>cases ad
  rename_i c aT ex aB
  split at ad
  case isFalse=>cases ad
  rename_i aF
  simp at ad
  obtain ⟨rfl,rfl⟩:=ad
  have n1:a1 ρ (.ptr i o) (.pointer (some ⟨b,o,none⟩)):=.ptr hi o
  obtain ⟨b1,e4,he,dZ⟩:=ii R.heap n1 (cs:=c.drop o) (by simp [jp,aB];omega)
  simp at he
  obtain ⟨rfl,rfl⟩:=he
  obtain ⟨vs,h1,ae,aA⟩:=dZ (ef * sz) (by simp;omega)
  exact ⟨vs,Src.ofSlice w hu ⟨b,o,none⟩ ef (kx cm cap) vs aA (fun j u hu=>by rw [Addr.add_mid];exact h1 j u hu) (ae.one aF.2),ae,by simp;omega,aF.2⟩
 ·rename_i s hu
  cases ak
  split at ad
  case isFalse=>cases ad
  rename_i h1
  subst h1
  simp at ad
  obtain ⟨rfl,rfl⟩:=ad
  have fT:=Src.ofString w hu s
  refine ⟨byteCells s,fT,aaH ρ s,by simp [fT.newsLen],?_⟩
  rw [amK,List.all_eq_true]
  intro v aN
  obtain ⟨b,_,rfl⟩:=List.mem_map.1 aN
  rfl
 ·cases ad
theorem bt.move {ρ:Ren} {B:Nat} {bg:World} {h:J} {w w':World} (R:bt ρ B bg h w) {i b cm:Nat} (hi:ρ.ren i=some (b,cm)) (Dk:h.get i≠.dead)
  {c:List V} {arr:Array Value} {e:TypeId} {ex:Option Nat}
  (hold:∀ k,k≠b→w'.heap[k]?=w.heap[k]?) (sn:w'.heap[b]?=some (.cells arr e (0,0))) (bz:w.heap.size≤w'.heap.size)
  (av:mm B w w') (aF:c.length≤arr.size) (aM:bx ρ c (arr.toList.take c.length)) (ak:LW ex cm arr.size c.length) :
  ∃ ρ':Ren,ρ.le ρ'∧ρ'.ren h.n=some (b,cm)∧bt ρ' B bg ((h.set i .dead).push (.cells c e ex)) w':=by
 have hle:=Ren.xV (R.heap.qb _ (Nat.le_refl _)) b cm
 have bS:i<h.n:=R.heap.lt hi
 obtain ⟨r5,Po,Dl,lz,_,kS,aiS⟩:=R.heap.live Dk
 rw [Dl] at hi;simp at hi
 obtain ⟨rfl,rfl⟩:=hi
 refine ⟨_,hle,Ren.sm,⟨⟨fun j aX=>?_,fun j k c2 bd bH aX hk h1 ae=>?_,fun j=>?_,fun k a hk=>?_,fun g cs aB=>?_,Nat.le_trans R.heap.base bz⟩,R.below.trans av⟩⟩
 ·simp only [J.push,J.set] at aX
  simp [Ren.add,show j≠h.n by omega,R.heap.qb j (by omega)]
 ·simp only [J.push,J.set] at aX hk
  simp only [Ren.add] at h1 ae
  by_cases jS:j=h.n<;>by_cases qd:k=h.n
  ·omega
  ·simp [jS] at h1;simp [qd] at ae hk
   obtain ⟨rfl,rfl⟩:=h1
   have:=R.heap.inj i k r5 Po bH Dk hk.2 Dl ae
   exact absurd this.symm hk.1
  ·simp [qd] at ae;simp only [jS,if_false] at h1 aX
   obtain ⟨rfl,rfl⟩:=ae
   by_cases dJ:j=i
   ·simp [dJ] at aX
   ·simp only [dJ,if_false] at aX
    have:=R.heap.inj j i r5 bd Po aX Dk h1 Dl
    exact absurd this dJ
  ·simp only [jS,if_false] at h1 aX;simp [qd] at ae hk
   by_cases dJ:j=i
   ·simp [dJ] at aX
   ·simp only [dJ,if_false] at aX
    exact R.heap.inj j k c2 bd bH aX hk.2 h1 ae
 ·by_cases jS:j=h.n
  ·subst jS
   simp only [J.push,J.set,if_true]
   exact ⟨r5,Po,arr,Ren.sm,kS,aiS,sn,aF,aM.mono hle,ak⟩
  ·simp only [J.push,J.set,jS,if_false]
   by_cases dJ:j=i
   ·subst dJ;simp only [if_true];trivial
   ·simp only [dJ,if_false]
    by_cases bb:h.get j=.dead
    ·rw [bb];trivial
    ·refine (R.heap.obj j).aj hle fun b1 bd aU=>⟨hold b1 ?_,fun h=>h⟩
     intro Di
     subst Di
     exact dJ (R.heap.inj i j b1 Po bd Dk bb Dl aU).symm
 ·obtain ⟨fo,ky,hw⟩:=R.heap.frz k a hk
  have:k≠r5:=by intro U;subst U;simp only [Ren.add] at hk;rw [kS] at hk;cases hk
  exact ⟨fo,ky,(hold k this).trans hw⟩
 ·obtain ⟨nt,dp,ly⟩:=R.heap.glob g cs aB
  exact ⟨nt,dp,ly.mono hle⟩
def lim:Nat:=140737488355328
def aaI (P:Program) (tx e:TypeId) (zs:List V) (sz an:Nat) (s x:V) (h:J):Option (V×J) :=
 match P.underlying tx,x,s with
 | some (.int _),.int _ n,.bp i o len cap=>
  match h.get i with
  | .cells c _ _=>
   if 0<n∧cap<cN∧cap<len+n.toNat∧(len+n.toNat) * an≤lim∧len+n.toNat≤lim∧o+len * sz≤c.length∧0<sz then
    some (.bp h.n 0 (len+n.toNat) cN,h.push (.cells ((c.drop o).take (len * sz)++made zs n.toNat) e (some sz)))
   else none
  | _=>none
 | _,_,_=>none
def n2 (P:Program) (t tx:TypeId) (s x:V) (h:J):Option (V×J) :=
 match A0 P t with
 | none=>none
 | some e=>
 match iA P e,dQ P e,PJ P e with
 | some zs,some sz,some an=>
  if zs.length=sz then
   match iC P sz tx x h with
   | none=>aaI P tx e zs sz an s x h
   | some (n,news)=>
    match s with
    | .ah=>
     if n=0 then some (.ah,h)
     else if n * an≤lim∧n≤lim then some (.bp h.n 0 n cN,h.push (.cells news e (some sz))) else none
    | .z0=>
     if n=0 then some (.z0,h)
     else if n * an≤lim∧n≤lim then some (.bp h.n 0 n cN,h.push (.cells news e (some sz))) else none
    | .bp i o len cap=>
     if n=0 then some (.bp i o len cap,h)
     else if (len+n) * an≤lim∧len+n≤lim then
      match h.get i with
      | .cells c aT ex=>
       if cap<cN then
        if len+n≤cap then
         if o+(len+n) * sz≤c.length then some (.bp i o (len+n) cap,h.set i (.cells (lay c (o+len * sz) news) aT ex)) else none
        else if o+len * sz≤c.length then some (.bp h.n 0 (len+n) cN,h.push (.cells ((c.drop o).take (len * sz)++news) e (some sz))) else none
       else if o=0∧cap=cN∧ex=some sz∧len * sz≤c.length∧aT=e then
         some (.bp h.n 0 (len+n) cN,(h.set i .dead).push (.cells (c.take (len * sz)++news) e (some sz)))
        else none
      | _=>none
     else none
    | _=>none
  else none
 | _,_,_=>none
theorem aaJ {P:Program} (w w':World) (t tx ty e:TypeId) (i:TypeInfo) (bw:P.underlying t=some (.slice e)) (hi:P.info? e=some i) (b off sLen sCap:Nat) (x:Value) (n:Nat) (news:List Value)
  (ad:Src P i.size tx x n news w) (gI:sLen+n≤sCap) (cR:(storeCells ⟨b,off+sLen * i.size,none⟩ news).run P w=.ok () w') :
  (Builtin.append_ #[t,tx] ty #[.slice (some ⟨b,off,none⟩) sLen sCap,x]).run P w=.ok (.slice (some ⟨b,off,none⟩) (sLen+n) sCap) w':=by
 rcases ad.kind with ⟨fo,hk⟩ | hk<;>simp [Builtin.append_,run_underlying bw,run_underlying hk,sizeOf,typeInfo,hi,ad.len,gI,ad.cells,Addr.add_lit,cR]
theorem qr {P:Program} (w:World) (t tx ty e:TypeId) (i:TypeInfo) (bw:P.underlying t=some (.slice e)) (hi:P.info? e=some i) (x:Value) (news:List Value)
  (ad:Src P i.size tx x 0 news w) :
  (Builtin.append_ #[t,tx] ty #[.slice none 0 0,x]).run P w=.ok (.slice none 0 0) w:=by
 have aM:=ad.newsLen
 simp at aM
 subst aM
 rcases ad.kind with ⟨fo,hk⟩ | hk<;>simp [Builtin.append_,run_underlying bw,run_underlying hk,sizeOf,typeInfo,hi,ad.len,ad.cells]
theorem X6 {P:Program} {t tx ty e:TypeId} {dy:TypeInfo} {z:Value} (hu:P.underlying t=some (.slice e)) (af:P.info? e=some dy) (b4:dy.zero=some z) (iP:z.cells.size=dy.size)
  {h:J} {ρ:Ren} {B:Nat} {bg w:World} (R:bt ρ B bg h w) {base:Option Addr} {sLen sCap n:Nat} {olds news:List V} {olds' hr:List Value} {dm:Value}
  (hold:(Builtin.firstCells dy.size sLen (.slice base sLen sCap)).run P w.drew=.ok olds'.toArray w.drew) (D6:bx ρ olds olds') (uc:olds.length=sLen * dy.size)
  (fT:Src P dy.size tx dm n hr w) (pc:bx ρ news hr) (aB:sCap<sLen+n) (h1:(sLen+n) * dy.bytes≤lim) (ae:sLen+n≤lim) :
  Yields P (Builtin.append_ #[t,tx] ty #[.slice base sLen sCap,dm]) ρ B bg w (.bp h.n 0 (sLen+n) cN) (h.push (.cells (olds++news) e (some dy.size))):=by
 unfold lim at h1 ae
 have hf:Builtin.nextslicecap (sLen+n) sCap * dy.bytes≤281474976710656:=by
  have:=nextslicecap_le aB
  calc _≤(2 * (sLen+n)) * dy.bytes:=Nat.mul_le_mul_right _ this
   _=2 * ((sLen+n) * dy.bytes):=by rw [Nat.mul_assoc]
   _≤_:=by omega
 have eg:=run_append_grow_src w t tx ty e dy z hu af b4 base sLen sCap olds' hold dm n hr fT aB (by omega) hf
 have rh:=grownCap_ge w (sLen+n) sCap e
 have hlen:(olds'++hr).length=(sLen+n) * dy.size:=by
  rw [List.length_append,←D6.1,uc,fT.newsLen,Nat.add_mul]
 obtain ⟨ρ',hle,aG,ij⟩:=R.drew.push (c:=olds++news) (arr:=(olds'++hr).toArray++Builtin.zeroCells z.cells (grownCap w (sLen+n) sCap e - (sLen+n))) (e:=e) (ex:=some dy.size)
  (w':=w.drew.alloc (.cells ((olds'++hr).toArray++Builtin.zeroCells z.cells (grownCap w (sLen+n) sCap e - (sLen+n))) e)) (grownCap w (sLen+n) sCap e)
  (by simp) (fun k hk=>Below.heap_alloc w.drew _ k hk) (heap_alloc_new w.drew _) ((mm.refl _ _).alloc R.drew.heap.base _)
  (by rw [(D6.append pc).1];simp)
  (by
   rw [(D6.append pc).1]
   have ar:((olds'++hr).toArray++Builtin.zeroCells z.cells (grownCap w (sLen+n) sCap e - (sLen+n))).toList.take (olds'++hr).length=olds'++hr:=by
    simp only [Array.toList_append]
    exact List.take_left
   rw [ar]
   exact D6.append pc)
  (by
   refine ⟨?_,?_⟩
   ·rw [Array.size_append,size_zeroCells,iP,List.size_toArray,hlen,←Nat.add_mul]
    congr 1
    omega
   ·have:=grownCap_le_maxLen w (sLen+n) sCap e (by simp only [maxLen];omega)
    simp only [maxLen] at this
    omega)
 refine ⟨ρ',_,_,eg,?_,ij,hle⟩
 have:=a1.bp (ρ:=ρ') aG 0 (sLen+n) cN (by simp [kx,rh])
 simpa [kx] using this
theorem amM {P:Program} {t tn ty e:TypeId} {dy:TypeInfo} {z:Value} {kq kn:IntKind} (hu:P.underlying t=some (.slice e)) (aG:P.underlying tn=some (.int kn)) (af:P.info? e=some dy) (b4:dy.zero=some z) (iP:z.cells.size=dy.size)
  {h:J} {ρ:Ren} {B:Nat} {bg w:World} (R:bt ρ B bg h w) {base:Option Addr} {sLen sCap n:Nat} {olds zs:List V} {olds':List Value}
  (hold:(Builtin.firstCells dy.size sLen (.slice base sLen sCap)).run P w.drew=.ok olds'.toArray w.drew) (D6:bx ρ olds olds') (uc:olds.length=sLen * dy.size)
  (aiT:bx ρ zs z.cells.toList) (h0:0<n) (ad:0<dy.size) (aB:sCap<sLen+n) (h1:(sLen+n) * dy.bytes≤lim) (ae:sLen+n≤lim) :
  Yields P (Builtin.append_ #[t,tn] ty #[.slice base sLen sCap,.int kq n]) ρ B bg w (.bp h.n 0 (sLen+n) cN) (h.push (.cells (olds++made zs n) e (some dy.size))):=by
 unfold lim at h1 ae
 have hf:Builtin.nextslicecap (sLen+n) sCap * dy.bytes≤281474976710656:=by
  have:=nextslicecap_le aB
  calc _≤(2 * (sLen+n)) * dy.bytes:=Nat.mul_le_mul_right _ this
   _=2 * ((sLen+n) * dy.bytes):=by rw [Nat.mul_assoc]
   _≤_:=by omega
 have aiU:n * dy.bytes≤281474976710656:=Nat.le_trans (Nat.mul_le_mul_right _ (Nat.le_add_left n sLen)) (by omega)
 have eg:=Lib.run_append_grow_zeros w t tn ty e dy z kq kn hu aG af b4 base sLen sCap olds' hold n h0 ad aB (by omega) aiU hf
 have rh:=grownCap_ge w (sLen+n) sCap e
 have A6:(Builtin.zeroCells z.cells n).toList=made z.cells.toList n:=X4 z.cells n
 have pc:bx ρ (made zs n) (Builtin.zeroCells z.cells n).toList:=by rw [A6];exact aiT.made n
 have LZ:=D6.append pc
 have hlen:(olds'++(Builtin.zeroCells z.cells n).toList).length=(sLen+n) * dy.size:=by
  rw [List.length_append,←D6.1,uc,A6,A5,Array.length_toList,iP,Nat.add_mul]
 obtain ⟨ρ',hle,qe,ij⟩:=R.drew.push (c:=olds++made zs n) (arr:=olds'.toArray++Builtin.zeroCells z.cells n++Builtin.zeroCells z.cells (grownCap w (sLen+n) sCap e - (sLen+n))) (e:=e) (ex:=some dy.size)
  (w':=w.drew.alloc (.cells (olds'.toArray++Builtin.zeroCells z.cells n++Builtin.zeroCells z.cells (grownCap w (sLen+n) sCap e - (sLen+n))) e)) (grownCap w (sLen+n) sCap e)
  (by simp) (fun k hk=>Below.heap_alloc w.drew _ k hk) (heap_alloc_new w.drew _) ((mm.refl _ _).alloc R.drew.heap.base _)
  (by rw [LZ.1];simp)
  (by
   rw [LZ.1]
   have ar:(olds'.toArray++Builtin.zeroCells z.cells n++Builtin.zeroCells z.cells (grownCap w (sLen+n) sCap e - (sLen+n))).toList.take (olds'++(Builtin.zeroCells z.cells n).toList).length=olds'++(Builtin.zeroCells z.cells n).toList:=by
    simp only [Array.toList_append]
    exact List.take_left
   rw [ar]
   exact LZ)
  (by
   refine ⟨?_,?_⟩
   ·have q:(olds'.toArray++Builtin.zeroCells z.cells n).size=(sLen+n) * dy.size:=by rw [←hlen];simp
    rw [Array.size_append,size_zeroCells,iP,q,←Nat.add_mul]
    congr 1
    omega
   ·have:=grownCap_le_maxLen w (sLen+n) sCap e (by simp only [maxLen];omega)
    simp only [maxLen] at this
    omega)
 refine ⟨ρ',_,_,eg,?_,ij,hle⟩
 have:=a1.bp (ρ:=ρ') qe 0 (sLen+n) cN (by simp [kx,rh])
 simpa [kx] using this
theorem amN {P:Program} {t tx ty:TypeId} {s x v:V} {b7 dm:Value} {h h':J} (ad:n2 P t tx s x h=some (v,h')) {ρ:Ren} {B:Nat} {bg w:World} (R:bt ρ B bg h w)
  (aU:a1 ρ s b7) (ak:a1 ρ x dm):Yields P (Builtin.append_ #[t,tx] ty #[b7,dm]) ρ B bg w v h':=by
 unfold n2 at ad
 split at ad
 case h_1=>cases ad
 rename_i e he
 have hu:P.underlying t=some (.slice e):=by
  unfold A0 at he
  split at he
  ·rename_i hu;rw [hu];simpa using he
  ·cases he
 split at ad
 case h_2=>cases ad
 rename_i zs sz an A7 bz lz
 split at ad
 case isFalse=>cases ad
 rename_i iP
 obtain ⟨z,b4,Pp⟩:=PN A7
 have iP:z.cells.size=sz:=by have:=(Pp ρ).1;simp at this;omega
 cases af:P.info? e with
 | none=>simp [qH,af] at b4
 | some dy=>
 simp [qH,af] at b4
 simp [PJ,af] at lz
 simp [dQ,af] at bz
 subst bz
 subst lz
 split at ad
 case h_1=>
  unfold aaI at ad
  split at ad
  case h_2=>cases ad
  rename_i n i o len cap tL gz
  split at ad
  case h_2=>cases ad
  rename_i c aT ex aB
  split at ad
  case isFalse=>cases ad
  rename_i av
  obtain ⟨Hi,se,dk,hs,kU,hf,QW⟩:=av
  simp at ad
  obtain ⟨rfl,rfl⟩:=ad
  obtain ⟨b,cm,hi,aM,rfl⟩:=aU.kT
  cases ak
  have fA:kx cm cap=cap:=by simp [kx,se]
  rw [fA] at aM⊢
  have n1:a1 ρ (.ptr i o) (.pointer (some ⟨b,o,none⟩)):=.ptr hi o
  obtain ⟨b1,e4,oF,dZ⟩:=ii R.drew.heap n1 (cs:=c.drop o) (by simp [jp,aB];omega)
  simp at oF
  obtain ⟨rfl,rfl⟩:=oF
  obtain ⟨olds',A8,oC,Jy⟩:=dZ (len * dy.size) (by simp;omega)
  have QX:n=((n.toNat:Nat):Int):=by omega
  rw [QX]
  exact amM hu tL af b4 iP R (run_firstCells_some (P:=P) w.drew dy.size len ⟨b,o,none⟩ len cap olds' Jy (fun j v aN=>by rw [Addr.add_mid];simpa using A8 j v aN)) oC (by rw [oC.1,Jy]) (Pp ρ) (by omega) QW dk hs kU
 rename_i n news eh
 obtain ⟨hr,fT,pc,sV,b3⟩:=amL eh R ak
 split at ad
 ·cases aU
  split at ad
  ·rename_i h0
   subst h0
   simp at ad
   obtain ⟨rfl,rfl⟩:=ad
   exact .same R (qr w t tx ty e dy hu af dm hr fT) .ah
  ·rename_i h0
   split at ad
   case isFalse=>cases ad
   rename_i av
   simp at ad
   obtain ⟨rfl,rfl⟩:=ad
   have:=X6 (ty:=ty) hu af b4 iP R (base:=none) (sLen:=0) (sCap:=0) (olds:=[]) (olds':=[]) (by simpa using run_firstCells_none (P:=P) w.drew dy.size 0 0 0) (.nil ρ) (by simp) fT pc (by omega) (by simpa using av.1) (by simpa using av.2)
   simpa using this
 ·cases aU with
  | z0 a a6=>
  split at ad
  ·rename_i h0
   subst h0
   simp at ad
   obtain ⟨rfl,rfl⟩:=ad
   cases a with
   | none=>exact .same R (qr w t tx ty e dy hu af dm hr fT) (.z0 none (by simp))
   | some a=>
    have de:hr=[]:=by have:=fT.newsLen;simpa using this
    subst de
    have:(Builtin.append_ #[t,tx] ty #[.slice (some a) 0 0,dm]).run P w=.ok (.slice (some a) 0 0) w:=by
     rcases fT.kind with ⟨fo,hk⟩ | hk<;>simp [Builtin.append_,run_underlying hu,run_underlying hk,sizeOf,typeInfo,af,fT.len,fT.cells,storeCells]
    exact .same R this (.z0 _ a6)
  ·rename_i h0
   split at ad
   case isFalse=>cases ad
   rename_i av
   simp at ad
   obtain ⟨rfl,rfl⟩:=ad
   have:=X6 (ty:=ty) hu af b4 iP R (base:=a) (sLen:=0) (sCap:=0) (olds:=[]) (olds':=[]) (by
    cases a with
    | none=>simpa using run_firstCells_none (P:=P) w.drew dy.size 0 0 0
    | some a=>simpa using run_firstCells_some (P:=P) w.drew dy.size 0 a 0 0 [] (by simp) (by simp)) (.nil ρ) (by simp) fT pc (by omega) (by simpa using av.1) (by simpa using av.2)
   simpa using this
 ·rename_i i o len cap
  obtain ⟨b,cm,hi,aM,rfl⟩:=aU.kT
  split at ad
  ·rename_i h0
   subst h0
   simp at ad
   obtain ⟨rfl,rfl⟩:=ad
   have de:hr=[]:=by have:=fT.newsLen;simpa using this
   subst de
   refine .same R (v':=.slice (some ⟨b,o,none⟩) len (kx cm cap)) ?_ (.bp hi o len cap aM)
   have:=aaJ (P:=P) w w t tx ty e dy hu af b o len (kx cm cap) dm 0 [] fT (by omega) (by simp [storeCells])
   simpa using this
  ·rename_i h0
   split at ad
   case isFalse=>cases ad
   rename_i av
   split at ad
   case h_2=>cases ad
   rename_i c aT ex aB
   have olds:∀ b0:World,bt ρ B bg h b0→o+len * dy.size≤c.length→∃ olds',b0.rangeAt b o olds'∧bx ρ ((c.drop o).take (len * dy.size)) olds'∧olds'.length=len * dy.size:=fun b0 aaK hf=>by
    have n1:a1 ρ (.ptr i o) (.pointer (some ⟨b,o,none⟩)):=.ptr hi o
    obtain ⟨b1,e4,he,dZ⟩:=ii aaK.heap n1 (cs:=c.drop o) (by simp [jp,aB];omega)
    simp at he
    obtain ⟨rfl,rfl⟩:=he
    exact dZ _ (by simp;omega)
   split at ad
   ·rename_i se
    have fA:kx cm cap=cap:=by simp [kx,se]
    rw [fA]
    rw [fA] at aM
    split at ad
    ·rename_i gI
     split at ad
     case isFalse=>cases ad
     rename_i hf
     simp at ad
     obtain ⟨rfl,rfl⟩:=ad
     obtain ⟨w',cR,ij⟩:=QT (P:=P) aB R hi (o+len * dy.size) pc b3 (by rw [sV];have:=Nat.add_mul len n dy.size;omega)
     have eg:=aaJ w w' t tx ty e dy hu af b o len cap dm n hr fT gI cR
     refine ⟨ρ,_,_,eg,?_,ij,Ren.le.refl ρ⟩
     have:=a1.bp hi o (len+n) cap (by rw [fA];exact gI)
     rwa [fA] at this
    ·rename_i gI
     split at ad
     case isFalse=>cases ad
     rename_i hf
     simp at ad
     obtain ⟨rfl,rfl⟩:=ad
     obtain ⟨olds',v8,q4,A9⟩:=olds w R hf
     exact X6 hu af b4 iP R (run_firstCells_some (P:=P) w.drew dy.size len ⟨b,o,none⟩ len cap olds' A9 (fun j v aN=>by rw [Addr.add_mid];simpa using v8 j v aN)) q4 (by rw [q4.1,A9]) fT pc (by omega) av.1 av.2
   ·rename_i se
    split at ad
    case isFalse=>cases ad
    rename_i nq
    obtain ⟨rfl,rfl,rfl,jT,rfl⟩:=nq
    simp at ad
    obtain ⟨rfl,rfl⟩:=ad
    have fA:kx cm cN=cm:=by simp [kx]
    rw [fA]
    rw [fA] at aM
    by_cases gI:len+n≤cm
    ·have bc:=R.heap.obj i
     rw [aB] at bc
     obtain ⟨b1,oD,arr,oC,aC,cp,hw,aF,D7,ZI⟩:=bc
     rw [oC] at hi
     simp at hi
     obtain ⟨rfl,rfl⟩:=hi
     have L0:arr.size=oD * dy.size:=ZI.1
     have QY:len * dy.size+hr.length≤arr.size:=by
      rw [fT.newsLen,L0,←Nat.add_mul]
      exact Nat.mul_le_mul_right _ gI
     have cR:=run_storeCells_at P b1 (len * dy.size) aT hr 0 arr w hw (by simpa using QY) (pc.one b3)
     simp only [Nat.add_zero] at cR
     have eg:=aaJ w _ t tx ty aT dy hu af b1 0 len oD dm n hr fT gI (by simpa using cR)
     have vk:(c.take (len * dy.size)).length=len * dy.size:=by simp;omega
     obtain ⟨ρ',hle,aG,ij⟩:=R.move (w':=w.setRow b1 (arr.toList.take (len * dy.size)++hr++arr.toList.drop (len * dy.size+hr.length)).toArray) (c:=c.take (len * dy.size)++news) (ex:=some dy.size) oC (by rw [aB];simp)
      (fun k hk=>by simp [World.setRow,Array.getElem?_modify,Ne.symm hk]) (setRow_heap w b1 arr _ aT (0,0) hw) (by simp [World.setRow])
      ⟨rfl,rfl,rfl,by simp [World.setRow],fun k hk=>by simp [World.setRow,Array.getElem?_modify,show b1≠k by omega],Nat.le_refl _⟩
      (by rw [List.length_append,vk,pc.1];simp;omega)
      (by
       rw [List.length_append,vk,pc.1]
       have ar:(arr.toList.take (len * dy.size)++hr++arr.toList.drop (len * dy.size+hr.length)).toArray.toList.take (len * dy.size+hr.length)=arr.toList.take (len * dy.size)++hr:=by
        have:(arr.toList.take (len * dy.size)++hr).length=len * dy.size+hr.length:=by simp;omega
        rw [←this]
        exact List.take_left
       rw [ar]
       refine bx.append ?_ pc
       have:=D7.take (len * dy.size)
       rw [List.take_take] at this
       rwa [Nat.min_eq_left jT] at this)
      (by
       refine ⟨?_,ZI.2⟩
       simp
       omega)
     refine ⟨ρ',_,_,eg,?_,by simpa only [List.append_assoc] using ij,hle⟩
     have:=a1.bp (ρ:=ρ') aG 0 (len+n) cN (by rw [kx];simp;exact gI)
     rwa [show kx oD cN=oD by simp [kx]] at this
    ·obtain ⟨olds',v8,q4,A9⟩:=olds w R (by simpa using jT)
     rw [List.drop_zero] at q4
     exact X6 (ty:=ty) hu af b4 iP (R.kill i) (run_firstCells_some (P:=P) w.drew dy.size len ⟨b,0,none⟩ len cm olds' A9 (fun j v aN=>by rw [Addr.add_mid];simpa using v8 j v aN)) q4 (by rw [q4.1,A9]) fT pc (by omega) av.1 av.2
 ·cases ad
def Jz:V→Option Nat
 | .bp _ _ n _=>some n
 | .ag n _=>some n
 | .ah=>some 0
 | .z0=>some 0
 | .string s=>some s.size
 | _=>none
theorem aiV {P:Program} {x:V} {dm:Value} {n:Nat} (h:Jz x=some n) {ρ:Ren} (ak:a1 ρ x dm) (w:World):(Builtin.lenOf dm).run P w=.ok n w:=by
 cases ak<;>simp [Jz] at h<;>subst h<;>rfl
def Cu (sz n:Nat) (x:V) (h:J):Option (List V) :=
 match x with
 | .ah | .z0=>if n=0 then some [] else none
 | .bp i o _ _=>
  match h.get i with
  | .cells c _ _=>if o+n * sz≤c.length then some ((c.drop o).take (n * sz)) else none
  | _=>none
 | .ag m cs=>if n≤m∧n * sz≤cs.length then some (cs.take (n * sz)) else none
 | .string s=>if sz=1∧n≤s.size then some (((byteCells s).map kR).take n) else none
 | _=>none
theorem aiW {P:Program} {sz n:Nat} {x:V} {dm:Value} {h:J} {vs:List V} (ad:Cu sz n x h=some vs) {ρ:Ren} {B:Nat} {bg w:World} (R:bt ρ B bg h w) (ak:a1 ρ x dm) :
  ∃ nY,(Builtin.firstCells sz n dm).run P w=.ok nY.toArray w∧bx ρ vs nY∧vs.length=n * sz:=by
 unfold Cu at ad
 split at ad
 ·cases ak
  split at ad
  case isFalse=>cases ad
  rename_i h0
  subst h0
  obtain rfl:vs=[]:=by simpa using ad
  exact ⟨[],run_firstCells_none w sz 0 0 0,.nil ρ,by simp⟩
 ·cases ak with
  | z0 a a6=>
  split at ad
  case isFalse=>cases ad
  rename_i h0
  subst h0
  obtain rfl:vs=[]:=by simpa using ad
  cases a with
  | none=>exact ⟨[],run_firstCells_none w sz 0 0 0,.nil ρ,by simp⟩
  | some a=>exact ⟨[],run_firstCells_some (P:=P) w sz 0 a 0 0 [] (by simp) (by simp),.nil ρ,by simp⟩
 ·rename_i i o len cap
  obtain ⟨b,cm,hi,aM,rfl⟩:=ak.kT
  split at ad
  case h_2=>cases ad
  rename_i c aT ex aB
  split at ad
  case isFalse=>cases ad
  rename_i aF
  obtain rfl:_=vs:=by simpa using ad
  have n1:a1 ρ (.ptr i o) (.pointer (some ⟨b,o,none⟩)):=.ptr hi o
  obtain ⟨b1,e4,he,dZ⟩:=ii R.heap n1 (cs:=c.drop o) (by simp [jp,aB];omega)
  simp at he
  obtain ⟨rfl,rfl⟩:=he
  obtain ⟨cs,h1,ae,aA⟩:=dZ (n * sz) (by simp;omega)
  exact ⟨cs,run_firstCells_some (P:=P) w sz n ⟨b,o,none⟩ len (kx cm cap) cs aA (fun j v aN=>by rw [Addr.add_mid];exact h1 j v aN),ae,by simp;omega⟩
 ·rename_i m cs
  split at ad
  case isFalse=>cases ad
  rename_i aF
  obtain rfl:_=vs:=by simpa using ad
  rcases ak.pX with ⟨rfl,rfl,a,wV,a6,rfl⟩ | ⟨b,o,cap,arr,av,aG,bc,ic,rfl⟩
  ·obtain rfl:n=0:=by omega
   cases a with
   | none=>
    obtain rfl:=a6 rfl
    exact ⟨[],run_firstCells_none w sz 0 0 0,by simpa using bx.nil ρ,by simp⟩
   | some a=>exact ⟨[],run_firstCells_some (P:=P) w sz 0 a 0 wV [] (by simp) (by simp),by simpa using bx.nil ρ,by simp⟩
  ·have gj:a1 ρ (.at cs) (.pointer (some ⟨b,o,none⟩)):=.at o av bc ic
   obtain ⟨b1,e4,he,dZ⟩:=ii R.heap gj (cs:=cs) rfl
   simp at he
   obtain ⟨rfl,rfl⟩:=he
   obtain ⟨vs,h1,ae,aA⟩:=dZ (n * sz) aF.2
   exact ⟨vs,run_firstCells_some (P:=P) w sz n ⟨b,o,none⟩ m cap vs aA (fun j v aN=>by rw [Addr.add_mid];exact h1 j v aN),ae,by simp;omega⟩
 ·rename_i s
  cases ak
  split at ad
  case isFalse=>cases ad
  rename_i h1
  obtain ⟨rfl,aG⟩:=h1
  obtain rfl:_=vs:=by simpa using ad
  refine ⟨(byteCells s).take n,?_,(aaH ρ s).take n,by rw [List.length_take,List.length_map,byteCells_length];omega⟩
  simp only [Builtin.firstCells,Sem.run_pure]
  congr 1
  apply Array.ext'
  simp [byteCells]
 ·cases ad
def GX (P:Program) (D8:TypeId) (dst src:V) (h:J):Option (V×J) :=
 match A0 P D8 with
 | none=>none
 | some e=>
  match dQ P e,Jz src,dst with
  | some sz,some bp,.ah=>
   match Cu sz (Nat.min bp 0) src h with
   | some _=>some (.int .i64 0,h)
   | none=>none
  | some sz,some bp,.bp i o dl _=>
   match Cu sz (Nat.min bp dl) src h with
   | some vs=>
    if Nat.min bp dl=0 then some (.int .i64 0,h) else
    match h.get i with
    | .cells c aT ex=>if o+vs.length≤c.length∧vs.all (·.one)=true then some (.int .i64 (Nat.min bp dl:Nat),h.set i (.cells (lay c o vs) aT ex)) else none
    | _=>none
   | none=>none
  | _,_,_=>none
theorem amO {P:Program} {D8 amP ty:TypeId} {dst src v:V} {QZ Q0:Value} {h h':J} (ad:GX P D8 dst src h=some (v,h')) {ρ:Ren} {B:Nat} {bg w:World} (R:bt ρ B bg h w)
  (bb:a1 ρ dst QZ) (aU:a1 ρ src Q0):Yields P (Builtin.copy_ #[D8,amP] ty #[QZ,Q0]) ρ B bg w v h':=by
 unfold GX at ad
 split at ad
 case h_1=>cases ad
 rename_i e he
 have hu:P.underlying D8=some (.slice e):=by
  unfold A0 at he
  split at he
  ·rename_i hu;rw [hu];simpa using he
  ·cases he
 split at ad
 ·rename_i sz bp bz sc
  cases bb
  split at ad
  case h_2=>cases ad
  rename_i vs o4
  simp at ad
  obtain ⟨rfl,rfl⟩:=ad
  obtain ⟨nY,aC,D7,hlen⟩:=aiW (P:=P) o4 R aU
  have hll:=aiV (P:=P) sc aU w
  cases af:P.info? e with
  | none=>simp [dQ,af] at bz
  | some dy=>
   simp [dQ,af] at bz
   refine .same R (v':=.int .i64 0) ?_ (.int _ _)
   have hm:Nat.min bp 0=0:=Nat.min_zero bp
   rw [hm] at aC
   simp [Builtin.copy_,run_underlying hu,hll,sizeOf,typeInfo,af,bz,aC,goInt]
 ·rename_i sz bp i o dl dc bz sc
  obtain ⟨b,cm,hi,aM,rfl⟩:=bb.kT
  split at ad
  case h_2=>cases ad
  rename_i vs o4
  obtain ⟨nY,aC,D7,hlen⟩:=aiW (P:=P) o4 R aU
  have hll:=aiV (P:=P) sc aU w
  cases af:P.info? e with
  | none=>simp [dQ,af] at bz
  | some dy=>
  simp [dQ,af] at bz
  split at ad
  ·rename_i h0
   simp at ad
   obtain ⟨rfl,rfl⟩:=ad
   refine .same R (v':=.int .i64 0) ?_ (.int _ _)
   rw [h0] at hlen aC
   have o5:nY=[]:=List.eq_nil_of_length_eq_zero (by rw [←D7.1,hlen];simp)
   subst o5
   have hm:(Nat.min bp dl:Nat)=0:=h0
   simp [Builtin.copy_,run_underlying hu,hll,sizeOf,typeInfo,af,bz,hm,aC,goInt,storeCells]
  ·split at ad
   case h_2=>cases ad
   rename_i c aT ex aB
   split at ad
   case isFalse=>cases ad
   rename_i aF
   simp at ad
   obtain ⟨rfl,rfl⟩:=ad
   obtain ⟨w',cR,ij⟩:=QT (P:=P) aB R hi o D7 aF.2 aF.1
   refine ⟨ρ,_,w',?_,.int _ _,ij,Ren.le.refl ρ⟩
   simp [Builtin.copy_,run_underlying hu,hll,sizeOf,typeInfo,af,bz,aC,goInt,cR]
 ·cases ad
def e8 {α:Type} (P:Program):Sem α→Option α
 | .pure a=>some a
 | .program k=>e8 P (k P)
 | .mark _ k=>e8 P k
 | _=>none
theorem JA {α:Type} {P:Program}:∀ {s:Sem α} {a:α},e8 P s=some a→∀ w,s.run P w=.ok a w
 | .pure b,a,h,w=>by simp [e8] at h;subst h;rfl
 | .program k,a,h,w=>by
  simp only [e8] at h
  exact JA (s:=k P) h w
 | .mark m k,a,h,w=>by
  simp only [e8] at h
  exact JA (s:=k) h w
 | .load ..,_,h,_=>by simp [e8] at h
 | .store ..,_,h,_=>by simp [e8] at h
 | .new ..,_,h,_=>by simp [e8] at h
 | .shape ..,_,h,_=>by simp [e8] at h
 | .freeze ..,_,h,_=>by simp [e8] at h
 | .frozen ..,_,h,_=>by simp [e8] at h
 | .getObj ..,_,h,_=>by simp [e8] at h
 | .setObj ..,_,h,_=>by simp [e8] at h
 | .choose ..,_,h,_=>by simp [e8] at h
 | .sys ..,_,h,_=>by simp [e8] at h
 | .halt ..,_,h,_=>by simp [e8] at h
theorem mf {α β:Type} {P:Program} {s:Sem α} {k:α→Sem β}:e8 P (s >>= k)=(e8 P s).bind fun a=>e8 P (k a):=by
 induction s with
 | pure a=>rfl
 | program k ih=>exact ih P
 | mark m k ih=>exact ih
 | _=>rfl
def JB:V→Option Nat
 | .cZ=>some 0 | .ah=>some 1 | .oQ=>some 2 | .nilFunc=>some 3 | .nilIface=>some 4 | _=>none
def JC:V→Option Nat
 | .ptr _ _=>some 0 | .at _=>some 0 | .bp _ _ _ _=>some 1 | .eT=>some 1 | .ag n _=>if n=0 then none else some 1 | .map _=>some 2 | .func _ _ _=>some 3 | .iface _ _=>some 4 | _=>none
def D9:TypeDesc→Option Nat
 | .pointer _=>some 0 | .slice _=>some 1 | .map _ _=>some 2 | .func _ _ _=>some 3 | .interface _=>some 4 | _=>none
def m6 (d:TypeDesc) (x y:V):Bool :=
 match D9 d with
 | some k=>(JB x==some k&&JC y==some k)||(JC x==some k&&JB y==some k)
 | none=>false
theorem nil_eq {P:Program} {w:World} {ρ:Ren} {t:TypeId} {d:TypeDesc} (hu:P.underlying t=some d) {x y:V} {dm vB:Value} (ak:a1 ρ x dm) (bs:a1 ρ y vB) (aG:m6 d x y=true) :
  (Op.equal t dm vB).run P w=.ok false w∧(∀ op xo yo,eqGuard op t xo yo dm vB=pure ())∧binOp .eql t dm vB=(do pure (.bool (←Op.equal t dm vB)))∧binOp .neq t dm vB=(do pure (.bool (!(←Op.equal t dm vB)))):=by
 have run:∀ m,(Op.equalIn (m+1) t dm vB).run P w=.ok false w→(Op.equal t dm vB).run P w=.ok false w∨m≠9999:=fun m h=>by
  by_cases hm:m=9999
  ·subst hm;exact .inl h
  ·exact .inr hm
 have guard:(¬(dm=.nilIface∧vB=.nilIface))→(¬∃ a b,dm=.agg a∧vB=.agg b)→∀ op xo yo,eqGuard op t xo yo dm vB=pure ():=fun h1 ae op xo yo=>by
  unfold eqGuard
  cases op<;>first | rfl | (simp only [Bool.not_true,Bool.false_eq_true,if_false];split<;>first | rfl | exact absurd ⟨rfl,rfl⟩ h1 | exact absurd ⟨_,_,rfl,rfl⟩ ae)
 unfold m6 at aG
 cases d<;>simp [D9] at aG
 all_goals
  rcases aG with ⟨h1,ae⟩ | ⟨h1,ae⟩
  all_goals
   cases ak<;>simp [JB,JC] at h1<;>cases bs<;>simp [JB,JC] at ae
   all_goals first
    | omega
    | (refine ⟨(run 9999 (by unfold Op.equalIn;rw [Sem.run_bind,run_underlying hu,Result.andThen_ok];simp)).resolve_right (by simp),guard (by simp) (by simp),rfl,rfl⟩)
def ev (P:Program) (op:BinOp) (t:TypeId) (xo yo:Operand) (x y:V):Option V :=
 match r4 x,r4 y with
 | some a,some b=>(e8 P (do eqGuard op t xo yo a b;binOp op t a b)).map kR
 | _,_=>
  match P.underlying t,op with
  | some d,.eql=>if m6 d x y then some (.bool false) else none
  | some d,.neq=>if m6 d x y then some (.bool true) else none
  | _,_=>none
theorem amQ {P:Program} {op:BinOp} {t:TypeId} {xo yo:Operand} {x y v:V} {dm vB:Value} {h:J} (ad:ev P op t xo yo x y=some v) {ρ:Ren} {B:Nat} {bg w:World} (R:bt ρ B bg h w)
  (ak:a1 ρ x dm) (bs:a1 ρ y vB):c8 P (do eqGuard op t xo yo dm vB;binOp op t dm vB) ρ w v:=by
 unfold ev at ad
 split at ad
 ·rename_i a b a6 av
  obtain rfl:=D2 ak a6
  obtain rfl:=D2 bs av
  cases aW:e8 P (do eqGuard op t xo yo dm vB;binOp op t dm vB) with
  | none=>rw [aW] at ad;cases ad
  | some u=>
   rw [aW] at ad
   obtain rfl:_=v:=by simpa using ad
   exact c8.mk (JA aW w) (Jv ρ u)
 ·split at ad
  ·rename_i d bb
   split at ad
   case isFalse=>cases ad
   rename_i aG
   obtain rfl:_=v:=by simpa using ad
   obtain ⟨h1,ae,aA,bk⟩:=nil_eq (P:=P) (w:=w) bb ak bs aG
   refine c8.mk (v':=.bool false) ?_ (.bool false)
   rw [ae,aA]
   simp [h1]
  ·rename_i d bb
   split at ad
   case isFalse=>cases ad
   rename_i aG
   obtain rfl:_=v:=by simpa using ad
   obtain ⟨h1,ae,aA,bk⟩:=nil_eq (P:=P) (w:=w) bb ak bs aG
   refine c8.mk (v':=.bool true) ?_ (.bool true)
   rw [ae,bk]
   simp [h1]
  ·cases ad
def Ea (P:Program) (op:UnOp) (x:V):Option V :=
 match r3 x with
 | some a=>(e8 P (Op.unary op a)).map kR
 | none=>none
theorem amR {P:Program} {op:UnOp} {x v:V} {dm:Value} {h:J} (ad:Ea P op x=some v) {ρ:Ren} {B:Nat} {bg w:World} (R:bt ρ B bg h w) (ak:a1 ρ x dm) :
  c8 P (Op.unary op dm) ρ w v:=by
 unfold Ea at ad
 split at ad
 case h_2=>cases ad
 rename_i a a6
 obtain rfl:=D1 ak a6
 cases aW:e8 P (Op.unary op dm) with
 | none=>rw [aW] at ad;cases ad
 | some u=>
  rw [aW] at ad
  obtain rfl:_=v:=by simpa using ad
  exact c8.mk (JA aW w) (Jv ρ u)
def GY:List V→Option (List Int)
 | []=>some []
 | .int .u8 n::r=>(GY r).map (n::·)
 | _=>none
theorem Q1:∀ {l:List V} {ud:List Int},GY l=some ud→l=ud.map (V.int .u8)
 | [],ud,h=>by simp [GY] at h;subst h;rfl
 | v::r,ud,h=>by
  unfold GY at h
  split at h
  ·rename_i heq;cases heq
  ·rename_i n dY heq
   simp only [List.cons.injEq] at heq
   obtain ⟨rfl,rfl⟩:=heq
   cases aU:GY r with
   | none=>simp [aU] at h
   | some ms=>simp [aU] at h;subst h;rw [Q1 aU];rfl
  ·cases h
theorem aiX {ρ:Ren} {k:IntKind}:∀ {ud:List Int} {l:List Value},bx ρ (ud.map (V.int k)) l→l=ud.map (Value.int k)
 | [],l,h=>h.eq_nil
 | n::ud,l,h=>by
  obtain ⟨v',nV,rfl,aN,bw⟩:=h.fh
  cases aN
  rw [aiX bw]
  rfl
def Cv (P:Program) (e:TypeId):Bool:=match P.underlying e with | some (.int .u8)=>true | _=>false
theorem PR {P:Program} {e:TypeId} (h:Cv P e=true):P.underlying e=some (.int .u8):=by
 unfold Cv at h
 split at h
 ·assumption
 ·cases h
def qJ (P:Program) (src dst:TypeId) (x:V) (h:J):Option V :=
 match (r3 x).bind fun a=>e8 P (convert src dst a) with
 | some v=>some (kR v)
 | none=>
  match P.underlying src,P.underlying dst,x with
  | some .string,some (.slice e),.string s=>if Cv P e=true then some (.ag s.size ((byteCells s).map kR)) else none
  | some (.slice e),some .string,.bp i o len _=>
   if Cv P e=true then
    match h.get i with
    | .cells c _ _=>if o+len≤c.length then (GY ((c.drop o).take len)).map fun ud=>.string (strOfNums ud) else none
    | _=>none
   else none
  | some (.slice e),some .string,.ag n cs=>
   if Cv P e=true∧n=cs.length then (GY cs).map fun ud=>.string (strOfNums ud) else none
  | _,_,_=>none
theorem aiY {P:Program} {ρ:Ren} {src dst e:TypeId} {w:World} {b o len cap:Nat} {ud:List Int} {cs:List Value} (jU:P.underlying src=some (.slice e)) (he:P.underlying e=some (.int .u8)) (xY:P.underlying dst=some .string)
  (dZ:w.rangeAt b o cs) (aM:bx ρ (ud.map (V.int .u8)) cs) (hlen:ud.length=len):(convert src dst (.slice (some ⟨b,o,none⟩) len cap)).run P w=.ok (.string (strOfNums ud)) w:=by
 obtain rfl:=aiX aM
 refine run_convert_bytes_arg w src e jU he b o len cap ud hlen (fun k hk=>?_) dst xY
 exact dZ k _ (by simp [List.getD,List.getElem?_eq_getElem (show k<ud.length by omega)])
theorem amS {P:Program} {src dst:TypeId} {x v:V} {dm:Value} {h:J} (ad:qJ P src dst x h=some v) {ρ:Ren} {B:Nat} {bg w:World} (R:bt ρ B bg h w) (ak:a1 ρ x dm) :
  Yields P (convert src dst dm) ρ B bg w v h:=by
 unfold qJ at ad
 split at ad
 ·rename_i u hu
  obtain rfl:_=v:=by simpa using ad
  cases aC:r3 x with
  | none=>simp [aC] at hu
  | some a=>
   simp [aC] at hu
   obtain rfl:=D1 ak aC
   exact .same R (JA hu w) (Jv ρ u)
 ·split at ad
  ·rename_i e s jU xY _
   cases ak
   split at ad
   case isFalse=>cases ad
   rename_i aF
   obtain rfl:_=v:=by simpa using ad
   have he:=PR aF
   have rh:=grownCap_ge w s.size 0 e
   let arr:Array Value:=s.data.map (fun b=>Value.int .u8 b.toNat)++Array.replicate (grownCap w s.size 0 e - s.size) (.int .u8 0)
   have L0:arr.size=grownCap w s.size 0 e:=by
    simp only [arr,Array.size_append,Array.size_map,Array.size_replicate]
    have:s.data.size=s.size:=rfl
    omega
   have eg:(convert src dst (.string s)).run P w=.ok (.slice (some ⟨w.heap.size,0,none⟩) s.size (grownCap w s.size 0 e)) ((w.drew.alloc (.cells arr e)).freeze ⟨w.heap.size,arr.size,none⟩ 1):=by
    have Q2:(w.drew.alloc (.cells arr e)).shape? w.heap.size=some (e,arr.size):=by
     have:=heap_alloc_new w.drew (.cells arr e)
     unfold World.shape?
     rw [show w.heap.size=w.drew.heap.size from rfl,this]
    simp [convert,run_underlying jU,run_underlying xY,run_underlying he,Conv.stringToBytes,Question.forced,newRow,markStringish]
    have cg:(Question.appendCap s.size 0 e).cut (w.tape w.drawn (Question.appendCap s.size 0 e))=grownCap w s.size 0 e:=rfl
    simp only [cg]
    rw [Q2]
    simp
    rfl
   have qf:((w.drew.alloc (.cells arr e)).freeze ⟨w.heap.size,arr.size,none⟩ 1).heap[w.heap.size]?=some (.cells arr e (arr.size,arr.size+1)):=by
    have:=heap_alloc_new w.drew (.cells arr e)
    simp only [World.freeze,Nat.one_ne_zero,if_false,Array.getElem?_modify,if_true]
    rw [show w.heap.size=w.drew.heap.size from rfl,this]
    simp
   have JD:∀ k,k<w.heap.size→((w.drew.alloc (.cells arr e)).freeze ⟨w.heap.size,arr.size,none⟩ 1).heap[k]?=w.heap[k]?:=fun k hk=>by
    simp only [World.freeze,Nat.one_ne_zero,if_false,Array.getElem?_modify,if_neg (show ¬w.heap.size=k by omega)]
    exact Below.heap_alloc w.drew _ k hk
   have Q3:w.heap.size<((w.drew.alloc (.cells arr e)).freeze ⟨w.heap.size,arr.size,none⟩ 1).heap.size:=by
    simp only [World.freeze,Nat.one_ne_zero,if_false,Array.size_modify]
    simp
   obtain ⟨ρ',hle,aG,ij⟩:=R.PK Q3 JD qf
    ⟨by simp only [World.freeze,Nat.one_ne_zero,if_false];rfl,by simp only [World.freeze,Nat.one_ne_zero,if_false];rfl,by simp only [World.freeze,Nat.one_ne_zero,if_false];rfl,Nat.le_of_lt Q3,fun k hk=>JD k (Nat.lt_of_lt_of_le hk R.heap.base),by simp only [World.freeze,Nat.one_ne_zero,if_false];exact Nat.le_succ _⟩
   refine ⟨ρ',_,_,eg,?_,ij,hle⟩
   have av:((byteCells s).map kR).length=s.size:=by rw [List.length_map,byteCells_length]
   refine .ag 0 s.size _ aG rh (by rw [av,L0];omega) fun k v v' h1 ae=>?_
   have ar:arr.toList.take (byteCells s).length=byteCells s:=by
    have:arr.toList=byteCells s++List.replicate (grownCap w s.size 0 e - s.size) (.int .u8 0):=by simp [arr,byteCells]
    rw [this]
    exact List.take_left
   have hk:k<(byteCells s).length:=by rw [←List.length_map (f:=kR)];exact (List.getElem?_eq_some_iff.1 h1).1
   refine (aaH ρ' s).2 k v v' h1 ?_
   rw [←ar,List.getElem?_take,if_pos hk,Array.getElem?_toList]
   simpa using ae
  ·rename_i e i o len cap jU xY _
   obtain ⟨b,cm,hi,aM,rfl⟩:=ak.kT
   split at ad
   case isFalse=>cases ad
   rename_i he
   split at ad
   case h_2=>cases ad
   rename_i c aT ex aB
   split at ad
   case isFalse=>cases ad
   rename_i aF
   cases ni:GY ((c.drop o).take len) with
   | none=>simp [ni] at ad
   | some ud=>
    simp [ni] at ad
    subst ad
    have n1:a1 ρ (.ptr i o) (.pointer (some ⟨b,o,none⟩)):=.ptr hi o
    obtain ⟨b1,e4,heq,dZ⟩:=ii R.heap n1 (cs:=c.drop o) (by simp [jp,aB];omega)
    simp at heq
    obtain ⟨rfl,rfl⟩:=heq
    obtain ⟨cs,h1,ae,aA⟩:=dZ len (by simp;omega)
    have hlen:ud.length=len:=by
     have:=congrArg List.length (Q1 ni)
     simp at this;omega
    rw [Q1 ni] at ae
    exact .same R (aiY jU (PR he) xY h1 ae hlen) (.string _)
  ·rename_i e n cs jU xY _
   split at ad
   case isFalse=>cases ad
   rename_i he
   cases ni:GY cs with
   | none=>simp [ni] at ad
   | some ud=>
    simp [ni] at ad
    subst ad
    rcases ak.pX with ⟨rfl,rfl,a,wV,a6,rfl⟩ | ⟨b,o,cap,arr,av,aG,bc,ic,rfl⟩
    ·obtain rfl:ud=[]:=by simpa [GY] using ni.symm
     cases a with
     | none=>
      obtain rfl:=a6 rfl
      refine .same R (v':=.string .empty) ?_ (.string _)
      simp [convert,run_underlying jU,run_underlying xY,run_underlying (PR he.1),Conv.bytesToString,loadCells,loadCellsFrom]
     | some a=>
      refine .same R (v':=.string .empty) ?_ (.string _)
      simp [convert,run_underlying jU,run_underlying xY,run_underlying (PR he.1),Conv.bytesToString,loadCells,loadCellsFrom]
    ·have gj:a1 ρ (.at cs) (.pointer (some ⟨b,o,none⟩)):=.at o av bc ic
     obtain ⟨b1,e4,heq,dZ⟩:=ii R.heap gj (cs:=cs) rfl
     simp at heq
     obtain ⟨rfl,rfl⟩:=heq
     obtain ⟨vs,h1,ae,aA⟩:=dZ cs.length (Nat.le_refl _)
     rw [List.take_length] at ae
     have hlen:ud.length=n:=by
      have:=congrArg List.length (Q1 ni)
      simp at this;omega
     rw [Q1 ni] at ae
     exact .same R (aiY jU (PR he.1) xY h1 ae hlen) (.string _)
  ·cases ad
def wa (cs:List V) (off:Nat):List V→List V
 | []=>cs
 | v::r=>wa (cs.set off v) (off+1) r
def wW (place:Nat→Option (Nat×Nat)) (cs:List V):List (Nat×V)→Option (List V)
 | []=>some cs
 | (i,v)::r=>match place i,v.cells with
  | some (off,size),some vs=>if vs.length=size∧off+size≤cs.length then wW place (wa cs off vs) r else none
  | _,_=>none
theorem hd.set {ρ:Ren} {xs:List V} {jR:Array Value} (h:hd ρ xs jR) {v:V} {v':Value} (aN:a1 ρ v v') (n:Nat):hd ρ (xs.set n v) (jR.setIfInBounds n v'):=by
 refine ⟨by simp [h.1],fun k a b a6 av=>?_⟩
 rw [Array.getElem?_setIfInBounds] at av
 rw [List.getElem?_set] at a6
 by_cases hk:n=k
 ·subst hk
  simp at a6 av
  obtain ⟨_,rfl⟩:=a6
  obtain ⟨_,rfl⟩:=av
  exact aN
 ·simp [hk] at a6 av
  exact h.2 k a b a6 av
theorem foldl_rel {ρ:Ren} (off:Nat):∀ (l:List V) (ck:List Value) (j:Nat) (cs:List V) (cs':Array Value),bx ρ l ck→hd ρ cs cs' →
  hd ρ (wa cs (off+j) l) ((ck.zipIdx j).foldl (fun cs p=>cs.setIfInBounds (off+p.2) p.1) cs')
 | [],ck,j,cs,cs',aM,aF=>by rw [aM.eq_nil];exact aF
 | v::l,ck,j,cs,cs',aM,aF=>by
  obtain ⟨v',nV,rfl,aN,bw⟩:=aM.fh
  simp only [List.zipIdx_cons,List.foldl_cons,wa]
  have:=foldl_rel off l nV (j+1) _ _ bw (aF.set aN (off+j))
  rwa [←Nat.add_assoc] at this
def zE (ρ:Ren):List (Nat×V)→List (Nat×Value)→Prop
 | [],[]=>True
 | (i,v)::r,(Eb,v')::dY=>i=Eb∧a1 ρ v v'∧zE ρ r dY
 | _,_=>False
theorem aaL {ρ:Ren} (place:Nat→Option (Nat×Nat)):∀ (ps:List (Nat×V)) (ue:List (Nat×Value)) (cs:List V) (cs':Array Value) (r:List V),zE ρ ps ue→hd ρ cs cs'→wW place cs ps=some r →
  ∃ dY,Instr.fill place cs' ue=some dY∧hd ρ r dY
 | [],[],cs,cs',r,_,aF,h=>by simp [wW] at h;subst h;exact ⟨cs',rfl,aF⟩
 | (i,v)::ps,(Eb,v')::ue,cs,cs',r,aW,aF,h=>by
  obtain ⟨rfl,aN,aW⟩:=aW
  unfold wW at h
  split at h
  case h_2=>cases h
  rename_i off size vs nj o4
  split at h
  case isFalse=>cases h
  rename_i nq
  unfold Instr.fill
  have dk:=aN.cells o4
  have bz:v'.cells.size=vs.length:=by simpa using dk.1.symm
  simp only [nj,bz,←aF.1]
  rw [if_neg (by simp;omega)]
  have ar:∀ (a:Array Value) (c:Array Value),a.zipIdx.foldl (fun cs (x:Value×Nat)=>cs.setIfInBounds (off+x.2) x.1) c=(a.toList.zipIdx).foldl (fun cs p=>cs.setIfInBounds (off+p.2) p.1) c:=fun a c=>by
   rw [←Array.foldl_toList]
   simp
  rw [show (v'.cells.zipIdx.foldl (fun cs (x:Value×Nat)=>match x with | (c,j)=>cs.setIfInBounds (off+j) c) cs')=_ from ar v'.cells cs']
  exact aaL place ps ue _ _ r aW (foldl_rel off vs v'.cells.toList 0 cs cs' dk aF) h
 | [],_::_,_,_,_,aW,_,_=>by simp [zE] at aW
 | _::_,[],_,_,_,aW,_,_=>by simp [zE] at aW
def X7 (P:Program) (t:TypeId):Option (List (Nat×Nat)):=match P.underlying t with
 | some (.struct fields)=>fields.toList.mapM (fun f=>(P.info? f.type).map fun i=>(f.offset,i.size))
 | _=>none
def HH (P:Program) (t:TypeId):Option (Nat×TypeId):=match P.underlying t with
 | some (.array n e)=>some (n,e)
 | _=>none
def wd (P:Program) (t:TypeId) (parts:List (Nat×V)):Option V :=
 match iA P t,X7 P t with
 | some zs,some places=>(wW (places[·]?) zs parts).map .agg
 | some zs,none=>match HH P t with
  | some (_,e)=>match dQ P e with
   | some sz=>(wW (fun i=>some (i * sz,sz)) zs parts).map .agg
   | none=>none
  | none=>none
 | _,_=>none
theorem amT {P:Program} {t:TypeId} {ps:List (Nat×V)} {ue:Array (Nat×Value)} {v:V} {h:J} (ad:wd P t ps=some v) {ρ:Ren} {B:Nat} {bg w:World} (R:bt ρ B bg h w)
  (aW:zE ρ ps ue.toList):c8 P (Instr.build t ue) ρ w v:=by
 unfold wd at ad
 have key:∀ (place:Nat→Option (Nat×Nat)) (zs:List V),iA P t=some zs→(∀ z,qH P t=some z→P.built t ue.toList=Instr.fill place z.cells ue.toList)→(wW place zs ps).map V.agg=some v→c8 P (Instr.build t ue) ρ w v:=fun place zs b4 av aC=>by
  obtain ⟨z,b4,jg⟩:=PN b4
  cases aF:wW place zs ps with
  | none=>simp [aF] at aC
  | some cells=>
   simp [aF] at aC
   subst aC
   obtain ⟨Ec,dp,aU⟩:=aaL place _ _ _ _ _ aW (jg ρ).nt aF
   exact c8.mk (run_build w t ue Ec (by rw [av z b4];exact dp)) aU.agg
 split at ad
 ·rename_i zs places b4 nj
  refine key _ zs b4 (fun z A7=>?_) ad
  unfold X7 at nj
  split at nj
  case h_2=>cases nj
  rename_i fields hu
  unfold Program.built
  cases hit:P.info? t with
  | none=>simp [qH,hit] at A7
  | some it=>
   simp [qH,hit] at A7
   simp [hu,A7,nj]
 ·rename_i zs b4 nj
  split at ad
  case h_2=>cases ad
  rename_i n e Dj
  split at ad
  case h_2=>cases ad
  rename_i sz bz
  refine key _ zs b4 (fun z A7=>?_) ad
  unfold HH at Dj
  split at Dj
  case h_2=>cases Dj
  rename_i n' fo hu
  simp at Dj
  obtain ⟨rfl,rfl⟩:=Dj
  unfold Program.built
  cases hit:P.info? t with
  | none=>simp [qH,hit] at A7
  | some it=>
   simp [qH,hit] at A7
   cases wb:P.info? fo with
   | none=>simp [dQ,wb] at bz
   | some aub=>
    simp [dQ,wb] at bz
    subst bz
    simp [hu,A7]
    rw [wb]
 ·cases ad
def lk (P:Program) (t:TypeId) (len:Nat) (parts:List (Nat×V)) (h:J):Option (V×J) :=
 match A0 P t with
 | none=>none
 | some e=>
  match dQ P e,iA P e with
  | some sz,some zs=>
   if zs.length=sz∧len * sz≤2 ^ 24∧len≤2 ^ 24 then
    match wW (fun i=>some (i * sz,sz)) (made zs len) parts with
    | some cells=>some (.bp h.n 0 len len,h.push (.cells cells e none))
    | none=>none
   else none
  | _,_=>none
theorem amU {P:Program} {t:TypeId} {len:Nat} {ps:List (Nat×V)} {ue:Array (Nat×Value)} {v:V} {h h':J} (ad:lk P t len ps h=some (v,h')) {ρ:Ren} {B:Nat} {bg w:World}
  (R:bt ρ B bg h w) (aW:zE ρ ps ue.toList):Yields P (Instr.buildSlice t len ue) ρ B bg w v h':=by
 unfold lk at ad
 split at ad
 case h_1=>cases ad
 rename_i e he
 have hu:P.underlying t=some (.slice e):=by
  unfold A0 at he
  split at he
  ·rename_i hu;rw [hu];simpa using he
  ·cases he
 split at ad
 case h_2=>cases ad
 rename_i sz zs bz iP
 split at ad
 case isFalse=>cases ad
 rename_i aF
 obtain ⟨bH,c3,dU⟩:=aF
 split at ad
 case h_2=>cases ad
 rename_i cells aC
 simp at ad
 obtain ⟨rfl,rfl⟩:=ad
 obtain ⟨z,b4,jg⟩:=PN iP
 have A6:z.cells.size=sz:=by have:=(jg ρ).1;simp at this;omega
 cases af:P.info? e with
 | none=>simp [qH,af] at b4
 | some dy=>
 simp [qH,af] at b4
 simp [dQ,af] at bz
 have hm:hd ρ (made zs len) (made z.cells.toList len).toArray:=((jg ρ).made len).arr
 obtain ⟨Ec,dp,aU⟩:=aaL _ _ _ _ _ _ aW hm aC
 obtain ⟨ρ',hle,aG,ij⟩:=aaD R e aU.list len
 have se:len<cN:=by unfold cN;omega
 have eg:(Instr.buildSlice t len ue).run P w=.ok (.slice (some ⟨w.heap.size,0,none⟩) len len) (w.alloc (.cells Ec e)):=by
  have tK:(Array.range (len * dy.size)).map (z.cells[· % z.cells.size]!)=(made z.cells.toList len).toArray:=by
   have:=X4 z.cells len
   rw [A6,←bz] at this
   apply Array.ext'
   simpa [madeCells] using this
  have ja:¬(2 ^ 24<len * dy.size):=by rw [bz];omega
  by_cases h0:len * dy.size=0
  ·have sW:(#[]:Array Value)=(made z.cells.toList len).toArray:=by rw [←tK,h0];simp [Array.range_zero']
   rw [←sW,←bz] at dp
   have Pq:len=0∨dy.size=0:=Nat.mul_eq_zero.1 h0
   simp [Instr.buildSlice,run_underlying hu,sizeOf,typeInfo,af,h0,Pq,dp,newRow,Array.range_zero']
  ·have Pq:¬(len=0∨dy.size=0):=fun h=>h0 (Nat.mul_eq_zero.2 h)
   rw [←tK,←bz] at dp
   have aaM:¬(16777216<len * dy.size):=by omega
   simp [Instr.buildSlice,run_underlying hu,sizeOf,typeInfo,zeroValue,b4,af,aaM,h0,dp,newRow]
 refine ⟨ρ',_,_,eg,?_,by simpa using ij,hle⟩
 have:=a1.bp aG 0 len len (by simp [kx,se])
 simpa [kx,se] using this
def X8 (P:Program) (t:TypeId) (cs:List V) (off:Nat):Option V :=
 match wU P t,dQ P t with
 | some true,some n=>some (.agg ((cs.drop off).take n))
 | some false,some _=>cs[off]?
 | _,_=>none
theorem hd.part {P:Program} {ρ:Ren} {cs:List V} {cs':Array Value} (h:hd ρ cs cs') {t:TypeId} {off:Nat} {v:V} (ad:X8 P t cs off=some v) (w:World) :
  ∃ v',(Go.part t cs' off).run P w=.ok v' w∧a1 ρ v v':=by
 unfold X8 at ad
 cases af:P.info? t with
 | none=>simp [dQ,af] at ad
 | some dy=>
 cases hu:P.underlying t with
 | none=>simp [wU,hu] at ad
 | some d=>
 simp only [wU,hu,dQ,af,Option.map_some] at ad
 cases bb:d.isRow with
 | true=>
  simp only [bb] at ad
  obtain rfl:_=v:=by simpa using ad
  have D4:(isAgg t).run P w=.ok true w:=by
   unfold isAgg
   rw [Sem.run_bind,run_underlying hu w]
   cases d<;>simp_all
  refine ⟨.agg (cs'.extract off (off+dy.size)),by simp [Go.part,D4,sizeOf,typeInfo,af],?_⟩
  have ae:=((h.list.drop off).take dy.size).arr
  have ar:∀ a:Array Value,((a.toList.drop off).take dy.size).toArray=a.extract off (off+dy.size):=fun a=>by
   apply Array.ext'
   simp
  rw [ar] at ae
  exact ae.agg
 | false=>
  simp only [bb] at ad
  have D4:(isAgg t).run P w=.ok false w:=by
   unfold isAgg
   rw [Sem.run_bind,run_underlying hu w]
   cases d<;>simp_all
  have aH:off<cs.length:=(List.getElem?_eq_some_iff.1 ad).1
  have zF:off<cs'.size:=by rw [←h.1];exact aH
  refine ⟨cs'[off],by simp [Go.part,D4,Array.getElem?_eq_getElem zF],h.2 off v _ ad (Array.getElem?_eq_getElem zF)⟩
def aaN (P:Program) (t:TypeId) (x:V) (k:Nat):Option V :=
 match P.underlying t,x with
 | some (.struct dT),.agg cs=>match dT[k]? with
  | some f=>X8 P f.type cs f.offset
  | none=>none
 | _,_=>none
def X9 (P:Program) (t:TypeId) (x rf:V):Option V :=
 match P.underlying t,x,rf with
 | some (.array len e),.agg cs,.int _ n=>match dQ P e with
  | some sz=>if 0≤n∧n<len then X8 P e cs (n.toNat * sz) else none
  | none=>none
 | some .string,.string s,.int _ n=>if 0≤n then match s[n.toNat]? with
  | some b=>some (.int .u8 b.toNat)
  | none=>none else none
 | _,_,_=>none
def fU (P:Program) (t:TypeId) (x:V) (h:J):Option V :=
 match P.underlying t,x with
 | some .string,.string s=>some (.int .i64 s.size)
 | some (.slice _),.bp _ _ n _=>some (.int .i64 n)
 | some (.slice _),.ag n _=>some (.int .i64 n)
 | some (.slice _),.ah=>some (.int .i64 0)
 | some (.slice _),.z0=>some (.int .i64 0)
 | some (.array n _),_=>some (.int .i64 n)
 | some (.pointer arr),_=>match P.underlying arr with
  | some (.array n _)=>some (.int .i64 n)
  | _=>none
 | some (.map _ _),.oQ=>some (.int .i64 0)
 | some (.map _ _),.map i=>match h.get i with
  | .map es _=>some (.int .i64 es.length)
  | _=>none
 | _,_=>none
def gZ (P:Program) (x:V) (asserted:TypeId) (ok:Bool):Option V :=
 match P.underlying asserted,x with
 | some (.interface _),_=>none
 | some _,.iface t v=>
  if t=asserted then some (if ok then .tuple [v,.bool true] else v)
  else if ok then (match qH P asserted with | some z=>some (.tuple [jQ z,.bool false]) | none=>none) else none
 | _,_=>none
theorem amV {P:Program} {t:TypeId} {x v:V} {dm:Value} {k:Nat} {h:J} (ad:aaN P t x k=some v) {ρ:Ren} {B:Nat} {bg w:World} (R:bt ρ B bg h w) (ak:a1 ρ x dm) :
  c8 P (Instr.field t dm k) ρ w v:=by
 unfold aaN at ad
 split at ad
 case h_2=>cases ad
 rename_i dT cs hu
 cases ak with
 | agg bz ak=>
 split at ad
 case h_2=>cases ad
 rename_i f aC
 obtain ⟨v',aU,aN⟩:=hd.part ⟨bz,ak⟩ ad w
 refine c8.mk ?_ aN
 simp [Instr.field,run_underlying hu,aC,asAgg,aU]
theorem amW {P:Program} {t:TypeId} {x rf v:V} {dm Jx:Value} {h:J} (ad:X9 P t x rf=some v) {ρ:Ren} {B:Nat} {bg w:World} (R:bt ρ B bg h w) (ak:a1 ρ x dm) (fR:a1 ρ rf Jx) :
  c8 P (Instr.index t dm Jx) ρ w v:=by
 unfold X9 at ad
 split at ad
 ·rename_i len e cs k n hu
  cases fR
  cases ak with
  | agg bz ak=>
  split at ad
  case h_2=>cases ad
  rename_i sz b4
  split at ad
  case isFalse=>cases ad
  rename_i av
  obtain ⟨v',aU,aN⟩:=hd.part ⟨bz,ak⟩ ad w
  refine c8.mk ?_ aN
  cases af:P.info? e with
  | none=>simp [dQ,af] at b4
  | some dy=>
   simp [dQ,af] at b4
   simp [Instr.index,asIntOf,run_underlying hu,av,sizeOf,typeInfo,af,b4,aU]
 ·rename_i s k n hu
  cases fR
  cases ak
  split at ad
  case isFalse=>cases ad
  rename_i av
  split at ad
  case h_2=>cases ad
  rename_i b Di
  obtain rfl:_=v:=by simpa using ad
  refine c8.mk ?_ (.int _ _)
  simp only [Instr.index,asIntOf,Sem.run_bind,Sem.run_pure,Result.andThen_ok,run_underlying hu,if_pos av,Di]
 ·cases ad
theorem run_getObj_map {P:Program} {w:World} {b:Nat} {es:Array MapEntry} {c:Nat} (h:w.heap[b]?=some (.map es c)):(getObj b).run P w=.ok (.map es c) w:=by
 simp [getObj,Sem.run,h]
theorem aiZ {P:Program} {w:World} {b:Nat} {m:Option Nat} {s:Nat} {Ya:Array Nat} {st:Nat} (h:w.heap[b]?=some (.mapIter m s Ya st)):(getObj b).run P w=.ok (.mapIter m s Ya st) w:=by
 simp [getObj,Sem.run,h]
theorem amX {P:Program} {t ty:TypeId} {x v:V} {dm:Value} {h:J} (ad:fU P t x h=some v) {ρ:Ren} {B:Nat} {bg w:World} (R:bt ρ B bg h w) (ak:a1 ρ x dm) :
  c8 P (Builtin.len_ #[t] ty #[dm]) ρ w v:=by
 unfold fU at ad
 split at ad
 ·rename_i s hu
  cases ak
  obtain rfl:_=v:=by simpa using ad
  exact c8.mk (by simp [Builtin.len_,run_underlying hu,goInt]) (.int _ _)
 ·rename_i e b o n c hu
  obtain rfl:_=v:=by simpa using ad
  obtain ⟨_,_,_,_,rfl⟩:=ak.kT
  exact c8.mk (by simp [Builtin.len_,run_underlying hu,goInt]) (.int _ _)
 ·rename_i e n cs hu
  obtain rfl:_=v:=by simpa using ad
  rcases ak.pX with ⟨rfl,rfl,a,wV,a6,rfl⟩ | ⟨_,_,_,_,_,_,_,_,rfl⟩
  ·exact c8.mk (by simp [Builtin.len_,run_underlying hu,goInt]) (.int _ _)
  ·exact c8.mk (by simp [Builtin.len_,run_underlying hu,goInt]) (.int _ _)
 ·rename_i e hu
  obtain rfl:_=v:=by simpa using ad
  cases ak
  exact c8.mk (by simp [Builtin.len_,run_underlying hu,goInt]) (.int _ _)
 ·rename_i e hu
  obtain rfl:_=v:=by simpa using ad
  cases ak
  exact c8.mk (by simp [Builtin.len_,run_underlying hu,goInt]) (.int _ _)
 ·rename_i n e hu
  obtain rfl:_=v:=by simpa using ad
  exact c8.mk (by simp [Builtin.len_,run_underlying hu,goInt]) (.int _ _)
 ·rename_i arr hu
  split at ad
  case h_2=>cases ad
  rename_i n e xY
  obtain rfl:_=v:=by simpa using ad
  exact c8.mk (by simp [Builtin.len_,run_underlying hu,run_underlying xY,goInt]) (.int _ _)
 ·rename_i k e hu
  obtain rfl:_=v:=by simpa using ad
  cases ak
  exact c8.mk (by simp [Builtin.len_,run_underlying hu,goInt]) (.int _ _)
 ·rename_i k e i hu
  split at ad
  case h_2=>cases ad
  rename_i es cl aB
  obtain rfl:_=v:=by simpa using ad
  cases ak with
  | map hi=>
  have bc:=R.heap.obj i
  rw [aB] at bc
  obtain ⟨b,cm,arr,aU,_,_,hw,hm⟩:=bc
  rw [aU] at hi
  simp at hi
  obtain ⟨rfl,rfl⟩:=hi
  exact c8.mk (by simp [Builtin.len_,run_underlying hu,run_getObj_map hw,goInt,hm.1]) (.int _ _)
 ·cases ad
theorem amY {P:Program} {x v:V} {dm:Value} {GZ asserted:TypeId} {ok:Bool} {h:J} (ad:gZ P x asserted ok=some v) {ρ:Ren} {B:Nat} {bg w:World} (R:bt ρ B bg h w) (ak:a1 ρ x dm) :
  c8 P (Instr.typeAssert dm GZ asserted ok) ρ w v:=by
 unfold gZ at ad
 split at ad
 ·cases ad
 ·rename_i d t u tL hu
  cases ak with
  | iface t aN=>
  rename_i wT
  split at ad
  ·rename_i bw
   obtain rfl:_=v:=by simpa using ad
   refine c8.mk (v':=if ok then .tuple #[wT,.bool true] else wT) ?_ ?_
   ·cases d with
    | interface ms=>exact absurd rfl (tL ms)
    | _=>cases ok<;>simp [Instr.typeAssert,run_underlying hu,bw]
   ·cases ok
    ·exact aN
    ·simp only [if_true]
     exact ((bx.cons aN (.cons (.bool true) (.nil ρ))).arr).tuple
  ·rename_i bw
   split at ad
   case isFalse=>cases ad
   rename_i ba
   subst ba
   split at ad
   case h_2=>cases ad
   rename_i z b4
   obtain rfl:_=v:=by simpa using ad
   refine c8.mk (v':=.tuple #[z,.bool false]) ?_ ((bx.cons (LV ρ z) (.cons (.bool false) (.nil ρ))).arr).tuple
   cases af:P.info? asserted with
   | none=>simp [qH,af] at b4
   | some dy=>
    simp [qH,af] at b4
    cases d with
    | interface ms=>exact absurd rfl (tL ms)
    | _=>simp [Instr.typeAssert,run_underlying hu,bw,zeroValue,typeInfo,af,b4]
 ·cases ad
def vC:TypeDesc→Bool
 | .int _ | .string | .bool=>true
 | _=>false
def xH (P:Program) (hg:TypeId) (d:TypeDesc) (a b:V):Option Bool :=
 match r4 a,r4 b with
 | some a,some b=>if vC d then Instr.sameNow d a b else e8 P (Op.equal hg a b)
 | _,_=>none
def va (P:Program) (hg:TypeId) (d:TypeDesc) (k:V):List (Nat×V×V)→Option (Option Nat)
 | []=>some none
 | e::es=>match xH P hg d k e.2.1 with
  | some true=>some (some 0)
  | some false=>(va P hg d k es).map (·.map (·+1))
  | none=>none
theorem lj.fh {ρ:Ren} {e:Nat×V×V} {es:List (Nat×V×V)} {arr:Array MapEntry} (h:lj ρ (e::es) arr):∃ fo gQ,arr.toList=fo::gQ∧e.1=fo.born∧a1 ρ e.2.1 fo.key∧a1 ρ e.2.2 fo.val∧lj ρ es gQ.toArray:=by
 have aM:=h.1
 cases a6:arr.toList with
 | nil=>
  have:arr.size=0:=by rw [←Array.length_toList,a6];rfl
  simp at aM;omega
 | cons fo gQ=>
  have hk:∀ k:Nat,arr[k]?=(fo::gQ)[k]?:=fun k=>by rw [←Array.getElem?_toList,a6]
  obtain ⟨a,b,c⟩:=h.2 0 e fo rfl (by rw [hk];rfl)
  refine ⟨fo,gQ,rfl,a,b,c,?_,fun k x y ak bs=>h.2 (k+1) x y (by simpa using ak) (by rw [hk];simpa using bs)⟩
  have:arr.size=gQ.length+1:=by rw [←Array.length_toList,a6];rfl
  simp at aM⊢;omega
theorem ai0 {P:Program} {ρ:Ren} {hg:TypeId} {d:TypeDesc} (bb:vC d=true) {k:V} {k':Value} (hk:a1 ρ k k'):∀ (es:List (Nat×V×V)) (l:List MapEntry) (i:Nat) (r:Option Nat),lj ρ es l.toArray→va P hg d k es=some r →
  Instr.findNow d k' l i=some (match r with | some j=>(l[j]?).map fun e=>(i+j,e.val) | none=>none)∧(∀ j,r=some j→j<l.length)
 | [],l,i,r,hm,h=>by
  have:l=[]:=by have:=hm.1;simp at this;exact List.eq_nil_of_length_eq_zero this.symm
  subst this
  simp [va] at h
  subst h
  exact ⟨rfl,by simp⟩
 | e::es,l,i,r,hm,h=>by
  obtain ⟨fo,gQ,aM,av,jl,Dm,jV⟩:=hm.fh
  obtain rfl:l=fo::gQ:=by simpa using aM
  unfold va at h
  have ad:∀ b,xH P hg d k e.2.1=some b→Instr.sameNow d k' fo.key=some b:=fun b av=>by
   unfold xH at av
   split at av
   ·rename_i a c a6 aF
    rw [if_pos bb] at av
    rw [D2 hk a6,D2 jl aF]
    exact av
   ·cases av
  unfold Instr.findNow
  split at h
  ·rename_i heq
   rw [ad _ heq]
   obtain rfl:some 0=r:=by simpa using h
   exact ⟨rfl,by simp⟩
  ·rename_i heq
   rw [ad _ heq]
   cases bw:va P hg d k es with
   | none=>simp [bw] at h
   | some dY=>
    simp [bw] at h
    obtain ⟨h1,ae⟩:=ai0 bb hk es gQ (i+1) dY jV bw
    subst h
    simp only
    rw [h1]
    cases dY with
    | none=>exact ⟨rfl,by simp⟩
    | some j=>
     have:=ae j rfl
     simp [List.getElem?_eq_getElem this,Nat.add_comm,Nat.add_left_comm,this]
  ·cases h
theorem ai1 {P:Program} {ρ:Ren} {hg:TypeId} {d:TypeDesc} (bb:vC d=false) {k:V} {k':Value} (hk:a1 ρ k k') {w:World}:∀ (es:List (Nat×V×V)) (l:List MapEntry) (i:Nat) (r:Option Nat),lj ρ es l.toArray→va P hg d k es=some r →
  (Instr.findAsking hg k' l i).run P w=.ok (match r with | some j=>(l[j]?).map fun e=>(i+j,e.val) | none=>none) w∧(∀ j,r=some j→j<l.length)
 | [],l,i,r,hm,h=>by
  have:l=[]:=by have:=hm.1;simp at this;exact List.eq_nil_of_length_eq_zero this.symm
  subst this
  simp [va] at h
  subst h
  exact ⟨rfl,by simp⟩
 | e::es,l,i,r,hm,h=>by
  obtain ⟨fo,gQ,aM,av,jl,Dm,jV⟩:=hm.fh
  obtain rfl:l=fo::gQ:=by simpa using aM
  unfold va at h
  have ad:∀ b,xH P hg d k e.2.1=some b→(Op.equal hg k' fo.key).run P w=.ok b w:=fun b av=>by
   unfold xH at av
   split at av
   ·rename_i a c a6 aF
    rw [if_neg (by simp [bb])] at av
    rw [D2 hk a6,D2 jl aF]
    exact JA av w
   ·cases av
  unfold Instr.findAsking
  rw [Sem.run_bind]
  split at h
  ·rename_i heq
   rw [ad _ heq]
   obtain rfl:some 0=r:=by simpa using h
   exact ⟨by simp,by simp⟩
  ·rename_i heq
   rw [ad _ heq]
   cases bw:va P hg d k es with
   | none=>simp [bw] at h
   | some dY=>
    simp [bw] at h
    obtain ⟨h1,ae⟩:=ai1 bb hk es gQ (i+1) dY jV bw
    subst h
    simp only [Result.andThen_ok,Bool.false_eq_true,if_false]
    rw [h1]
    cases dY with
    | none=>exact ⟨rfl,by simp⟩
    | some j=>
     have:=ae j rfl
     simp [List.getElem?_eq_getElem this,Nat.add_comm,Nat.add_left_comm,this]
  ·cases h
theorem amZ {d:TypeDesc} (bb:vC d=false) (a b:Value):Instr.sameNow d a b=none:=by
 cases d<;>simp [vC] at bb<;>rfl
theorem i9 {P:Program} {ρ:Ren} {hg:TypeId} {d:TypeDesc} (hu:P.underlying hg=some d) {k:V} {k':Value} (hk:a1 ρ k k') {w:World} {es:List (Nat×V×V)} {arr:Array MapEntry} {r:Option Nat} (hm:lj ρ es arr) (h:va P hg d k es=some r) :
  (Instr.findKey hg k' arr.toList).run P w=.ok (r.bind fun j=>(arr[j]?).map fun e=>(j,e.val)) w∧(∀ j,r=some j→j<arr.size):=by
 unfold Instr.findKey
 rw [Sem.run_bind,run_underlying hu,Result.andThen_ok]
 have jV:lj ρ es arr.toList.toArray:=by simpa using hm
 cases bb:vC d with
 | true=>
  obtain ⟨h1,ae⟩:=ai0 bb hk es arr.toList 0 r jV h
  rw [h1]
  refine ⟨?_,fun j aX=>by simpa using ae j aX⟩
  cases r<;>simp
 | false=>
  obtain ⟨h1,ae⟩:=ai1 (w:=w) bb hk es arr.toList 0 r jV h
  refine ⟨?_,fun j aX=>by simpa using ae j aX⟩
  cases a6:arr.toList with
  | nil=>
   have he:es=[]:=by
    have aA:=hm.1
    rw [←Array.length_toList,a6] at aA
    exact List.eq_nil_of_length_eq_zero aA
   subst he
   simp [va] at h
   subst h
   simp [Instr.findNow]
  | cons e l=>
   have:Instr.findNow d k' (e::l) 0=none:=by unfold Instr.findNow;rw [amZ bb]
   rw [this]
   rw [a6] at h1
   simp only
   rw [h1]
   cases r with
   | none=>rfl
   | some j=>
    have ar:arr[j]?=(e::l)[j]?:=by rw [←Array.getElem?_toList,a6]
    simp [ar]
def Ba (P:Program) (empty:Bool) (hg:TypeId) (k:V):Bool :=
 match r4 k with
 | some a=>(e8 P (Instr.checkKey empty 10000 hg a)).isSome
 | none=>false
theorem HI {P:Program} {empty:Bool} {hg:TypeId} {k:V} {k':Value} {ρ:Ren} (h:Ba P empty hg k=true) (hk:a1 ρ k k') (w:World):(Instr.checkKey empty 10000 hg k').run P w=.ok () w:=by
 unfold Ba at h
 split at h
 ·rename_i a a6
  rw [D2 hk a6]
  cases aW:e8 P (Instr.checkKey empty 10000 hg a) with
  | none=>simp [aW] at h
  | some u=>exact JA aW w
 ·cases h
def gR (P:Program) (t:TypeId):Option (TypeId×TypeId×TypeDesc) :=
 match P.underlying t with
 | some (.map k e)=>(P.underlying k).map fun d=>(k,e,d)
 | _=>none
theorem HJ {P:Program} {t k e:TypeId} {d:TypeDesc} (h:gR P t=some (k,e,d)):P.underlying t=some (.map k e)∧P.underlying k=some d:=by
 unfold gR at h
 split at h
 ·rename_i k' fo hu
  cases hk:P.underlying k' with
  | none=>simp [hk] at h
  | some uf=>
   simp [hk] at h
   obtain ⟨rfl,rfl,rfl⟩:=h
   exact ⟨hu,hk⟩
 ·cases h
def n5 (P:Program) (t:TypeId) (m k:V) (ok:Bool) (h:J):Option V :=
 match gR P t with
 | none=>none
 | some (hg,nW,d)=>
  match qH P nW,m with
  | some z,.oQ=>if Ba P true hg k then some (if ok then .tuple [jQ z,.bool false] else jQ z) else none
  | some z,.map i=>
   match h.get i with
   | .map es _=>
    if Ba P es.isEmpty hg k then
     match va P hg d k es with
     | some (some j)=>(es[j]?).map fun e=>if ok then .tuple [e.2.2,.bool true] else e.2.2
     | some none=>some (if ok then .tuple [jQ z,.bool false] else jQ z)
     | none=>none
    else none
   | _=>none
  | _,_=>none
theorem aaO {ρ:Ren} {v:V} {v':Value} (h:a1 ρ v v') (b:Bool) (ok:Bool):a1 ρ (if ok then .tuple [v,.bool b] else v) (if ok then .tuple #[v',.bool b] else v'):=by
 cases ok
 ·exact h
 ·exact ((bx.cons h (.cons (.bool b) (.nil ρ))).arr).tuple
theorem Yb {P:Program} {e:TypeId} {z:Value} (h:qH P e=some z) (w:World):(zeroValue e).run P w=.ok z w:=by
 cases af:P.info? e with
 | none=>simp [qH,af] at h
 | some dy=>simp [qH,af] at h;simp [zeroValue,typeInfo,af,h]
theorem am0 {P:Program} {t:TypeId} {m k v:V} {jf k':Value} {ok:Bool} {h:J} (ad:n5 P t m k ok h=some v) {ρ:Ren} {B:Nat} {bg w:World} (R:bt ρ B bg h w) (hm:a1 ρ m jf) (hk:a1 ρ k k') :
  c8 P (Instr.lookup t jf k' ok) ρ w v:=by
 unfold n5 at ad
 split at ad
 ·cases ad
 rename_i hg nW d cS
 obtain ⟨hu,xx⟩:=HJ cS
 split at ad
 ·rename_i z b4
  split at ad
  case isFalse=>cases ad
  rename_i ug
  obtain rfl:_=v:=by simpa using ad
  cases hm
  refine c8.mk ?_ (aaO (LV ρ z) false ok)
  have aC:=(i9 (P:=P) (w:=w) (arr:=#[]) (es:=[]) (r:=none) xx hk ⟨rfl,by simp⟩ rfl).1
  simp only [Instr.lookup,Sem.run_bind,Sem.run_pure,run_underlying hu,Result.andThen_ok]
  rw [show (#[]:Array MapEntry).isEmpty=true from rfl,HI ug hk w,Result.andThen_ok,aC]
  simp [Yb b4]
 ·rename_i z i b4
  split at ad
  case h_2=>cases ad
  rename_i es cl aB
  split at ad
  case isFalse=>cases ad
  rename_i ug
  cases hm with
  | map hi=>
  have bc:=R.heap.obj i
  rw [aB] at bc
  obtain ⟨b,cm,arr,aU,_,_,hw,hb⟩:=bc
  rw [aU] at hi
  simp at hi
  obtain ⟨rfl,rfl⟩:=hi
  have sX:es.isEmpty=arr.isEmpty:=by
   have:=hb.1
   rw [Bool.eq_iff_iff,List.isEmpty_iff,Array.isEmpty_iff,←List.length_eq_zero_iff,←Array.size_eq_zero_iff,this]
  rw [sX] at ug
  split at ad
  ·rename_i j aC
   obtain ⟨h1,ae⟩:=i9 (P:=P) (w:=w) xx hk hb aC
   have aX:=ae j rfl
   have nZ:j<es.length:=by rw [hb.1];exact aX
   rw [List.getElem?_eq_getElem nZ] at ad
   obtain rfl:_=v:=by simpa using ad
   obtain ⟨_,_,aN⟩:=hb.2 j _ _ (List.getElem?_eq_getElem nZ) (Array.getElem?_eq_getElem aX)
   refine c8.mk ?_ (aaO aN true ok)
   simp only [Instr.lookup,Sem.run_bind,Sem.run_pure,run_underlying hu,run_getObj_map hw,Result.andThen_ok]
   rw [HI ug hk w,Result.andThen_ok,h1]
   simp [Array.getElem?_eq_getElem aX]
  ·rename_i aC
   obtain ⟨h1,ae⟩:=i9 (P:=P) (w:=w) xx hk hb aC
   obtain rfl:_=v:=by simpa using ad
   refine c8.mk ?_ (aaO (LV ρ z) false ok)
   simp only [Instr.lookup,Sem.run_bind,Sem.run_pure,run_underlying hu,run_getObj_map hw,Result.andThen_ok]
   rw [HI ug hk w,Result.andThen_ok,h1]
   simp [Yb b4]
  ·cases ad
 ·cases ad
def xZ (P:Program) (t:TypeId) (m k v:V) (h:J):Option J :=
 match gR P t,m with
 | some (hg,nW,d),.map i=>
  match h.get i with
  | .map es cl=>
   if Ba P false hg k then
    match va P hg d k es with
    | some (some j)=>
     match (es[j]?).bind fun e=>r4 e.2.1,r4 k with
     | some a,some b=>if Instr.sameBits 10000 a b=true then some (h.set i (.map (es.modify j fun e=>(e.1,k,v)) cl)) else none
     | _,_=>none
    | some none=>some (h.set i (.map (es++[(cl,k,v)]) (cl+1)))
    | none=>none
   else none
  | _=>none
 | _,_=>none
theorem run_setObj_map {P:Program} {w:World} {b:Nat} {es:Array MapEntry} {c:Nat} (h:w.heap[b]?=some (.map es c)) (o:Obj):(setObj b o).run P w=.ok () { w with heap:=w.heap.setIfInBounds b o }:=by
 simp [setObj,Sem.run,h]
theorem am1 {P:Program} {w:World} {b:Nat} {m:Option Nat} {s:Nat} {Ya:Array Nat} {st:Nat} (h:w.heap[b]?=some (.mapIter m s Ya st)) (o:Obj):(setObj b o).run P w=.ok () { w with heap:=w.heap.setIfInBounds b o }:=by
 simp [setObj,Sem.run,h]
theorem bt.setObj {ρ:Ren} {B:Nat} {bg:World} {h:J} {w:World} (R:bt ρ B bg h w) {i b cm:Nat} (hi:ρ.ren i=some (b,cm)) (aM:h.get i≠.dead) (cp:B≤b) {o:aV} {ob:Obj}
  (aH:b<w.heap.size) (sn:ua ρ B { w with heap:=w.heap.setIfInBounds b ob } i o):bt ρ B bg (h.set i o) { w with heap:=w.heap.setIfInBounds b ob }:=by
 refine R.zD hi aM (fun k hk=>by simp [Array.getElem?_setIfInBounds,Ne.symm hk]) (by simp) ⟨rfl,rfl,rfl,by simp,fun k hk=>?_,Nat.le_refl _⟩ sn
 simp [Array.getElem?_setIfInBounds,show b≠k by omega]
theorem ai2 {P:Program} {t:TypeId} {m k v:V} {jf k' v':Value} {h h':J} (ad:xZ P t m k v h=some h') {ρ:Ren} {B:Nat} {bg w:World} (R:bt ρ B bg h w) (hm:a1 ρ m jf) (hk:a1 ρ k k') (aN:a1 ρ v v') :
  ∃ w',(Instr.mapUpdate t jf k' v').run P w=.ok () w'∧bt ρ B bg h' w':=by
 unfold xZ at ad
 split at ad
 case h_2=>cases ad
 rename_i hg nW d i cS
 obtain ⟨hu,xx⟩:=HJ cS
 split at ad
 case h_2=>cases ad
 rename_i es cl aB
 split at ad
 case isFalse=>cases ad
 rename_i ug
 cases hm with
 | map hi=>
 have bc:=R.heap.obj i
 rw [aB] at bc
 obtain ⟨b,cm,arr,aU,qf,cp,hw,hb⟩:=bc
 rw [aU] at hi
 simp at hi
 obtain ⟨rfl,rfl⟩:=hi
 have aH:b<w.heap.size:=(Array.getElem?_eq_some_iff.1 hw).1
 split at ad
 ·rename_i j aC
  split at ad
  case h_2=>cases ad
  rename_i a c a6 aF
  split at ad
  case isFalse=>cases ad
  rename_i Q4
  obtain rfl:_=h':=by simpa using ad
  obtain ⟨h1,ae⟩:=i9 (P:=P) (w:=w) xx hk hb aC
  have aX:=ae j rfl
  have nZ:j<es.length:=by rw [hb.1];exact aX
  obtain ⟨_,jl,_⟩:=hb.2 j _ _ (List.getElem?_eq_getElem nZ) (Array.getElem?_eq_getElem aX)
  rw [List.getElem?_eq_getElem nZ] at a6
  simp at a6
  have ar:=D2 jl a6
  have aT:=D2 hk aF
  have ij:=R.setObj (o:=.map (es.modify j fun e=>(e.1,k,v)) cl) (ob:=.map (arr.modify j fun e=>{ e with key:=k',val:=v' }) cl) aU (by rw [aB];simp) cp aH (by
   refine ⟨b,cm,arr.modify j (fun e=>{ e with key:=k',val:=v' }),aU,qf,cp,by simp [aH],by simp [hb.1],fun q e fo af fi=>?_⟩
   rw [List.getElem?_modify] at af
   rw [Array.getElem?_modify] at fi
   by_cases Dn:j=q
   ·subst Dn
    rw [List.getElem?_eq_getElem nZ] at af
    rw [Array.getElem?_eq_getElem aX] at fi
    simp at af fi
    subst af;subst fi
    obtain ⟨aA,_,_⟩:=hb.2 j _ _ (List.getElem?_eq_getElem nZ) (Array.getElem?_eq_getElem aX)
    exact ⟨aA,hk,aN⟩
   ·simp [Dn] at af fi
    exact hb.2 q e fo af fi)
  refine ⟨_,?_,ij⟩
  simp only [Instr.mapUpdate,Sem.run_bind,run_underlying hu,run_getObj_map hw,Result.andThen_ok]
  rw [HI ug hk w,Result.andThen_ok,h1]
  have hK:(Instr.keyThatStays a c).run P w=.ok c w:=by unfold Instr.keyThatStays;rw [if_pos Q4];rfl
  simp [Array.getElem?_eq_getElem aX,ar,aT,hK,run_setObj_map hw]
 ·rename_i aC
  obtain rfl:_=h':=by simpa using ad
  obtain ⟨h1,ae⟩:=i9 (P:=P) (w:=w) xx hk hb aC
  have ij:=R.setObj (o:=.map (es++[(cl,k,v)]) (cl+1)) (ob:=.map (arr.push { key:=k',val:=v',born:=cl }) (cl+1)) aU (by rw [aB];simp) cp aH (by
   refine ⟨b,cm,arr.push { key:=k',val:=v',born:=cl },aU,qf,cp,by simp [aH],by simp [hb.1],fun q e fo af fi=>?_⟩
   rw [List.getElem?_append] at af
   rw [Array.getElem?_push] at fi
   by_cases JE:q<es.length
   ·rw [if_pos JE] at af
    rw [if_neg (by rw [←hb.1];omega)] at fi
    exact hb.2 q e fo af fi
   ·rw [if_neg JE] at af
    have Q5:q=es.length:=by
     have:=(List.getElem?_eq_some_iff.1 af).1
     simp at this;omega
    subst Q5
    rw [if_pos hb.1] at fi
    simp at af fi
    subst af;subst fi
    exact ⟨rfl,hk,aN⟩)
  refine ⟨_,?_,ij⟩
  simp only [Instr.mapUpdate,Sem.run_bind,run_underlying hu,run_getObj_map hw,Result.andThen_ok]
  rw [HI ug hk w,Result.andThen_ok,h1]
  simp [run_setObj_map hw]
 ·cases ad
def G0 (P:Program) (t:TypeId) (m k:V) (h:J):Option J :=
 match gR P t,m with
 | some (hg,nW,d),.map i=>
  match h.get i with
  | .map es cl=>
   if Ba P es.isEmpty hg k then
    match va P hg d k es with
    | some (some j)=>some (h.set i (.map (es.eraseIdx j) cl))
    | some none=>some h
    | none=>none
   else none
  | _=>none
 | _,_=>none
theorem am2 {P:Program} {t ty:TypeId} {ts:Array TypeId} {m k:V} {jf k':Value} {h h':J} (bw:ts[0]?=some t) (ad:G0 P t m k h=some h') {ρ:Ren} {B:Nat} {bg w:World} (R:bt ρ B bg h w) (hm:a1 ρ m jf) (hk:a1 ρ k k') :
  ∃ w',(Builtin.delete_ ts ty #[jf,k']).run P w=.ok (.tuple #[]) w'∧bt ρ B bg h' w':=by
 unfold G0 at ad
 split at ad
 case h_2=>cases ad
 rename_i hg nW d i cS
 obtain ⟨hu,xx⟩:=HJ cS
 split at ad
 case h_2=>cases ad
 rename_i es cl aB
 split at ad
 case isFalse=>cases ad
 rename_i ug
 cases hm with
 | map hi=>
 have bc:=R.heap.obj i
 rw [aB] at bc
 obtain ⟨b,cm,arr,aU,qf,cp,hw,hb⟩:=bc
 rw [aU] at hi
 simp at hi
 obtain ⟨rfl,rfl⟩:=hi
 have aH:b<w.heap.size:=(Array.getElem?_eq_some_iff.1 hw).1
 have sX:es.isEmpty=arr.isEmpty:=by
  have:=hb.1
  rw [Bool.eq_iff_iff,List.isEmpty_iff,Array.isEmpty_iff,←List.length_eq_zero_iff,←Array.size_eq_zero_iff,this]
 rw [sX] at ug
 split at ad
 ·rename_i j aC
  obtain rfl:_=h':=by simpa using ad
  obtain ⟨h1,ae⟩:=i9 (P:=P) (w:=w) xx hk hb aC
  have aX:=ae j rfl
  have nZ:j<es.length:=by rw [hb.1];exact aX
  have ij:=R.setObj (o:=.map (es.eraseIdx j) cl) (ob:=.map (arr.eraseIdxIfInBounds j) cl) aU (by rw [aB];simp) cp aH (by
   have ar:∀ q:Nat,(arr.eraseIdxIfInBounds j)[q]?=if q<j then arr[q]? else arr[q+1]?:=fun q=>by
    rw [←Array.getElem?_toList,Array.toList_eraseIdxIfInBounds,List.getElem?_eraseIdx]
    simp
   refine ⟨b,cm,arr.eraseIdxIfInBounds j,aU,qf,cp,by simp [aH],?_,fun q e fo af fi=>?_⟩
   ·rw [List.length_eraseIdx,if_pos nZ,←Array.length_toList,Array.toList_eraseIdxIfInBounds,List.length_eraseIdx,if_pos (by simpa using aX),hb.1]
    simp
   ·rw [List.getElem?_eraseIdx] at af
    rw [ar] at fi
    by_cases ZJ:q<j
    ·simp only [ZJ,if_true] at af fi
     exact hb.2 q e fo af fi
    ·simp only [ZJ,if_false] at af fi
     exact hb.2 _ e fo af fi)
  refine ⟨_,?_,ij⟩
  simp only [Builtin.delete_,bw,Sem.run_bind,run_underlying hu,run_getObj_map hw,Result.andThen_ok,List.getElem?_toArray,List.getElem?_cons_zero,List.getElem?_cons_succ]
  rw [HI ug hk w,Result.andThen_ok,h1]
  simp [Array.getElem?_eq_getElem aX,run_setObj_map hw]
 ·rename_i aC
  obtain rfl:_=h':=by simpa using ad
  obtain ⟨h1,ae⟩:=i9 (P:=P) (w:=w) xx hk hb aC
  have ij:=R.setObj (o:=.map es cl) (ob:=.map arr cl) aU (by rw [aB];simp) cp aH ⟨b,cm,arr,aU,qf,cp,by simp [aH],hb⟩
  have U:h.set i (.map es cl)=h:=by
   unfold J.set
   congr 1
   funext j
   by_cases dJ:j=i
   ·subst dJ;simp [aB]
   ·simp [dJ]
  rw [U] at ij
  refine ⟨_,?_,ij⟩
  simp only [Builtin.delete_,bw,Sem.run_bind,run_underlying hu,run_getObj_map hw,Result.andThen_ok,List.getElem?_toArray,List.getElem?_cons_zero,List.getElem?_cons_succ]
  rw [HI ug hk w,Result.andThen_ok,h1]
  simp [run_setObj_map hw]
 ·cases ad
def Q6 (P:Program) (t:TypeId) (r:Option V) (h:J):Option (V×J) :=
 match r with
 | none=>some (.map h.n,h.push (.map [] 0))
 | some (.int _ _)=>if (gR P t).isSome then some (.map h.n,h.push (.map [] 0)) else none
 | _=>none
theorem ai3 {ρ:Ren} {B:Nat} {bg w:World} {h:J} (R:bt ρ B bg h w) {o:aV} {ob:Obj} (sn:∀ ρ':Ren,ρ.le ρ'→ρ'.ren h.n=some (w.heap.size,0)→ρ'.frz w.heap.size=none→ua ρ' B { w with heap:=w.heap.push ob } h.n o) :
  ∃ ρ':Ren,ρ.le ρ'∧ρ'.ren h.n=some (w.heap.size,0)∧bt ρ' B bg (h.push o) { w with heap:=w.heap.push ob }:=by
 have Jw:ρ.frz w.heap.size=none:=by
  cases aC:ρ.frz w.heap.size with
  | none=>rfl
  | some a=>
   obtain ⟨e,ky,hw⟩:=R.heap.frz _ _ aC
   have:=(Array.getElem?_eq_some_iff.1 hw).1
   omega
 have hle:=Ren.xV (R.heap.qb _ (Nat.le_refl _)) w.heap.size 0
 obtain ⟨h1,ae⟩:=R.HD (o:=o) (w':={ w with heap:=w.heap.push ob }) 0 (by simp) (fun k hk=>by simp [Array.getElem?_push,show k≠w.heap.size by omega])
  ⟨rfl,rfl,rfl,by simp,fun k hk=>by have:=R.heap.base;simp [Array.getElem?_push,show k≠w.heap.size by omega],Nat.le_refl _⟩ (sn _ hle Ren.sm Jw)
 exact ⟨_,h1,Ren.sm,ae⟩
theorem am3 {P:Program} {t:TypeId} {r:Option V} {dY:Option Value} {v:V} {h h':J} (ad:Q6 P t r h=some (v,h')) {ρ:Ren} {B:Nat} {bg w:World} (R:bt ρ B bg h w) (aU:Option.Rel (a1 ρ) r dY) :
  Yields P (Instr.makeMap t dY) ρ B bg w v h':=by
 have key:∀ v h',some (V.map h.n,h.push (.map [] 0))=some (v,h')→(Instr.makeMap t dY).run P w=.ok (.map (some w.heap.size)) { w with heap:=w.heap.push (.map #[] 0) }→Yields P (Instr.makeMap t dY) ρ B bg w v h':=fun v h' he eg=>by
  simp at he
  obtain ⟨rfl,rfl⟩:=he
  obtain ⟨ρ',hle,aG,ij⟩:=ai3 R (o:=.map [] 0) (ob:=.map #[] 0) fun ρ' hle aG aC=>⟨w.heap.size,0,#[],aG,aC,R.heap.base,by simp,rfl,by simp⟩
  exact ⟨ρ',_,_,eg,.map aG,ij,hle⟩
 unfold Q6 at ad
 cases aU with
 | none=>exact key v h' ad (by simp [Instr.makeMap,newObj,Sem.run])
 | some aN=>
  rename_i a b
  cases a<;>simp at ad
  rename_i kk n
  cases aN
  obtain ⟨cS,h1,ae⟩:=ad
  refine key v h' (by simp [h1,ae]) ?_
  cases hm:gR P t with
  | none=>simp [hm] at cS
  | some q=>
   obtain ⟨hg,nW,d⟩:=q
   simp [Instr.makeMap,run_underlying (HJ hm).1,asInt,asIntOf,newObj,Sem.run]
def PS (P:Program) (t:TypeId) (x:V) (h:J):Option (V×J) :=
 match gR P t,x with
 | some _,.map i=>match h.get i with
  | .map es cl=>some (.ptr h.n 0,h.push (.iter i cl [] cl))
  | _=>none
 | _,_=>none
theorem am4 {P:Program} {t:TypeId} {x v:V} {dm:Value} {h h':J} (ad:PS P t x h=some (v,h')) {ρ:Ren} {B:Nat} {bg w:World} (R:bt ρ B bg h w) (ak:a1 ρ x dm) :
  Yields P (Instr.range t dm) ρ B bg w v h':=by
 unfold PS at ad
 split at ad
 case h_2=>cases ad
 rename_i q i cS
 obtain ⟨hg,nW,d⟩:=q
 obtain ⟨hu,_⟩:=HJ cS
 split at ad
 case h_2=>cases ad
 rename_i es cl aB
 simp at ad
 obtain ⟨rfl,rfl⟩:=ad
 cases ak with
 | map hi=>
 have bc:=R.heap.obj i
 rw [aB] at bc
 obtain ⟨b,cm,arr,aU,qf,cp,hw,hb⟩:=bc
 rw [aU] at hi
 simp at hi
 obtain ⟨rfl,rfl⟩:=hi
 obtain ⟨ρ',hle,aG,ij⟩:=ai3 R (o:=.iter i cl [] cl) (ob:=.mapIter (some b) cl #[] cl) fun ρ' hle aG aC=>⟨w.heap.size,0,b,cm,aG,aC,R.heap.base,hle.ren _ _ aU,by simp⟩
 refine ⟨ρ',_,_,?_,.ptr aG 0,ij,hle⟩
 simp [Instr.range,run_underlying hu,run_getObj_map hw,newObj,Sem.run]
def qg (es:List (Nat×V×V)) (seen:List Nat):List (Nat×V×V):=es.filter fun e=>!seen.contains e.1
def HK (it:V) (h:J):Option (List (V×J)) :=
 match it with
 | .ptr r 0=>match h.get r with
  | .iter m since seen last=>match h.get m with
   | .map es clock=>
    if (!seen.isEmpty&&!es.isEmpty&&es.all (fun e=>decide (last≤e.1)))=true then none else
    some (
     (if (qg es seen).all (fun e=>decide (since≤e.1)) then [(.tuple [.bool false],h)] else []) ++
     (qg es seen).map fun e=>(.tuple [.bool true,e.2.1,e.2.2],h.set r (.iter m since (seen++[e.1]) clock)))
   | _=>none
  | _=>none
 | _=>none
def PT (it:V) (h:J):Option V :=
 match it with
 | .ptr r 0=>match h.get r with
  | .iter m since seen vZ=>match seen.getLast?,h.get m with
   | some zd,.map es clock=>if clock=vZ then (es.find? fun e=>e.1==zd).map fun e=>.tuple [e.2.1,e.2.2] else none
   | _,_=>none
  | _=>none
 | _=>none
theorem ai4 {ρ:Ren} (p:Nat→Bool):∀ (es:List (Nat×V×V)) (l:List MapEntry) (e:Nat×V×V),lj ρ es l.toArray→es.find? (fun e=>p e.1)=some e→∃ fo,l.find? (fun e=>p e.born)=some fo∧a1 ρ e.2.1 fo.key∧a1 ρ e.2.2 fo.val
 | [],l,e,hm,h=>by simp at h
 | a::es,l,e,hm,h=>by
  obtain ⟨fo,gQ,aM,av,jl,Dm,jV⟩:=hm.fh
  obtain rfl:l=fo::gQ:=by simpa using aM
  rw [List.find?_cons] at h⊢
  rw [←av]
  by_cases aW:p a.1=true
  ·simp only [aW] at h⊢
   obtain rfl:a=e:=by simpa using h
   exact ⟨fo,rfl,jl,Dm⟩
  ·simp only [Bool.not_eq_true] at aW
   simp only [aW] at h⊢
   exact ai4 p es gQ e jV h
theorem am5 {P:Program} {it v:V} {JF:Value} {h:J} (ad:PT it h=some v) {ρ:Ren} {B:Nat} {bg w:World} (R:bt ρ B bg h w) (hi:a1 ρ it JF) :
  c8 P (Instr.entry JF) ρ w v:=by
 unfold PT at ad
 split at ad
 case h_2=>cases ad
 rename_i r
 split at ad
 case h_2=>cases ad
 rename_i m since seen vZ zt
 split at ad
 case h_2=>cases ad
 rename_i zd es clock tP Q7
 split at ad
 case isFalse=>cases ad
 rename_i dk
 obtain ⟨Q8,rc,jJ,rfl⟩:=hi.v7
 have bc:=R.heap.obj r
 rw [zt] at bc
 obtain ⟨b,cm,bm,GU,aU,qf,cp,pd,hw⟩:=bc
 rw [aU] at jJ
 simp at jJ
 obtain ⟨rfl,rfl⟩:=jJ
 have JG:=R.heap.obj m
 rw [Q7] at JG
 obtain ⟨b1,oD,arr,oC,aaP,kV,oG,hb⟩:=JG
 rw [oC] at pd
 simp at pd
 obtain ⟨rfl,rfl⟩:=pd
 cases aC:es.find? (fun e=>e.1==zd) with
 | none=>simp [aC] at ad
 | some e=>
  simp [aC] at ad
  subst ad
  obtain ⟨fo,dp,hk,aN⟩:=ai4 (fun n=>n==zd) es arr.toList e (by simpa using hb) aC
  have nu:arr.find? (fun x=>x.born==zd)=some fo:=by rw [←Array.find?_toList];exact dp
  have av:seen.toArray.back?=some zd:=by simpa using tP
  refine c8.mk (v':=.tuple #[fo.key,fo.val]) ?_ ((bx.cons hk (.cons aN (.nil ρ))).arr).tuple
  simp only [Instr.entry,Sem.run_bind,aiZ hw,Result.andThen_ok,av,run_getObj_map oG]
  subst dk
  simp [nu]
theorem ai5 {ρ:Ren} (seen:List Nat) (p:Nat→Bool):∀ (es:List (Nat×V×V)) (l:List MapEntry),lj ρ es l.toArray→lj ρ (es.filter fun e=>p e.1) (l.filter fun e=>p e.born).toArray
 | [],l,hm=>by
  have:l=[]:=by have:=hm.1;simp at this;exact List.eq_nil_of_length_eq_zero this.symm
  subst this
  exact ⟨rfl,by simp⟩
 | e::es,l,hm=>by
  obtain ⟨fo,gQ,aM,av,jl,Dm,jV⟩:=hm.fh
  obtain rfl:l=fo::gQ:=by simpa using aM
  have ih:=ai5 seen p es gQ jV
  simp only [List.filter_cons,av]
  by_cases aW:p fo.born=true
  ·simp only [aW,if_true]
   refine ⟨by have:=ih.1;simpa using this,fun k x y ak bs=>?_⟩
   cases k with
   | zero=>simp at ak bs;subst ak;subst bs;exact ⟨av,jl,Dm⟩
   | succ k=>exact ih.2 k x y (by simpa using ak) (by simpa using bs)
  ·simp only [aW]
   exact ih
theorem lj.all {ρ:Ren} (p:Nat→Bool):∀ (es:List (Nat×V×V)) (l:List MapEntry),lj ρ es l.toArray→(es.all fun e=>p e.1)=(l.all fun e=>p e.born)
 | [],l,hm=>by
  have:l=[]:=by have:=hm.1;simp at this;exact List.eq_nil_of_length_eq_zero this.symm
  subst this
  rfl
 | e::es,l,hm=>by
  obtain ⟨fo,gQ,aM,av,jl,Dm,jV⟩:=hm.fh
  obtain rfl:l=fo::gQ:=by simpa using aM
  simp only [List.all_cons,av,lj.all p es gQ jV]
theorem am6 {P:Program} {it:V} {JF:Value} {ty:TypeId} {h:J} {alts:List (V×J)} (ad:HK it h=some alts) {ρ:Ren} {B:Nat} {bg w:World} (R:bt ρ B bg h w) (hi:a1 ρ it JF) :
  ∃ v h',(v,h') ∈ alts∧Yields P (Instr.next JF false ty) ρ B bg w v h':=by
 unfold HK at ad
 split at ad
 case h_2=>cases ad
 rename_i r
 split at ad
 case h_2=>cases ad
 rename_i m since seen last zt
 split at ad
 case h_2=>cases ad
 rename_i es clock Q7
 split at ad
 case isTrue=>cases ad
 rename_i ja
 obtain ⟨Q8,rc,jJ,rfl⟩:=hi.v7
 have bc:=R.heap.obj r
 rw [zt] at bc
 obtain ⟨b,cm,bm,GU,aU,qf,cp,pd,hw⟩:=bc
 rw [aU] at jJ
 simp at jJ
 obtain ⟨rfl,rfl⟩:=jJ
 have JG:=R.heap.obj m
 rw [Q7] at JG
 obtain ⟨b1,oD,arr,oC,aaP,kV,oG,hb⟩:=JG
 rw [oC] at pd
 simp at pd
 obtain ⟨rfl,rfl⟩:=pd
 have aH:b<w.heap.size:=(Array.getElem?_eq_some_iff.1 hw).1
 simp only [Option.some.injEq] at ad
 have Q9:lj ρ es arr.toList.toArray:=by simpa using hb
 have aaQ:¬((!seen.toArray.isEmpty&&!arr.isEmpty&&arr.all (fun e=>decide (last≤e.born)))=true):=by
  have ar:seen.toArray.isEmpty=seen.isEmpty:=by simp
  have aT:arr.isEmpty=es.isEmpty:=by
   have:=hb.1
   rw [Bool.eq_iff_iff,List.isEmpty_iff,Array.isEmpty_iff,←List.length_eq_zero_iff,←Array.size_eq_zero_iff,this]
  have cg:arr.all (fun e=>decide (last≤e.born))=es.all (fun e=>decide (last≤e.1)):=by
   rw [lj.all (fun n=>decide (last≤n)) es arr.toList Q9,Array.all_toList]
  rw [ar,aT,cg]
  exact ja
 have mF:=ai5 seen (fun n=>!seen.contains n) es arr.toList Q9
 let left:=arr.filter fun e=>!seen.toArray.contains e.born
 let o6:Array (Option MapEntry):=(if (left.filter (fun e=>decide (e.born<since))).isEmpty then #[none] else #[])++(left.filter (fun e=>decide (e.born<since))++left.filter (fun e=>decide (since≤e.born))).map some
 have JH:left.toList=arr.toList.filter fun e=>!seen.contains e.born:=by simp [left]
 have eg:∃ q:Nat,∃ c9,(∃ c,o6[q]?=some c)∧bt ρ B bg h c9∧c9.heap=w.heap∧∀ c,o6[q]?=some c →
   (Instr.next (.pointer (some ⟨b,0,none⟩)) false ty).run P w=(match c with
    | some e=>((setObj b (.mapIter (some b1) since (seen.toArray.push e.born) clock)).run P c9).andThen fun _ b0=>.ok (.tuple #[.bool true,e.key,e.val]) b0
    | none=>.ok (.tuple #[.bool false]) c9):=by
  have bZ:o6.size≠0:=by
   intro h0
   simp only [o6,Array.size_append,Array.size_map] at h0
   by_cases he:(left.filter (fun e=>decide (e.born<since))).isEmpty=true
   ·simp [he] at h0
   ·have:(left.filter (fun e=>decide (e.born<since))).size=0:=by omega
    exact he (by simp [Array.isEmpty,this])
  have qh:∃ q c9,q<o6.size∧(choose (.mapNext o6.size)).run P w=.ok q c9∧bt ρ B bg h c9∧c9.heap=w.heap:=by
   by_cases aC:(Question.mapNext o6.size).forced=true
   ·refine ⟨0,w,by omega,?_,R,rfl⟩
    simp [choose,Sem.run,aC]
   ·refine ⟨(Question.mapNext o6.size).cut (w.tape w.drawn (.mapNext o6.size)),w.drew,?_,?_,R.drew,rfl⟩
    ·simp only [Question.cut]
     exact Nat.mod_lt _ (by omega)
    ·have dp:(Question.mapNext o6.size).forced=false:=by simpa using aC
     simp only [choose,Sem.run,dp]
     rfl
  obtain ⟨q,c9,af,aF,PU,U⟩:=qh
  refine ⟨q,c9,⟨_,Array.getElem?_eq_getElem af⟩,PU,U,fun c JI=>?_⟩
  simp only [Instr.next,Sem.run_bind,aiZ hw,run_getObj_map oG,Result.andThen_ok]
  have Yc:¬((!seen.toArray.isEmpty&&!arr.isEmpty&&arr.all (fun x=>decide (x.born ≥ last)))=true):=aaQ
  rw [if_neg Yc]
  have x0:=aF
  simp only [o6,left] at x0 JI
  simp only [Sem.run_bind,Sem.run_pure,Result.andThen_ok,ge_iff_le,x0,JI]
  cases c<;>simp
 obtain ⟨q,c9,⟨c,JI⟩,PU,U,eg⟩:=eg
 have eg:=eg c JI
 have sf:c ∈ o6:=Array.mem_of_getElem? JI
 cases c with
 | none=>
  refine ⟨.tuple [.bool false],h,?_,ρ,_,c9,eg,((bx.cons (.bool false) (.nil ρ)).arr).tuple,PU,Ren.le.refl ρ⟩
  rw [←ad]
  apply List.mem_append_left
  have he:(left.filter (fun e=>decide (e.born<since))).isEmpty=true:=by
   by_cases he:(left.filter (fun e=>decide (e.born<since))).isEmpty=true
   ·exact he
   ·simp [o6,he] at sf
  have:(qg es seen).all (fun e=>decide (since≤e.1))=true:=by
   unfold qg
   rw [lj.all (fun n=>decide (since≤n)) _ _ mF,←JH]
   rw [List.all_eq_true]
   intro e xy
   rw [Array.isEmpty_iff,←Array.toList_inj] at he
   simp only [Array.toList_filter] at he
   have aA:=List.filter_eq_nil_iff.1 he e (by simpa using xy)
   simp at aA⊢
   exact aA
  rw [this]
  simp
 | some e=>
  have xy:e ∈ left.toList:=by
   simp only [o6,Array.mem_append,Array.mem_map] at sf
   rcases sf with sf | ⟨x,ak,Hj⟩
   ·split at sf<;>simp at sf
   ·simp at Hj
    subst Hj
    rcases ak with ak | ak
    ·simpa using (Array.mem_filter.1 ak).1
    ·simpa using (Array.mem_filter.1 ak).1
  rw [JH] at xy
  obtain ⟨k,hk⟩:=List.getElem?_of_mem xy
  have p3:k<(es.filter fun e=>!seen.contains e.1).length:=by
   rw [mF.1]
   simpa using (List.getElem?_eq_some_iff.1 hk).1
  obtain ⟨h1,ae,aA⟩:=mF.2 k _ e (List.getElem?_eq_getElem p3) (by simpa using hk)
  have gh:(es.filter fun e=>!seen.contains e.1)[k] ∈ qg es seen:=List.getElem_mem p3
  generalize (es.filter fun e=>!seen.contains e.1)[k]=a at h1 ae aA gh
  have gD:c9.heap[b]?=some (.mapIter (some b1) since seen.toArray last):=by rw [U];exact hw
  simp only [am1 gD,Result.andThen_ok] at eg
  refine ⟨.tuple [.bool true,a.2.1,a.2.2],h.set r (.iter m since (seen++[a.1]) clock),?_,ρ,_,_,eg,((bx.cons (.bool true) (.cons ae (.cons aA (.nil ρ)))).arr).tuple,?_,Ren.le.refl ρ⟩
  ·rw [←ad]
   apply List.mem_append_right
   exact List.mem_map.2 ⟨a,gh,rfl⟩
  ·refine PU.setObj aU (by rw [zt];simp) cp (by rw [U];exact aH) ?_
   exact ⟨b,cm,b1,oD,aU,qf,cp,oC,by simp [U,aH,h1]⟩
end Go.Proofs.YtedkjhifbibpmaaGreatDoor.Ab
