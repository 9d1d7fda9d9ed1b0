/-
  What functions of the program do, told of abstract states. Conditions: as each theorem says.
-/
import Derived.Test.YtihgdbelfjdajaaWiC
import Derived.Test.YtihgdbelfjdajaaSfA
import Derived.Test.YtihgdbelfjdajaaAbD
namespace Go.Proofs.Ytihgdbelfjdajaa.Pk
open Go Go.Proofs Go.Proofs.Ytihgdbelfjdajaa.Ab Go.Sort
set_option linter.unusedVariables false
/-! ### SortFunc of changes, whatever the comparator -/
theorem sortChg {g : FuncId} {cf : Chg → Chg → Int} (hO : SWO (ltOf cf)) (hcmp : ∀ a b, SCalls Try.prog g [.agg (chgE a), .agg (chgE b)] noHeap fun r _ => r = .int .i64 (cf a b))
    (eg : ∀ args w, (callFunc g args).run Try.prog w = .ok (.enter g args) w) (h : AHeap) (x : V) (l : List Chg) (ho : Own h 30 5 x (l.flatMap chgE)) (hl : l.length ≤ 2 ^ 40) :
    SCalls Try.prog 18 [x, .func (.func g) [] []] h fun r h' => r = .tuple [] ∧ Keep h h' (isId x) ∧ ∃ l' : List Chg, l'.Perm l ∧ (l'.Pairwise fun a b => ltOf cf b a = false) ∧ Own h' 30 5 x (l'.flatMap chgE) := by
  refine sortF_own (by decide) chgE_len (fun x => rfl) (fun x => CloL.cons (Clo.int _ _) (CloL.cons (Clo.int _ _) (CloL.cons (Clo.int _ _) (CloL.cons (Clo.int _ _) (CloL.cons (Clo.bool _) CloL.nil))))) hO hcmp
    (fun n enc hk h1 cf hO blk cap d w hc hH hb hs => AnyQ.slices_SortFunc sfChange 5 Try.isAgg30 Try.sizeOf30 enc hk h1 cf hO g #[] blk 0 cap d w eg hc hH hb hs) (fun hn => ?_) ho (by omega)
  subst hn
  have hlen : aLen Try.prog 33 x h = some (.int .i64 0) := by
    rcases ho with ⟨rfl | rfl, _⟩ | ⟨i, len, cap, c, ex, rfl, _, _, hl, _⟩
    · exact aLen_snil kt_33
    · exact aLen_z0 kt_33
    · have : len = 0 := by simp at hl; omega
      subst this
      exact aLen_sl kt_33
  exact sort1 h x _ 0 (.inl rfl) hlen
end Go.Proofs.Ytihgdbelfjdajaa.Pk
