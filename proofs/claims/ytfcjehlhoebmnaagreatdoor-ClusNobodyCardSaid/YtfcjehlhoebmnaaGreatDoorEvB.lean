/-
  An evaluator upon abstract states that the kernel can run, and why what it answers holds. Conditions: as each theorem says.
-/
import Derived.Test.YtfcjehlhoebmnaaGreatDoorEvA
namespace Go.Proofs.YtfcjehlhoebmnaaGreatDoor.Ab
noncomputable section
set_option linter.unusedVariables false

/-! ### What an operation may write -/
def wrV : V → List Nat
  | .ptr i _ => [i]
  | .sl i _ _ _ => [i]
  | .map i => [i]
  | _ => []
def wrOp (ev : Operand → V) : Op → List Nat
  | .store _ a _ => wrV (ev a)
  | .mapUpdate _ m _ _ => wrV (ev m)
  | .insert _ m _ _ => wrV (ev m)
  | .mapEntry _ m _ => wrV (ev m)
  | .entryStore _ m _ _ => wrV (ev m)
  | .convert _ _ x => wrV (ev x)
  | .next it _ => wrV (ev it)
  | .call ⟨.builtin .append, args, _⟩ => match args.toList with | x :: _ => wrV (ev x) | [] => []
  | .call ⟨.builtin .copy, args, _⟩ => match args.toList with | x :: _ => wrV (ev x) | [] => []
  | .call ⟨.builtin .delete, args, _⟩ => match args.toList with | x :: _ => wrV (ev x) | [] => []
  | .call ⟨.builtin .clear, args, _⟩ => match args.toList with | x :: _ => wrV (ev x) | [] => []
  | _ => []
section
variable {P : Program} {h h' : AHeap} {v : V}
theorem Loc.fin {x : Option (V × AHeap)} {W : List Nat} (hs : x = some (v, h')) (hl : ∀ u k, x = some (u, k) → Loc h k W) : Loc h h' W := hl _ _ hs
theorem loc_aAlloc {e : TypeId} (W : List Nat) (hs : aAlloc P e h = some (v, h')) : Loc h h' W := by
  unfold aAlloc at hs
  split at hs <;> simp at hs
  obtain ⟨_, rfl⟩ := hs
  exact .push _ _ _
theorem loc_aBox {e : TypeId} {x : V} (W : List Nat) (hs : aBox e x h = some (v, h')) : Loc h h' W := by
  unfold aBox at hs
  split at hs <;> simp at hs
  obtain ⟨_, rfl⟩ := hs
  exact .push _ _ _
theorem loc_buildSlice {t : TypeId} {len : Nat} {ps : List (Nat × V)} (W : List Nat) (hs : aBuildSlice P t len ps h = some (v, h')) : Loc h h' W := by
  unfold aBuildSlice at hs
  split at hs
  · cases hs
  split at hs
  · split at hs
    · split at hs <;> simp at hs
      obtain ⟨_, rfl⟩ := hs
      exact .push _ _ _
    · cases hs
  · cases hs
theorem loc_make {t : TypeId} {l c : V} (W : List Nat) (hs : aMake P t l c h = some (v, h')) : Loc h h' W := by
  unfold aMake at hs
  split at hs
  · split at hs
    · split at hs <;> simp at hs
      obtain ⟨_, rfl⟩ := hs
      exact .push _ _ _
    · cases hs
  · cases hs
theorem loc_makeMap {t : TypeId} {r : Option V} (W : List Nat) (hs : aMakeMap P t r h = some (v, h')) : Loc h h' W := by
  unfold aMakeMap at hs
  split at hs
  · simp at hs
    obtain ⟨_, rfl⟩ := hs
    exact .push _ _ _
  · split at hs <;> simp at hs
    obtain ⟨_, rfl⟩ := hs
    exact .push _ _ _
  · cases hs
theorem loc_range {t : TypeId} {x : V} (W : List Nat) (hs : aRange P t x h = some (v, h')) : Loc h h' W := by
  unfold aRange at hs
  split at hs
  · split at hs <;> simp at hs
    obtain ⟨_, rfl⟩ := hs
    exact .push _ _ _
  · cases hs
theorem loc_store {t : TypeId} {x y : V} (hs : aStore P t x y h = some h') : Loc h h' (wrV x) := by
  unfold aStore at hs
  split at hs
  · split at hs
    · split at hs <;> simp at hs
      obtain rfl := hs
      exact .set _ _ _
    · cases hs
  · cases hs
theorem loc_update {t : TypeId} {m k x : V} (hs : aUpdate P t m k x h = some h') : Loc h h' (wrV m) := by
  unfold aUpdate at hs
  split at hs
  · split at hs
    · split at hs
      · split at hs
        · split at hs
          · split at hs <;> simp at hs
            obtain rfl := hs
            exact .set _ _ _
          · cases hs
        · simp at hs
          obtain rfl := hs
          exact .set _ _ _
        · cases hs
      · cases hs
    · cases hs
  · cases hs
theorem loc_delete {t : TypeId} {m k : V} (hs : aDelete P t m k h = some h') : Loc h h' (wrV m) := by
  unfold aDelete at hs
  split at hs
  · split at hs
    · split at hs
      · split at hs
        · simp at hs
          obtain rfl := hs
          exact .set _ _ _
        · simp at hs
          obtain rfl := hs
          exact .refl _ _
        · cases hs
      · cases hs
    · cases hs
  · cases hs
theorem loc_entryStore {m s x : V} (hs : aEntryStore m s x h = some h') : Loc h h' (wrV m) := by
  unfold aEntryStore at hs
  split at hs
  · split at hs
    · split at hs <;> simp at hs
      obtain rfl := hs
      exact .set _ _ _
    · cases hs
  · cases hs
theorem loc_mapEntry {t : TypeId} {m k : V} (hs : aMapEntry P t m k h = some (v, h')) : Loc h h' (wrV m) := by
  unfold aMapEntry at hs
  split at hs
  · split at hs
    · split at hs
      · split at hs
        · split at hs
          · split at hs <;> simp at hs
            obtain ⟨_, rfl⟩ := hs
            exact .set _ _ _
          · cases hs
        · split at hs <;> simp at hs
          obtain ⟨_, rfl⟩ := hs
          exact .set _ _ _
        · cases hs
      · cases hs
    · cases hs
  · cases hs
theorem loc_convM {s d : TypeId} {x : V} (hs : aConvM P s d x h = some (v, h')) : Loc h h' (wrV x) := by
  unfold aConvM at hs
  split at hs
  · split at hs
    · split at hs
      · split at hs <;> simp at hs
        obtain ⟨_, rfl⟩ := hs
        exact .set _ _ _
      · cases hs
    · cases hs
  · cases hs
theorem loc_clear {t : TypeId} {x : V} (hs : aClear P t x h = some h') : Loc h h' (wrV x) := by
  unfold aClear at hs
  split at hs
  · simp at hs; obtain rfl := hs; exact .refl _ _
  · simp at hs; obtain rfl := hs; exact .refl _ _
  · split at hs <;> simp at hs
    obtain rfl := hs; exact .refl _ _
  · split at hs
    · split at hs
      · simp at hs; obtain rfl := hs; exact .refl _ _
      · split at hs <;> simp at hs
        obtain rfl := hs
        exact .set _ _ _
    · cases hs
  · cases hs
theorem loc_copy {t : TypeId} {d s : V} (hs : aCopy P t d s h = some (v, h')) : Loc h h' (wrV d) := by
  unfold aCopy at hs
  split at hs
  · cases hs
  split at hs
  · split at hs <;> simp at hs
    obtain ⟨_, rfl⟩ := hs
    exact .refl _ _
  · split at hs
    · split at hs
      · simp at hs; obtain ⟨_, rfl⟩ := hs; exact .refl _ _
      · split at hs
        · split at hs <;> simp at hs
          obtain ⟨_, rfl⟩ := hs
          exact .set _ _ _
        · cases hs
    · cases hs
  · cases hs
theorem loc_appZ {tx e : TypeId} {zs : List V} {sz bs : Nat} {s x : V} (W : List Nat) (hs : aAppZ P tx e zs sz bs s x h = some (v, h')) : Loc h h' W := by
  unfold aAppZ at hs
  split at hs
  · split at hs
    · split at hs <;> simp at hs
      obtain ⟨_, rfl⟩ := hs
      exact .push _ _ _
    · cases hs
  · cases hs
theorem loc_append {t tx : TypeId} {s x : V} (hs : aAppend P t tx s x h = some (v, h')) : Loc h h' (wrV s) := by
  unfold aAppend at hs
  split at hs
  · cases hs
  split at hs
  case h_2 => cases hs
  split at hs
  case isFalse => cases hs
  split at hs
  · exact loc_appZ _ hs
  split at hs
  · split at hs
    · simp at hs; obtain ⟨_, rfl⟩ := hs; exact .refl _ _
    · split at hs <;> simp at hs
      obtain ⟨_, rfl⟩ := hs
      exact .push _ _ _
  · split at hs
    · simp at hs; obtain ⟨_, rfl⟩ := hs; exact .refl _ _
    · split at hs <;> simp at hs
      obtain ⟨_, rfl⟩ := hs
      exact .push _ _ _
  · split at hs
    · simp at hs; obtain ⟨_, rfl⟩ := hs; exact .refl _ _
    split at hs
    case isFalse => cases hs
    split at hs
    case h_2 => cases hs
    split at hs
    · split at hs
      · split at hs <;> simp at hs
        obtain ⟨_, rfl⟩ := hs
        exact .set _ _ _
      · split at hs <;> simp at hs
        obtain ⟨_, rfl⟩ := hs
        exact .push _ _ _
    · split at hs <;> simp at hs
      obtain ⟨_, rfl⟩ := hs
      exact (Loc.set _ _ _).trans (.push _ _ _)
  · cases hs
theorem loc_alts {it : V} {l : List (V × AHeap)} (hs : aNext it h = some l) : ∀ u k, (u, k) ∈ l → Loc h k (wrV it) := by
  intro u k hm
  unfold aNext at hs
  split at hs
  · split at hs
    · split at hs
      · split at hs
        · cases hs
        · simp at hs
          subst hs
          rcases List.mem_append.1 hm with hm | hm
          · split at hm <;> simp at hm
            obtain ⟨_, rfl⟩ := hm
            exact .refl _ _
          · simp at hm
            obtain ⟨_, _, _, _, _, rfl⟩ := hm
            exact .set _ _ _
      · cases hs
    · cases hs
  · cases hs
theorem loc_builtin {b : Builtin} {types : List TypeId} {ty : TypeId} {cs : Array Bool} {args : List V} (W : List Nat) (hW : ∀ x r, args = x :: r → b = .append ∨ b = .copy ∨ b = .delete ∨ b = .clear → W = wrV x) (hs : aBuiltin P b types ty cs args h = some (v, h')) : Loc h h' W := by
  unfold aBuiltin at hs
  split at hs
  · split at hs <;> simp at hs
    obtain ⟨_, rfl⟩ := hs; exact .refl _ _
  · rw [hW _ _ rfl (by simp)]; exact loc_append hs
  · rw [hW _ _ rfl (by simp)]; exact loc_copy hs
  · rw [hW _ _ rfl (by simp)]
    simp only [Option.map_eq_some_iff, Prod.mk.injEq] at hs
    obtain ⟨_, hs, _, rfl⟩ := hs
    exact loc_delete hs
  · rw [hW _ _ rfl (by simp)]
    simp only [Option.map_eq_some_iff, Prod.mk.injEq] at hs
    obtain ⟨_, hs, _, rfl⟩ := hs
    exact loc_clear hs
  · split at hs <;> simp at hs
    obtain ⟨_, rfl⟩ := hs; exact .refl _ _
  · split at hs
    · split at hs <;> simp at hs
      obtain ⟨_, rfl⟩ := hs; exact .refl _ _
    · cases hs
theorem loc_call {c : Call} {ty : TypeId} {ev : Operand → V} (hb : ∃ b, c.callee = .builtin b) (hs : aCall P c ty ev h = some (.val v h')) : Loc h h' (wrOp ev (.call c)) := by
  obtain ⟨b, hb⟩ := hb
  obtain ⟨callee, args, types⟩ := c
  simp only at hb
  subst hb
  unfold aCall at hs
  cases b
  case panic => simp only at hs; split at hs <;> simp at hs
  all_goals
    simp only at hs
    split at hs
    case h_2 => cases hs
    rename_i u k hu
    simp at hs
    obtain ⟨_, rfl⟩ := hs
    refine loc_builtin _ (fun x r ha ho => ?_) hu
    first
      | (exfalso; simp at ho; done)
      | (unfold wrOp
         cases hl : args.toList with
         | nil => rw [hl] at ha; cases ha
         | cons y l =>
           rw [hl] at ha
           simp at ha
           simp only [hl]
           rw [ha.1])
def isCallee : Op → Bool
  | .call ⟨.builtin _, _, _⟩ => false
  | .call _ => true
  | _ => false
theorem loc_op {o : Oper} {ev : Operand → V} (hc : isCallee o.op = false) (hs : opEval P o ev h = some (.val v h')) : Loc h h' (wrOp ev o.op) := by
  obtain ⟨dst, op, type, pos, after, guard⟩ := o
  have jv : ∀ {x : Option V} {W : List Nat}, justV x h = some (.val v h') → Loc h h' W := fun {x W} hx => by
    obtain ⟨_, rfl⟩ := justV_val hx
    exact .refl _ _
  cases op <;> simp only [opEval] at hs
  case move x => simp at hs; obtain ⟨_, rfl⟩ := hs; exact .refl _ _
  case assign x => simp at hs; obtain ⟨_, rfl⟩ := hs; exact .refl _ _
  case pick c a b => split at hs <;> simp at hs; obtain ⟨_, rfl⟩ := hs; exact .refl _ _
  case alloc e => exact loc_aAlloc _ (andH_val hs)
  case box e x => exact loc_aBox _ (andH_val hs)
  case buildSlice t l ps => exact loc_buildSlice _ (andH_val hs)
  case store t a x => exact loc_store (justH_val hs).1
  case nilCheck x => split at hs <;> simp at hs <;> (obtain ⟨_, rfl⟩ := hs; exact .refl _ _)
  case convert s d x =>
    split at hs
    · simp at hs; obtain ⟨_, rfl⟩ := hs; exact .refl _ _
    · exact loc_convM (andH_val hs)
  case makeInterface t x => split at hs <;> simp at hs; obtain ⟨_, rfl⟩ := hs; exact .refl _ _
  case makeFunc fn xs ys => cases fn <;> simp at hs; obtain ⟨_, rfl⟩ := hs; exact .refl _ _
  case makeMap t r => exact loc_makeMap _ (andH_val hs)
  case makeSlice t l c => exact loc_make _ (andH_val hs)
  case mapUpdate t m k x => exact loc_update (justH_val hs).1
  case insert t m k x => exact loc_update (justH_val hs).1
  case mapEntry t m k => exact loc_mapEntry (andH_val hs)
  case entryStore t m s x => exact loc_entryStore (justH_val hs).1
  case range t x => exact loc_range _ (andH_val hs)
  case next it s =>
    cases s
    · simp only at hs; split at hs <;> simp at hs
    · cases hs
  case extract t k =>
    split at hs
    · exact jv hs
    · cases hs
  case call c =>
    obtain ⟨callee, args, types⟩ := c
    cases callee with
    | builtin b => exact loc_call ⟨b, rfl⟩ hs
    | value f => cases hc
    | invoke r m => cases hc
  case panic x => split at hs <;> simp at hs
  all_goals first
    | exact jv hs
    | cases hs
end
end
end Go.Proofs.YtfcjehlhoebmnaaGreatDoor.Ab
