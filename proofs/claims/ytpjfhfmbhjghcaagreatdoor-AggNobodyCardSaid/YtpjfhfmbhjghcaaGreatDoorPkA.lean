/-
  What functions of the program do, told of abstract states. Conditions: as each theorem says.
-/
import Derived.Test.YtpjfhfmbhjghcaaGreatDoorAbD
import Derived.Test.YtpjfhfmbhjghcaaGreatDoorTyB
namespace Go.Proofs.YtpjfhfmbhjghcaaGreatDoor.Pk
open Go Go.Proofs Go.Proofs.YtpjfhfmbhjghcaaGreatDoor.Ab
set_option linter.unusedVariables false
set_option linter.unusedSimpArgs false

def bytesV (l : List Nat) : List V := l.map fun (n : Nat) => V.int .u8 (n : Int)
theorem bytesV_one (l : List Nat) : (bytesV l).all (·.one) = true := by
  rw [List.all_eq_true]; intro x hx
  obtain ⟨n, _, rfl⟩ := List.mem_map.1 hx
  rfl
theorem bytesV_append (a b : List Nat) : bytesV (a ++ b) = bytesV a ++ bytesV b := by simp [bytesV]
theorem bytesV_length (a : List Nat) : (bytesV a).length = a.length := by simp [bytesV]
theorem bytesV_clo (a : List Nat) : CloL (bytesV a) := CloL.map fun _ _ => Clo.int _ _

def enc (n : Nat) : List Nat := if n < 128 then [n] else (n % 128 + 128) :: enc (n / 128)
termination_by n
theorem enc_small {n : Nat} (h : n < 128) : enc n = [n] := by rw [enc, if_pos h]
theorem enc_big {n : Nat} (h : ¬ n < 128) : enc n = (n % 128 + 128) :: enc (n / 128) := by rw [enc, if_neg h]
theorem enc_len (k : Nat) : ∀ n, n < 128 ^ (k + 1) → 1 ≤ (enc n).length ∧ (enc n).length ≤ k + 1 := by
  induction k with
  | zero => intro n h; rw [enc_small (by simpa using h)]; simp
  | succ k ih =>
    intro n h
    by_cases hn : n < 128
    · rw [enc_small hn]; simp
    · rw [enc_big hn]
      have := ih (n / 128) (by rw [Nat.pow_succ] at h; exact Nat.div_lt_of_lt_mul (by rw [Nat.mul_comm]; exact h))
      simp; omega
theorem enc_le (n : Nat) (h : n < 2 ^ 64) : 1 ≤ (enc n).length ∧ (enc n).length ≤ 10 := by
  have : (2:Nat) ^ 64 < 128 ^ 10 := by decide
  exact enc_len 9 n (by omega)

theorem or128 (n : Nat) : bOr .u8 (IntKind.u8.wrap (n : Int)) 128 = ((n % 128 + 128 : Nat) : Int) := by
  rw [IntKind.wrap_u8]
  unfold bOr
  rw [IntKind.wrap_u8]
  have e1 : BitVec.ofInt IntKind.u8.bits ((n : Int) % 256) = BitVec.ofNat 8 (n % 256) := by
    apply BitVec.eq_of_toNat_eq
    simp [IntKind.bits]
    omega
  rw [e1]
  have h : ∀ m : Fin 256, ((BitVec.ofNat 8 m.val ||| BitVec.ofInt 8 128).toNat : Int) % 256 = ((m.val % 128 + 128 : Nat) : Int) := by decide +kernel
  have := h ⟨n % 256, Nat.mod_lt _ (by decide)⟩
  have e2 : ((n % 256 % 128 + 128 : Nat) : Int) = ((n % 128 + 128 : Nat) : Int) := by omega
  exact this.trans e2
theorem shr7 (n : Nat) : (n : Int).fdiv (2 ^ (min (Int.toNat 7) IntKind.u64.bits)) = ((n / 128 : Nat) : Int) := by
  have : (2 ^ (min (Int.toNat 7) IntKind.u64.bits) : Int) = 128 := by decide
  rw [this, Int.fdiv_eq_ediv_of_nonneg _ (by omega)]
  rfl
theorem wrapu8 (n : Nat) (h : n < 128) : IntKind.u8.wrap (n : Int) = (n : Int) := by rw [IntKind.wrap_u8]; omega


theorem lit1b (h : AHeap) (a : Int) : aBuildSlice Tryz.prog 89 1 [(0, .int .u8 a)] h = some (.sl h.n 0 1 1, h.push (.cells [.int .u8 a] 5 none)) := by rw [buildSlice_go sl_89]; rfl

set_option maxRecDepth 10000 in
theorem addUint (s : V) (cs : List Nat) (n : Nat) (h : AHeap) (ho : Own h 5 1 s (bytesV cs)) (hc : cs.length ≤ 2 ^ 46) (hn : n < 2 ^ 64) :
    SCalls Tryz.prog 125 [s, .int .u64 n] h (fun r h' => Own h' 5 1 r (bytesV (cs ++ enc n)) ∧ Keep h h' (isId s) ∧ NewOr h s r) := by
  refine SCalls.enterI (c := _) Tryz.func125 rfl (by kernel_rfl) (by simp) ?_
  simp only [wpA_region, wpA_seq, wpA_block, wpA_loop, seqQ_normal, goI_out, goI_ops, opsA_nil, opsA_cons, stepA_assign, eval_const, absV_snil]
  refine SWp.loopG (α := V × List Nat × Nat) (fun x f h' => f 0 = x.1 ∧ f 1 = .int .u64 (x.2.2 : Nat) ∧ Own h' 5 1 x.1 (bytesV x.2.1) ∧ Keep h h' (isId s) ∧ NewOr h s x.1 ∧ x.2.1 ++ enc x.2.2 = cs ++ enc n ∧ x.2.2 < 2 ^ 64) (fun x => x.2.2) (s, cs, n)
    ⟨rfl, rfl, ho, Keep.refl _ _, .inl rfl, rfl, hn⟩ ?_
  rintro ⟨s', cs', n'⟩ f h1 ⟨f0, f1, ho', hk, hid, hcs, hn'⟩
  simp only at f0 f1 ho' hid hcs hn'
  refine wpI_sound (by kernel_rfl) ?_
  have hlen : cs'.length + 1 ≤ cs.length + 10 := by
    have h1 := congrArg List.length hcs
    have h2 := enc_le n hn
    have h3 := enc_le n' hn'
    simp at h1
    omega
  have next : ∀ (v : V) (h2 : AHeap), Keep h1 h2 (isId s') → NewOr h1 s' v → Keep h h2 (isId s) ∧ NewOr h s v := fun v h2 k2 d2 => by
    refine ⟨hk.trans k2 fun k hk1 hk2 => ?_, ?_⟩
    · rcases hid with hid | hid
      · unfold isId at hk2 ⊢; rw [← hid]; exact hk2
      · have := hid k hk2; omega
    · rcases d2 with d2 | d2
      · rcases hid with hid | hid
        · exact .inl (d2.trans hid)
        · exact .inr fun k hk1 => hid k (by rw [← d2]; exact hk1)
      · exact .inr fun k hk1 => Nat.le_trans hk.n (d2 k hk1)
  by_cases hlt : 128 ≤ n'
  · have c1 : decide ((128 : Int) ≤ (n' : Int)) = true := by simp; omega
    obtain ⟨v, h2, q1, q2, q3, q4⟩ := append_elem (P := Tryz.prog) sl_89 (by decide) ho' (xs := [.int .u8 ((n' % 128 + 128 : Nat) : Int)]) rfl rfl (by simp [bytesV_length, lim]; omega) (by simp [bytesV_length, lim]; omega)
    obtain ⟨k2, d2⟩ := next v h2 q3 q4
    simp only [wpA_skip, wpA_region, wpA_seq, wpA_cond, wpA_block, condI_true, seqQ_normal, blkQ_normal, endI_mk, andThen_normal, goI_out, goI_ops, opsA_nil, opsA_cons, stepA_move, stepA_assign, stepA_buildSlice, stepA_binOp, stepA_convert, stepA_append, thenV_some, thenC_some, thenH_some, eval_tmp, eval_const, put_some, aBin_geq, aBin_or, absV_int, Nat.reduceEqDiff, reduceCtorEq, List.map_cons, List.map_nil, if_true, if_false, f0, f1, c1, aConv_int it_173 it_5, or128, lit1b, q1, aBin_shr (show (0 : Int) ≤ 7 by decide), shr7]
    refine hid_mk ⟨(v, cs' ++ [n' % 128 + 128], n' / 128), ⟨rfl, rfl, ?_, k2, d2, ?_, by simp only; omega⟩, by simp; omega⟩
    · rw [bytesV_append]; exact q2
    · simp only
      rw [← hcs, enc_big (n := n') (by omega)]
      simp
  · have c1 : decide ((128 : Int) ≤ (n' : Int)) = false := by simp; omega
    obtain ⟨v, h2, q1, q2, q3, q4⟩ := append_elem (P := Tryz.prog) sl_89 (by decide) ho' (xs := [.int .u8 (n' : Int)]) rfl rfl (by simp [bytesV_length, lim]; omega) (by simp [bytesV_length, lim]; omega)
    obtain ⟨k2, d2⟩ := next v h2 q3 q4
    simp only [wpA_region, wpA_seq, wpA_cond, wpA_exit, wpA_ret, condI_false, seqQ_normal, seqQ_exit, blkQ_exit, endI_mk, goE, andThen_exit, goI_out, goI_ops, opsA_nil, opsA_cons, stepA_move, stepA_assign, stepA_buildSlice, stepA_binOp, stepA_convert, stepA_append, thenV_some, thenC_some, thenH_some, eval_tmp, eval_const, put_some, aBin_geq, absV_int, Nat.reduceEqDiff, reduceCtorEq, List.map_cons, List.map_nil, if_true, if_false, f0, f1, c1, aConv_int it_173 it_5, wrapu8 n' (by omega), lit1b, q1, retA_ret, Tryz.results125, resultsA_1]
    refine hid_mk ⟨?_, k2, d2⟩
    rw [← hcs, enc_small (by omega), bytesV_append]
    exact q2
end Go.Proofs.YtpjfhfmbhjghcaaGreatDoor.Pk
