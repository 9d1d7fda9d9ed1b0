/-
  What functions of the program do, told of abstract states. Conditions: as each theorem says.
-/
import Derived.Test.YtedkjhifbibpmaaGreatDoorAbD
import Derived.Test.YtedkjhifbibpmaaGreatDoorTyE
import Derived.Test.YtedkjhifbibpmaaGreatDoorAbD
import Derived.Test.YtedkjhifbibpmaaGreatDoorAbD
import Derived.Test.YtedkjhifbibpmaaGreatDoorAbD
namespace Go.Proofs.YtedkjhifbibpmaaGreatDoor.Pk
open Go Go.Proofs Go.Proofs.YtedkjhifbibpmaaGreatDoor.Ab
set_option linter.unusedVariables false
set_option linter.unusedSimpArgs false

def bytesV (l : List Nat) : List V := l.map fun (n : Nat) => V.int .u8 (n : Int)
theorem bytesV_one (l : List Nat) : (bytesV l).all (·.one) = true := by
  rw [List.all_eq_true]; intro x hx
  obtain ⟨n, _, rfl⟩ := List.mem_map.1 hx
  rfl
theorem bytesV_append (a b : List Nat) : bytesV (a ++ b) = bytesV a ++ bytesV b := by simp [bytesV]
theorem bytesV_length (a : List Nat) : (bytesV a).length = a.length := by simp [bytesV]
theorem bytesV_clo (a : List Nat) : CloL (bytesV a) := CloL.map fun _ _ => Clo.int _ _

def enc (n : Nat) : List Nat := if n < 128 then [n] else (n % 128 + 128) :: enc (n / 128)
termination_by n
theorem enc_small {n : Nat} (h : n < 128) : enc n = [n] := by rw [enc, if_pos h]
theorem enc_big {n : Nat} (h : ¬ n < 128) : enc n = (n % 128 + 128) :: enc (n / 128) := by rw [enc, if_neg h]
theorem enc_len (k : Nat) : ∀ n, n < 128 ^ (k + 1) → 1 ≤ (enc n).length ∧ (enc n).length ≤ k + 1 := by
  induction k with
  | zero => intro n h; rw [enc_small (by simpa using h)]; simp
  | succ k ih =>
    intro n h
    by_cases hn : n < 128
    · rw [enc_small hn]; simp
    · rw [enc_big hn]
      have := ih (n / 128) (by rw [Nat.pow_succ] at h; exact Nat.div_lt_of_lt_mul (by rw [Nat.mul_comm]; exact h))
      simp; omega
theorem enc_le (n : Nat) (h : n < 2 ^ 64) : 1 ≤ (enc n).length ∧ (enc n).length ≤ 10 := by
  have : (2:Nat) ^ 64 < 128 ^ 10 := by decide
  exact enc_len 9 n (by omega)

theorem or128 (n : Nat) : bOr .u8 (IntKind.u8.wrap (n : Int)) 128 = ((n % 128 + 128 : Nat) : Int) := by
  rw [IntKind.wrap_u8]
  unfold bOr
  rw [IntKind.wrap_u8]
  have e1 : BitVec.ofInt IntKind.u8.bits ((n : Int) % 256) = BitVec.ofNat 8 (n % 256) := by
    apply BitVec.eq_of_toNat_eq
    simp [IntKind.bits]
    omega
  rw [e1]
  have h : ∀ m : Fin 256, ((BitVec.ofNat 8 m.val ||| BitVec.ofInt 8 128).toNat : Int) % 256 = ((m.val % 128 + 128 : Nat) : Int) := by decide +kernel
  have := h ⟨n % 256, Nat.mod_lt _ (by decide)⟩
  have e2 : ((n % 256 % 128 + 128 : Nat) : Int) = ((n % 128 + 128 : Nat) : Int) := by omega
  exact this.trans e2
theorem shr7 (n : Nat) : (n : Int).fdiv (2 ^ (min (Int.toNat 7) IntKind.u64.bits)) = ((n / 128 : Nat) : Int) := by
  have : (2 ^ (min (Int.toNat 7) IntKind.u64.bits) : Int) = 128 := by decide
  rw [this, Int.fdiv_eq_ediv_of_nonneg _ (by omega)]
  rfl
theorem wrapu8 (n : Nat) (h : n < 128) : IntKind.u8.wrap (n : Int) = (n : Int) := by rw [IntKind.wrap_u8]; omega


theorem lit1b (h : AHeap) (a : Int) : aBuildSlice Tryz.prog 87 1 [(0, .int .u8 a)] h = some (.sl h.n 0 1 1, h.push (.cells [.int .u8 a] 5 none)) := by rw [buildSlice_go sl_87]; rfl

set_option maxRecDepth 10000 in
theorem addUint (s : V) (cs : List Nat) (n : Nat) (h : AHeap) (ho : Own h 5 1 s (bytesV cs)) (hc : cs.length ≤ 2 ^ 46) (hn : n < 2 ^ 64) :
    SCalls Tryz.prog 179 [s, .int .u64 n] h (fun r h' => Own h' 5 1 r (bytesV (cs ++ enc n)) ∧ Keep h h' (isId s) ∧ NewOr h s r) := by
  refine SCalls.enterI (c := _) Tryz.func179 rfl (by kernel_rfl) (by simp) ?_
  simp only [wpA_region, wpA_seq, wpA_block, wpA_loop, seqQ_normal, goI_out, goI_ops, opsA_nil, opsA_cons, stepA_assign, eval_const, absV_snil]
  refine SWp.loopG (α := V × List Nat × Nat) (fun x f h' => f 0 = x.1 ∧ f 1 = .int .u64 (x.2.2 : Nat) ∧ Own h' 5 1 x.1 (bytesV x.2.1) ∧ Keep h h' (isId s) ∧ NewOr h s x.1 ∧ x.2.1 ++ enc x.2.2 = cs ++ enc n ∧ x.2.2 < 2 ^ 64) (fun x => x.2.2) (s, cs, n)
    ⟨rfl, rfl, ho, Keep.refl _ _, .inl rfl, rfl, hn⟩ ?_
  rintro ⟨s', cs', n'⟩ f h1 ⟨f0, f1, ho', hk, hid, hcs, hn'⟩
  simp only at f0 f1 ho' hid hcs hn'
  refine wpI_sound (by kernel_rfl) ?_
  have hlen : cs'.length + 1 ≤ cs.length + 10 := by
    have h1 := congrArg List.length hcs
    have h2 := enc_le n hn
    have h3 := enc_le n' hn'
    simp at h1
    omega
  have next : ∀ (v : V) (h2 : AHeap), Keep h1 h2 (isId s') → NewOr h1 s' v → Keep h h2 (isId s) ∧ NewOr h s v := fun v h2 k2 d2 => by
    refine ⟨hk.trans k2 fun k hk1 hk2 => ?_, ?_⟩
    · rcases hid with hid | hid
      · unfold isId at hk2 ⊢; rw [← hid]; exact hk2
      · have := hid k hk2; omega
    · rcases d2 with d2 | d2
      · rcases hid with hid | hid
        · exact .inl (d2.trans hid)
        · exact .inr fun k hk1 => hid k (by rw [← d2]; exact hk1)
      · exact .inr fun k hk1 => Nat.le_trans hk.n (d2 k hk1)
  by_cases hlt : 128 ≤ n'
  · have c1 : decide ((128 : Int) ≤ (n' : Int)) = true := by simp; omega
    obtain ⟨v, h2, q1, q2, q3, q4⟩ := append_elem (P := Tryz.prog) sl_87 (by decide) ho' (xs := [.int .u8 ((n' % 128 + 128 : Nat) : Int)]) rfl rfl (by simp [bytesV_length, lim]; omega) (by simp [bytesV_length, lim]; omega)
    obtain ⟨k2, d2⟩ := next v h2 q3 q4
    simp only [wpA_skip, wpA_region, wpA_seq, wpA_cond, wpA_block, condI_true, seqQ_normal, blkQ_normal, endI_mk, andThen_normal, goI_out, goI_ops, opsA_nil, opsA_cons, stepA_move, stepA_assign, stepA_buildSlice, stepA_binOp, stepA_convert, stepA_append, thenV_some, thenC_some, thenH_some, eval_tmp, eval_const, put_some, aBin_geq, aBin_or, absV_int, Nat.reduceEqDiff, reduceCtorEq, List.map_cons, List.map_nil, if_true, if_false, f0, f1, c1, aConv_int it_221 it_5, or128, lit1b, q1, aBin_shr (show (0 : Int) ≤ 7 by decide), shr7]
    refine hid_mk ⟨(v, cs' ++ [n' % 128 + 128], n' / 128), ⟨rfl, rfl, ?_, k2, d2, ?_, by simp only; omega⟩, by simp; omega⟩
    · rw [bytesV_append]; exact q2
    · simp only
      rw [← hcs, enc_big (n := n') (by omega)]
      simp
  · have c1 : decide ((128 : Int) ≤ (n' : Int)) = false := by simp; omega
    obtain ⟨v, h2, q1, q2, q3, q4⟩ := append_elem (P := Tryz.prog) sl_87 (by decide) ho' (xs := [.int .u8 (n' : Int)]) rfl rfl (by simp [bytesV_length, lim]; omega) (by simp [bytesV_length, lim]; omega)
    obtain ⟨k2, d2⟩ := next v h2 q3 q4
    simp only [wpA_region, wpA_seq, wpA_cond, wpA_exit, wpA_ret, condI_false, seqQ_normal, seqQ_exit, blkQ_exit, endI_mk, goE, andThen_exit, goI_out, goI_ops, opsA_nil, opsA_cons, stepA_move, stepA_assign, stepA_buildSlice, stepA_binOp, stepA_convert, stepA_append, thenV_some, thenC_some, thenH_some, eval_tmp, eval_const, put_some, aBin_geq, absV_int, Nat.reduceEqDiff, reduceCtorEq, List.map_cons, List.map_nil, if_true, if_false, f0, f1, c1, aConv_int it_221 it_5, wrapu8 n' (by omega), lit1b, q1, retA_ret, Tryz.results179, resultsA_1]
    refine hid_mk ⟨?_, k2, d2⟩
    rw [← hcs, enc_small (by omega), bytesV_append]
    exact q2
end Go.Proofs.YtedkjhifbibpmaaGreatDoor.Pk
namespace Go.Proofs.YtedkjhifbibpmaaGreatDoor.Pk
open Go Go.Proofs Go.Proofs.YtedkjhifbibpmaaGreatDoor.Ab
set_option linter.unusedVariables false
set_option linter.unusedSimpArgs false

/-- What can be read as bytes: in this memory, and when more was made. -/
structure Rd (h : AHeap) (s : V) (cs : List Nat) : Prop where
  len : ∀ h', Keep h h' none_ → aLen Tryz.prog 87 s h' = some (.int .i64 cs.length)
  lenOf : aLenOf s = some cs.length
  first : ∀ h', Keep h h' none_ → aFirst 1 cs.length s h' = some (bytesV cs)
  src : ∀ h', Keep h h' none_ → aSrc Tryz.prog 1 87 s h' = some (cs.length, bytesV cs)
theorem Rd.snil (h : AHeap) : Rd h .snil [] := ⟨fun _ _ => aLen_snil kt_87, rfl, fun _ _ => rfl, fun _ _ => by
  obtain ⟨d, hu, hd⟩ := kindT_eq kt_87
  cases d <;> simp [descKind] at hd
  simp [aSrc, hu, bytesV]⟩
theorem Rd.imm (h : AHeap) (cs : List Nat) : Rd h (.imm cs.length (bytesV cs)) cs := ⟨fun _ _ => aLen_imm kt_87, rfl, fun h' _ => by
  simp only [aFirst, bytesV_length, Nat.mul_one, Nat.le_refl, and_self, if_true]
  rw [List.take_of_length_le (by rw [bytesV_length]; exact Nat.le_refl _)], fun h' _ => imm_src kt_87 (by rw [bytesV_length, Nat.mul_one]) (bytesV_one cs)⟩
theorem Rd.keep {h h' : AHeap} {s : V} {cs : List Nat} (rd : Rd h s cs) (k : Keep h h' none_) : Rd h' s cs :=
  ⟨fun h2 k2 => rd.len h2 (k.trans' k2), rd.lenOf, fun h2 k2 => rd.first h2 (k.trans' k2), fun h2 k2 => rd.src h2 (k.trans' k2)⟩

set_option maxRecDepth 10000 in
theorem fresh (s : V) (cs : List Nat) (m : Nat) (h : AHeap) (rd : Rd h s cs) (hc : cs.length + m ≤ 2 ^ 47) :
    SCalls Tryz.prog 157 [s, .int .i64 m] h (fun r h' => r = .sl h.n 0 cs.length (cs.length + m) ∧ Own h' 5 1 r (bytesV cs) ∧ Keep h h' none_) := by
  refine SCalls.enterI (c := _) Tryz.func157 rfl (by kernel_rfl) (by simp) ?_
  have hw : IntKind.i64.wrap ((cs.length : Int) + (m : Int)) = ((cs.length + m : Nat) : Int) := by rw [Go.IntWalk.i64_in _ (by omega)]; omega
  obtain ⟨h1, h2, q1, q2, q3, q4, q5⟩ := own_clone2 (P := Tryz.prog) (tx := 87) (k := .i64) (k' := .i64) (h := h) (c := cs.length + m) sl_87 rd.lenOf rd.first (bytesV_one cs) (by simp [bytesV_length]) (by omega) (by simp only; omega) (by omega)
  simp only [wpA_region, wpA_seq, wpA_ret, seqQ_normal, endI_mk, goI_out, goI_ops, opsA_nil, opsA_cons, stepA_move, stepA_assign, stepA_binOp, stepA_makeSlice, stepA_len, stepA_copy, thenV_some, thenH_some, eval_tmp, eval_const, put_some, enterF_zero, enterF_succ, aBin_add, absV_snil, Nat.reduceEqDiff, reduceCtorEq, if_true, if_false, rd.len h (Keep.refl _ _), hw, q1, q2, retA_ret, Tryz.results157, resultsA_1]
  exact hid_mk ⟨rfl, q3, q5⟩

set_option maxRecDepth 10000 in
theorem Uint (s : V) (cs : List Nat) (n : Nat) (h : AHeap) (rd : Rd h s cs) (hc : cs.length ≤ 2 ^ 46) (hn : n < 2 ^ 64) :
    SCalls Tryz.prog 124 [s, .int .u64 n] h (fun r h' => Own h' 5 1 r (bytesV (cs ++ enc n)) ∧ Keep h h' none_ ∧ ∀ k, idOf r = some k → h.n ≤ k) := by
  refine SCalls.enterI (c := _) Tryz.func124 rfl (by kernel_rfl) (by simp) ?_
  simp only [wpA_region, wpA_seq, seqQ_normal, goI_out, goI_ops, opsA_nil, opsA_cons, stepA_move, stepA_assign, stepA_call, eval_tmp, eval_const, put_some, enterF_zero, enterF_succ, absV_int, absV_snil, Nat.reduceEqDiff, reduceCtorEq, List.map_cons, List.map_nil, if_true, if_false]
  refine callI_of cal157 (fresh s cs 10 h rd (by omega)) fun r1 h1 ⟨e1, o1, k1⟩ => ?_
  have d1 : ∀ k, idOf r1 = some k → h.n ≤ k := fun k hk => by subst e1; simp [idOf] at hk; omega
  simp only [goI_ops, opsA_cons, stepA_move, stepA_call, eval_tmp, put_some, enterF_zero, enterF_succ, Nat.reduceEqDiff, List.map_cons, List.map_nil, if_true, if_false]
  refine callI_of cal179 (addUint r1 cs n h1 o1 hc hn) fun r2 h2 ⟨o2, k2, d2⟩ => ?_
  simp only [wpA_ret, seqQ_normal, endI_mk, goI_out, goI_ops, opsA_nil, opsA_cons, stepA_assign, eval_tmp, put_some, enterF_succ, Nat.reduceEqDiff, if_true, if_false, retA_ret, Tryz.results124, resultsA_1]
  refine hid_mk ⟨o2, k1.trans k2 fun k hk hi => ?_, fun k hk => ?_⟩
  · have := d1 k hi; omega
  · rcases d2 with d2 | d2
    · exact d1 k (d2 ▸ hk)
    · exact Nat.le_trans k1.n (d2 k hk)
theorem pUint (s : V) (cs : List Nat) (n : Nat) (h : AHeap) (rd : Rd h s cs) (hc : cs.length ≤ 2 ^ 46) (hn : n < 2 ^ 64) :
    Pure Tryz.prog 124 [s, .int .u64 n] h (.imm (cs ++ enc n).length (bytesV (cs ++ enc n))) := by
  refine Pure.of (Clo.imm (bytesV_clo _)) ((Uint s cs n h rd hc hn).mono fun r h' ⟨o, k, d⟩ => ?_)
  obtain ⟨h2, c, k2⟩ := Cast.own o (n := (cs ++ enc n).length) (by simp [bytesV_length]) (by omega)
  exact ⟨h2, c, k.trans k2 fun j hj hs => by have := d j hs; omega⟩
theorem pFresh (s : V) (cs : List Nat) (m : Nat) (h : AHeap) (rd : Rd h s cs) (hc : cs.length + m ≤ 2 ^ 47) :
    Pure Tryz.prog 157 [s, .int .i64 m] h (.imm cs.length (bytesV cs)) := by
  refine Pure.of (Clo.imm (bytesV_clo _)) ((fresh s cs m h rd hc).mono fun r h' ⟨e, o, k⟩ => ?_)
  obtain ⟨h2, c, k2⟩ := Cast.own o (n := cs.length) (by simp [bytesV_length]) (by omega)
  refine ⟨h2, c, k.trans k2 fun j hj hs => ?_⟩
  subst e
  simp [isId, idOf] at hs
  omega

/-- A reader: the bytes that are left. -/
def IsRd (h : AHeap) (p : V) (i : Nat) (cs : List Nat) : Prop := p = .ptr i 0 ∧ i < h.n ∧ h.get i = .cells [.imm cs.length (bytesV cs)] 278 none
theorem From (s : V) (cs : List Nat) (h : AHeap) (rd : Rd h s cs) (hc : cs.length ≤ 2 ^ 47) :
    SCalls Tryz.prog 109 [s] h (fun r h' => r = .ptr h.n 0 ∧ IsRd h' r h.n cs ∧ Keep h h' none_) := by
  refine SCalls.enterI (c := _) Tryz.func109 rfl (by kernel_rfl) (by simp) ?_
  simp only [wpA_region, wpA_seq, seqQ_normal, goI_out, goI_ops, opsA_nil, opsA_cons, stepA_move, stepA_assign, stepA_call, eval_tmp, eval_const, put_some, enterF_zero, enterF_succ, absV_int, absV_pnil, Nat.reduceEqDiff, reduceCtorEq, List.map_cons, List.map_nil, if_true, if_false]
  refine callI_pure cal157 (pFresh s cs 0 h rd (by omega)) ?_
  simp only [wpA_ret, seqQ_normal, endI_mk, goI_out, goI_ops, opsA_nil, opsA_cons, stepA_assign, stepA_box, stepA_build, thenV_some, thenH_some, eval_tmp, put_some, enterF_succ, cells_imm, cells_agg, setAll_nil, setAll_cons, aBox_eq, aBuild_go, aFill_nil, aFill_cons, fillGo_some, buildGo_struct, List.getElem?_cons_zero, Nat.reduceEqDiff, List.map_cons, List.map_nil, Option.map_some, Nat.zero_add, List.length_cons, List.length_nil, List.set_cons_zero, and_self, if_true, if_false, Nat.le_refl, pl_278, zc_278, retA_ret, Tryz.results109, resultsA_1]
  exact hid_mk ⟨rfl, ⟨rfl, by rw [push_n]; omega, get_push_new⟩, Keep.push _ _ _⟩
theorem rest (h : AHeap) (p : V) (i : Nat) (cs : List Nat) (hr : IsRd h p i cs) : Pure Tryz.prog 160 [p] h (.imm cs.length (bytesV cs)) := by
  obtain ⟨rfl, hi, hg⟩ := hr
  refine SCalls.enterI (c := _) Tryz.func160 rfl (by kernel_rfl) (by simp) ?_
  simp only [wpA_skip, wpA_region, wpA_seq, wpA_cond, wpA_ret, condI_false, seqQ_normal, endI_mk, goI_out, goI_ops, opsA_nil, opsA_cons, stepA_move, stepA_assign, stepA_load, stepA_nilCheck, stepA_binOp, stepA_fieldAddr, thenV_some, nilV_ptr, eval_tmp, eval_const, put_some, enterF_zero, enterF_succ, ptr_nil_eql, absV_pnil, absV_snil, aField_eq, fieldGo_ptr, aLoad_eq, loadGo_one, aPlace_ptr, dropC_cells, Nat.reduceEqDiff, reduceCtorEq, Nat.add_zero, Nat.zero_add, Nat.zero_le, List.length_cons, List.length_nil, List.drop_zero, if_true, if_false, ft_278_0, kt_203, lt_87, hg, retA_ret, Tryz.results160, resultsA_1]
  exact hid_mk ⟨rfl, rfl⟩
theorem Left (h : AHeap) (p : V) (i : Nat) (cs : List Nat) (hr : IsRd h p i cs) : Pure Tryz.prog 111 [p] h (.int .i64 cs.length) := by
  refine SCalls.enterI (c := _) Tryz.func111 rfl (by kernel_rfl) (by simp) ?_
  simp only [wpA_region, wpA_seq, seqQ_normal, goI_out, goI_ops, opsA_nil, opsA_cons, stepA_move, stepA_assign, stepA_call, eval_tmp, eval_const, put_some, enterF_zero, enterF_succ, absV_int, Nat.reduceEqDiff, reduceCtorEq, List.map_cons, List.map_nil, if_true, if_false]
  refine callI_pure cal160 (rest h p i cs hr) ?_
  simp only [wpA_ret, seqQ_normal, endI_mk, goI_out, goI_ops, opsA_nil, opsA_cons, stepA_assign, stepA_len, thenV_some, eval_tmp, put_some, enterF_succ, aLen_imm, Nat.reduceEqDiff, if_true, if_false, kt_87, retA_ret, Tryz.results111, resultsA_1]
  exact hid_mk ⟨rfl, rfl⟩
end Go.Proofs.YtedkjhifbibpmaaGreatDoor.Pk
namespace Go.Proofs.YtedkjhifbibpmaaGreatDoor.Pk
open Go Go.Proofs Go.Proofs.YtedkjhifbibpmaaGreatDoor.Ab
set_option linter.unusedVariables false
set_option linter.unusedSimpArgs false

theorem ofInt_nat (w n : Nat) : BitVec.ofInt w (n : Int) = BitVec.ofNat w n := by
  apply BitVec.eq_of_toNat_eq
  simp
/-- or of numbers that share no bit -/
theorem bOr_add (a b k : Nat) (hb : b < 2 ^ k) (hk : k ≤ 64) (ha : a * 2 ^ k < 2 ^ 64) : bOr .u64 (b : Int) ((a * 2 ^ k : Nat) : Int) = ((a * 2 ^ k + b : Nat) : Int) := by
  have hlt : a * 2 ^ k + b < 2 ^ 64 := by
    have e : (2 : Nat) ^ 64 = 2 ^ (64 - k) * 2 ^ k := by rw [← Nat.pow_add]; congr 1; omega
    rw [e] at ha ⊢
    have h1 : a < 2 ^ (64 - k) := Nat.lt_of_mul_lt_mul_right ha
    calc a * 2 ^ k + b < a * 2 ^ k + 2 ^ k := by omega
      _ = (a + 1) * 2 ^ k := by rw [Nat.add_mul]; simp
      _ ≤ _ := Nat.mul_le_mul_right _ h1
  unfold bOr
  rw [ofInt_nat, ofInt_nat]
  have e1 : (BitVec.ofNat IntKind.u64.bits b ||| BitVec.ofNat IntKind.u64.bits (a * 2 ^ k)).toNat = a * 2 ^ k + b := by
    rw [BitVec.toNat_or]
    simp only [BitVec.toNat_ofNat, IntKind.bits]
    rw [Nat.mod_eq_of_lt (by omega), Nat.mod_eq_of_lt ha]
    have := Nat.shiftLeft_add_eq_or_of_lt hb a
    rw [Nat.shiftLeft_eq] at this
    rw [this, Nat.or_comm]
  rw [e1, IntKind.wrap_u64]
  omega
theorem low7 (g : Nat) (hg : g < 256) : IntKind.u64.wrap (bAndNot .u8 (g : Int) 128) = ((g % 128 : Nat) : Int) := by
  have h : ∀ m : Fin 256, IntKind.u64.wrap (bAndNot .u8 (m.val : Int) 128) = ((m.val % 128 : Nat) : Int) := by decide +kernel
  exact h ⟨g, hg⟩
theorem sh7 (g at_ : Nat) (hg : g % 128 * 2 ^ (7 * at_) < 2 ^ 64) (ha : at_ ≤ 9) : IntKind.u64.wrap (((g % 128 : Nat) : Int) * 2 ^ (min (IntKind.i64.wrap (7 * (at_ : Int))).toNat IntKind.u64.bits)) = ((g % 128 * 2 ^ (7 * at_) : Nat) : Int) := by
  have e : (min (IntKind.i64.wrap (7 * (at_ : Int))).toNat IntKind.u64.bits) = 7 * at_ := by
    rw [IntKind.wrap_i64]
    have h1 : ((7 * (at_ : Int) + 9223372036854775808) % 18446744073709551616 - 9223372036854775808) = ((7 * at_ : Nat) : Int) := by omega
    rw [h1, Int.toNat_natCast]
    simp only [IntKind.bits]
    omega
  rw [e, IntKind.wrap_u64]
  have : (((g % 128 : Nat) : Int) * 2 ^ (7 * at_)) = ((g % 128 * 2 ^ (7 * at_) : Nat) : Int) := by push_cast; rfl
  rw [this]
  omega

theorem fits7 (g at_ : Nat) (ha9 : at_ ≤ 9) (hbad : ¬(at_ = 9 ∧ 1 < g)) (hg : g < 256) : g % 128 * 2 ^ (7 * at_) < 2 ^ 64 := by
  by_cases h8 : at_ ≤ 8
  · have h1 : (2 : Nat) ^ (7 * at_) ≤ 2 ^ 56 := Nat.pow_le_pow_right (by decide) (by omega)
    have h2 : g % 128 < 128 := Nat.mod_lt _ (by decide)
    have h3 : g % 128 * 2 ^ (7 * at_) ≤ 127 * 2 ^ 56 := Nat.mul_le_mul (by omega) h1
    exact Nat.lt_of_le_of_lt h3 (by decide)
  · have : at_ = 9 := by omega
    subst this
    have : g % 128 ≤ 1 := by omega
    exact Nat.lt_of_le_of_lt (Nat.mul_le_mul_right _ this) (by decide)
theorem or7 (g n at_ : Nat) (hn : n < 2 ^ (7 * at_)) (ha9 : at_ ≤ 9) (hn7 : g % 128 * 2 ^ (7 * at_) < 2 ^ 64) : bOr .u64 (n : Int) ((g % 128 * 2 ^ (7 * at_) : Nat) : Int) = ((n + g % 128 * 2 ^ (7 * at_) : Nat) : Int) := by
  rw [bOr_add (g % 128) n (7 * at_) hn (by omega) hn7, Nat.add_comm]
theorem next7 (g n at_ : Nat) (hn : n < 2 ^ (7 * at_)) : n + g % 128 * 2 ^ (7 * at_) < 2 ^ (7 * (at_ + 1)) := by
  have e : (2 : Nat) ^ (7 * (at_ + 1)) = 128 * 2 ^ (7 * at_) := by rw [Nat.mul_add, Nat.pow_add]; omega
  rw [e]
  have h2 : g % 128 < 128 := Nat.mod_lt _ (by decide)
  have h3 := Nat.mul_le_mul_right (2 ^ (7 * at_)) (show g % 128 ≤ 127 by omega)
  generalize 2 ^ (7 * at_) = p at *
  omega

/-- What number tells: of bytes from here on, so many of them taken, so much told by those. -/
def dec : List Nat → Nat → Nat → Nat × Nat × Nat
  | [], _, _ => (0, 0, 4)
  | g :: r, at_, n =>
    if at_ = 9 ∧ 1 < g then (0, 0, 5)
    else if 128 ≤ g then dec r (at_ + 1) (n + g % 128 * 2 ^ (7 * at_))
    else if g = 0 ∧ 0 < at_ then (0, 0, 5)
    else (n + g % 128 * 2 ^ (7 * at_), at_ + 1, 0)
def decV (r : Nat × Nat × Nat) : V := .tuple [.int .u64 (r.1 : Nat), .int .i64 (r.2.1 : Nat), .int .i64 (r.2.2 : Nat)]
theorem bytes_drop {bs : List Nat} {k : Nat} (hk : k < bs.length) : (bytesV bs).drop (k * 1) = .int .u8 (bs[k] : Nat) :: bytesV (bs.drop (k + 1)) := by
  rw [Nat.mul_one]
  unfold bytesV
  rw [← List.map_drop, List.drop_eq_getElem_cons hk]
  rfl

set_option maxRecDepth 10000 in
theorem number (bs : List Nat) (h : AHeap) (hb : ∀ b ∈ bs, b < 256) (hc : bs.length ≤ 2 ^ 47) :
    Pure Tryz.prog 199 [.imm bs.length (bytesV bs)] h (decV (dec bs 0 0)) := by
  refine SCalls.enterI (c := _) Tryz.func199 rfl (by kernel_rfl) (by simp) ?_
  simp only [wpA_region, wpA_seq, wpA_scope, seqQ_normal, goI_out, goI_ops, opsA_nil, opsA_cons, stepA_assign, eval_const, absV_int]
  refine SWp.scopeG (α := Nat × Nat) (l := 0) rfl (fun x f h' => h' = h ∧ f 0 = .imm bs.length (bytesV bs) ∧ f 5 = .int .u64 (x.2 : Nat) ∧ f 6 = .int .i64 (x.1 : Nat) ∧ dec (bs.drop x.1) x.1 x.2 = dec bs 0 0 ∧ x.2 < 2 ^ (7 * x.1) ∧ x.1 ≤ 9 ∧ x.1 ≤ bs.length) (fun x => 10 - x.1) ?_ ?_ ?_
  · rintro x f h1 _
    omega
  · rintro ⟨at_, n⟩ f h1 ⟨rfl, f0, f5, f6, hd, hn, ha9, hab⟩
    simp only at f5 f6 hd hn ha9 hab
    refine wpI_sound (by kernel_rfl) ?_
    by_cases hend : at_ = bs.length
    · have hb1 : ((at_ : Int) == (bs.length : Int)) = true := by simp [hend]
      simp only [wpA_region, wpA_seq, wpA_cond, wpA_ret, condI_true, seqQ_normal, seqQ_ret, endI_mk, goE, goI_out, goI_ops, opsA_nil, opsA_cons, stepA_move, stepA_assign, stepA_binOp, stepA_len, thenV_some, eval_tmp, eval_const, put_some, aBin_eql, absV_int, aLen_imm, Nat.reduceEqDiff, reduceCtorEq, if_true, if_false, kt_87, f0, f6, hb1, jumpA_ret, retA_ret, Tryz.results199, resultsA_3]
      refine hid_mk ⟨?_, rfl⟩
      rw [← hd, hend, List.drop_length]
      rfl
    · have hb1 : ((at_ : Int) == (bs.length : Int)) = false := by simp; omega
      have hlt : at_ < bs.length := by omega
      have hg256 : bs[at_] < 256 := hb _ (List.getElem_mem hlt)
      have hdrop : bs.drop at_ = bs[at_] :: bs.drop (at_ + 1) := List.drop_eq_getElem_cons hlt
      have hix := index_imm (P := Tryz.prog) (t := 87) (k := .i64) (i := (at_ : Int)) (n := bs.length) (cs := bytesV bs) ss_87 (by omega) (by omega) (by rw [bytesV_length]; omega)
      rw [Int.toNat_natCast, bytes_drop hlt] at hix
      have hd2 : dec (bs.drop at_) at_ n = dec (bs[at_] :: bs.drop (at_ + 1)) at_ n := by rw [← hdrop]
      generalize bs[at_] = g at hg256 hix hd2
      clear hdrop
      by_cases hbad : at_ = 9 ∧ 1 < g
      · have hb2 : ((at_ : Int) == 9) = true := by simp [hbad.1]
        have hb3 : decide ((1 : Int) < (g : Int)) = true := by simp; omega
        simp only [wpA_skip, wpA_region, wpA_seq, wpA_cond, wpA_ret, condI_true, condI_false, seqQ_normal, seqQ_ret, endI_mk, goE, goI_out, goI_ops, opsA_nil, opsA_cons, opsA_guardS, gvI_same, slotAt_zero, slotAt_succ, stepA_move, stepA_assign, stepA_pick, stepA_load, stepA_binOp, stepA_indexAddr, stepA_len, thenV_some, pickV_true, eval_tmp, eval_const, put_some, aBin_eql, aBin_gtr, absV_int, absV_bool, aLoad_eq, loadGo_one, aPlace_at, aLen_imm, Nat.reduceEqDiff, reduceCtorEq, if_true, if_false, kt_87, lt_5, f0, f6, hb1, hix, hb2, hb3, jumpA_ret, retA_ret, Tryz.results199, resultsA_3]
        refine hid_mk ⟨?_, rfl⟩
        rw [← hd, hd2, dec, if_pos hbad]
        rfl
      · have hn7 := fits7 g at_ ha9 hbad hg256
        have hor := or7 g n at_ hn ha9 hn7
        have hnext := next7 g n at_ hn
        have hs7 := sh7 g at_ hn7 ha9
        have hl7 := low7 g hg256
        have hpos : (0 : Int) ≤ IntKind.i64.wrap (7 * (at_ : Int)) := by
          rw [Go.IntWalk.i64_in _ (by omega)]
          omega
        have hw1 : IntKind.i64.wrap ((at_ : Int) + 1) = ((at_ + 1 : Nat) : Int) := by rw [Go.IntWalk.i64_in _ (by omega)]; rfl
        have hcond : (((at_ : Int) == 9) = true ∧ decide ((1 : Int) < (g : Int)) = false) ∨ ((at_ : Int) == 9) = false := by
          by_cases h9 : at_ = 9
          · left; refine ⟨by simp [h9], by simp; omega⟩
          · right; simp; omega
        by_cases hbig : 128 ≤ g
        · have hb4 : decide ((128 : Int) ≤ (g : Int)) = true := by simp; omega
          have h8 : at_ ≤ 8 := by
            rcases Nat.lt_or_ge at_ 9 with h | h
            · omega
            · exact absurd ⟨by omega, by omega⟩ hbad
          have hfin : dec (bs.drop (at_ + 1)) (at_ + 1) (n + g % 128 * 2 ^ (7 * at_)) = dec bs 0 0 := by
            rw [← hd, hd2, dec, if_neg hbad, if_pos hbig]
          rcases hcond with ⟨c1, c2⟩ | c1
          · exfalso
            simp at c1
            omega
          · simp only [wpA_skip, wpA_region, wpA_seq, wpA_cond, wpA_goto, condI_true, condI_false, seqQ_normal, seqQ_goto, endI_mk, goI_out, goI_ops, opsA_nil, opsA_cons, opsA_guardS, gvI_ft, slotAt_zero, slotAt_succ, stepA_move, stepA_assign, stepA_pick, stepA_load, stepA_binOp, stepA_convert, stepA_indexAddr, stepA_len, thenV_some, thenC_some, pickV_false, eval_tmp, eval_const, put_some, aBin_add, aBin_mul, aBin_eql, aBin_geq, aBin_or, aBin_andNot, absV_int, absV_bool, aLoad_eq, loadGo_one, aPlace_at, aLen_imm, Nat.reduceEqDiff, reduceCtorEq, true_and, if_true, if_false, kt_87, lt_5, f0, f5, f6, hb1, hix, c1, hb4, aConv_int it_5 it_221, hl7, aBin_shl hpos, hs7, hor, hw1, jumpA_goto]
            exact hid_mk ⟨(at_ + 1, _), ⟨rfl, f0, rfl, rfl, hfin, hnext, by simp only; omega, by simp only; omega⟩, by simp; omega⟩
        · have hb4 : decide ((128 : Int) ≤ (g : Int)) = false := by simp; omega
          have hr : dec bs 0 0 = if g = 0 ∧ 0 < at_ then (0, 0, 5) else (n + g % 128 * 2 ^ (7 * at_), at_ + 1, 0) := by
            rw [← hd, hd2, dec, if_neg hbad, if_neg hbig]
          have hc3 : ((g : Int) == 0) = false ∨ (((g : Int) == 0) = true ∧ decide ((1 : Int) < ((at_ + 1 : Nat) : Int)) = decide (0 < at_)) := by
            by_cases h0 : g = 0
            · right; exact ⟨by simp [h0], by rw [decide_eq_decide]; omega⟩
            · left; simp; omega
          rcases hc3 with c3 | ⟨c3, c4⟩
          · have h0 : ¬ (g = 0 ∧ 0 < at_) := by intro h; simp [h.1] at c3
            rw [if_neg h0] at hr
            rcases hcond with ⟨c1, c2⟩ | c1
            · simp only [wpA_skip, wpA_region, wpA_seq, wpA_cond, wpA_ret, condI_false, seqQ_normal, endI_mk, goE, goI_out, goI_ops, opsA_nil, opsA_cons, opsA_guardS, gvI_same, gvI_ft, slotAt_zero, slotAt_succ, stepA_move, stepA_assign, stepA_pick, stepA_load, stepA_binOp, stepA_convert, stepA_indexAddr, stepA_len, thenV_some, thenC_some, pickV_true, pickV_false, eval_tmp, eval_const, put_some, aBin_add, aBin_mul, aBin_eql, aBin_gtr, aBin_geq, aBin_or, aBin_andNot, absV_int, absV_bool, aLoad_eq, loadGo_one, aPlace_at, aLen_imm, Nat.reduceEqDiff, reduceCtorEq, if_true, if_false, kt_87, lt_5, f0, f5, f6, hb1, hix, c1, c2, c3, hb4, aConv_int it_5 it_221, hl7, aBin_shl hpos, hs7, hor, hw1, jumpA_ret, retA_ret, Tryz.results199, resultsA_3]
              exact hid_mk ⟨by rw [hr]; rfl, rfl⟩
            · simp only [wpA_skip, wpA_region, wpA_seq, wpA_cond, wpA_ret, condI_false, seqQ_normal, endI_mk, goE, goI_out, goI_ops, opsA_nil, opsA_cons, opsA_guardS, gvI_ft, slotAt_zero, slotAt_succ, stepA_move, stepA_assign, stepA_pick, stepA_load, stepA_binOp, stepA_convert, stepA_indexAddr, stepA_len, thenV_some, thenC_some, pickV_false, eval_tmp, eval_const, put_some, aBin_add, aBin_mul, aBin_eql, aBin_geq, aBin_or, aBin_andNot, absV_int, absV_bool, aLoad_eq, loadGo_one, aPlace_at, aLen_imm, Nat.reduceEqDiff, reduceCtorEq, if_true, if_false, kt_87, lt_5, f0, f5, f6, hb1, hix, c1, c3, hb4, aConv_int it_5 it_221, hl7, aBin_shl hpos, hs7, hor, hw1, jumpA_ret, retA_ret, Tryz.results199, resultsA_3]
              exact hid_mk ⟨by rw [hr]; rfl, rfl⟩
          · by_cases hat : 0 < at_
            · have h0 : (g = 0 ∧ 0 < at_) := ⟨by simpa using c3, hat⟩
              rw [if_pos h0] at hr
              simp only [hat, decide_true] at c4
              rcases hcond with ⟨c1, c2⟩ | c1
              · simp only [wpA_skip, wpA_region, wpA_seq, wpA_cond, wpA_ret, condI_true, condI_false, seqQ_normal, seqQ_ret, endI_mk, goE, goI_out, goI_ops, opsA_nil, opsA_cons, opsA_guardS, gvI_same, slotAt_zero, slotAt_succ, stepA_move, stepA_assign, stepA_pick, stepA_load, stepA_binOp, stepA_convert, stepA_indexAddr, stepA_len, thenV_some, thenC_some, pickV_true, eval_tmp, eval_const, put_some, aBin_add, aBin_mul, aBin_eql, aBin_gtr, aBin_geq, aBin_or, aBin_andNot, absV_int, absV_bool, aLoad_eq, loadGo_one, aPlace_at, aLen_imm, Nat.reduceEqDiff, reduceCtorEq, if_true, if_false, kt_87, lt_5, f0, f5, f6, hb1, hix, c1, c2, c3, c4, hb4, aConv_int it_5 it_221, hl7, aBin_shl hpos, hs7, hor, hw1, jumpA_ret, retA_ret, Tryz.results199, resultsA_3]
                exact hid_mk ⟨by rw [hr]; rfl, rfl⟩
              · simp only [wpA_skip, wpA_region, wpA_seq, wpA_cond, wpA_ret, condI_true, condI_false, seqQ_normal, seqQ_ret, endI_mk, goE, goI_out, goI_ops, opsA_nil, opsA_cons, opsA_guardS, gvI_same, gvI_ft, slotAt_zero, slotAt_succ, stepA_move, stepA_assign, stepA_pick, stepA_load, stepA_binOp, stepA_convert, stepA_indexAddr, stepA_len, thenV_some, thenC_some, pickV_true, pickV_false, eval_tmp, eval_const, put_some, aBin_add, aBin_mul, aBin_eql, aBin_gtr, aBin_geq, aBin_or, aBin_andNot, absV_int, absV_bool, aLoad_eq, loadGo_one, aPlace_at, aLen_imm, Nat.reduceEqDiff, reduceCtorEq, if_true, if_false, kt_87, lt_5, f0, f5, f6, hb1, hix, c1, c3, c4, hb4, aConv_int it_5 it_221, hl7, aBin_shl hpos, hs7, hor, hw1, jumpA_ret, retA_ret, Tryz.results199, resultsA_3]
                exact hid_mk ⟨by rw [hr]; rfl, rfl⟩
            · have h0 : ¬ (g = 0 ∧ 0 < at_) := fun h => hat h.2
              rw [if_neg h0] at hr
              simp only [hat, decide_false] at c4
              rcases hcond with ⟨c1, c2⟩ | c1
              · simp only [wpA_skip, wpA_region, wpA_seq, wpA_cond, wpA_ret, condI_false, seqQ_normal, endI_mk, goE, goI_out, goI_ops, opsA_nil, opsA_cons, opsA_guardS, gvI_same, slotAt_zero, slotAt_succ, stepA_move, stepA_assign, stepA_pick, stepA_load, stepA_binOp, stepA_convert, stepA_indexAddr, stepA_len, thenV_some, thenC_some, pickV_true, eval_tmp, eval_const, put_some, aBin_add, aBin_mul, aBin_eql, aBin_gtr, aBin_geq, aBin_or, aBin_andNot, absV_int, absV_bool, aLoad_eq, loadGo_one, aPlace_at, aLen_imm, Nat.reduceEqDiff, reduceCtorEq, if_true, if_false, kt_87, lt_5, f0, f5, f6, hb1, hix, c1, c2, c3, c4, hb4, aConv_int it_5 it_221, hl7, aBin_shl hpos, hs7, hor, hw1, jumpA_ret, retA_ret, Tryz.results199, resultsA_3]
                exact hid_mk ⟨by rw [hr]; rfl, rfl⟩
              · simp only [wpA_skip, wpA_region, wpA_seq, wpA_cond, wpA_ret, condI_false, seqQ_normal, endI_mk, goE, goI_out, goI_ops, opsA_nil, opsA_cons, opsA_guardS, gvI_same, gvI_ft, slotAt_zero, slotAt_succ, stepA_move, stepA_assign, stepA_pick, stepA_load, stepA_binOp, stepA_convert, stepA_indexAddr, stepA_len, thenV_some, thenC_some, pickV_true, pickV_false, eval_tmp, eval_const, put_some, aBin_add, aBin_mul, aBin_eql, aBin_gtr, aBin_geq, aBin_or, aBin_andNot, absV_int, absV_bool, aLoad_eq, loadGo_one, aPlace_at, aLen_imm, Nat.reduceEqDiff, reduceCtorEq, if_true, if_false, kt_87, lt_5, f0, f5, f6, hb1, hix, c1, c3, c4, hb4, aConv_int it_5 it_221, hl7, aBin_shl hpos, hs7, hor, hw1, jumpA_ret, retA_ret, Tryz.results199, resultsA_3]
                exact hid_mk ⟨by rw [hr]; rfl, rfl⟩
  · intro step
    refine SWp.seq (wpI_sound (by kernel_rfl) ?_)
    simp only [wpA_region, endI_mk, andThen_normal, goI_out, goI_ops, opsA_nil, opsA_cons, stepA_assign, eval_const, absV_int]
    refine SWp.seq (wpI_sound (by kernel_rfl) ?_)
    simp only [wpA_region, endI_mk, andThen_normal, goI_out, goI_ops, opsA_nil, opsA_cons, stepA_assign, eval_const, absV_int]
    refine SWp.seq (.label ?_)
    exact step (0, 0) _ _ ⟨rfl, rfl, rfl, rfl, rfl, by decide, by decide, by omega⟩
end Go.Proofs.YtedkjhifbibpmaaGreatDoor.Pk
namespace Go.Proofs.YtedkjhifbibpmaaGreatDoor.Pk
open Go Go.Proofs Go.Proofs.YtedkjhifbibpmaaGreatDoor.Ab
set_option linter.unusedVariables false
set_option linter.unusedSimpArgs false
set_option maxRecDepth 10000

theorem dec_err (l : List Nat) : ∀ k n, (dec l k n).2.2 ≠ 0 → dec l k n = (0, 0, (dec l k n).2.2) := by
  induction l with
  | nil => intro k n _; rfl
  | cons g r ih =>
    intro k n h
    unfold dec at h ⊢
    split
    · rfl
    · rename_i h1
      rw [if_neg h1] at h
      split
      · rename_i h2
        rw [if_pos h2] at h
        exact ih _ _ h
      · rename_i h2
        rw [if_neg h2] at h
        split
        · rfl
        · rename_i h3
          rw [if_neg h3] at h
          simp at h
theorem dec_used (l : List Nat) : ∀ k n, (dec l k n).2.1 ≤ l.length + k := by
  induction l with
  | nil => intro k n; simp [dec]
  | cons g r ih =>
    intro k n
    unfold dec
    split
    · simp
    · split
      · have := ih (k + 1) (n + g % 128 * 2 ^ (7 * k))
        simp; omega
      · split
        · simp
        · simp; omega

theorem bXor_zero (a : Nat) (ha : a < 2 ^ 64) : bXor .u64 (a : Int) 0 = (a : Int) := by
  show IntKind.u64.wrap ((BitVec.ofInt 64 (a : Int) ^^^ BitVec.ofInt 64 0).toNat : Int) = _
  have e : BitVec.ofInt 64 (0 : Int) = BitVec.ofNat 64 0 := rfl
  have e1 : (BitVec.ofNat 64 a ^^^ BitVec.ofNat 64 0).toNat = a := by
    rw [BitVec.toNat_xor, BitVec.toNat_ofNat, BitVec.toNat_ofNat, Nat.zero_mod, Nat.xor_zero]
    exact Nat.mod_eq_of_lt ha
  rw [ofInt_nat, e, e1, IntKind.wrap_u64]
  omega
theorem bXor_ones (a : Nat) (ha : a < 2 ^ 64) : bXor .u64 (a : Int) 18446744073709551615 = ((18446744073709551615 - a : Nat) : Int) := by
  show IntKind.u64.wrap ((BitVec.ofInt 64 (a : Int) ^^^ BitVec.ofInt 64 18446744073709551615).toNat : Int) = _
  have e : BitVec.ofInt 64 (18446744073709551615 : Int) = BitVec.allOnes 64 := by decide
  have e1 : (BitVec.ofNat 64 a ^^^ BitVec.allOnes 64).toNat = 18446744073709551615 - a := by
    rw [BitVec.xor_allOnes, BitVec.toNat_not, BitVec.toNat_ofNat, Nat.mod_eq_of_lt ha]
  rw [ofInt_nat, e, e1, IntKind.wrap_u64]
  omega
theorem zig (n : Int) (h1 : -2 ^ 63 ≤ n) (h2 : n < 2 ^ 63) : bXor .u64 (IntKind.u64.wrap (IntKind.u64.wrap n * 2 ^ min (Int.toNat 1) IntKind.u64.bits)) (IntKind.u64.wrap (n.fdiv (2 ^ min (Int.toNat 63) IntKind.i64.bits))) =
    ((if 0 ≤ n then 2 * n.toNat else 2 * (-n).toNat - 1 : Nat) : Int) := by
  have e1 : (2 : Int) ^ min (Int.toNat 1) IntKind.u64.bits = 2 := by decide
  have e2 : (2 : Int) ^ min (Int.toNat 63) IntKind.i64.bits = 9223372036854775808 := by decide
  rw [e1, e2]
  have h1' : -9223372036854775808 ≤ n := by simpa using h1
  have h2' : n < 9223372036854775808 := by simpa using h2
  by_cases h0 : 0 ≤ n
  · have e3 : n.fdiv 9223372036854775808 = 0 := by rw [Int.fdiv_eq_ediv_of_nonneg _ (by omega)]; omega
    have e4 : IntKind.u64.wrap (IntKind.u64.wrap n * 2) = ((2 * n.toNat : Nat) : Int) := by rw [IntKind.wrap_u64, IntKind.wrap_u64]; omega
    have e5 : IntKind.u64.wrap 0 = 0 := by decide
    rw [e3, e4, e5, bXor_zero _ (by omega), if_pos h0]
  · have e3 : n.fdiv 9223372036854775808 = -1 := by rw [Int.fdiv_eq_ediv_of_nonneg _ (by omega)]; omega
    have e4 : IntKind.u64.wrap (IntKind.u64.wrap n * 2) = ((2 * n + 18446744073709551616).toNat : Int) := by rw [IntKind.wrap_u64, IntKind.wrap_u64]; omega
    have e5 : IntKind.u64.wrap (-1) = 18446744073709551615 := by decide
    rw [e3, e4, e5, bXor_ones _ (by omega), if_neg h0]
    omega

def zz (n : Int) : Nat := if 0 ≤ n then 2 * n.toNat else 2 * (-n).toNat - 1
theorem zz_lt (n : Int) (h1 : -2 ^ 63 ≤ n) (h2 : n < 2 ^ 63) : zz n < 2 ^ 64 := by
  have h1' : -9223372036854775808 ≤ n := by simpa using h1
  have h2' : n < 9223372036854775808 := by simpa using h2
  unfold zz
  split <;> omega


theorem IsRd.keep {h h' : AHeap} {p : V} {i : Nat} {cs : List Nat} {own : Nat → Prop} (hr : IsRd h p i cs) (hk : Keep h h' own) (hne : ¬ own i) : IsRd h' p i cs :=
  ⟨hr.1, Nat.lt_of_lt_of_le hr.2.1 hk.n, (hk.get i hr.2.1 hne).trans hr.2.2⟩
theorem RUint (p : V) (i : Nat) (bs : List Nat) (h : AHeap) (hr : IsRd h p i bs) (hb : ∀ b ∈ bs, b < 256) (hc : bs.length ≤ 2 ^ 47) :
    SCalls Tryz.prog 158 [p] h (fun r h' => r = .tuple [.int .u64 ((dec bs 0 0).1 : Nat), .int .i64 ((dec bs 0 0).2.2 : Nat)] ∧ IsRd h' p i (bs.drop (dec bs 0 0).2.1) ∧ Keep h h' (· = i)) := by
  refine SCalls.enterI (c := _) Tryz.func158 rfl (by kernel_rfl) (by simp) ?_
  simp only [wpA_region, wpA_seq, seqQ_normal, goI_out, goI_ops, opsA_nil, opsA_cons, stepA_move, stepA_assign, stepA_call, eval_tmp, eval_const, put_some, enterF_zero, enterF_succ, absV_int, Nat.reduceEqDiff, reduceCtorEq, List.map_cons, List.map_nil, if_true, if_false]
  refine callI_pure cal160 (rest h p i bs hr) ?_
  simp only [goI_ops, opsA_cons, stepA_call, eval_tmp, put_some, enterF_succ, Nat.reduceEqDiff, List.map_cons, List.map_nil, if_true, if_false]
  refine callI_pure cal199 (number bs h hb hc) ?_
  by_cases herr : (dec bs 0 0).2.2 = 0
  · have hne : ((((dec bs 0 0).2.2 : Nat) : Int) != 0) = false := by simp [herr]
    have hused := dec_used bs 0 0
    obtain ⟨rfl, hi, hg⟩ := hr
    have hsl : aSlice Tryz.prog 87 (.imm bs.length (bytesV bs)) (some (.int .i64 ((dec bs 0 0).2.1 : Nat))) none none = some (.imm (bs.drop (dec bs 0 0).2.1).length (bytesV (bs.drop (dec bs 0 0).2.1))) := by
      rw [slice_imm_lo ss_87 (by omega) (by omega) (by rw [bytesV_length]; omega)]
      rw [Int.toNat_natCast, Nat.mul_one]
      unfold bytesV
      rw [List.map_drop, List.length_drop]
    simp only [wpA_skip, wpA_region, wpA_seq, wpA_cond, wpA_ret, condI_false, seqQ_normal, endI_mk, goI_out, goI_ops, opsA_nil, opsA_cons, stepA_move, stepA_assign, stepA_load, stepA_store, stepA_nilCheck, stepA_binOp, stepA_slice, stepA_fieldAddr, stepA_extract, thenV_some, thenS_some, nilV_ptr, extV_zero, extV_succ, eval_tmp, eval_const, put_some, put_none, enterF_zero, enterF_succ, aBin_neq, absV_int, cells_imm, one_imm, all_nil, all_cons, aField_eq, fieldGo_ptr, aLoad_eq, loadGo_one, aPlace_ptr, dropC_cells, aStore_eq, storeGo_ptr, setC_row, setAll_nil, setAll_cons, Nat.reduceEqDiff, reduceCtorEq, Option.map_some, Option.map_none, Nat.add_zero, Nat.zero_add, Nat.zero_le, List.length_cons, List.length_nil, List.drop_zero, List.set_cons_zero, if_true, if_false, Bool.and_self, Nat.le_refl, ft_278_0, lt_87, zt_87, decV, hne, hg, hsl, retA_ret, Tryz.results158, resultsA_2]
    exact hid_mk ⟨by simp [herr], ⟨rfl, by rw [set_n]; exact hi, get_set_same⟩, Keep.set _ _ _⟩
  · have hne : ((((dec bs 0 0).2.2 : Nat) : Int) != 0) = true := by simp; omega
    have hd := dec_err bs 0 0 herr
    simp only [wpA_region, wpA_seq, wpA_cond, wpA_ret, condI_true, seqQ_normal, seqQ_ret, endI_mk, goI_out, goI_ops, opsA_nil, opsA_cons, stepA_move, stepA_assign, stepA_binOp, stepA_extract, thenV_some, extV_zero, extV_succ, eval_tmp, eval_const, put_some, enterF_succ, aBin_neq, absV_int, Nat.reduceEqDiff, if_true, if_false, decV, hne, retA_ret, Tryz.results158, resultsA_2]
    refine hid_mk ⟨?_, ?_, Keep.refl _ _⟩
    · rw [hd]; rfl
    · rw [hd]; simpa using hr

theorem zigzag (n : Int) (h : AHeap) (h1 : -2 ^ 63 ≤ n) (h2 : n < 2 ^ 63) : Pure Tryz.prog 180 [.int .i64 n] h (.int .u64 (zz n : Nat)) := by
  refine SCalls.enterI (c := _) Tryz.func180 rfl (by kernel_rfl) (by simp) ?_
  simp only [wpA_region, wpA_seq, wpA_ret, seqQ_normal, endI_mk, goI_out, goI_ops, opsA_nil, opsA_cons, stepA_move, stepA_assign, stepA_binOp, stepA_convert, thenV_some, thenC_some, eval_tmp, eval_const, put_some, enterF_zero, enterF_succ, aBin_xor, absV_int, Nat.reduceEqDiff, reduceCtorEq, if_true, if_false, aBin_shl (show (0:Int) ≤ 1 by decide), aBin_shr (show (0:Int) ≤ 63 by decide), aConv_int it_2 it_221, retA_ret, Tryz.results180, resultsA_1]
  exact hid_mk ⟨by rw [zig n h1 h2]; rfl, rfl⟩
theorem pInt (s : V) (cs : List Nat) (n : Int) (h : AHeap) (rd : Rd h s cs) (hc : cs.length ≤ 2 ^ 46) (h1 : -2 ^ 63 ≤ n) (h2 : n < 2 ^ 63) :
    Pure Tryz.prog 126 [s, .int .i64 n] h (.imm (cs ++ enc (zz n)).length (bytesV (cs ++ enc (zz n)))) := by
  refine Pure.of (Clo.imm (bytesV_clo _)) (SCalls.mono (R := fun r h' => Own h' 5 1 r (bytesV (cs ++ enc (zz n))) ∧ Keep h h' none_ ∧ ∀ k, idOf r = some k → h.n ≤ k) ?_ fun r h' ⟨o, k, d⟩ => ?_)
  · refine SCalls.enterI (c := _) Tryz.func126 rfl (by kernel_rfl) (by simp) ?_
    simp only [wpA_region, wpA_seq, seqQ_normal, goI_out, goI_ops, opsA_nil, opsA_cons, stepA_move, stepA_assign, stepA_call, eval_tmp, eval_const, put_some, enterF_zero, enterF_succ, absV_int, absV_snil, Nat.reduceEqDiff, reduceCtorEq, List.map_cons, List.map_nil, if_true, if_false]
    refine callI_of cal157 (fresh s cs 10 h rd (by omega)) fun r1 h1' ⟨e1, o1, k1⟩ => ?_
    have d1 : ∀ k, idOf r1 = some k → h.n ≤ k := fun k hk => by subst e1; simp [idOf] at hk; omega
    simp only [goI_ops, opsA_cons, stepA_move, stepA_call, eval_tmp, put_some, enterF_zero, enterF_succ, Nat.reduceEqDiff, List.map_cons, List.map_nil, if_true, if_false]
    refine callI_pure cal180 (zigzag n h1' h1 h2) ?_
    simp only [goI_ops, opsA_cons, stepA_call, eval_tmp, put_some, enterF_succ, Nat.reduceEqDiff, List.map_cons, List.map_nil, if_true, if_false]
    refine callI_of cal179 (addUint r1 cs (zz n) h1' o1 hc (zz_lt n h1 h2)) fun r2 h2' ⟨o2, k2, d2⟩ => ?_
    simp only [wpA_ret, seqQ_normal, endI_mk, goI_out, goI_ops, opsA_nil, opsA_cons, stepA_assign, eval_tmp, put_some, enterF_succ, Nat.reduceEqDiff, if_true, if_false, retA_ret, Tryz.results126, resultsA_1]
    refine hid_mk ⟨o2, k1.trans k2 fun k hk hi => ?_, fun k hk => ?_⟩
    · have := d1 k hi; omega
    · rcases d2 with d2 | d2
      · exact d1 k (d2 ▸ hk)
      · exact Nat.le_trans k1.n (d2 k hk)
  · obtain ⟨h2, c, k2⟩ := Cast.own o (n := (cs ++ enc (zz n)).length) (by simp [bytesV_length]) (by omega)
    exact ⟨h2, c, k.trans k2 fun j hj hs => by have := d j hs; omega⟩
end Go.Proofs.YtedkjhifbibpmaaGreatDoor.Pk
namespace Go.Proofs.YtedkjhifbibpmaaGreatDoor.Pk
open Go Go.Proofs Go.Proofs.YtedkjhifbibpmaaGreatDoor.Ab
set_option linter.unusedVariables false
set_option linter.unusedSimpArgs false
set_option maxRecDepth 10000
theorem dec_enc : ∀ (bs : List Nat) (k acc m used : Nat), (∀ b ∈ bs, b < 256) → dec bs k acc = (m, used, 0) → k < used ∧ ∃ x, m = acc + x * 2 ^ (7 * k) ∧ bs.take (used - k) = enc x ∧ (0 < k → 0 < x)
  | [], k, acc, m, used, _, h => by simp [dec] at h
  | g :: r, k, acc, m, used, hb, h => by
    have hg : g < 256 := hb g (by simp)
    unfold dec at h
    split at h
    · simp at h
    · split at h
      · rename_i h2
        obtain ⟨hu, x, h3, h4, h5⟩ := dec_enc r (k + 1) _ m used (fun b hb' => hb b (by simp [hb'])) h
        have hx := h5 (by omega)
        refine ⟨by omega, g % 128 + 128 * x, ?_, ?_, by omega⟩
        · rw [h3, Nat.mul_add, Nat.pow_add, Nat.add_mul, Nat.add_assoc]
          congr 2
          have e : (2 : Nat) ^ (7 * 1) = 128 := by decide
          rw [e, Nat.mul_comm (2 ^ (7 * k)) 128, ← Nat.mul_assoc, Nat.mul_comm x 128]
        · rw [show used - k = (used - (k + 1)) + 1 by omega, List.take_succ_cons, h4, enc_big (n := g % 128 + 128 * x) (by omega)]
          congr 1
          · omega
          · congr 1; omega
      · split at h
        · simp at h
        · rename_i h1 h2 h3
          simp only [Prod.mk.injEq, and_true] at h
          obtain ⟨rfl, rfl⟩ := h
          refine ⟨by omega, g, ?_, ?_, by omega⟩
          · rw [Nat.mod_eq_of_lt (by omega)]
          · rw [show k + 1 - k = 1 by omega, enc_small (by omega)]; rfl
theorem dec_lt : ∀ (bs : List Nat) (k acc : Nat), k ≤ 9 → acc < 2 ^ (7 * k) → (∀ b ∈ bs, b < 256) → (dec bs k acc).1 < 2 ^ 64
  | [], k, acc, _, _, _ => by simp [dec]
  | g :: r, k, acc, hk, ha, hb => by
    have hg : g < 256 := hb g (by simp)
    unfold dec
    split
    · simp
    · rename_i h1
      have h7 := fits7 g k hk h1 hg
      have hn := next7 g acc k ha
      split
      · rename_i h2
        by_cases hk8 : k ≤ 8
        · exact dec_lt r (k + 1) _ (by omega) hn fun b hb' => hb b (by simp [hb'])
        · exfalso
          omega
      · split
        · simp
        · show acc + g % 128 * 2 ^ (7 * k) < 2 ^ 64
          have e : (2 : Nat) ^ 64 = 2 ^ (64 - 7 * k) * 2 ^ (7 * k) := by rw [← Nat.pow_add]; congr 1; omega
          rw [e] at h7 ⊢
          have h8 : g % 128 < 2 ^ (64 - 7 * k) := Nat.lt_of_mul_lt_mul_right h7
          calc acc + g % 128 * 2 ^ (7 * k) < 2 ^ (7 * k) + g % 128 * 2 ^ (7 * k) := by omega
            _ = (g % 128 + 1) * 2 ^ (7 * k) := by rw [Nat.add_mul]; omega
            _ ≤ _ := Nat.mul_le_mul_right _ h8
theorem enc_lt : ∀ (m n : Nat), n ≤ m → ∀ b ∈ enc n, b < 256
  | m, n, h, b, hb => by
    by_cases hn : n < 128
    · rw [enc_small hn] at hb; simp at hb; omega
    · rw [enc_big hn] at hb
      rcases List.mem_cons.1 hb with rfl | hb
      · omega
      · cases m with
        | zero => omega
        | succ m => exact enc_lt m (n / 128) (by omega) b hb
theorem dec_enc_app (r : List Nat) : ∀ (m x k acc : Nat), x ≤ m → k ≤ 9 → x * 2 ^ (7 * k) < 2 ^ 64 → (0 < k → 0 < x) → dec (enc x ++ r) k acc = (acc + x * 2 ^ (7 * k), k + (enc x).length, 0)
  | m, x, k, acc, hm, hk, hx, h0 => by
    by_cases hs : x < 128
    · rw [enc_small hs, List.cons_append, dec, if_neg, if_neg (by omega), if_neg, Nat.mod_eq_of_lt hs]
      · rfl
      · intro hh; have := h0 hh.2; omega
      · rintro ⟨rfl, h1⟩
        have h2 : 2 * 2 ^ (7 * 9) ≤ x * 2 ^ (7 * 9) := Nat.mul_le_mul_right _ h1
        have h3 : 2 * 2 ^ (7 * 9) = 2 ^ 64 := by decide
        omega
    · have hk8 : k ≤ 8 := by
        rcases Nat.lt_or_ge k 9 with h | h
        · omega
        · have hk9 : k = 9 := by omega
          subst hk9
          have h2 : 128 * 2 ^ (7 * 9) ≤ x * 2 ^ (7 * 9) := Nat.mul_le_mul_right _ (by omega)
          have h3 : 2 ^ 64 ≤ 128 * 2 ^ (7 * 9) := by decide
          omega
      have e7 : 2 ^ (7 * (k + 1)) = 128 * 2 ^ (7 * k) := by rw [Nat.mul_add, Nat.pow_add, Nat.mul_comm]
      rw [enc_big hs, List.cons_append, dec, if_neg (by omega), if_pos (by omega)]
      cases m with
      | zero => omega
      | succ m =>
        rw [dec_enc_app r m (x / 128) (k + 1) _ (by omega) (by omega) (by
          rw [e7, ← Nat.mul_assoc]
          exact Nat.lt_of_le_of_lt (Nat.mul_le_mul_right _ (Nat.div_mul_le_self x 128)) hx) (by omega)]
        simp only [Prod.mk.injEq, List.length_cons, and_true]
        refine ⟨?_, by omega⟩
        rw [e7]
        have e1 : (x % 128 + 128) % 128 = x % 128 := by omega
        rw [e1, ← Nat.mul_assoc, Nat.add_assoc, ← Nat.add_mul, Nat.mul_comm (x / 128) 128, Nat.mod_add_div]
theorem dec_app (x : Nat) (hx : x < 2 ^ 64) (r : List Nat) : dec (enc x ++ r) 0 0 = (x, (enc x).length, 0) := by
  rw [dec_enc_app r x x 0 0 (Nat.le_refl _) (by omega) (by simpa using hx) (by omega)]
  simp
end Go.Proofs.YtedkjhifbibpmaaGreatDoor.Pk
namespace Go.Proofs.YtedkjhifbibpmaaGreatDoor.Pk
open Go Go.Proofs Go.Proofs.YtedkjhifbibpmaaGreatDoor.Ab
set_option linter.unusedVariables false
set_option linter.unusedSimpArgs false
set_option maxRecDepth 10000



end Go.Proofs.YtedkjhifbibpmaaGreatDoor.Pk
namespace Go.Proofs.YtedkjhifbibpmaaGreatDoor.Pk
open Go Go.Proofs Go.Proofs.YtedkjhifbibpmaaGreatDoor.Ab
set_option linter.unusedVariables false
set_option linter.unusedSimpArgs false
set_option maxRecDepth 10000
def unz (n : Nat) : Int := if n % 2 = 0 then ((n / 2 : Nat) : Int) else -((n / 2 : Nat) : Int) - 1
theorem bAnd_one (n : Nat) (hn : n < 2 ^ 64) : bAnd .u64 (n : Int) 1 = ((n % 2 : Nat) : Int) := by
  show IntKind.u64.wrap ((BitVec.ofInt 64 (n : Int) &&& BitVec.ofInt 64 1).toNat : Int) = _
  have e : BitVec.ofInt 64 (1 : Int) = BitVec.ofNat 64 1 := rfl
  have e1 : (BitVec.ofNat 64 n &&& BitVec.ofNat 64 1).toNat = n % 2 := by
    rw [BitVec.toNat_and, BitVec.toNat_ofNat, BitVec.toNat_ofNat, Nat.mod_eq_of_lt hn, Nat.mod_eq_of_lt (by decide), Nat.and_one_is_mod]
  rw [ofInt_nat, e, e1, IntKind.wrap_u64]
  omega
theorem bXor_zeroI (a : Nat) (ha : a < 2 ^ 63) : bXor .i64 (a : Int) 0 = (a : Int) := by
  show IntKind.i64.wrap ((BitVec.ofInt 64 (a : Int) ^^^ BitVec.ofInt 64 0).toNat : Int) = _
  have e : BitVec.ofInt 64 (0 : Int) = BitVec.ofNat 64 0 := rfl
  have e1 : (BitVec.ofNat 64 a ^^^ BitVec.ofNat 64 0).toNat = a := by
    rw [BitVec.toNat_xor, BitVec.toNat_ofNat, BitVec.toNat_ofNat, Nat.zero_mod, Nat.xor_zero]
    exact Nat.mod_eq_of_lt (by omega)
  rw [ofInt_nat, e, e1, IntKind.wrap_i64]
  omega
theorem bXor_onesI (a : Nat) (ha : a < 2 ^ 63) : bXor .i64 (a : Int) (-1) = -(a : Int) - 1 := by
  show IntKind.i64.wrap ((BitVec.ofInt 64 (a : Int) ^^^ BitVec.ofInt 64 (-1)).toNat : Int) = _
  have e : BitVec.ofInt 64 (-1 : Int) = BitVec.allOnes 64 := by decide
  have e1 : (BitVec.ofNat 64 a ^^^ BitVec.allOnes 64).toNat = 18446744073709551615 - a := by
    rw [BitVec.xor_allOnes, BitVec.toNat_not, BitVec.toNat_ofNat, Nat.mod_eq_of_lt (by omega)]
  rw [ofInt_nat, e, e1, IntKind.wrap_i64]
  omega
theorem unzig (n : Nat) (hn : n < 2 ^ 64) : bXor .i64 (IntKind.i64.wrap ((n : Int).fdiv (2 ^ min (Int.toNat 1) IntKind.u64.bits))) (IntKind.i64.wrap (0 - IntKind.i64.wrap (bAnd .u64 (n : Int) 1))) = unz n := by
  have e1 : (2 : Int) ^ min (Int.toNat 1) IntKind.u64.bits = 2 := by decide
  have e2 : IntKind.i64.wrap ((n : Int).fdiv 2) = ((n / 2 : Nat) : Int) := by
    rw [Int.fdiv_eq_ediv_of_nonneg _ (by omega), Go.IntWalk.i64_in _ (by omega)]; omega
  rw [e1, e2, bAnd_one n hn, Go.IntWalk.i64_in ((n % 2 : Nat) : Int) (by omega), Go.IntWalk.i64_in _ (by omega)]
  unfold unz
  by_cases h : n % 2 = 0
  · rw [if_pos h, h]; exact bXor_zeroI _ (by omega)
  · have h1 : n % 2 = 1 := by omega
    rw [if_neg h, h1]
    exact bXor_onesI _ (by omega)
theorem unz_range (n : Nat) (hn : n < 2 ^ 64) : -2 ^ 63 ≤ unz n ∧ unz n < 2 ^ 63 := by
  unfold unz
  split <;> omega
theorem unzigzag (n : Nat) (h : AHeap) (hn : n < 2 ^ 64) : Pure Tryz.prog 200 [.int .u64 n] h (.int .i64 (unz n)) := by
  refine SCalls.enterI (c := _) Tryz.func200 rfl (by kernel_rfl) (by simp) ?_
  simp only [wpA_region, wpA_seq, wpA_ret, seqQ_normal, endI_mk, goI_out, goI_ops, opsA_nil, opsA_cons, stepA_move, stepA_assign, stepA_binOp, stepA_unOp, stepA_convert, thenV_some, thenC_some, eval_tmp, eval_const, put_some, enterF_zero, enterF_succ, aBin_and, aBin_xor, aUn_neg, absV_int, Nat.reduceEqDiff, reduceCtorEq, if_true, if_false, aBin_shr (show (0:Int) ≤ 1 by decide), aConv_int it_221 it_2, retA_ret, Tryz.results200, resultsA_1]
  exact hid_mk ⟨by rw [unzig n hn], rfl⟩
theorem RInt (p : V) (i : Nat) (bs : List Nat) (h : AHeap) (hr : IsRd h p i bs) (hb : ∀ b ∈ bs, b < 256) (hc : bs.length ≤ 2 ^ 47) :
    SCalls Tryz.prog 159 [p] h (fun r h' => r = .tuple [.int .i64 (unz (dec bs 0 0).1), .int .i64 ((dec bs 0 0).2.2 : Nat)] ∧ IsRd h' p i (bs.drop (dec bs 0 0).2.1) ∧ Keep h h' (· = i)) := by
  refine SCalls.enterI (c := _) Tryz.func159 rfl (by kernel_rfl) (by simp) ?_
  simp only [wpA_region, wpA_seq, seqQ_normal, goI_out, goI_ops, opsA_nil, opsA_cons, stepA_move, stepA_assign, stepA_call, eval_tmp, eval_const, put_some, enterF_zero, enterF_succ, absV_int, Nat.reduceEqDiff, reduceCtorEq, List.map_cons, List.map_nil, if_true, if_false]
  refine callI_of cal158 (RUint p i bs h hr hb hc) fun r h1 ⟨e1, r1, k1⟩ => ?_
  subst e1
  have hlt := dec_lt bs 0 0 (by omega) (by decide) hb
  by_cases herr : (dec bs 0 0).2.2 = 0
  · have hne : ((((dec bs 0 0).2.2 : Nat) : Int) != 0) = false := by simp [herr]
    simp only [wpA_skip, wpA_region, wpA_seq, wpA_cond, condI_false, seqQ_normal, goI_out, goI_ops, opsA_nil, opsA_cons, stepA_move, stepA_assign, stepA_binOp, stepA_extract, stepA_call, thenV_some, extV_zero, extV_succ, eval_tmp, eval_const, put_some, enterF_succ, aBin_neq, absV_int, Nat.reduceEqDiff, List.map_cons, List.map_nil, if_true, if_false, hne]
    refine callI_pure cal200 (unzigzag _ h1 hlt) ?_
    simp only [wpA_ret, seqQ_normal, endI_mk, goI_out, goI_ops, opsA_nil, opsA_cons, stepA_assign, eval_tmp, eval_const, put_some, enterF_succ, absV_int, Nat.reduceEqDiff, if_true, if_false, retA_ret, Tryz.results159, resultsA_2]
    exact hid_mk ⟨by rw [herr]; rfl, r1, k1⟩
  · have hne : ((((dec bs 0 0).2.2 : Nat) : Int) != 0) = true := by simp; omega
    have hd := dec_err bs 0 0 herr
    simp only [wpA_region, wpA_seq, wpA_cond, wpA_ret, condI_true, seqQ_normal, seqQ_ret, endI_mk, goI_out, goI_ops, opsA_nil, opsA_cons, stepA_move, stepA_assign, stepA_binOp, stepA_extract, thenV_some, extV_zero, extV_succ, eval_tmp, eval_const, put_some, enterF_succ, aBin_neq, absV_int, Nat.reduceEqDiff, if_true, if_false, hne, retA_ret, Tryz.results159, resultsA_2]
    refine hid_mk ⟨?_, r1, k1⟩
    rw [hd]
    have : unz 0 = 0 := by decide
    simp only [this]
theorem unz_zz (n : Int) : unz (zz n) = n := by
  unfold unz zz
  by_cases h : 0 ≤ n
  · rw [if_pos h, if_pos (by omega)]; omega
  · rw [if_neg h, if_neg (by omega)]; omega
end Go.Proofs.YtedkjhifbibpmaaGreatDoor.Pk
namespace Go.Proofs.YtedkjhifbibpmaaGreatDoor.Pk
open Go Go.Proofs Go.Proofs.YtedkjhifbibpmaaGreatDoor.Ab
set_option linter.unusedVariables false
set_option linter.unusedSimpArgs false
set_option maxRecDepth 10000

end Go.Proofs.YtedkjhifbibpmaaGreatDoor.Pk
namespace Go.Proofs.YtedkjhifbibpmaaGreatDoor.Pk
open Go Go.Proofs Go.Proofs.YtedkjhifbibpmaaGreatDoor.Ab
set_option linter.unusedVariables false
set_option linter.unusedSimpArgs false
set_option maxRecDepth 10000
end Go.Proofs.YtedkjhifbibpmaaGreatDoor.Pk
