/-
  What functions of the program do, told of abstract states. Conditions: as each theorem says.
-/
import Derived.Test.YtfcjehlhoebmnaaGreatDoorAbB
import Derived.Test.YtfcjehlhoebmnaaGreatDoorProg
namespace Go.Proofs.YtfcjehlhoebmnaaGreatDoor.Pk
open Go Go.Proofs Go.Proofs.YtfcjehlhoebmnaaGreatDoor.Ab
theorem as_129 : arSz Tryz.prog 129 = some (11, 4) := by kernel_rfl
theorem as_312 : arSz Tryz.prog 312 = some (17, 1) := by kernel_rfl
theorem as_66 : arSz Tryz.prog 66 = none := by kernel_rfl
theorem bt_4 : boolT Tryz.prog 4 = true := by kernel_rfl
theorem cal100 : callable Tryz.prog 100 = true := by kernel_rfl
theorem cal101 : callable Tryz.prog 101 = true := by kernel_rfl
theorem cal102 : callable Tryz.prog 102 = true := by kernel_rfl
theorem cal11 : callable Tryz.prog 11 = true := by kernel_rfl
theorem cal111 : callable Tryz.prog 111 = true := by kernel_rfl
theorem cal12 : callable Tryz.prog 12 = true := by kernel_rfl
theorem cal129 : callable Tryz.prog 129 = true := by kernel_rfl
theorem cal13 : callable Tryz.prog 13 = true := by kernel_rfl
theorem cal131 : callable Tryz.prog 131 = true := by kernel_rfl
theorem cal132 : callable Tryz.prog 132 = true := by kernel_rfl
theorem cal133 : callable Tryz.prog 133 = true := by kernel_rfl
theorem cal135 : callable Tryz.prog 135 = true := by kernel_rfl
theorem cal136 : callable Tryz.prog 136 = true := by kernel_rfl
theorem cal137 : callable Tryz.prog 137 = true := by kernel_rfl
theorem cal138 : callable Tryz.prog 138 = true := by kernel_rfl
theorem cal14 : callable Tryz.prog 14 = true := by kernel_rfl
theorem cal15 : callable Tryz.prog 15 = true := by kernel_rfl
theorem cal169 : callable Tryz.prog 169 = true := by kernel_rfl
theorem cal178 : callable Tryz.prog 178 = true := by kernel_rfl
theorem cal187 : callable Tryz.prog 187 = true := by kernel_rfl
theorem cal26 : callable Tryz.prog 26 = true := by kernel_rfl
theorem cal27 : callable Tryz.prog 27 = true := by kernel_rfl
theorem cal28 : callable Tryz.prog 28 = true := by kernel_rfl
theorem cal29 : callable Tryz.prog 29 = true := by kernel_rfl
theorem cal30 : callable Tryz.prog 30 = true := by kernel_rfl
theorem cal35 : callable Tryz.prog 35 = true := by kernel_rfl
theorem cal36 : callable Tryz.prog 36 = true := by kernel_rfl
theorem cal37 : callable Tryz.prog 37 = true := by kernel_rfl
theorem cal38 : callable Tryz.prog 38 = true := by kernel_rfl
theorem cal56 : callable Tryz.prog 56 = true := by kernel_rfl
theorem cal57 : callable Tryz.prog 57 = true := by kernel_rfl
theorem cal58 : callable Tryz.prog 58 = true := by kernel_rfl
theorem cal59 : callable Tryz.prog 59 = true := by kernel_rfl
theorem cal62 : callable Tryz.prog 62 = true := by kernel_rfl
theorem cal63 : callable Tryz.prog 63 = true := by kernel_rfl
theorem cal64 : callable Tryz.prog 64 = true := by kernel_rfl
theorem cal65 : callable Tryz.prog 65 = true := by kernel_rfl
theorem cal66 : callable Tryz.prog 66 = true := by kernel_rfl
theorem cal70 : callable Tryz.prog 70 = true := by kernel_rfl
theorem cal80 : callable Tryz.prog 80 = true := by kernel_rfl
theorem cal82 : callable Tryz.prog 82 = true := by kernel_rfl
theorem cal90 : callable Tryz.prog 90 = true := by kernel_rfl
theorem cal92 : callable Tryz.prog 92 = true := by kernel_rfl
theorem cal95 : callable Tryz.prog 95 = true := by kernel_rfl
theorem cal96 : callable Tryz.prog 96 = true := by kernel_rfl
theorem cal97 : callable Tryz.prog 97 = true := by kernel_rfl
theorem cal98 : callable Tryz.prog 98 = true := by kernel_rfl
theorem cal99 : callable Tryz.prog 99 = true := by kernel_rfl
theorem ft_115_0 : fieldT Tryz.prog 115 0 = some 0 := by kernel_rfl
theorem ft_121_0 : fieldT Tryz.prog 121 0 = some 0 := by kernel_rfl
theorem ft_128_0 : fieldT Tryz.prog 128 0 = some 0 := by kernel_rfl
theorem ft_128_1 : fieldT Tryz.prog 128 1 = some 1 := by kernel_rfl
theorem ft_128_2 : fieldT Tryz.prog 128 2 = some 2 := by kernel_rfl
theorem ft_128_3 : fieldT Tryz.prog 128 3 = some 3 := by kernel_rfl
theorem ft_246_0 : fieldT Tryz.prog 246 0 = some 0 := by kernel_rfl
theorem ft_246_1 : fieldT Tryz.prog 246 1 = some 1 := by kernel_rfl
theorem ft_45_0 : fieldT Tryz.prog 45 0 = some 0 := by kernel_rfl
theorem ft_45_1 : fieldT Tryz.prog 45 1 = some 1 := by kernel_rfl
theorem ft_57_0 : fieldT Tryz.prog 57 0 = some 0 := by kernel_rfl
theorem ft_68_2 : fieldT Tryz.prog 68 2 = some 3 := by kernel_rfl
theorem ft_68_3 : fieldT Tryz.prog 68 3 = some 4 := by kernel_rfl
theorem ft_88_0 : fieldT Tryz.prog 88 0 = some 0 := by kernel_rfl
theorem ft_88_1 : fieldT Tryz.prog 88 1 = some 1 := by kernel_rfl
theorem ft_88_2 : fieldT Tryz.prog 88 2 = some 2 := by kernel_rfl
theorem ft_90_0 : fieldT Tryz.prog 90 0 = some 0 := by kernel_rfl
theorem ft_90_1 : fieldT Tryz.prog 90 1 = some 1 := by kernel_rfl
theorem ft_90_2 : fieldT Tryz.prog 90 2 = some 2 := by kernel_rfl
theorem ft_90_3 : fieldT Tryz.prog 90 3 = some 5 := by kernel_rfl
theorem it_108 : intT Tryz.prog 108 = some .u64 := by kernel_rfl
theorem it_143 : intT Tryz.prog 143 = some .u64 := by kernel_rfl
theorem it_2 : intT Tryz.prog 2 = some .i64 := by kernel_rfl
theorem it_206 : intT Tryz.prog 206 = some .u32 := by kernel_rfl
theorem it_3 : intT Tryz.prog 3 = some .i64 := by kernel_rfl
theorem it_5 : intT Tryz.prog 5 = some .u8 := by kernel_rfl
theorem kt_28 : kindT Tryz.prog 28 = some 0 := by kernel_rfl
theorem kt_36 : kindT Tryz.prog 36 = some 1 := by kernel_rfl
theorem kt_42 : kindT Tryz.prog 42 = some 1 := by kernel_rfl
theorem kt_43 : kindT Tryz.prog 43 = some 1 := by kernel_rfl
theorem kt_66 : kindT Tryz.prog 66 = some 1 := by kernel_rfl
theorem kt_80 : kindT Tryz.prog 80 = some 0 := by kernel_rfl
theorem kt_86 : kindT Tryz.prog 86 = some 1 := by kernel_rfl
theorem lt_112 : loadT Tryz.prog 112 = some none := by kernel_rfl
theorem lt_128 : loadT Tryz.prog 128 = some (some 4) := by kernel_rfl
theorem lt_131 : loadT Tryz.prog 131 = some (some 2) := by kernel_rfl
theorem lt_2 : loadT Tryz.prog 2 = some none := by kernel_rfl
theorem lt_3 : loadT Tryz.prog 3 = some none := by kernel_rfl
theorem lt_42 : loadT Tryz.prog 42 = some none := by kernel_rfl
theorem lt_43 : loadT Tryz.prog 43 = some none := by kernel_rfl
theorem lt_45 : loadT Tryz.prog 45 = some (some 2) := by kernel_rfl
theorem lt_5 : loadT Tryz.prog 5 = some none := by kernel_rfl
theorem lt_57 : loadT Tryz.prog 57 = some (some 3) := by kernel_rfl
theorem lt_65 : loadT Tryz.prog 65 = some none := by kernel_rfl
theorem lt_66 : loadT Tryz.prog 66 = some none := by kernel_rfl
theorem lt_80 : loadT Tryz.prog 80 = some none := by kernel_rfl
theorem lt_86 : loadT Tryz.prog 86 = some none := by kernel_rfl
theorem lt_88 : loadT Tryz.prog 88 = some (some 3) := by kernel_rfl
theorem lt_90 : loadT Tryz.prog 90 = some (some 6) := by kernel_rfl
theorem mt_211 : mapT Tryz.prog 211 = some (3, 3, .int .i64) := by kernel_rfl
theorem pl_121 : bplT Tryz.prog 121 = some (.inl [(0, 1)]) := by kernel_rfl
theorem pl_131 : bplT Tryz.prog 131 = some (.inl [(0, 1), (1, 1)]) := by kernel_rfl
theorem pl_246 : bplT Tryz.prog 246 = some (.inl [(0, 1), (1, 1)]) := by kernel_rfl
theorem pl_45 : bplT Tryz.prog 45 = some (.inl [(0, 1), (1, 1)]) := by kernel_rfl
theorem pl_68 : bplT Tryz.prog 68 = some (.inl [(0, 2), (2, 1), (3, 1), (4, 1)]) := by kernel_rfl
theorem pl_88 : bplT Tryz.prog 88 = some (.inl [(0, 1), (1, 1), (2, 1)]) := by kernel_rfl
theorem pl_90 : bplT Tryz.prog 90 = some (.inl [(0, 1), (1, 1), (2, 3), (5, 1)]) := by kernel_rfl
theorem sl_36 : slT Tryz.prog 36 = some ⟨57, [.int .i64 0, .snil, .snil], 3, 56⟩ := by kernel_rfl
theorem sl_42 : slT Tryz.prog 42 = some ⟨5, [.int .u8 0], 1, 1⟩ := by kernel_rfl
theorem sl_43 : slT Tryz.prog 43 = some ⟨90, [.int .i64 0, .snil, .int .i64 0, .int .i64 0, .snil, .int .i64 0], 6, 80⟩ := by kernel_rfl
theorem sl_65 : slT Tryz.prog 65 = some ⟨71, [.mnil], 1, 8⟩ := by kernel_rfl
theorem sl_66 : slT Tryz.prog 66 = some ⟨3, [.int .i64 0], 1, 8⟩ := by kernel_rfl
theorem sl_86 : slT Tryz.prog 86 = some ⟨88, [.int .i64 0, .int .i64 0, .snil], 3, 40⟩ := by kernel_rfl
theorem ss_129 : slSz Tryz.prog 129 = none := by kernel_rfl
theorem ss_312 : slSz Tryz.prog 312 = none := by kernel_rfl
theorem ss_42 : slSz Tryz.prog 42 = some 1 := by kernel_rfl
theorem ss_43 : slSz Tryz.prog 43 = some 6 := by kernel_rfl
theorem ss_66 : slSz Tryz.prog 66 = some 1 := by kernel_rfl
theorem ss_86 : slSz Tryz.prog 86 = some 3 := by kernel_rfl
theorem zc_121 : zeroC Tryz.prog 121 = some [.snil] := by kernel_rfl
theorem zc_131 : zeroC Tryz.prog 131 = some [.int .i64 0, .int .i64 0] := by kernel_rfl
theorem zc_246 : zeroC Tryz.prog 246 = some [.pnil, .int .i64 0] := by kernel_rfl
theorem zc_45 : zeroC Tryz.prog 45 = some [.snil, .int .i64 0] := by kernel_rfl
theorem zc_68 : zeroC Tryz.prog 68 = some [.snil, .int .i64 0, .pnil, .snil, .snil] := by kernel_rfl
theorem zc_88 : zeroC Tryz.prog 88 = some [.int .i64 0, .int .i64 0, .snil] := by kernel_rfl
theorem zc_90 : zeroC Tryz.prog 90 = some [.int .i64 0, .snil, .int .i64 0, .int .i64 0, .snil, .int .i64 0] := by kernel_rfl
theorem zt_121 : sizeT Tryz.prog 121 = some 1 := by kernel_rfl
theorem zt_131 : sizeT Tryz.prog 131 = some 2 := by kernel_rfl
theorem zt_2 : sizeT Tryz.prog 2 = some 1 := by kernel_rfl
theorem zt_246 : sizeT Tryz.prog 246 = some 2 := by kernel_rfl
theorem zt_3 : sizeT Tryz.prog 3 = some 1 := by kernel_rfl
theorem zt_42 : sizeT Tryz.prog 42 = some 1 := by kernel_rfl
theorem zt_43 : sizeT Tryz.prog 43 = some 1 := by kernel_rfl
theorem zt_45 : sizeT Tryz.prog 45 = some 2 := by kernel_rfl
theorem zt_65 : sizeT Tryz.prog 65 = some 1 := by kernel_rfl
theorem zt_66 : sizeT Tryz.prog 66 = some 1 := by kernel_rfl
theorem zt_86 : sizeT Tryz.prog 86 = some 1 := by kernel_rfl
theorem zt_88 : sizeT Tryz.prog 88 = some 3 := by kernel_rfl
theorem zt_90 : sizeT Tryz.prog 90 = some 6 := by kernel_rfl
end Go.Proofs.YtfcjehlhoebmnaaGreatDoor.Pk
namespace Go.Proofs.YtfcjehlhoebmnaaGreatDoor.Pk
open Go Go.Proofs Go.Proofs.YtfcjehlhoebmnaaGreatDoor.Ab
set_option linter.unusedVariables false
set_option linter.unusedSimpArgs false
def bytesV (l : List Nat) : List V := l.map fun (n : Nat) => V.int .u8 (n : Int)
theorem bytesV_one (l : List Nat) : (bytesV l).all (·.one) = true := by
 rw [List.all_eq_true]; intro x hx
 obtain ⟨n, _, rfl⟩ := List.mem_map.1 hx
 rfl
theorem bytesV_append (a b : List Nat) : bytesV (a ++ b) = bytesV a ++ bytesV b := by simp [bytesV]
theorem bytesV_length (a : List Nat) : (bytesV a).length = a.length := by simp [bytesV]
theorem bytesV_clo (a : List Nat) : CloL (bytesV a) := CloL.map fun _ _ => Clo.int _ _
def enc (n : Nat) : List Nat := if n < 128 then [n] else (n % 128 + 128) :: enc (n / 128)
termination_by n
theorem enc_small {n : Nat} (h : n < 128) : enc n = [n] := by rw [enc, if_pos h]
theorem enc_big {n : Nat} (h : ¬ n < 128) : enc n = (n % 128 + 128) :: enc (n / 128) := by rw [enc, if_neg h]
theorem enc_len (k : Nat) : ∀ n, n < 128 ^ (k + 1) → 1 ≤ (enc n).length ∧ (enc n).length ≤ k + 1 := by
 induction k with
 | zero => intro n h; rw [enc_small (by simpa using h)]; simp
 | succ k ih =>
  intro n h
  by_cases hn : n < 128
  ·rw [enc_small hn]; simp
  ·rw [enc_big hn]
   have := ih (n / 128) (by rw [Nat.pow_succ] at h; exact Nat.div_lt_of_lt_mul (by rw [Nat.mul_comm]; exact h))
   simp; omega
theorem enc_le (n : Nat) (h : n < 2 ^ 64) : 1 ≤ (enc n).length ∧ (enc n).length ≤ 10 := by
 have : (2:Nat) ^ 64 < 128 ^ 10 := by decide
 exact enc_len 9 n (by omega)
theorem or128 (n : Nat) : bOr .u8 (IntKind.u8.wrap (n : Int)) 128 = ((n % 128 + 128 : Nat) : Int) := by
 rw [IntKind.wrap_u8]
 unfold bOr
 rw [IntKind.wrap_u8]
 have e1 : BitVec.ofInt IntKind.u8.bits ((n : Int) % 256) = BitVec.ofNat 8 (n % 256) := by
  apply BitVec.eq_of_toNat_eq
  simp [IntKind.bits]
  omega
 rw [e1]
 have h : ∀ m : Fin 256, ((BitVec.ofNat 8 m.val ||| BitVec.ofInt 8 128).toNat : Int) % 256 = ((m.val % 128 + 128 : Nat) : Int) := by decide +kernel
 have := h ⟨n % 256, Nat.mod_lt _ (by decide)⟩
 have e2 : ((n % 256 % 128 + 128 : Nat) : Int) = ((n % 128 + 128 : Nat) : Int) := by omega
 exact this.trans e2
theorem shr7 (n : Nat) : (n : Int).fdiv (2 ^ (min (Int.toNat 7) IntKind.u64.bits)) = ((n / 128 : Nat) : Int) := by
 have : (2 ^ (min (Int.toNat 7) IntKind.u64.bits) : Int) = 128 := by decide
 rw [this, Int.fdiv_eq_ediv_of_nonneg _ (by omega)]
 all_goals rfl
theorem wrapu8 (n : Nat) (h : n < 128) : IntKind.u8.wrap (n : Int) = (n : Int) := by rw [IntKind.wrap_u8]; omega
theorem lit1b (h : AHeap) (a : Int) : aBuildSlice Tryz.prog 42 1 [(0, .int .u8 a)] h = some (.sl h.n 0 1 1, h.push (.cells [.int .u8 a] 5 none)) := by rw [buildSlice_go sl_42]; rfl
set_option maxRecDepth 10000 in
theorem addUint (s : V) (cs : List Nat) (n : Nat) (h : AHeap) (ho : Own h 5 1 s (bytesV cs)) (hc : cs.length ≤ 2 ^ 46) (hn : n < 2 ^ 64) :
  SCalls Tryz.prog 99 [s, .int .u64 n] h (fun r h' => Own h' 5 1 r (bytesV (cs ++ enc n)) ∧ Keep h h' (isId s) ∧ NewOr h s r) := by
 refine SCalls.enterI (c := _) Tryz.func99 rfl (by kernel_rfl) (by simp) ?_
 simp only [wpA_region, wpA_seq, wpA_block, wpA_loop, seqQ_normal, goI_out, goI_ops, opsA_nil, opsA_cons, stepA_assign, eval_const, absV_snil]
 refine SWp.loopG (α := V × List Nat × Nat) (fun x f h' => f 0 = x.1 ∧ f 1 = .int .u64 (x.2.2 : Nat) ∧ Own h' 5 1 x.1 (bytesV x.2.1) ∧ Keep h h' (isId s) ∧ NewOr h s x.1 ∧ x.2.1 ++ enc x.2.2 = cs ++ enc n ∧ x.2.2 < 2 ^ 64) (fun x => x.2.2) (s, cs, n)
  ⟨rfl, rfl, ho, Keep.refl _ _, .inl rfl, rfl, hn⟩ ?_
 rintro ⟨s', cs', n'⟩ f h1 ⟨f0, f1, ho', hk, hid, hcs, hn'⟩
 simp only at f0 f1 ho' hid hcs hn'
 refine wpI_sound (by kernel_rfl) ?_
 have hlen : cs'.length + 1 ≤ cs.length + 10 := by
  have h1 := congrArg List.length hcs
  have h2 := enc_le n hn
  have h3 := enc_le n' hn'
  simp at h1
  omega
 have next : ∀ (v : V) (h2 : AHeap), Keep h1 h2 (isId s') → NewOr h1 s' v → Keep h h2 (isId s) ∧ NewOr h s v := fun v h2 k2 d2 => by
  refine ⟨hk.trans k2 fun k hk1 hk2 => ?_, ?_⟩
  ·rcases hid with hid | hid
   ·unfold isId at hk2 ⊢; rw [← hid]; exact hk2
   ·have := hid k hk2; omega
  ·rcases d2 with d2 | d2
   ·rcases hid with hid | hid
    ·exact .inl (d2.trans hid)
    ·exact .inr fun k hk1 => hid k (by rw [← d2]; exact hk1)
   ·exact .inr fun k hk1 => Nat.le_trans hk.n (d2 k hk1)
 by_cases hlt : 128 ≤ n'
 ·have c1 : decide ((128 : Int) ≤ (n' : Int)) = true := by simp; omega
  obtain ⟨v, h2, q1, q2, q3, q4⟩ := append_elem (P := Tryz.prog) sl_42 (by decide) ho' (xs := [.int .u8 ((n' % 128 + 128 : Nat) : Int)]) rfl rfl (by simp [bytesV_length, lim]; omega) (by simp [bytesV_length, lim]; omega)
  obtain ⟨k2, d2⟩ := next v h2 q3 q4
  simp only [wpA_skip, wpA_region, wpA_seq, wpA_cond, wpA_block, condI_true, seqQ_normal, blkQ_normal, endI_mk, andThen_normal, goI_out, goI_ops, opsA_nil, opsA_cons, stepA_move, stepA_assign, stepA_buildSlice, stepA_binOp, stepA_convert, stepA_append, thenV_some, thenC_some, thenH_some, eval_tmp, eval_const, put_some, aBin_geq, aBin_or, absV_int, Nat.reduceEqDiff, reduceCtorEq, List.map_cons, List.map_nil, if_true, if_false, f0, f1, c1, aConv_int it_108 it_5, or128, lit1b, q1, aBin_shr (show (0 : Int) ≤ 7 by decide), shr7]
  refine hid_mk ⟨(v, cs' ++ [n' % 128 + 128], n' / 128), ⟨rfl, rfl, ?_, k2, d2, ?_, by simp only; omega⟩, by simp; omega⟩
  ·rw [bytesV_append]; exact q2
  ·simp only
   rw [← hcs, enc_big (n := n') (by omega)]
   simp
 ·have c1 : decide ((128 : Int) ≤ (n' : Int)) = false := by simp; omega
  obtain ⟨v, h2, q1, q2, q3, q4⟩ := append_elem (P := Tryz.prog) sl_42 (by decide) ho' (xs := [.int .u8 (n' : Int)]) rfl rfl (by simp [bytesV_length, lim]; omega) (by simp [bytesV_length, lim]; omega)
  obtain ⟨k2, d2⟩ := next v h2 q3 q4
  simp only [wpA_region, wpA_seq, wpA_cond, wpA_exit, wpA_ret, condI_false, seqQ_normal, seqQ_exit, blkQ_exit, endI_mk, goE, andThen_exit, goI_out, goI_ops, opsA_nil, opsA_cons, stepA_move, stepA_assign, stepA_buildSlice, stepA_binOp, stepA_convert, stepA_append, thenV_some, thenC_some, thenH_some, eval_tmp, eval_const, put_some, aBin_geq, absV_int, Nat.reduceEqDiff, reduceCtorEq, List.map_cons, List.map_nil, if_true, if_false, f0, f1, c1, aConv_int it_108 it_5, wrapu8 n' (by omega), lit1b, q1, retA_ret, Tryz.results99, resultsA_1]
  refine hid_mk ⟨?_, k2, d2⟩
  rw [← hcs, enc_small (by omega), bytesV_append]
  exact q2
end Go.Proofs.YtfcjehlhoebmnaaGreatDoor.Pk
namespace Go.Proofs.YtfcjehlhoebmnaaGreatDoor.Pk
open Go Go.Proofs Go.Proofs.YtfcjehlhoebmnaaGreatDoor.Ab
set_option linter.unusedVariables false
set_option linter.unusedSimpArgs false
structure Rd (h : AHeap) (s : V) (cs : List Nat) : Prop where
 len : ∀ h', Keep h h' none_ → aLen Tryz.prog 42 s h' = some (.int .i64 cs.length)
 lenOf : aLenOf s = some cs.length
 first : ∀ h', Keep h h' none_ → aFirst 1 cs.length s h' = some (bytesV cs)
 src : ∀ h', Keep h h' none_ → aSrc Tryz.prog 1 42 s h' = some (cs.length, bytesV cs)
theorem Rd.snil (h : AHeap) : Rd h .snil [] := ⟨fun _ _ => aLen_snil kt_42, rfl, fun _ _ => rfl, fun _ _ => by
 obtain ⟨d, hu, hd⟩ := kindT_eq kt_42
 cases d <;> simp [descKind] at hd
 simp [aSrc, hu, bytesV]⟩
theorem Rd.imm (h : AHeap) (cs : List Nat) : Rd h (.imm cs.length (bytesV cs)) cs := ⟨fun _ _ => aLen_imm kt_42, rfl, fun h' _ => by
 simp only [aFirst, bytesV_length, Nat.mul_one, Nat.le_refl, and_self, if_true]
 rw [List.take_of_length_le (by rw [bytesV_length]; exact Nat.le_refl _)], fun h' _ => imm_src kt_42 (by rw [bytesV_length, Nat.mul_one]) (bytesV_one cs)⟩
theorem Rd.keep {h h' : AHeap} {s : V} {cs : List Nat} (rd : Rd h s cs) (k : Keep h h' none_) : Rd h' s cs :=
 ⟨fun h2 k2 => rd.len h2 (k.trans' k2), rd.lenOf, fun h2 k2 => rd.first h2 (k.trans' k2), fun h2 k2 => rd.src h2 (k.trans' k2)⟩
set_option maxRecDepth 10000 in
theorem fresh (s : V) (cs : List Nat) (m : Nat) (h : AHeap) (rd : Rd h s cs) (hc : cs.length + m ≤ 2 ^ 47) :
  SCalls Tryz.prog 56 [s, .int .i64 m] h (fun r h' => r = .sl h.n 0 cs.length (cs.length + m) ∧ Own h' 5 1 r (bytesV cs) ∧ Keep h h' none_) := by
 refine SCalls.enterI (c := _) Tryz.func56 rfl (by kernel_rfl) (by simp) ?_
 have hw : IntKind.i64.wrap ((cs.length : Int) + (m : Int)) = ((cs.length + m : Nat) : Int) := by rw [Go.IntWalk.i64_in _ (by omega)]; omega
 obtain ⟨h1, h2, q1, q2, q3, q4, q5⟩ := own_clone2 (P := Tryz.prog) (tx := 42) (k := .i64) (k' := .i64) (h := h) (c := cs.length + m) sl_42 rd.lenOf rd.first (bytesV_one cs) (by simp [bytesV_length]) (by omega) (by simp only; omega) (by omega)
 simp only [wpA_region, wpA_seq, wpA_ret, seqQ_normal, endI_mk, goI_out, goI_ops, opsA_nil, opsA_cons, stepA_move, stepA_assign, stepA_binOp, stepA_makeSlice, stepA_len, stepA_copy, thenV_some, thenH_some, eval_tmp, eval_const, put_some, enterF_zero, enterF_succ, aBin_add, absV_snil, Nat.reduceEqDiff, reduceCtorEq, if_true, if_false, rd.len h (Keep.refl _ _), hw, q1, q2, retA_ret, Tryz.results56, resultsA_1]
 exact hid_mk ⟨rfl, q3, q5⟩
set_option maxRecDepth 10000 in
theorem Uint (s : V) (cs : List Nat) (n : Nat) (h : AHeap) (rd : Rd h s cs) (hc : cs.length ≤ 2 ^ 46) (hn : n < 2 ^ 64) :
  SCalls Tryz.prog 62 [s, .int .u64 n] h (fun r h' => Own h' 5 1 r (bytesV (cs ++ enc n)) ∧ Keep h h' none_ ∧ ∀ k, idOf r = some k → h.n ≤ k) := by
 refine SCalls.enterI (c := _) Tryz.func62 rfl (by kernel_rfl) (by simp) ?_
 simp only [wpA_region, wpA_seq, seqQ_normal, goI_out, goI_ops, opsA_nil, opsA_cons, stepA_move, stepA_assign, stepA_call, eval_tmp, eval_const, put_some, enterF_zero, enterF_succ, absV_int, absV_snil, Nat.reduceEqDiff, reduceCtorEq, List.map_cons, List.map_nil, if_true, if_false]
 refine callI_of cal56 (fresh s cs 10 h rd (by omega)) fun r1 h1 ⟨e1, o1, k1⟩ => ?_
 have d1 : ∀ k, idOf r1 = some k → h.n ≤ k := fun k hk => by subst e1; simp [idOf] at hk; omega
 simp only [goI_ops, opsA_cons, stepA_move, stepA_call, eval_tmp, put_some, enterF_zero, enterF_succ, Nat.reduceEqDiff, List.map_cons, List.map_nil, if_true, if_false]
 refine callI_of cal99 (addUint r1 cs n h1 o1 hc hn) fun r2 h2 ⟨o2, k2, d2⟩ => ?_
 simp only [wpA_ret, seqQ_normal, endI_mk, goI_out, goI_ops, opsA_nil, opsA_cons, stepA_assign, eval_tmp, put_some, enterF_succ, Nat.reduceEqDiff, if_true, if_false, retA_ret, Tryz.results62, resultsA_1]
 refine hid_mk ⟨o2, k1.trans k2 fun k hk hi => ?_, fun k hk => ?_⟩
 ·have := d1 k hi; omega
 ·rcases d2 with d2 | d2
  ·exact d1 k (d2 ▸ hk)
  ·exact Nat.le_trans k1.n (d2 k hk)
theorem pUint (s : V) (cs : List Nat) (n : Nat) (h : AHeap) (rd : Rd h s cs) (hc : cs.length ≤ 2 ^ 46) (hn : n < 2 ^ 64) :
  Pure Tryz.prog 62 [s, .int .u64 n] h (.imm (cs ++ enc n).length (bytesV (cs ++ enc n))) := by
 refine Pure.of (Clo.imm (bytesV_clo _)) ((Uint s cs n h rd hc hn).mono fun r h' ⟨o, k, d⟩ => ?_)
 obtain ⟨h2, c, k2⟩ := Cast.own o (n := (cs ++ enc n).length) (by simp [bytesV_length]) (by omega)
 exact ⟨h2, c, k.trans k2 fun j hj hs => by have := d j hs; omega⟩
theorem pFresh (s : V) (cs : List Nat) (m : Nat) (h : AHeap) (rd : Rd h s cs) (hc : cs.length + m ≤ 2 ^ 47) :
  Pure Tryz.prog 56 [s, .int .i64 m] h (.imm cs.length (bytesV cs)) := by
 refine Pure.of (Clo.imm (bytesV_clo _)) ((fresh s cs m h rd hc).mono fun r h' ⟨e, o, k⟩ => ?_)
 obtain ⟨h2, c, k2⟩ := Cast.own o (n := cs.length) (by simp [bytesV_length]) (by omega)
 refine ⟨h2, c, k.trans k2 fun j hj hs => ?_⟩
 subst e
 simp [isId, idOf] at hs
 omega
def IsRd (h : AHeap) (p : V) (i : Nat) (cs : List Nat) : Prop := p = .ptr i 0 ∧ i < h.n ∧ h.get i = .cells [.imm cs.length (bytesV cs)] 121 none
theorem From (s : V) (cs : List Nat) (h : AHeap) (rd : Rd h s cs) (hc : cs.length ≤ 2 ^ 47) :
  SCalls Tryz.prog 26 [s] h (fun r h' => r = .ptr h.n 0 ∧ IsRd h' r h.n cs ∧ Keep h h' none_) := by
 refine SCalls.enterI (c := _) Tryz.func26 rfl (by kernel_rfl) (by simp) ?_
 simp only [wpA_region, wpA_seq, seqQ_normal, goI_out, goI_ops, opsA_nil, opsA_cons, stepA_move, stepA_assign, stepA_call, eval_tmp, eval_const, put_some, enterF_zero, enterF_succ, absV_int, absV_pnil, Nat.reduceEqDiff, reduceCtorEq, List.map_cons, List.map_nil, if_true, if_false]
 refine callI_pure cal56 (pFresh s cs 0 h rd (by omega)) ?_
 simp only [wpA_ret, seqQ_normal, endI_mk, goI_out, goI_ops, opsA_nil, opsA_cons, stepA_assign, stepA_box, stepA_build, thenV_some, thenH_some, eval_tmp, put_some, enterF_succ, cells_imm, cells_agg, setAll_nil, setAll_cons, aBox_eq, aBuild_go, aFill_nil, aFill_cons, fillGo_some, buildGo_struct, List.getElem?_cons_zero, Nat.reduceEqDiff, List.map_cons, List.map_nil, Option.map_some, Nat.zero_add, List.length_cons, List.length_nil, List.set_cons_zero, and_self, if_true, if_false, Nat.le_refl, pl_121, zc_121, retA_ret, Tryz.results26, resultsA_1]
 exact hid_mk ⟨rfl, ⟨rfl, by rw [push_n]; omega, get_push_new⟩, Keep.push _ _ _⟩
theorem rest (h : AHeap) (p : V) (i : Nat) (cs : List Nat) (hr : IsRd h p i cs) : Pure Tryz.prog 59 [p] h (.imm cs.length (bytesV cs)) := by
 obtain ⟨rfl, hi, hg⟩ := hr
 refine SCalls.enterI (c := _) Tryz.func59 rfl (by kernel_rfl) (by simp) ?_
 simp only [wpA_skip, wpA_region, wpA_seq, wpA_cond, wpA_ret, condI_false, seqQ_normal, endI_mk, goI_out, goI_ops, opsA_nil, opsA_cons, stepA_move, stepA_assign, stepA_load, stepA_nilCheck, stepA_binOp, stepA_fieldAddr, thenV_some, nilV_ptr, eval_tmp, eval_const, put_some, enterF_zero, enterF_succ, ptr_nil_eql, absV_pnil, absV_snil, aField_eq, fieldGo_ptr, aLoad_eq, loadGo_one, aPlace_ptr, dropC_cells, Nat.reduceEqDiff, reduceCtorEq, Nat.add_zero, Nat.zero_add, Nat.zero_le, List.length_cons, List.length_nil, List.drop_zero, if_true, if_false, ft_121_0, kt_80, lt_42, hg, retA_ret, Tryz.results59, resultsA_1]
 exact hid_mk ⟨rfl, rfl⟩
theorem Left (h : AHeap) (p : V) (i : Nat) (cs : List Nat) (hr : IsRd h p i cs) : Pure Tryz.prog 28 [p] h (.int .i64 cs.length) := by
 refine SCalls.enterI (c := _) Tryz.func28 rfl (by kernel_rfl) (by simp) ?_
 simp only [wpA_region, wpA_seq, seqQ_normal, goI_out, goI_ops, opsA_nil, opsA_cons, stepA_move, stepA_assign, stepA_call, eval_tmp, eval_const, put_some, enterF_zero, enterF_succ, absV_int, Nat.reduceEqDiff, reduceCtorEq, List.map_cons, List.map_nil, if_true, if_false]
 refine callI_pure cal59 (rest h p i cs hr) ?_
 simp only [wpA_ret, seqQ_normal, endI_mk, goI_out, goI_ops, opsA_nil, opsA_cons, stepA_assign, stepA_len, thenV_some, eval_tmp, put_some, enterF_succ, aLen_imm, Nat.reduceEqDiff, if_true, if_false, kt_42, retA_ret, Tryz.results28, resultsA_1]
 exact hid_mk ⟨rfl, rfl⟩
end Go.Proofs.YtfcjehlhoebmnaaGreatDoor.Pk
namespace Go.Proofs.YtfcjehlhoebmnaaGreatDoor.Pk
open Go Go.Proofs Go.Proofs.YtfcjehlhoebmnaaGreatDoor.Ab
set_option linter.unusedVariables false
set_option linter.unusedSimpArgs false
theorem ofInt_nat (w n : Nat) : BitVec.ofInt w (n : Int) = BitVec.ofNat w n := by
 apply BitVec.eq_of_toNat_eq
 simp
theorem bOr_add (a b k : Nat) (hb : b < 2 ^ k) (hk : k ≤ 64) (ha : a * 2 ^ k < 2 ^ 64) : bOr .u64 (b : Int) ((a * 2 ^ k : Nat) : Int) = ((a * 2 ^ k + b : Nat) : Int) := by
 have hlt : a * 2 ^ k + b < 2 ^ 64 := by
  have e : (2 : Nat) ^ 64 = 2 ^ (64 - k) * 2 ^ k := by rw [← Nat.pow_add]; congr 1; omega
  rw [e] at ha ⊢
  have h1 : a < 2 ^ (64 - k) := Nat.lt_of_mul_lt_mul_right ha
  calc a * 2 ^ k + b < a * 2 ^ k + 2 ^ k := by omega
   _ = (a + 1) * 2 ^ k := by rw [Nat.add_mul]; simp
   _ ≤ _ := Nat.mul_le_mul_right _ h1
 unfold bOr
 rw [ofInt_nat, ofInt_nat]
 have e1 : (BitVec.ofNat IntKind.u64.bits b ||| BitVec.ofNat IntKind.u64.bits (a * 2 ^ k)).toNat = a * 2 ^ k + b := by
  rw [BitVec.toNat_or]
  simp only [BitVec.toNat_ofNat, IntKind.bits]
  rw [Nat.mod_eq_of_lt (by omega), Nat.mod_eq_of_lt ha]
  have := Nat.shiftLeft_add_eq_or_of_lt hb a
  rw [Nat.shiftLeft_eq] at this
  rw [this, Nat.or_comm]
 rw [e1, IntKind.wrap_u64]
 omega
theorem low7 (g : Nat) (hg : g < 256) : IntKind.u64.wrap (bAndNot .u8 (g : Int) 128) = ((g % 128 : Nat) : Int) := by
 have h : ∀ m : Fin 256, IntKind.u64.wrap (bAndNot .u8 (m.val : Int) 128) = ((m.val % 128 : Nat) : Int) := by decide +kernel
 exact h ⟨g, hg⟩
theorem sh7 (g at_ : Nat) (hg : g % 128 * 2 ^ (7 * at_) < 2 ^ 64) (ha : at_ ≤ 9) : IntKind.u64.wrap (((g % 128 : Nat) : Int) * 2 ^ (min (IntKind.i64.wrap (7 * (at_ : Int))).toNat IntKind.u64.bits)) = ((g % 128 * 2 ^ (7 * at_) : Nat) : Int) := by
 have e : (min (IntKind.i64.wrap (7 * (at_ : Int))).toNat IntKind.u64.bits) = 7 * at_ := by
  rw [IntKind.wrap_i64]
  have h1 : ((7 * (at_ : Int) + 9223372036854775808) % 18446744073709551616 - 9223372036854775808) = ((7 * at_ : Nat) : Int) := by omega
  rw [h1, Int.toNat_natCast]
  simp only [IntKind.bits]
  omega
 rw [e, IntKind.wrap_u64]
 have : (((g % 128 : Nat) : Int) * 2 ^ (7 * at_)) = ((g % 128 * 2 ^ (7 * at_) : Nat) : Int) := by push_cast; rfl
 rw [this]
 omega
theorem fits7 (g at_ : Nat) (ha9 : at_ ≤ 9) (hbad : ¬(at_ = 9 ∧ 1 < g)) (hg : g < 256) : g % 128 * 2 ^ (7 * at_) < 2 ^ 64 := by
 by_cases h8 : at_ ≤ 8
 ·have h1 : (2 : Nat) ^ (7 * at_) ≤ 2 ^ 56 := Nat.pow_le_pow_right (by decide) (by omega)
  have h2 : g % 128 < 128 := Nat.mod_lt _ (by decide)
  have h3 : g % 128 * 2 ^ (7 * at_) ≤ 127 * 2 ^ 56 := Nat.mul_le_mul (by omega) h1
  exact Nat.lt_of_le_of_lt h3 (by decide)
 ·have : at_ = 9 := by omega
  subst this
  have : g % 128 ≤ 1 := by omega
  exact Nat.lt_of_le_of_lt (Nat.mul_le_mul_right _ this) (by decide)
theorem or7 (g n at_ : Nat) (hn : n < 2 ^ (7 * at_)) (ha9 : at_ ≤ 9) (hn7 : g % 128 * 2 ^ (7 * at_) < 2 ^ 64) : bOr .u64 (n : Int) ((g % 128 * 2 ^ (7 * at_) : Nat) : Int) = ((n + g % 128 * 2 ^ (7 * at_) : Nat) : Int) := by
 rw [bOr_add (g % 128) n (7 * at_) hn (by omega) hn7, Nat.add_comm]
theorem next7 (g n at_ : Nat) (hn : n < 2 ^ (7 * at_)) : n + g % 128 * 2 ^ (7 * at_) < 2 ^ (7 * (at_ + 1)) := by
 have e : (2 : Nat) ^ (7 * (at_ + 1)) = 128 * 2 ^ (7 * at_) := by rw [Nat.mul_add, Nat.pow_add]; omega
 rw [e]
 have h2 : g % 128 < 128 := Nat.mod_lt _ (by decide)
 have h3 := Nat.mul_le_mul_right (2 ^ (7 * at_)) (show g % 128 ≤ 127 by omega)
 generalize 2 ^ (7 * at_) = p at *
 omega
def dec : List Nat → Nat → Nat → Nat × Nat × Nat
 | [], _, _ => (0, 0, 4)
 | g :: r, at_, n =>
  if at_ = 9 ∧ 1 < g then (0, 0, 5)
  else if 128 ≤ g then dec r (at_ + 1) (n + g % 128 * 2 ^ (7 * at_))
  else if g = 0 ∧ 0 < at_ then (0, 0, 5)
  else (n + g % 128 * 2 ^ (7 * at_), at_ + 1, 0)
def decV (r : Nat × Nat × Nat) : V := .tuple [.int .u64 (r.1 : Nat), .int .i64 (r.2.1 : Nat), .int .i64 (r.2.2 : Nat)]
theorem bytes_drop {bs : List Nat} {k : Nat} (hk : k < bs.length) : (bytesV bs).drop (k * 1) = .int .u8 (bs[k] : Nat) :: bytesV (bs.drop (k + 1)) := by
 rw [Nat.mul_one]
 unfold bytesV
 rw [← List.map_drop, List.drop_eq_getElem_cons hk]
 all_goals rfl
set_option maxRecDepth 10000 in
theorem number (bs : List Nat) (h : AHeap) (hb : ∀ b ∈ bs, b < 256) (hc : bs.length ≤ 2 ^ 47) :
  Pure Tryz.prog 129 [.imm bs.length (bytesV bs)] h (decV (dec bs 0 0)) := by
 refine SCalls.enterI (c := _) Tryz.func129 rfl (by kernel_rfl) (by simp) ?_
 simp only [wpA_region, wpA_seq, wpA_scope, seqQ_normal, goI_out, goI_ops, opsA_nil, opsA_cons, stepA_assign, eval_const, absV_int]
 refine SWp.scopeG (α := Nat × Nat) (l := 0) rfl (fun x f h' => h' = h ∧ f 0 = .imm bs.length (bytesV bs) ∧ f 5 = .int .u64 (x.2 : Nat) ∧ f 6 = .int .i64 (x.1 : Nat) ∧ dec (bs.drop x.1) x.1 x.2 = dec bs 0 0 ∧ x.2 < 2 ^ (7 * x.1) ∧ x.1 ≤ 9 ∧ x.1 ≤ bs.length) (fun x => 10 - x.1) ?_ ?_ ?_
 ·rintro x f h1 _
  omega
 ·rintro ⟨at_, n⟩ f h1 ⟨rfl, f0, f5, f6, hd, hn, ha9, hab⟩
  simp only at f5 f6 hd hn ha9 hab
  refine wpI_sound (by kernel_rfl) ?_
  by_cases hend : at_ = bs.length
  ·have hb1 : ((at_ : Int) == (bs.length : Int)) = true := by simp [hend]
   simp only [wpA_region, wpA_seq, wpA_cond, wpA_ret, condI_true, seqQ_normal, seqQ_ret, endI_mk, goE, goI_out, goI_ops, opsA_nil, opsA_cons, stepA_move, stepA_assign, stepA_binOp, stepA_len, thenV_some, eval_tmp, eval_const, put_some, aBin_eql, absV_int, aLen_imm, Nat.reduceEqDiff, reduceCtorEq, if_true, if_false, kt_42, f0, f6, hb1, jumpA_ret, retA_ret, Tryz.results129, resultsA_3]
   refine hid_mk ⟨?_, rfl⟩
   rw [← hd, hend, List.drop_length]
   all_goals rfl
  ·have hb1 : ((at_ : Int) == (bs.length : Int)) = false := by simp; omega
   have hlt : at_ < bs.length := by omega
   have hg256 : bs[at_] < 256 := hb _ (List.getElem_mem hlt)
   have hdrop : bs.drop at_ = bs[at_] :: bs.drop (at_ + 1) := List.drop_eq_getElem_cons hlt
   have hix := index_imm (P := Tryz.prog) (t := 42) (k := .i64) (i := (at_ : Int)) (n := bs.length) (cs := bytesV bs) ss_42 (by omega) (by omega) (by rw [bytesV_length]; omega)
   rw [Int.toNat_natCast, bytes_drop hlt] at hix
   have hd2 : dec (bs.drop at_) at_ n = dec (bs[at_] :: bs.drop (at_ + 1)) at_ n := by rw [← hdrop]
   generalize bs[at_] = g at hg256 hix hd2
   clear hdrop
   by_cases hbad : at_ = 9 ∧ 1 < g
   ·have hb2 : ((at_ : Int) == 9) = true := by simp [hbad.1]
    have hb3 : decide ((1 : Int) < (g : Int)) = true := by simp; omega
    simp only [wpA_skip, wpA_region, wpA_seq, wpA_cond, wpA_ret, condI_true, condI_false, seqQ_normal, seqQ_ret, endI_mk, goE, goI_out, goI_ops, opsA_nil, opsA_cons, opsA_guardS, gvI_same, slotAt_zero, slotAt_succ, stepA_move, stepA_assign, stepA_pick, stepA_load, stepA_binOp, stepA_indexAddr, stepA_len, thenV_some, pickV_true, eval_tmp, eval_const, put_some, aBin_eql, aBin_gtr, absV_int, absV_bool, aLoad_eq, loadGo_one, aPlace_at, aLen_imm, Nat.reduceEqDiff, reduceCtorEq, if_true, if_false, kt_42, lt_5, f0, f6, hb1, hix, hb2, hb3, jumpA_ret, retA_ret, Tryz.results129, resultsA_3]
    refine hid_mk ⟨?_, rfl⟩
    rw [← hd, hd2, dec, if_pos hbad]
    all_goals rfl
   ·have hn7 := fits7 g at_ ha9 hbad hg256
    have hor := or7 g n at_ hn ha9 hn7
    have hnext := next7 g n at_ hn
    have hs7 := sh7 g at_ hn7 ha9
    have hl7 := low7 g hg256
    have hpos : (0 : Int) ≤ IntKind.i64.wrap (7 * (at_ : Int)) := by
     rw [Go.IntWalk.i64_in _ (by omega)]
     omega
    have hw1 : IntKind.i64.wrap ((at_ : Int) + 1) = ((at_ + 1 : Nat) : Int) := by rw [Go.IntWalk.i64_in _ (by omega)]; rfl
    have hcond : (((at_ : Int) == 9) = true ∧ decide ((1 : Int) < (g : Int)) = false) ∨ ((at_ : Int) == 9) = false := by
     by_cases h9 : at_ = 9
     ·left; refine ⟨by simp [h9], by simp; omega⟩
     ·right; simp; omega
    by_cases hbig : 128 ≤ g
    ·have hb4 : decide ((128 : Int) ≤ (g : Int)) = true := by simp; omega
     have h8 : at_ ≤ 8 := by
      rcases Nat.lt_or_ge at_ 9 with h | h
      ·omega
      ·exact absurd ⟨by omega, by omega⟩ hbad
     have hfin : dec (bs.drop (at_ + 1)) (at_ + 1) (n + g % 128 * 2 ^ (7 * at_)) = dec bs 0 0 := by
      rw [← hd, hd2, dec, if_neg hbad, if_pos hbig]
     rcases hcond with ⟨c1, c2⟩ | c1
     ·exfalso
      simp at c1
      omega
     ·simp only [wpA_skip, wpA_region, wpA_seq, wpA_cond, wpA_goto, condI_true, condI_false, seqQ_normal, seqQ_goto, endI_mk, goI_out, goI_ops, opsA_nil, opsA_cons, opsA_guardS, gvI_ft, slotAt_zero, slotAt_succ, stepA_move, stepA_assign, stepA_pick, stepA_load, stepA_binOp, stepA_convert, stepA_indexAddr, stepA_len, thenV_some, thenC_some, pickV_false, eval_tmp, eval_const, put_some, aBin_add, aBin_mul, aBin_eql, aBin_geq, aBin_or, aBin_andNot, absV_int, absV_bool, aLoad_eq, loadGo_one, aPlace_at, aLen_imm, Nat.reduceEqDiff, reduceCtorEq, true_and, if_true, if_false, kt_42, lt_5, f0, f5, f6, hb1, hix, c1, hb4, aConv_int it_5 it_108, hl7, aBin_shl hpos, hs7, hor, hw1, jumpA_goto]
      exact hid_mk ⟨(at_ + 1, _), ⟨rfl, f0, rfl, rfl, hfin, hnext, by simp only; omega, by simp only; omega⟩, by simp; omega⟩
    ·have hb4 : decide ((128 : Int) ≤ (g : Int)) = false := by simp; omega
     have hr : dec bs 0 0 = if g = 0 ∧ 0 < at_ then (0, 0, 5) else (n + g % 128 * 2 ^ (7 * at_), at_ + 1, 0) := by
      rw [← hd, hd2, dec, if_neg hbad, if_neg hbig]
     have hc3 : ((g : Int) == 0) = false ∨ (((g : Int) == 0) = true ∧ decide ((1 : Int) < ((at_ + 1 : Nat) : Int)) = decide (0 < at_)) := by
      by_cases h0 : g = 0
      ·right; exact ⟨by simp [h0], by rw [decide_eq_decide]; omega⟩
      ·left; simp; omega
     rcases hc3 with c3 | ⟨c3, c4⟩
     ·have h0 : ¬ (g = 0 ∧ 0 < at_) := by intro h; simp [h.1] at c3
      rw [if_neg h0] at hr
      rcases hcond with ⟨c1, c2⟩ | c1
      ·simp only [wpA_skip, wpA_region, wpA_seq, wpA_cond, wpA_ret, condI_false, seqQ_normal, endI_mk, goE, goI_out, goI_ops, opsA_nil, opsA_cons, opsA_guardS, gvI_same, gvI_ft, slotAt_zero, slotAt_succ, stepA_move, stepA_assign, stepA_pick, stepA_load, stepA_binOp, stepA_convert, stepA_indexAddr, stepA_len, thenV_some, thenC_some, pickV_true, pickV_false, eval_tmp, eval_const, put_some, aBin_add, aBin_mul, aBin_eql, aBin_gtr, aBin_geq, aBin_or, aBin_andNot, absV_int, absV_bool, aLoad_eq, loadGo_one, aPlace_at, aLen_imm, Nat.reduceEqDiff, reduceCtorEq, if_true, if_false, kt_42, lt_5, f0, f5, f6, hb1, hix, c1, c2, c3, hb4, aConv_int it_5 it_108, hl7, aBin_shl hpos, hs7, hor, hw1, jumpA_ret, retA_ret, Tryz.results129, resultsA_3]
       exact hid_mk ⟨by rw [hr]; rfl, rfl⟩
      ·simp only [wpA_skip, wpA_region, wpA_seq, wpA_cond, wpA_ret, condI_false, seqQ_normal, endI_mk, goE, goI_out, goI_ops, opsA_nil, opsA_cons, opsA_guardS, gvI_ft, slotAt_zero, slotAt_succ, stepA_move, stepA_assign, stepA_pick, stepA_load, stepA_binOp, stepA_convert, stepA_indexAddr, stepA_len, thenV_some, thenC_some, pickV_false, eval_tmp, eval_const, put_some, aBin_add, aBin_mul, aBin_eql, aBin_geq, aBin_or, aBin_andNot, absV_int, absV_bool, aLoad_eq, loadGo_one, aPlace_at, aLen_imm, Nat.reduceEqDiff, reduceCtorEq, if_true, if_false, kt_42, lt_5, f0, f5, f6, hb1, hix, c1, c3, hb4, aConv_int it_5 it_108, hl7, aBin_shl hpos, hs7, hor, hw1, jumpA_ret, retA_ret, Tryz.results129, resultsA_3]
       exact hid_mk ⟨by rw [hr]; rfl, rfl⟩
     ·by_cases hat : 0 < at_
      ·have h0 : (g = 0 ∧ 0 < at_) := ⟨by simpa using c3, hat⟩
       rw [if_pos h0] at hr
       simp only [hat, decide_true] at c4
       rcases hcond with ⟨c1, c2⟩ | c1
       ·simp only [wpA_skip, wpA_region, wpA_seq, wpA_cond, wpA_ret, condI_true, condI_false, seqQ_normal, seqQ_ret, endI_mk, goE, goI_out, goI_ops, opsA_nil, opsA_cons, opsA_guardS, gvI_same, slotAt_zero, slotAt_succ, stepA_move, stepA_assign, stepA_pick, stepA_load, stepA_binOp, stepA_convert, stepA_indexAddr, stepA_len, thenV_some, thenC_some, pickV_true, eval_tmp, eval_const, put_some, aBin_add, aBin_mul, aBin_eql, aBin_gtr, aBin_geq, aBin_or, aBin_andNot, absV_int, absV_bool, aLoad_eq, loadGo_one, aPlace_at, aLen_imm, Nat.reduceEqDiff, reduceCtorEq, if_true, if_false, kt_42, lt_5, f0, f5, f6, hb1, hix, c1, c2, c3, c4, hb4, aConv_int it_5 it_108, hl7, aBin_shl hpos, hs7, hor, hw1, jumpA_ret, retA_ret, Tryz.results129, resultsA_3]
        exact hid_mk ⟨by rw [hr]; rfl, rfl⟩
       ·simp only [wpA_skip, wpA_region, wpA_seq, wpA_cond, wpA_ret, condI_true, condI_false, seqQ_normal, seqQ_ret, endI_mk, goE, goI_out, goI_ops, opsA_nil, opsA_cons, opsA_guardS, gvI_same, gvI_ft, slotAt_zero, slotAt_succ, stepA_move, stepA_assign, stepA_pick, stepA_load, stepA_binOp, stepA_convert, stepA_indexAddr, stepA_len, thenV_some, thenC_some, pickV_true, pickV_false, eval_tmp, eval_const, put_some, aBin_add, aBin_mul, aBin_eql, aBin_gtr, aBin_geq, aBin_or, aBin_andNot, absV_int, absV_bool, aLoad_eq, loadGo_one, aPlace_at, aLen_imm, Nat.reduceEqDiff, reduceCtorEq, if_true, if_false, kt_42, lt_5, f0, f5, f6, hb1, hix, c1, c3, c4, hb4, aConv_int it_5 it_108, hl7, aBin_shl hpos, hs7, hor, hw1, jumpA_ret, retA_ret, Tryz.results129, resultsA_3]
        exact hid_mk ⟨by rw [hr]; rfl, rfl⟩
      ·have h0 : ¬ (g = 0 ∧ 0 < at_) := fun h => hat h.2
       rw [if_neg h0] at hr
       simp only [hat, decide_false] at c4
       rcases hcond with ⟨c1, c2⟩ | c1
       ·simp only [wpA_skip, wpA_region, wpA_seq, wpA_cond, wpA_ret, condI_false, seqQ_normal, endI_mk, goE, goI_out, goI_ops, opsA_nil, opsA_cons, opsA_guardS, gvI_same, slotAt_zero, slotAt_succ, stepA_move, stepA_assign, stepA_pick, stepA_load, stepA_binOp, stepA_convert, stepA_indexAddr, stepA_len, thenV_some, thenC_some, pickV_true, eval_tmp, eval_const, put_some, aBin_add, aBin_mul, aBin_eql, aBin_gtr, aBin_geq, aBin_or, aBin_andNot, absV_int, absV_bool, aLoad_eq, loadGo_one, aPlace_at, aLen_imm, Nat.reduceEqDiff, reduceCtorEq, if_true, if_false, kt_42, lt_5, f0, f5, f6, hb1, hix, c1, c2, c3, c4, hb4, aConv_int it_5 it_108, hl7, aBin_shl hpos, hs7, hor, hw1, jumpA_ret, retA_ret, Tryz.results129, resultsA_3]
        exact hid_mk ⟨by rw [hr]; rfl, rfl⟩
       ·simp only [wpA_skip, wpA_region, wpA_seq, wpA_cond, wpA_ret, condI_false, seqQ_normal, endI_mk, goE, goI_out, goI_ops, opsA_nil, opsA_cons, opsA_guardS, gvI_same, gvI_ft, slotAt_zero, slotAt_succ, stepA_move, stepA_assign, stepA_pick, stepA_load, stepA_binOp, stepA_convert, stepA_indexAddr, stepA_len, thenV_some, thenC_some, pickV_true, pickV_false, eval_tmp, eval_const, put_some, aBin_add, aBin_mul, aBin_eql, aBin_gtr, aBin_geq, aBin_or, aBin_andNot, absV_int, absV_bool, aLoad_eq, loadGo_one, aPlace_at, aLen_imm, Nat.reduceEqDiff, reduceCtorEq, if_true, if_false, kt_42, lt_5, f0, f5, f6, hb1, hix, c1, c3, c4, hb4, aConv_int it_5 it_108, hl7, aBin_shl hpos, hs7, hor, hw1, jumpA_ret, retA_ret, Tryz.results129, resultsA_3]
        exact hid_mk ⟨by rw [hr]; rfl, rfl⟩
 ·intro step
  refine SWp.seq (wpI_sound (by kernel_rfl) ?_)
  simp only [wpA_region, endI_mk, andThen_normal, goI_out, goI_ops, opsA_nil, opsA_cons, stepA_assign, eval_const, absV_int]
  refine SWp.seq (wpI_sound (by kernel_rfl) ?_)
  simp only [wpA_region, endI_mk, andThen_normal, goI_out, goI_ops, opsA_nil, opsA_cons, stepA_assign, eval_const, absV_int]
  refine SWp.seq (.label ?_)
  exact step (0, 0) _ _ ⟨rfl, rfl, rfl, rfl, rfl, by decide, by decide, by omega⟩
end Go.Proofs.YtfcjehlhoebmnaaGreatDoor.Pk
namespace Go.Proofs.YtfcjehlhoebmnaaGreatDoor.Pk
open Go Go.Proofs Go.Proofs.YtfcjehlhoebmnaaGreatDoor.Ab
set_option linter.unusedVariables false
set_option linter.unusedSimpArgs false
set_option maxRecDepth 10000
theorem dec_err (l : List Nat) : ∀ k n, (dec l k n).2.2 ≠ 0 → dec l k n = (0, 0, (dec l k n).2.2) := by
 induction l with
 | nil => intro k n _; rfl
 | cons g r ih =>
  intro k n h
  unfold dec at h ⊢
  split
  ·rfl
  ·rename_i h1
   rw [if_neg h1] at h
   split
   ·rename_i h2
    rw [if_pos h2] at h
    exact ih _ _ h
   ·rename_i h2
    rw [if_neg h2] at h
    split
    ·rfl
    ·rename_i h3
     rw [if_neg h3] at h
     simp at h
theorem dec_used (l : List Nat) : ∀ k n, (dec l k n).2.1 ≤ l.length + k := by
 induction l with
 | nil => intro k n; simp [dec]
 | cons g r ih =>
  intro k n
  unfold dec
  split
  ·simp
  ·split
   ·have := ih (k + 1) (n + g % 128 * 2 ^ (7 * k))
    simp; omega
   ·split
    ·simp
    ·simp; omega
theorem bXor_zero (a : Nat) (ha : a < 2 ^ 64) : bXor .u64 (a : Int) 0 = (a : Int) := by
 show IntKind.u64.wrap ((BitVec.ofInt 64 (a : Int) ^^^ BitVec.ofInt 64 0).toNat : Int) = _
 have e : BitVec.ofInt 64 (0 : Int) = BitVec.ofNat 64 0 := rfl
 have e1 : (BitVec.ofNat 64 a ^^^ BitVec.ofNat 64 0).toNat = a := by
  rw [BitVec.toNat_xor, BitVec.toNat_ofNat, BitVec.toNat_ofNat, Nat.zero_mod, Nat.xor_zero]
  exact Nat.mod_eq_of_lt ha
 rw [ofInt_nat, e, e1, IntKind.wrap_u64]
 omega
theorem bXor_ones (a : Nat) (ha : a < 2 ^ 64) : bXor .u64 (a : Int) 18446744073709551615 = ((18446744073709551615 - a : Nat) : Int) := by
 show IntKind.u64.wrap ((BitVec.ofInt 64 (a : Int) ^^^ BitVec.ofInt 64 18446744073709551615).toNat : Int) = _
 have e : BitVec.ofInt 64 (18446744073709551615 : Int) = BitVec.allOnes 64 := by decide
 have e1 : (BitVec.ofNat 64 a ^^^ BitVec.allOnes 64).toNat = 18446744073709551615 - a := by
  rw [BitVec.xor_allOnes, BitVec.toNat_not, BitVec.toNat_ofNat, Nat.mod_eq_of_lt ha]
 rw [ofInt_nat, e, e1, IntKind.wrap_u64]
 omega
theorem zig (n : Int) (h1 : -2 ^ 63 ≤ n) (h2 : n < 2 ^ 63) : bXor .u64 (IntKind.u64.wrap (IntKind.u64.wrap n * 2 ^ min (Int.toNat 1) IntKind.u64.bits)) (IntKind.u64.wrap (n.fdiv (2 ^ min (Int.toNat 63) IntKind.i64.bits))) =
  ((if 0 ≤ n then 2 * n.toNat else 2 * (-n).toNat - 1 : Nat) : Int) := by
 have e1 : (2 : Int) ^ min (Int.toNat 1) IntKind.u64.bits = 2 := by decide
 have e2 : (2 : Int) ^ min (Int.toNat 63) IntKind.i64.bits = 9223372036854775808 := by decide
 rw [e1, e2]
 have h1' : -9223372036854775808 ≤ n := by simpa using h1
 have h2' : n < 9223372036854775808 := by simpa using h2
 by_cases h0 : 0 ≤ n
 ·have e3 : n.fdiv 9223372036854775808 = 0 := by rw [Int.fdiv_eq_ediv_of_nonneg _ (by omega)]; omega
  have e4 : IntKind.u64.wrap (IntKind.u64.wrap n * 2) = ((2 * n.toNat : Nat) : Int) := by rw [IntKind.wrap_u64, IntKind.wrap_u64]; omega
  have e5 : IntKind.u64.wrap 0 = 0 := by decide
  rw [e3, e4, e5, bXor_zero _ (by omega), if_pos h0]
 ·have e3 : n.fdiv 9223372036854775808 = -1 := by rw [Int.fdiv_eq_ediv_of_nonneg _ (by omega)]; omega
  have e4 : IntKind.u64.wrap (IntKind.u64.wrap n * 2) = ((2 * n + 18446744073709551616).toNat : Int) := by rw [IntKind.wrap_u64, IntKind.wrap_u64]; omega
  have e5 : IntKind.u64.wrap (-1) = 18446744073709551615 := by decide
  rw [e3, e4, e5, bXor_ones _ (by omega), if_neg h0]
  omega
def zz (n : Int) : Nat := if 0 ≤ n then 2 * n.toNat else 2 * (-n).toNat - 1
theorem zz_lt (n : Int) (h1 : -2 ^ 63 ≤ n) (h2 : n < 2 ^ 63) : zz n < 2 ^ 64 := by
 have h1' : -9223372036854775808 ≤ n := by simpa using h1
 have h2' : n < 9223372036854775808 := by simpa using h2
 unfold zz
 split <;> omega
theorem IsRd.keep {h h' : AHeap} {p : V} {i : Nat} {cs : List Nat} {own : Nat → Prop} (hr : IsRd h p i cs) (hk : Keep h h' own) (hne : ¬ own i) : IsRd h' p i cs :=
 ⟨hr.1, Nat.lt_of_lt_of_le hr.2.1 hk.n, (hk.get i hr.2.1 hne).trans hr.2.2⟩
theorem RUint (p : V) (i : Nat) (bs : List Nat) (h : AHeap) (hr : IsRd h p i bs) (hb : ∀ b ∈ bs, b < 256) (hc : bs.length ≤ 2 ^ 47) :
  SCalls Tryz.prog 80 [p] h (fun r h' => r = .tuple [.int .u64 ((dec bs 0 0).1 : Nat), .int .i64 ((dec bs 0 0).2.2 : Nat)] ∧ IsRd h' p i (bs.drop (dec bs 0 0).2.1) ∧ Keep h h' (· = i)) := by
 refine SCalls.enterI (c := _) Tryz.func80 rfl (by kernel_rfl) (by simp) ?_
 simp only [wpA_region, wpA_seq, seqQ_normal, goI_out, goI_ops, opsA_nil, opsA_cons, stepA_move, stepA_assign, stepA_call, eval_tmp, eval_const, put_some, enterF_zero, enterF_succ, absV_int, Nat.reduceEqDiff, reduceCtorEq, List.map_cons, List.map_nil, if_true, if_false]
 refine callI_pure cal59 (rest h p i bs hr) ?_
 simp only [goI_ops, opsA_cons, stepA_call, eval_tmp, put_some, enterF_succ, Nat.reduceEqDiff, List.map_cons, List.map_nil, if_true, if_false]
 refine callI_pure cal129 (number bs h hb hc) ?_
 by_cases herr : (dec bs 0 0).2.2 = 0
 ·have hne : ((((dec bs 0 0).2.2 : Nat) : Int) != 0) = false := by simp [herr]
  have hused := dec_used bs 0 0
  obtain ⟨rfl, hi, hg⟩ := hr
  have hsl : aSlice Tryz.prog 42 (.imm bs.length (bytesV bs)) (some (.int .i64 ((dec bs 0 0).2.1 : Nat))) none none = some (.imm (bs.drop (dec bs 0 0).2.1).length (bytesV (bs.drop (dec bs 0 0).2.1))) := by
   rw [slice_imm_lo ss_42 (by omega) (by omega) (by rw [bytesV_length]; omega)]
   rw [Int.toNat_natCast, Nat.mul_one]
   unfold bytesV
   rw [List.map_drop, List.length_drop]
  simp only [wpA_skip, wpA_region, wpA_seq, wpA_cond, wpA_ret, condI_false, seqQ_normal, endI_mk, goI_out, goI_ops, opsA_nil, opsA_cons, stepA_move, stepA_assign, stepA_load, stepA_store, stepA_nilCheck, stepA_binOp, stepA_slice, stepA_fieldAddr, stepA_extract, thenV_some, thenS_some, nilV_ptr, extV_zero, extV_succ, eval_tmp, eval_const, put_some, put_none, enterF_zero, enterF_succ, aBin_neq, absV_int, cells_imm, one_imm, all_nil, all_cons, aField_eq, fieldGo_ptr, aLoad_eq, loadGo_one, aPlace_ptr, dropC_cells, aStore_eq, storeGo_ptr, setC_row, setAll_nil, setAll_cons, Nat.reduceEqDiff, reduceCtorEq, Option.map_some, Option.map_none, Nat.add_zero, Nat.zero_add, Nat.zero_le, List.length_cons, List.length_nil, List.drop_zero, List.set_cons_zero, if_true, if_false, Bool.and_self, Nat.le_refl, ft_121_0, lt_42, zt_42, decV, hne, hg, hsl, retA_ret, Tryz.results80, resultsA_2]
  exact hid_mk ⟨by simp [herr], ⟨rfl, by rw [set_n]; exact hi, get_set_same⟩, Keep.set _ _ _⟩
 ·have hne : ((((dec bs 0 0).2.2 : Nat) : Int) != 0) = true := by simp; omega
  have hd := dec_err bs 0 0 herr
  simp only [wpA_region, wpA_seq, wpA_cond, wpA_ret, condI_true, seqQ_normal, seqQ_ret, endI_mk, goI_out, goI_ops, opsA_nil, opsA_cons, stepA_move, stepA_assign, stepA_binOp, stepA_extract, thenV_some, extV_zero, extV_succ, eval_tmp, eval_const, put_some, enterF_succ, aBin_neq, absV_int, Nat.reduceEqDiff, if_true, if_false, decV, hne, retA_ret, Tryz.results80, resultsA_2]
  refine hid_mk ⟨?_, ?_, Keep.refl _ _⟩
  ·rw [hd]; rfl
  ·rw [hd]; simpa using hr
theorem zigzag (n : Int) (h : AHeap) (h1 : -2 ^ 63 ≤ n) (h2 : n < 2 ^ 63) : Pure Tryz.prog 100 [.int .i64 n] h (.int .u64 (zz n : Nat)) := by
 refine SCalls.enterI (c := _) Tryz.func100 rfl (by kernel_rfl) (by simp) ?_
 simp only [wpA_region, wpA_seq, wpA_ret, seqQ_normal, endI_mk, goI_out, goI_ops, opsA_nil, opsA_cons, stepA_move, stepA_assign, stepA_binOp, stepA_convert, thenV_some, thenC_some, eval_tmp, eval_const, put_some, enterF_zero, enterF_succ, aBin_xor, absV_int, Nat.reduceEqDiff, reduceCtorEq, if_true, if_false, aBin_shl (show (0:Int) ≤ 1 by decide), aBin_shr (show (0:Int) ≤ 63 by decide), aConv_int it_2 it_108, retA_ret, Tryz.results100, resultsA_1]
 exact hid_mk ⟨by rw [zig n h1 h2]; rfl, rfl⟩
theorem pInt (s : V) (cs : List Nat) (n : Int) (h : AHeap) (rd : Rd h s cs) (hc : cs.length ≤ 2 ^ 46) (h1 : -2 ^ 63 ≤ n) (h2 : n < 2 ^ 63) :
  Pure Tryz.prog 64 [s, .int .i64 n] h (.imm (cs ++ enc (zz n)).length (bytesV (cs ++ enc (zz n)))) := by
 refine Pure.of (Clo.imm (bytesV_clo _)) (SCalls.mono (R := fun r h' => Own h' 5 1 r (bytesV (cs ++ enc (zz n))) ∧ Keep h h' none_ ∧ ∀ k, idOf r = some k → h.n ≤ k) ?_ fun r h' ⟨o, k, d⟩ => ?_)
 ·refine SCalls.enterI (c := _) Tryz.func64 rfl (by kernel_rfl) (by simp) ?_
  simp only [wpA_region, wpA_seq, seqQ_normal, goI_out, goI_ops, opsA_nil, opsA_cons, stepA_move, stepA_assign, stepA_call, eval_tmp, eval_const, put_some, enterF_zero, enterF_succ, absV_int, absV_snil, Nat.reduceEqDiff, reduceCtorEq, List.map_cons, List.map_nil, if_true, if_false]
  refine callI_of cal56 (fresh s cs 10 h rd (by omega)) fun r1 h1' ⟨e1, o1, k1⟩ => ?_
  have d1 : ∀ k, idOf r1 = some k → h.n ≤ k := fun k hk => by subst e1; simp [idOf] at hk; omega
  simp only [goI_ops, opsA_cons, stepA_move, stepA_call, eval_tmp, put_some, enterF_zero, enterF_succ, Nat.reduceEqDiff, List.map_cons, List.map_nil, if_true, if_false]
  refine callI_pure cal100 (zigzag n h1' h1 h2) ?_
  simp only [goI_ops, opsA_cons, stepA_call, eval_tmp, put_some, enterF_succ, Nat.reduceEqDiff, List.map_cons, List.map_nil, if_true, if_false]
  refine callI_of cal99 (addUint r1 cs (zz n) h1' o1 hc (zz_lt n h1 h2)) fun r2 h2' ⟨o2, k2, d2⟩ => ?_
  simp only [wpA_ret, seqQ_normal, endI_mk, goI_out, goI_ops, opsA_nil, opsA_cons, stepA_assign, eval_tmp, put_some, enterF_succ, Nat.reduceEqDiff, if_true, if_false, retA_ret, Tryz.results64, resultsA_1]
  refine hid_mk ⟨o2, k1.trans k2 fun k hk hi => ?_, fun k hk => ?_⟩
  ·have := d1 k hi; omega
  ·rcases d2 with d2 | d2
   ·exact d1 k (d2 ▸ hk)
   ·exact Nat.le_trans k1.n (d2 k hk)
 ·obtain ⟨h2, c, k2⟩ := Cast.own o (n := (cs ++ enc (zz n)).length) (by simp [bytesV_length]) (by omega)
  exact ⟨h2, c, k.trans k2 fun j hj hs => by have := d j hs; omega⟩
end Go.Proofs.YtfcjehlhoebmnaaGreatDoor.Pk
namespace Go.Proofs.YtfcjehlhoebmnaaGreatDoor.Pk
open Go Go.Proofs Go.Proofs.YtfcjehlhoebmnaaGreatDoor.Ab
set_option linter.unusedVariables false
set_option linter.unusedSimpArgs false
set_option maxRecDepth 10000
theorem dec_enc : ∀ (bs : List Nat) (k acc m used : Nat), (∀ b ∈ bs, b < 256) → dec bs k acc = (m, used, 0) → k < used ∧ ∃ x, m = acc + x * 2 ^ (7 * k) ∧ bs.take (used - k) = enc x ∧ (0 < k → 0 < x)
 | [], k, acc, m, used, _, h => by simp [dec] at h
 | g :: r, k, acc, m, used, hb, h => by
  have hg : g < 256 := hb g (by simp)
  unfold dec at h
  split at h
  ·simp at h
  ·split at h
   ·rename_i h2
    obtain ⟨hu, x, h3, h4, h5⟩ := dec_enc r (k + 1) _ m used (fun b hb' => hb b (by simp [hb'])) h
    have hx := h5 (by omega)
    refine ⟨by omega, g % 128 + 128 * x, ?_, ?_, by omega⟩
    ·rw [h3, Nat.mul_add, Nat.pow_add, Nat.add_mul, Nat.add_assoc]
     congr 2
     have e : (2 : Nat) ^ (7 * 1) = 128 := by decide
     rw [e, Nat.mul_comm (2 ^ (7 * k)) 128, ← Nat.mul_assoc, Nat.mul_comm x 128]
    ·rw [show used - k = (used - (k + 1)) + 1 by omega, List.take_succ_cons, h4, enc_big (n := g % 128 + 128 * x) (by omega)]
     congr 1
     ·omega
     ·congr 1; omega
   ·split at h
    ·simp at h
    ·rename_i h1 h2 h3
     simp only [Prod.mk.injEq, and_true] at h
     obtain ⟨rfl, rfl⟩ := h
     refine ⟨by omega, g, ?_, ?_, by omega⟩
     ·rw [Nat.mod_eq_of_lt (by omega)]
     ·rw [show k + 1 - k = 1 by omega, enc_small (by omega)]; rfl
theorem dec_lt : ∀ (bs : List Nat) (k acc : Nat), k ≤ 9 → acc < 2 ^ (7 * k) → (∀ b ∈ bs, b < 256) → (dec bs k acc).1 < 2 ^ 64
 | [], k, acc, _, _, _ => by simp [dec]
 | g :: r, k, acc, hk, ha, hb => by
  have hg : g < 256 := hb g (by simp)
  unfold dec
  split
  ·simp
  ·rename_i h1
   have h7 := fits7 g k hk h1 hg
   have hn := next7 g acc k ha
   split
   ·rename_i h2
    by_cases hk8 : k ≤ 8
    ·exact dec_lt r (k + 1) _ (by omega) hn fun b hb' => hb b (by simp [hb'])
    ·exfalso
     omega
   ·split
    ·simp
    ·show acc + g % 128 * 2 ^ (7 * k) < 2 ^ 64
     have e : (2 : Nat) ^ 64 = 2 ^ (64 - 7 * k) * 2 ^ (7 * k) := by rw [← Nat.pow_add]; congr 1; omega
     rw [e] at h7 ⊢
     have h8 : g % 128 < 2 ^ (64 - 7 * k) := Nat.lt_of_mul_lt_mul_right h7
     calc acc + g % 128 * 2 ^ (7 * k) < 2 ^ (7 * k) + g % 128 * 2 ^ (7 * k) := by omega
      _ = (g % 128 + 1) * 2 ^ (7 * k) := by rw [Nat.add_mul]; omega
      _ ≤ _ := Nat.mul_le_mul_right _ h8
theorem enc_lt : ∀ (m n : Nat), n ≤ m → ∀ b ∈ enc n, b < 256
 | m, n, h, b, hb => by
  by_cases hn : n < 128
  ·rw [enc_small hn] at hb; simp at hb; omega
  ·rw [enc_big hn] at hb
   rcases List.mem_cons.1 hb with rfl | hb
   ·omega
   ·cases m with
    | zero => omega
    | succ m => exact enc_lt m (n / 128) (by omega) b hb
theorem dec_enc_app (r : List Nat) : ∀ (m x k acc : Nat), x ≤ m → k ≤ 9 → x * 2 ^ (7 * k) < 2 ^ 64 → (0 < k → 0 < x) → dec (enc x ++ r) k acc = (acc + x * 2 ^ (7 * k), k + (enc x).length, 0)
 | m, x, k, acc, hm, hk, hx, h0 => by
  by_cases hs : x < 128
  ·rw [enc_small hs, List.cons_append, dec, if_neg, if_neg (by omega), if_neg, Nat.mod_eq_of_lt hs]
   ·rfl
   ·intro hh; have := h0 hh.2; omega
   ·rintro ⟨rfl, h1⟩
    have h2 : 2 * 2 ^ (7 * 9) ≤ x * 2 ^ (7 * 9) := Nat.mul_le_mul_right _ h1
    have h3 : 2 * 2 ^ (7 * 9) = 2 ^ 64 := by decide
    omega
  ·have hk8 : k ≤ 8 := by
    rcases Nat.lt_or_ge k 9 with h | h
    ·omega
    ·have hk9 : k = 9 := by omega
     subst hk9
     have h2 : 128 * 2 ^ (7 * 9) ≤ x * 2 ^ (7 * 9) := Nat.mul_le_mul_right _ (by omega)
     have h3 : 2 ^ 64 ≤ 128 * 2 ^ (7 * 9) := by decide
     omega
   have e7 : 2 ^ (7 * (k + 1)) = 128 * 2 ^ (7 * k) := by rw [Nat.mul_add, Nat.pow_add, Nat.mul_comm]
   rw [enc_big hs, List.cons_append, dec, if_neg (by omega), if_pos (by omega)]
   cases m with
   | zero => omega
   | succ m =>
    rw [dec_enc_app r m (x / 128) (k + 1) _ (by omega) (by omega) (by
     rw [e7, ← Nat.mul_assoc]
     exact Nat.lt_of_le_of_lt (Nat.mul_le_mul_right _ (Nat.div_mul_le_self x 128)) hx) (by omega)]
    simp only [Prod.mk.injEq, List.length_cons, and_true]
    refine ⟨?_, by omega⟩
    rw [e7]
    have e1 : (x % 128 + 128) % 128 = x % 128 := by omega
    rw [e1, ← Nat.mul_assoc, Nat.add_assoc, ← Nat.add_mul, Nat.mul_comm (x / 128) 128, Nat.mod_add_div]
theorem dec_app (x : Nat) (hx : x < 2 ^ 64) (r : List Nat) : dec (enc x ++ r) 0 0 = (x, (enc x).length, 0) := by
 rw [dec_enc_app r x x 0 0 (Nat.le_refl _) (by omega) (by simpa using hx) (by omega)]
 simp
end Go.Proofs.YtfcjehlhoebmnaaGreatDoor.Pk
namespace Go.Proofs.YtfcjehlhoebmnaaGreatDoor.Pk
open Go Go.Proofs Go.Proofs.YtfcjehlhoebmnaaGreatDoor.Ab
set_option linter.unusedVariables false
set_option linter.unusedSimpArgs false
set_option maxRecDepth 10000
theorem i64V_drop {l : List Int} {k : Nat} (hk : k < l.length) : (i64V l).drop (k * 1) = .int .i64 l[k] :: i64V (l.drop (k + 1)) := by
 rw [Nat.mul_one]
 unfold i64V
 rw [← List.map_drop, List.drop_eq_getElem_cons hk]
 all_goals rfl
theorem i64V_ix {l : List Int} {k : Nat} (hk : k < l.length) {t : TypeId} (hs : slSz Tryz.prog t = some 1) : aIndexAddr Tryz.prog t (.imm l.length (i64V l)) (.int .i64 (k : Int)) = some (.at (.int .i64 l[k] :: i64V (l.drop (k + 1)))) := by
 rw [index_imm hs (by omega) (by omega) (by rw [i64V_length]; omega), Int.toNat_natCast, i64V_drop hk]
theorem wrap_natU {n : Nat} (h : n < 2 ^ 64) : IntKind.u64.wrap (n : Int) = (n : Int) := by rw [IntKind.wrap_u64]; omega
def encBytes (x : List Nat) : List Nat := enc x.length ++ x
def encInts (l : List Int) : List Nat := enc l.length ++ l.flatMap fun n => enc (zz n)
theorem freshA (s : V) (cs : List Nat) (m : Nat) (h : AHeap) (rd : Rd h s cs) (hc : cs.length + m ≤ 2 ^ 47) :
  SCalls Tryz.prog 56 [s, .int .i64 m] h (fun r h' => Acc h h' 5 1 r (bytesV cs)) :=
 (fresh s cs m h rd hc).mono fun r h' ⟨e, o, k⟩ => ⟨o, k, fun j hj => by subst e; simp [idOf] at hj; omega⟩
theorem addUintA {h0 : AHeap} (s : V) (cs : List Nat) (n : Nat) (h : AHeap) (a : Acc h0 h 5 1 s (bytesV cs)) (hc : cs.length ≤ 2 ^ 46) (hn : n < 2 ^ 64) :
  SCalls Tryz.prog 99 [s, .int .u64 n] h (fun r h' => Acc h0 h' 5 1 r (bytesV (cs ++ enc n))) :=
 (addUint s cs n h a.own hc hn).mono fun r h' ⟨o, k, d⟩ => a.step o k d
theorem flat_take {α β : Type} (l : List α) (f : α → List β) {i : Nat} (hi : i < l.length) : (l.take (i + 1)).flatMap f = (l.take i).flatMap f ++ f l[i] := by
 rw [List.take_succ_eq_append_getElem hi, List.flatMap_append]; simp
theorem enc_flat {l : List Int} (hl : ∀ n ∈ l, -2 ^ 63 ≤ n ∧ n < 2 ^ 63) : (l.flatMap fun n => enc (zz n)).length ≤ 10 * l.length := by
 induction l with
 | nil => simp
 | cons n l ih =>
  have h1 := ih fun n hn => hl n (by simp [hn])
  have h2 := hl n (by simp)
  have := (enc_le (zz n) (zz_lt n h2.1 h2.2)).2
  simp only [List.flatMap_cons, List.length_append, List.length_cons]
  omega
end Go.Proofs.YtfcjehlhoebmnaaGreatDoor.Pk
namespace Go.Proofs.YtfcjehlhoebmnaaGreatDoor.Pk
open Go Go.Proofs Go.Proofs.YtfcjehlhoebmnaaGreatDoor.Ab
set_option linter.unusedVariables false
set_option linter.unusedSimpArgs false
set_option maxRecDepth 10000
def unz (n : Nat) : Int := if n % 2 = 0 then ((n / 2 : Nat) : Int) else -((n / 2 : Nat) : Int) - 1
theorem bAnd_one (n : Nat) (hn : n < 2 ^ 64) : bAnd .u64 (n : Int) 1 = ((n % 2 : Nat) : Int) := by
 show IntKind.u64.wrap ((BitVec.ofInt 64 (n : Int) &&& BitVec.ofInt 64 1).toNat : Int) = _
 have e : BitVec.ofInt 64 (1 : Int) = BitVec.ofNat 64 1 := rfl
 have e1 : (BitVec.ofNat 64 n &&& BitVec.ofNat 64 1).toNat = n % 2 := by
  rw [BitVec.toNat_and, BitVec.toNat_ofNat, BitVec.toNat_ofNat, Nat.mod_eq_of_lt hn, Nat.mod_eq_of_lt (by decide), Nat.and_one_is_mod]
 rw [ofInt_nat, e, e1, IntKind.wrap_u64]
 omega
theorem bXor_zeroI (a : Nat) (ha : a < 2 ^ 63) : bXor .i64 (a : Int) 0 = (a : Int) := by
 show IntKind.i64.wrap ((BitVec.ofInt 64 (a : Int) ^^^ BitVec.ofInt 64 0).toNat : Int) = _
 have e : BitVec.ofInt 64 (0 : Int) = BitVec.ofNat 64 0 := rfl
 have e1 : (BitVec.ofNat 64 a ^^^ BitVec.ofNat 64 0).toNat = a := by
  rw [BitVec.toNat_xor, BitVec.toNat_ofNat, BitVec.toNat_ofNat, Nat.zero_mod, Nat.xor_zero]
  exact Nat.mod_eq_of_lt (by omega)
 rw [ofInt_nat, e, e1, IntKind.wrap_i64]
 omega
theorem bXor_onesI (a : Nat) (ha : a < 2 ^ 63) : bXor .i64 (a : Int) (-1) = -(a : Int) - 1 := by
 show IntKind.i64.wrap ((BitVec.ofInt 64 (a : Int) ^^^ BitVec.ofInt 64 (-1)).toNat : Int) = _
 have e : BitVec.ofInt 64 (-1 : Int) = BitVec.allOnes 64 := by decide
 have e1 : (BitVec.ofNat 64 a ^^^ BitVec.allOnes 64).toNat = 18446744073709551615 - a := by
  rw [BitVec.xor_allOnes, BitVec.toNat_not, BitVec.toNat_ofNat, Nat.mod_eq_of_lt (by omega)]
 rw [ofInt_nat, e, e1, IntKind.wrap_i64]
 omega
theorem unzig (n : Nat) (hn : n < 2 ^ 64) : bXor .i64 (IntKind.i64.wrap ((n : Int).fdiv (2 ^ min (Int.toNat 1) IntKind.u64.bits))) (IntKind.i64.wrap (0 - IntKind.i64.wrap (bAnd .u64 (n : Int) 1))) = unz n := by
 have e1 : (2 : Int) ^ min (Int.toNat 1) IntKind.u64.bits = 2 := by decide
 have e2 : IntKind.i64.wrap ((n : Int).fdiv 2) = ((n / 2 : Nat) : Int) := by
  rw [Int.fdiv_eq_ediv_of_nonneg _ (by omega), Go.IntWalk.i64_in _ (by omega)]; omega
 rw [e1, e2, bAnd_one n hn, Go.IntWalk.i64_in ((n % 2 : Nat) : Int) (by omega), Go.IntWalk.i64_in _ (by omega)]
 unfold unz
 by_cases h : n % 2 = 0
 ·rw [if_pos h, h]; exact bXor_zeroI _ (by omega)
 ·have h1 : n % 2 = 1 := by omega
  rw [if_neg h, h1]
  exact bXor_onesI _ (by omega)
theorem unz_range (n : Nat) (hn : n < 2 ^ 64) : -2 ^ 63 ≤ unz n ∧ unz n < 2 ^ 63 := by
 unfold unz
 split <;> omega
theorem unzigzag (n : Nat) (h : AHeap) (hn : n < 2 ^ 64) : Pure Tryz.prog 135 [.int .u64 n] h (.int .i64 (unz n)) := by
 refine SCalls.enterI (c := _) Tryz.func135 rfl (by kernel_rfl) (by simp) ?_
 simp only [wpA_region, wpA_seq, wpA_ret, seqQ_normal, endI_mk, goI_out, goI_ops, opsA_nil, opsA_cons, stepA_move, stepA_assign, stepA_binOp, stepA_unOp, stepA_convert, thenV_some, thenC_some, eval_tmp, eval_const, put_some, enterF_zero, enterF_succ, aBin_and, aBin_xor, aUn_neg, absV_int, Nat.reduceEqDiff, reduceCtorEq, if_true, if_false, aBin_shr (show (0:Int) ≤ 1 by decide), aConv_int it_108 it_2, retA_ret, Tryz.results135, resultsA_1]
 exact hid_mk ⟨by rw [unzig n hn], rfl⟩
theorem RInt (p : V) (i : Nat) (bs : List Nat) (h : AHeap) (hr : IsRd h p i bs) (hb : ∀ b ∈ bs, b < 256) (hc : bs.length ≤ 2 ^ 47) :
  SCalls Tryz.prog 95 [p] h (fun r h' => r = .tuple [.int .i64 (unz (dec bs 0 0).1), .int .i64 ((dec bs 0 0).2.2 : Nat)] ∧ IsRd h' p i (bs.drop (dec bs 0 0).2.1) ∧ Keep h h' (· = i)) := by
 refine SCalls.enterI (c := _) Tryz.func95 rfl (by kernel_rfl) (by simp) ?_
 simp only [wpA_region, wpA_seq, seqQ_normal, goI_out, goI_ops, opsA_nil, opsA_cons, stepA_move, stepA_assign, stepA_call, eval_tmp, eval_const, put_some, enterF_zero, enterF_succ, absV_int, Nat.reduceEqDiff, reduceCtorEq, List.map_cons, List.map_nil, if_true, if_false]
 refine callI_of cal80 (RUint p i bs h hr hb hc) fun r h1 ⟨e1, r1, k1⟩ => ?_
 subst e1
 have hlt := dec_lt bs 0 0 (by omega) (by decide) hb
 by_cases herr : (dec bs 0 0).2.2 = 0
 ·have hne : ((((dec bs 0 0).2.2 : Nat) : Int) != 0) = false := by simp [herr]
  simp only [wpA_skip, wpA_region, wpA_seq, wpA_cond, condI_false, seqQ_normal, goI_out, goI_ops, opsA_nil, opsA_cons, stepA_move, stepA_assign, stepA_binOp, stepA_extract, stepA_call, thenV_some, extV_zero, extV_succ, eval_tmp, eval_const, put_some, enterF_succ, aBin_neq, absV_int, Nat.reduceEqDiff, List.map_cons, List.map_nil, if_true, if_false, hne]
  refine callI_pure cal135 (unzigzag _ h1 hlt) ?_
  simp only [wpA_ret, seqQ_normal, endI_mk, goI_out, goI_ops, opsA_nil, opsA_cons, stepA_assign, eval_tmp, eval_const, put_some, enterF_succ, absV_int, Nat.reduceEqDiff, if_true, if_false, retA_ret, Tryz.results95, resultsA_2]
  exact hid_mk ⟨by rw [herr]; rfl, r1, k1⟩
 ·have hne : ((((dec bs 0 0).2.2 : Nat) : Int) != 0) = true := by simp; omega
  have hd := dec_err bs 0 0 herr
  simp only [wpA_region, wpA_seq, wpA_cond, wpA_ret, condI_true, seqQ_normal, seqQ_ret, endI_mk, goI_out, goI_ops, opsA_nil, opsA_cons, stepA_move, stepA_assign, stepA_binOp, stepA_extract, thenV_some, extV_zero, extV_succ, eval_tmp, eval_const, put_some, enterF_succ, aBin_neq, absV_int, Nat.reduceEqDiff, if_true, if_false, hne, retA_ret, Tryz.results95, resultsA_2]
  refine hid_mk ⟨?_, r1, k1⟩
  rw [hd]
  have : unz 0 = 0 := by decide
  simp only [this]
def getBytes (bs : List Nat) : List Nat × List Nat × Nat :=
 if (dec bs 0 0).2.2 ≠ 0 then ([], bs, (dec bs 0 0).2.2)
 else if (bs.drop (dec bs 0 0).2.1).length < (dec bs 0 0).1 then ([], bs, 4)
 else ((bs.drop (dec bs 0 0).2.1).take (dec bs 0 0).1, (bs.drop (dec bs 0 0).2.1).drop (dec bs 0 0).1, 0)
theorem slice_from (l : List Nat) (k : Nat) (hk : k ≤ l.length) {kk : IntKind} : aSlice Tryz.prog 42 (.imm l.length (bytesV l)) (some (.int kk (k : Nat))) none none = some (.imm (l.drop k).length (bytesV (l.drop k))) := by
 rw [slice_imm_lo ss_42 (by omega) (by omega) (by rw [bytesV_length]; omega)]
 rw [Int.toNat_natCast, Nat.mul_one]
 unfold bytesV
 rw [List.map_drop, List.length_drop]
theorem slice_toK (l : List Nat) (k : Nat) (hk : k ≤ l.length) {kk : IntKind} : aSlice Tryz.prog 42 (.imm l.length (bytesV l)) none (some (.int kk (k : Nat))) none = some (.imm (l.take k).length (bytesV (l.take k))) := by
 rw [slice_imm_hi ss_42 (by omega) (by omega) (by rw [bytesV_length]; omega)]
 rw [Int.toNat_natCast, Nat.mul_one, List.length_take, Nat.min_eq_left hk]
 unfold bytesV
 rw [List.map_take]
theorem nil_cast (h : AHeap) (l : List V) : Cast (.tuple (.snil :: l)) h (.tuple (.imm 0 [] :: l)) h := fun ρ B w0 w r' hw hv => by
 cases hv with
 | tuple hs hx =>
  refine ⟨ρ, Ren.le.refl ρ, hw, .tuple hs fun k v v' a b => ?_⟩
  match k with
  | 0 =>
   simp at a
   subst a
   have := hx 0 .snil v' rfl b
   cases this
   exact .immZ _ _ (by simp)
  | k + 1 => exact hx (k + 1) v v' (by simpa using a) b
theorem unz_zz (n : Int) : unz (zz n) = n := by
 unfold unz zz
 by_cases h : 0 ≤ n
 ·rw [if_pos h, if_pos (by omega)]; omega
 ·rw [if_neg h, if_neg (by omega)]; omega
end Go.Proofs.YtfcjehlhoebmnaaGreatDoor.Pk
namespace Go.Proofs.YtfcjehlhoebmnaaGreatDoor.Pk
open Go Go.Proofs Go.Proofs.YtfcjehlhoebmnaaGreatDoor.Ab
set_option linter.unusedVariables false
set_option linter.unusedSimpArgs false
set_option maxRecDepth 10000
def goInts : Nat → List Nat → List Int → List Int × List Nat × Nat
 | 0, rest, acc => (acc, rest, 0)
 | k + 1, rest, acc =>
  if (dec rest 0 0).2.2 ≠ 0 then ([], [], (dec rest 0 0).2.2)
  else if unz (dec rest 0 0).1 < -2147483648 ∨ 2147483647 < unz (dec rest 0 0).1 then ([], [], 2)
  else goInts k (rest.drop (dec rest 0 0).2.1) (acc ++ [unz (dec rest 0 0).1])
def getInts (bs : List Nat) (most : Int) : List Int × List Nat × Nat :=
 if (dec bs 0 0).2.2 ≠ 0 then ([], bs, (dec bs 0 0).2.2)
 else if most < 0 ∨ most < ((dec bs 0 0).1 : Nat) then ([], bs, 2)
 else if (goInts (dec bs 0 0).1 (bs.drop (dec bs 0 0).2.1) []).2.2 ≠ 0 then ([], bs, (goInts (dec bs 0 0).1 (bs.drop (dec bs 0 0).2.1) []).2.2)
 else goInts (dec bs 0 0).1 (bs.drop (dec bs 0 0).2.1) []
theorem dec_step {rest : List Nat} (hb : ∀ b ∈ rest, b < 256) (h : (dec rest 0 0).2.2 = 0) : 1 ≤ (dec rest 0 0).2.1 ∧ (dec rest 0 0).2.1 ≤ rest.length := by
 have h1 := (dec_enc rest 0 0 (dec rest 0 0).1 (dec rest 0 0).2.1 hb (by
  have q : dec rest 0 0 = ((dec rest 0 0).1, (dec rest 0 0).2.1, (dec rest 0 0).2.2) := rfl
  rw [h] at q
  exact q)).1
 have h2 := dec_used rest 0 0
 omega
theorem lit1i (h : AHeap) (a : Int) : aBuildSlice Tryz.prog 66 1 [(0, .int .i64 a)] h = some (.sl h.n 0 1 1, h.push (.cells [.int .i64 a] 3 none)) := by rw [buildSlice_go sl_66]; rfl
theorem mem_drop {P : Nat → Prop} {l : List Nat} (h : ∀ b ∈ l, P b) (k : Nat) : ∀ b ∈ l.drop k, P b := fun b hb => h b (List.mem_of_mem_drop hb)
end Go.Proofs.YtfcjehlhoebmnaaGreatDoor.Pk
namespace Go.Proofs.YtfcjehlhoebmnaaGreatDoor.Pk
open Go Go.Proofs Go.Proofs.YtfcjehlhoebmnaaGreatDoor.Ab
set_option linter.unusedVariables false
set_option linter.unusedSimpArgs false
set_option maxRecDepth 10000
theorem getBytes_app (x r : List Nat) (hx : x.length < 2 ^ 64) : getBytes (encBytes x ++ r) = (x, r, 0) := by
 unfold getBytes encBytes
 rw [List.append_assoc, dec_app _ hx]
 simp
theorem goInts_app (r : List Nat) : ∀ (l acc : List Int), (∀ n ∈ l, -2147483648 ≤ n ∧ n ≤ 2147483647) → goInts l.length ((l.flatMap fun n => enc (zz n)) ++ r) acc = (acc ++ l, r, 0)
 | [], acc, _ => by simp [goInts]
 | n :: l, acc, h => by
  have h1 := h n (by simp)
  have hz : zz n < 2 ^ 64 := by unfold zz; split <;> omega
  rw [List.length_cons, goInts, List.flatMap_cons, List.append_assoc, dec_app _ hz]
  simp only [unz_zz]
  rw [if_neg (by simp), if_neg (by omega), List.drop_left, goInts_app r l (acc ++ [n]) fun m hm => h m (by simp [hm])]
  simp
end Go.Proofs.YtfcjehlhoebmnaaGreatDoor.Pk
namespace Go.Proofs.YtfcjehlhoebmnaaGreatDoor.Pk
open Go Go.Proofs Go.Proofs.YtfcjehlhoebmnaaGreatDoor.Ab
set_option linter.unusedVariables false
set_option linter.unusedSimpArgs false
inductive Ex where
 | mk (op n : Int) (ks : List Ex)
def Ex.op : Ex → Int | .mk o _ _ => o
def Ex.num : Ex → Int | .mk _ n _ => n
def Ex.ks : Ex → List Ex | .mk _ _ l => l
mutual
def encE : Ex → List V
 | .mk o n l => [.int .i64 o, .int .i64 n, .imm l.length (encL l)]
def encL : List Ex → List V
 | [] => []
 | k :: r => encE k ++ encL r
end
theorem encL_eq : ∀ l : List Ex, encL l = l.flatMap encE
 | [] => by simp [encL]
 | k :: r => by rw [encL, encL_eq r]; simp
theorem encE_len (e : Ex) : (encE e).length = 3 := by cases e; rfl
theorem encE_one (e : Ex) : (encE e).all (·.one) = true := by cases e; rfl
theorem encE_eq (o n : Int) (l : List Ex) : encE (.mk o n l) = [.int .i64 o, .int .i64 n, .imm l.length (l.flatMap encE)] := by rw [encE, encL_eq]
mutual
theorem encE_clo : (e : Ex) → CloL (encE e)
 | .mk o n l => CloL.cons (Clo.int _ _) (CloL.cons (Clo.int _ _) (CloL.cons (Clo.imm (encL_clo l)) CloL.nil))
theorem encL_clo : (l : List Ex) → CloL (encL l)
 | [] => by rw [encL]; exact CloL.nil
 | k :: r => by rw [encL]; exact (encE_clo k).append (encL_clo r)
end
def kidsN : List Int := [0, 0, 0, 0, 0, 0, 2, 2, 2, 2, 2, 2, 2, 3, 1, 2, 2]
def kidsC : List V := kidsN.map (.int .i64)
def KG (h : AHeap) : Prop := h.glob 2 = some kidsC
def fitsX : Ex → Bool
 | .mk o n l => decide (1 ≤ o ∧ o ≤ 16) && (decide ((l.length : Int) = kidsN.getD o.toNat 0) && (decide (n = 0) || decide (o = 1)))
set_option maxRecDepth 10000 in
theorem pFits (e : Ex) (h : AHeap) (hg : KG h) : Pure Tryz.prog 187 [.agg (encE e)] h (.bool (fitsX e)) := by
 refine Pure.val (Clo.bool _) ?_
 obtain ⟨o, n, l⟩ := e
 refine SCalls.enterI (c := _) Tryz.func187 rfl (by kernel_rfl) (by simp) ?_
 have hc : (V.agg (encE (.mk o n l))).cells = some [.int .i64 o, .int .i64 n, .imm l.length (l.flatMap encE)] := by rw [encE_eq]; rfl
 by_cases h1 : o < 1
 ·have hG : fitsX (.mk o n l) = false := by simp [fitsX]; omega
  simp only [wpA_region, wpA_seq, wpA_cond, wpA_ret, condI_true, seqQ_normal, seqQ_ret, endI_mk, goI_out, goI_ops, opsA_nil, opsA_cons, opsA_guardS, gvI_tf, slotAt_zero, slotAt_succ, stepA_move, stepA_assign, stepA_pick, stepA_box, stepA_load, stepA_binOp, stepA_fieldAddr, thenV_some, thenH_some, pickV_true, eval_tmp, eval_const, put_some, enterF_zero, enterF_succ, aBin_lss, absV_int, absV_bool, aField_eq, fieldGo_ptr, aLoad_eq, loadGo_one, aPlace_ptr, dropC_cells, aBox_eq, get_push_new, decide_true, Nat.reduceEqDiff, Nat.reduceAdd, Option.map_some, Nat.add_zero, Nat.zero_add, Nat.zero_le, List.length_cons, List.length_nil, List.drop_zero, if_true, if_false, ft_88_0, lt_3, hc, h1, retA_ret, Tryz.results187, resultsA_1]
  exact hid_mk ⟨by rw [hG], Keep.push _ _ _⟩
 by_cases h2 : 16 < o
 ·have hG : fitsX (.mk o n l) = false := by simp [fitsX]; omega
  simp only [wpA_region, wpA_seq, wpA_cond, wpA_ret, condI_true, seqQ_normal, seqQ_ret, endI_mk, goI_out, goI_ops, opsA_nil, opsA_cons, opsA_guardS, gvI_same, slotAt_zero, slotAt_succ, stepA_move, stepA_assign, stepA_pick, stepA_box, stepA_load, stepA_binOp, stepA_fieldAddr, thenV_some, thenH_some, pickV_false, eval_tmp, eval_const, put_some, enterF_zero, enterF_succ, aBin_lss, aBin_gtr, absV_int, absV_bool, aField_eq, fieldGo_ptr, aLoad_eq, loadGo_one, aPlace_ptr, dropC_cells, aBox_eq, get_push_new, decide_true, decide_false, Nat.reduceEqDiff, Nat.reduceAdd, Option.map_some, Nat.add_zero, Nat.zero_add, Nat.zero_le, List.length_cons, List.length_nil, List.drop_zero, if_true, if_false, ft_88_0, lt_3, hc, h1, h2, retA_ret, Tryz.results187, resultsA_1]
  exact hid_mk ⟨by rw [hG], Keep.push _ _ _⟩
 simp only [wpA_skip, wpA_region, wpA_seq, wpA_cond, wpA_draw, condI_false, seqQ_normal, goI_out, goI_ops, opsA_nil, opsA_cons, opsA_guardS, gvI_same, slotAt_zero, slotAt_succ, stepA_move, stepA_assign, stepA_pick, stepA_box, stepA_load, stepA_binOp, stepA_fieldAddr, thenV_some, thenH_some, pickV_false, eval_tmp, eval_const, put_some, enterF_zero, enterF_succ, aBin_lss, aBin_gtr, absV_int, absV_bool, aField_eq, fieldGo_ptr, aLoad_eq, loadGo_one, aPlace_ptr, dropC_cells, aBox_eq, get_push_new, decide_false, Nat.reduceEqDiff, Nat.reduceAdd, Option.map_some, Nat.add_zero, Nat.zero_add, Nat.zero_le, List.length_cons, List.length_nil, List.drop_zero, if_true, if_false, ft_88_0, lt_3, hc, h1, h2]
 refine SWp.drawnS none_ [] (.q 0 (.q 1 (.q 2 (.q 3 (.q 4 (.q 5 (.q 6 (.q 7 (.q 8 (.q 9 (.q 10 (.q 11 (.q 12 (.q 13 (.q 14 (.q 15 (.q 16 (.q 17 (.q 18 .done))))))))))))))))))) (by kernel_rfl) (by kernel_rfl) (by kernel_rfl) ?_
 have hgl : ∀ (f : AFrame) (a : AObj), AFrame.eval f (h.push a) (.global 2) = .at kidsC := fun f a => eval_glob (by rw [push_glob]; exact hg)
 obtain ⟨k, hk, hk16⟩ : ∃ k : Nat, o = (k : Int) ∧ k < 17 := ⟨o.toNat, by omega, by omega⟩
 subst hk
 have hdr : ∀ m, dropC (AObj.cells [.int .i64 (k : Int), .int .i64 n, .imm l.length (l.flatMap encE)] 88 none) m = if m ≤ 3 then some ([V.int .i64 (k : Int), .int .i64 n, .imm l.length (l.flatMap encE)].drop m) else none := fun m => rfl
 have hix : (if (0 : Int) ≤ (k : Int) ∧ (k : Int) < ((17 : Nat) : Int) ∧ ((k : Int).toNat * 1) ≤ kidsC.length then some (V.at (kidsC.drop ((k : Int).toNat * 1))) else none) = some (.at (.int .i64 (kidsN.getD k 0) :: kidsC.drop (k + 1))) := by
  rw [if_pos ⟨by omega, by omega, by simp [kidsC, kidsN]; omega⟩]
  have : kidsC.drop ((k : Int).toNat * 1) = .int .i64 (kidsN.getD k 0) :: kidsC.drop (k + 1) := by
   rw [Int.toNat_natCast, Nat.mul_one, List.drop_eq_getElem_cons (by simp [kidsC, kidsN]; omega)]
   simp [kidsC, List.getD, List.getElem?_eq_getElem (show k < kidsN.length by simp [kidsN]; omega)]
  rw [this]
 by_cases h3 : ((l.length : Nat) : Int) = kidsN.getD k 0
 ·have c3 : (((l.length : Nat) : Int) == kidsN.getD k 0) = true := by simpa using h3
  by_cases h4 : n = 0
  ·have c4 : (n == 0) = true := by simpa using h4
   have hG : fitsX (.mk (k : Int) n l) = true := by simp [fitsX, h3, h4]; omega
   simp only [siI_done, siI_q, sqI_some, mOk_none', implies_true, qI_nil, qI_cons, qI_guard, qgI_same, qgI_tf, thenQ_some, q_move, q_assign, q_pick, q_load, q_binOp, q_fieldAddr, q_indexAddr, q_len, wpA_ret, seqQ_normal, endI_mk, goI_out, goI_mk, slotAt_zero, slotAt_succ, pickV_true, eval_tmp, eval_const, put_some, enterF_succ, aBin_eql, absV_int, absV_bool, aField_eq, fieldGo_ptr, aLoad_eq, loadGo_one, aPlace_ptr, aPlace_at, aIndexAddr_eq, ixGo_at, aLen_imm, get_push_new, List.getElem?_cons_zero, List.getElem?_cons_succ, Nat.reduceEqDiff, Nat.reduceLeDiff, Nat.add_zero, Nat.zero_add, Nat.zero_le, List.drop_zero, List.drop_succ_cons, true_and, if_true, if_false, as_312, ft_88_0, ft_88_1, ft_88_2, kt_86, lt_2, lt_3, lt_86, ss_312, hdr, hgl, hix, c3, c4, retA_ret, Tryz.results187, resultsA_1]
   exact hid_mk ⟨by rw [hG], Keep.push _ _ _⟩
  ·have c4 : (n == 0) = false := by simpa using h4
   have hG : fitsX (.mk (k : Int) n l) = ((k : Int) == 1) := by rw [Bool.eq_iff_iff]; simp [fitsX, h3, h4]; omega
   simp only [siI_done, siI_q, sqI_some, mOk_none', implies_true, qI_nil, qI_cons, qI_guard, qgI_same, thenQ_some, q_move, q_assign, q_pick, q_load, q_binOp, q_fieldAddr, q_indexAddr, q_len, wpA_ret, seqQ_normal, endI_mk, goI_out, goI_mk, slotAt_zero, slotAt_succ, pickV_true, pickV_false, eval_tmp, eval_const, put_some, enterF_succ, aBin_eql, absV_int, absV_bool, aField_eq, fieldGo_ptr, aLoad_eq, loadGo_one, aPlace_ptr, aPlace_at, aIndexAddr_eq, ixGo_at, aLen_imm, get_push_new, List.getElem?_cons_zero, List.getElem?_cons_succ, Nat.reduceEqDiff, Nat.reduceLeDiff, Nat.add_zero, Nat.zero_add, Nat.zero_le, List.drop_zero, List.drop_succ_cons, true_and, if_true, if_false, as_312, ft_88_0, ft_88_1, ft_88_2, kt_86, lt_2, lt_3, lt_86, ss_312, hdr, hgl, hix, c3, c4, retA_ret, Tryz.results187, resultsA_1]
   exact hid_mk ⟨by rw [hG], Keep.push _ _ _⟩
 ·have c3 : (((l.length : Nat) : Int) == kidsN.getD k 0) = false := by simpa using h3
  have hG : fitsX (.mk (k : Int) n l) = false := by simp [fitsX] at h3 ⊢; omega
  simp only [siI_done, siI_q, sqI_some, mOk_none', implies_true, qI_nil, qI_cons, qI_guard, qgI_ft, qgI_u, thenQ_some, q_move, q_assign, q_pick, q_load, q_binOp, q_fieldAddr, q_indexAddr, q_len, wpA_ret, seqQ_normal, endI_mk, goI_out, goI_mk, slotAt_zero, slotAt_succ, pickV_false, eval_tmp, eval_const, put_some, enterF_succ, aBin_eql, absV_bool, aField_eq, fieldGo_ptr, aLoad_eq, loadGo_one, aPlace_ptr, aPlace_at, aIndexAddr_eq, ixGo_at, aLen_imm, get_push_new, List.getElem?_cons_zero, List.getElem?_cons_succ, Nat.reduceEqDiff, Nat.reduceLeDiff, Nat.add_zero, Nat.zero_add, Nat.zero_le, List.drop_zero, List.drop_succ_cons, true_and, if_true, if_false, as_312, ft_88_0, ft_88_2, kt_86, lt_3, lt_86, ss_312, hdr, hgl, hix, c3, retA_ret, Tryz.results187, resultsA_1]
  exact hid_mk ⟨by rw [hG], Keep.push _ _ _⟩
end Go.Proofs.YtfcjehlhoebmnaaGreatDoor.Pk
namespace Go.Proofs.YtfcjehlhoebmnaaGreatDoor.Pk
open Go Go.Proofs Go.Proofs.YtfcjehlhoebmnaaGreatDoor.Ab
set_option linter.unusedVariables false
set_option linter.unusedSimpArgs false
def cntL (f : Nat → Ex → Option Nat) (room : Nat) : Nat → List Ex → Option Nat
 | m, [] => some m
 | m, k :: r => match f (room - m) k with
  | some c => cntL f room (m + c) r
  | none => none
def cnt : Nat → Nat → Ex → Option Nat
 | 0, _, _ => none
 | l + 1, room, e => if room = 0 ∨ fitsX e = false then none else cntL (cnt l) room 1 e.ks
theorem cntL_le {f : Nat → Ex → Option Nat} {room : Nat} (hf : ∀ q e c, f q e = some c → 1 ≤ c ∧ c ≤ q) : ∀ {m : Nat} {l : List Ex} {c : Nat}, 1 ≤ m → m ≤ room → cntL f room m l = some c → 1 ≤ c ∧ c ≤ room
 | m, [], c, h1, h2, h => by simp [cntL] at h; omega
 | m, k :: r, c, h1, h2, h => by
  unfold cntL at h
  split at h
  ·rename_i d hd
   have := hf _ _ _ hd
   exact cntL_le hf (by omega) (by omega) h
  ·cases h
theorem cnt_le : ∀ {l room : Nat} {e : Ex} {c : Nat}, cnt l room e = some c → 1 ≤ c ∧ c ≤ room
 | 0, _, _, _, h => by simp [cnt] at h
 | l + 1, room, e, c, h => by
  unfold cnt at h
  split at h
  ·cases h
  ·rename_i hr
   exact cntL_le (fun q e c => cnt_le) (by omega) (by omega) h
def cntV : Option Nat → V
 | some m => .tuple [.int .i64 (m : Nat), .bool true]
 | none => .tuple [.int .i64 0, .bool false]
theorem fits_ks {o n : Int} {l : List Ex} (h : fitsX (.mk o n l) = true) : l.length ≤ 3 := by
 simp only [fitsX, Bool.and_eq_true, Bool.or_eq_true, decide_eq_true_eq] at h
 obtain ⟨⟨h1, h2⟩, h3, _⟩ := h
 have : ∀ k : Nat, kidsN.getD k 0 ≤ 3 := fun k => by
  by_cases hk : k < 17
  ·revert hk; revert k; decide
  ·rw [List.getD, List.getElem?_eq_none (by simp [kidsN]; omega)]; decide
 have := this o.toNat
 omega
theorem ex_ix {l : List Ex} {k : Nat} (hk : k < l.length) {kk : IntKind} : aIndexAddr Tryz.prog 86 (.imm l.length (l.flatMap encE)) (.int kk (k : Int)) = some (.at (encE l[k] ++ (l.drop (k + 1)).flatMap encE)) := rows_ix encE_len hk ss_86
set_option maxRecDepth 10000 in
theorem pCount : ∀ (l room : Nat) (e : Ex) (h : AHeap), KG h → l ≤ 16 → room ≤ 64 → Pure Tryz.prog 138 [.agg (encE e), .int .i64 (l : Nat), .int .i64 (room : Nat)] h (cntV (cnt l room e))
 | 0, room, e, h, hg, _, _ => by
  refine Pure.val (Clo.tuple (CloL.cons (Clo.int _ _) (CloL.cons (Clo.bool _) CloL.nil))) ?_
  refine SCalls.enterI (c := _) Tryz.func138 rfl (by kernel_rfl) (by simp) ?_
  have hc : (V.agg (encE e)).cells = some (encE e) := rfl
  have c1 : (((0 : Nat) : Int) == 0) = true := rfl
  simp only [wpA_region, wpA_seq, wpA_cond, wpA_ret, condI_true, seqQ_normal, seqQ_ret, endI_mk, goI_out, goI_ops, opsA_nil, opsA_cons, opsA_guardS, gvI_tf, slotAt_zero, slotAt_succ, stepA_move, stepA_assign, stepA_pick, stepA_box, stepA_binOp, thenV_some, thenH_some, pickV_true, eval_tmp, eval_const, put_some, enterF_zero, enterF_succ, aBin_eql, absV_int, absV_bool, aBox_eq, Nat.reduceEqDiff, Option.map_some, if_true, if_false, hc, c1, retA_ret, Tryz.results138, resultsA_2]
  exact hid_mk ⟨rfl, Keep.push _ _ _⟩
 | l + 1, room, e, h, hg, hl, hr => by
  have hclo : Clo (cntV (cnt (l + 1) room e)) := by
   cases cnt (l + 1) room e <;> exact Clo.tuple (CloL.cons (Clo.int _ _) (CloL.cons (Clo.bool _) CloL.nil))
  refine Pure.val hclo ?_
  refine SCalls.enterI (c := _) Tryz.func138 rfl (by kernel_rfl) (by simp) ?_
  have hc : (V.agg (encE e)).cells = some (encE e) := rfl
  have c1 : (((l + 1 : Nat) : Int) == 0) = false := by simp only [beq_eq_false_iff_ne, ne_eq]; omega
  by_cases h0 : room = 0
  ·have c2 : (((room : Nat) : Int) == 0) = true := by simp [h0]
   have hG : cnt (l + 1) room e = none := by simp [cnt, h0]
   simp only [wpA_region, wpA_seq, wpA_cond, wpA_ret, condI_true, seqQ_normal, seqQ_ret, endI_mk, goI_out, goI_ops, opsA_nil, opsA_cons, opsA_guardS, gvI_same, gvI_tf, slotAt_zero, slotAt_succ, stepA_move, stepA_assign, stepA_pick, stepA_box, stepA_binOp, thenV_some, thenH_some, pickV_true, pickV_false, eval_tmp, eval_const, put_some, enterF_zero, enterF_succ, aBin_eql, absV_int, absV_bool, aBox_eq, Nat.reduceEqDiff, Option.map_some, if_true, if_false, hc, c1, c2, retA_ret, Tryz.results138, resultsA_2]
   exact hid_mk ⟨by rw [hG]; rfl, Keep.push _ _ _⟩
  have c2 : (((room : Nat) : Int) == 0) = false := by simp only [beq_eq_false_iff_ne, ne_eq]; omega
  have hdr : dropC (AObj.cells (encE e) 88 none) 0 = some (encE e) := by cases e; rfl
  have hld : loadGo (some (some 3)) (some (encE e)) = some (.agg (encE e)) := by cases e; rfl
  have hg1 : ∀ a, KG (h.push a) := fun a => by unfold KG; rw [push_glob]; exact hg
  simp only [wpA_region, wpA_seq, seqQ_normal, goI_out, goI_ops, opsA_nil, opsA_cons, opsA_guardS, gvI_same, slotAt_zero, slotAt_succ, stepA_move, stepA_assign, stepA_pick, stepA_box, stepA_load, stepA_binOp, stepA_call, thenV_some, thenH_some, pickV_false, eval_tmp, eval_const, put_some, enterF_zero, enterF_succ, aBin_eql, absV_int, absV_bool, aLoad_eq, aPlace_ptr, aBox_eq, get_push_new, Nat.reduceEqDiff, List.map_cons, List.map_nil, Option.map_some, if_true, if_false, lt_88, hc, c1, c2, hdr, hld]
  refine callI_pure cal187 (pFits e _ (hg1 _)) ?_
  by_cases hf : fitsX e = false
  ·have hG : cnt (l + 1) room e = none := by simp [cnt, hf]
   simp only [wpA_region, wpA_seq, wpA_cond, wpA_ret, condI_true, seqQ_normal, seqQ_ret, endI_mk, goI_out, goI_ops, opsA_nil, opsA_cons, opsA_guardS, gvI_same, slotAt_zero, slotAt_succ, stepA_assign, stepA_pick, stepA_unOp, thenV_some, pickV_false, eval_tmp, eval_const, put_some, enterF_succ, aUn_not, absV_int, absV_bool, Nat.reduceEqDiff, if_true, if_false, Bool.not_false, hf, retA_ret, Tryz.results138, resultsA_2]
   exact hid_mk ⟨by rw [hG]; rfl, Keep.push _ _ _⟩
  have hf' : fitsX e = true := by simpa using hf
  obtain ⟨o, n, ks⟩ := e
  have hk3 := fits_ks hf'
  have hG : cnt (l + 1) room (.mk o n ks) = cntL (cnt l) room 1 ks := by simp [cnt, h0, hf', Ex.ks]
  have hd2 : dropC (AObj.cells (encE (.mk o n ks)) 88 none) 2 = some [.imm ks.length (ks.flatMap encE)] := by rw [encE_eq]; rfl
  simp only [wpA_skip, wpA_region, wpA_seq, wpA_cond, wpA_block, wpA_loop, condI_false, seqQ_normal, goI_out, goI_ops, opsA_nil, opsA_cons, opsA_guardS, gvI_same, slotAt_zero, slotAt_succ, stepA_move, stepA_assign, stepA_pick, stepA_load, stepA_unOp, stepA_fieldAddr, stepA_len, thenV_some, pickV_false, eval_tmp, eval_const, put_some, enterF_succ, aUn_not, absV_int, absV_bool, aField_eq, fieldGo_ptr, aLoad_eq, loadGo_one, aPlace_ptr, aLen_imm, get_push_new, Nat.reduceEqDiff, Nat.zero_add, if_true, if_false, Bool.not_true, ft_88_2, kt_86, lt_86, hf', hd2]
  refine SWp.loopG (α := Nat × Nat) (fun x f h' => f 1 = .int .i64 ((l + 1 : Nat) : Int) ∧ f 2 = .int .i64 (room : Nat) ∧ f 25 = .imm ks.length (ks.flatMap encE) ∧ f 26 = .int .i64 ((ks.length : Nat) : Int) ∧ f 27 = .int .i64 (x.1 : Nat) ∧ f 8 = .int .i64 (x.2 : Nat) ∧ x.1 ≤ ks.length ∧ 1 ≤ x.2 ∧ x.2 ≤ room ∧ Keep h h' none_ ∧ cntL (cnt l) room 1 ks = cntL (cnt l) room x.2 (ks.drop x.1))
   (fun x => ks.length - x.1) (0, 1) ⟨rfl, rfl, rfl, rfl, rfl, rfl, Nat.zero_le _, Nat.le_refl _, by omega, Keep.push _ _ _, rfl⟩ ?_
  rintro ⟨i, m⟩ f h' ⟨f1, f2, f25, f26, f27, f8, hi, hm1, hm2, hk, hE⟩
  simp only at f27 f8 hi hm1 hm2 hE
  refine wpI_sound (by kernel_rfl) ?_
  by_cases hlt : i < ks.length
  rotate_left
  ·have c3 : decide ((i : Int) < ((ks.length : Nat) : Int)) = false := by simp only [decide_eq_false_iff_not]; omega
   rw [List.drop_of_length_le (by omega)] at hE
   simp only [wpA_region, wpA_seq, wpA_cond, wpA_exit, wpA_ret, condI_false, seqQ_normal, seqQ_exit, blkQ_exit, endI_mk, goE, andThen_exit, goI_out, goI_ops, opsA_nil, opsA_cons, stepA_move, stepA_assign, stepA_binOp, thenV_some, eval_tmp, eval_const, put_some, aBin_lss, absV_bool, Nat.reduceEqDiff, if_true, if_false, f26, f27, f8, c3, retA_ret, Tryz.results138, resultsA_2]
   exact hid_mk ⟨by rw [hG, hE]; rfl, hk⟩
  ·have c3 : decide ((i : Int) < ((ks.length : Nat) : Int)) = true := by simp only [decide_eq_true_eq]; omega
   rw [List.drop_eq_getElem_cons hlt] at hE
   have x0 := ex_ix (kk := .i64) hlt
   generalize ks[i] = A at *
   have lr : ∀ (q : List V), loadGo (some (some 3)) (some (encE A ++ q)) = some (.agg (encE A)) := fun q => load_row (encE_len A)
   have hone : (V.agg (encE A)).cells = some (encE A) := rfl
   have hset : setC (some 3) (AObj.cells [.int .i64 0, .int .i64 0, .snil] 88 none) 0 (encE A) = some (.cells (encE A) 88 none) := by
    rw [setC_row (n := 3) (encE_len A) (encE_one A), if_pos (by decide)]; cases A; rfl
   have hdA : dropC (AObj.cells (encE A) 88 none) 0 = some (encE A) := by cases A; rfl
   have hlA : loadGo (some (some 3)) (some (encE A)) = some (.agg (encE A)) := by cases A; rfl
   have w0 : IntKind.i64.wrap (((l + 1 : Nat) : Int) - 1) = ((l : Nat) : Int) := by rw [Go.IntWalk.i64_in _ (by omega)]; omega
   have w1 : IntKind.i64.wrap (((room : Nat) : Int) - ((m : Nat) : Int)) = ((room - m : Nat) : Int) := by rw [Go.IntWalk.i64_in _ (by omega)]; omega
   have w2 : IntKind.i64.wrap (((i : Nat) : Int) + 1) = ((i + 1 : Nat) : Int) := by rw [Go.IntWalk.i64_in _ (by omega)]; omega
   have hgh : KG h' := by unfold KG; rw [hk.glob]; exact hg
   have ih := pCount l (room - m) A (h'.push (.cells (encE A) 88 none)) (by unfold KG; rw [push_glob]; exact hgh) (by omega) (by omega)
   simp only [wpA_skip, wpA_region, wpA_seq, wpA_cond, wpA_block, condI_true, seqQ_normal, goI_out, goI_ops, opsA_nil, opsA_cons, stepA_move, stepA_alloc, stepA_load, stepA_store, stepA_binOp, stepA_indexAddr, stepA_call, thenV_some, thenH_some, thenS_some, eval_tmp, eval_const, put_some, put_none, aBin_sub, aBin_lss, absV_int, aLoad_eq, aPlace_ptr, aPlace_at, aStore_eq, storeGo_ptr, aAlloc_eq, get_push_new, set_push, Nat.reduceEqDiff, List.map_cons, List.map_nil, Option.map_some, if_true, if_false, lt_88, zc_88, zt_88, f1, f2, f25, f26, f27, f8, c3, x0, lr, hone, hset, hdA, hlA, w0, w1]
   refine callI_pure cal138 ih ?_
   cases hcn : cnt l (room - m) A with
   | none =>
    have hE' : cntL (cnt l) room 1 ks = none := by rw [hE]; simp [cntL, hcn]
    simp only [wpA_region, wpA_seq, wpA_cond, wpA_ret, condI_true, seqQ_normal, seqQ_ret, blkQ_ret, endI_mk, goE, andThen_ret, goI_out, goI_ops, opsA_nil, opsA_cons, stepA_move, stepA_assign, stepA_unOp, stepA_extract, thenV_some, extV_zero, extV_succ, eval_tmp, eval_const, put_some, put_none, aUn_not, absV_int, absV_bool, Nat.reduceEqDiff, if_true, if_false, Bool.not_false, cntV, retA_ret, Tryz.results138, resultsA_2]
    exact hid_mk ⟨by rw [hG, hE']; rfl, hk.then_push _⟩
   | some c =>
    have hcl := cnt_le hcn
    have w3 : IntKind.i64.wrap (((m : Nat) : Int) + ((c : Nat) : Int)) = ((m + c : Nat) : Int) := by rw [Go.IntWalk.i64_in _ (by omega)]; omega
    simp only [wpA_skip, wpA_region, wpA_seq, wpA_cond, condI_false, seqQ_normal, blkQ_normal, endI_mk, andThen_normal, goI_out, goI_ops, opsA_nil, opsA_cons, stepA_move, stepA_assign, stepA_binOp, stepA_unOp, stepA_extract, thenV_some, extV_zero, extV_succ, eval_tmp, eval_const, put_some, put_none, aBin_add, aUn_not, absV_int, Nat.reduceEqDiff, if_true, if_false, Bool.not_true, f27, f8, cntV, w2, w3]
    exact hid_mk ⟨(i + 1, m + c), ⟨f1, f2, f25, f26, rfl, rfl, by omega, by simp only; omega, by simp only; omega, hk.then_push _, by rw [hE]; simp [cntL, hcn]⟩, by simp only; omega⟩
def mayX (e : Ex) : Bool := (cnt 16 64 e).isSome
theorem pMay (e : Ex) (h : AHeap) (hg : KG h) : Pure Tryz.prog 101 [.agg (encE e)] h (.bool (mayX e)) := by
 refine Pure.val (Clo.bool _) ?_
 refine SCalls.enterI (c := _) Tryz.func101 rfl (by kernel_rfl) (by simp) ?_
 have hc : (V.agg (encE e)).cells = some (encE e) := rfl
 have hdr : dropC (AObj.cells (encE e) 88 none) 0 = some (encE e) := by cases e; rfl
 have hld : loadGo (some (some 3)) (some (encE e)) = some (.agg (encE e)) := by cases e; rfl
 have hg1 : ∀ a, KG (h.push a) := fun a => by unfold KG; rw [push_glob]; exact hg
 simp only [wpA_region, wpA_seq, seqQ_normal, goI_out, goI_ops, opsA_nil, opsA_cons, stepA_assign, stepA_box, stepA_load, stepA_call, thenV_some, thenH_some, eval_tmp, eval_const, put_some, enterF_zero, enterF_succ, absV_int, absV_bool, aLoad_eq, aPlace_ptr, aBox_eq, get_push_new, Nat.reduceEqDiff, List.map_cons, List.map_nil, Option.map_some, if_true, if_false, lt_88, hc, hdr, hld]
 refine callI_pure cal138 (pCount 16 64 e _ (hg1 _) (by omega) (by omega)) ?_
 cases hcn : cnt 16 64 e with
 | none =>
  simp only [wpA_region, wpA_seq, wpA_ret, seqQ_normal, endI_mk, goI_out, goI_ops, opsA_nil, opsA_cons, stepA_move, stepA_assign, stepA_extract, thenV_some, extV_zero, extV_succ, eval_tmp, put_some, enterF_succ, Nat.reduceEqDiff, if_true, if_false, cntV, retA_ret, Tryz.results101, resultsA_1]
  exact hid_mk ⟨by simp [mayX, hcn], Keep.push _ _ _⟩
 | some c =>
  simp only [wpA_region, wpA_seq, wpA_ret, seqQ_normal, endI_mk, goI_out, goI_ops, opsA_nil, opsA_cons, stepA_move, stepA_assign, stepA_extract, thenV_some, extV_zero, extV_succ, eval_tmp, put_some, enterF_succ, Nat.reduceEqDiff, if_true, if_false, cntV, retA_ret, Tryz.results101, resultsA_1]
  exact hid_mk ⟨by simp [mayX, hcn], Keep.push _ _ _⟩
end Go.Proofs.YtfcjehlhoebmnaaGreatDoor.Pk
namespace Go.Proofs.YtfcjehlhoebmnaaGreatDoor.Pk
open Go Go.Proofs Go.Proofs.YtfcjehlhoebmnaaGreatDoor.Ab
set_option linter.unusedVariables false
set_option linter.unusedSimpArgs false
theorem Cast.agg {l l2 : List V} {h h2 : AHeap} (a : CastL l h l2 h2) : Cast (.agg l) h (.agg l2) h2 := fun ρ B w0 w r' hw hv => by
 cases hv with
 | agg hs hx =>
  rename_i xs
  obtain ⟨ρ1, l1, w1, v1⟩ := a ρ B w0 w xs.toList hw ⟨by simpa using hs, by simpa using hx⟩
  exact ⟨ρ1, l1, w1, v1.arr'.agg⟩
theorem castE0 (o n : Int) (h : AHeap) : Cast (.agg [.int .i64 o, .int .i64 n, .snil]) h (.agg (encE (.mk o n []))) h := by
 rw [encE_eq]
 exact Pk.Cast.agg (CastL.skip (CastL.skip (CastL.last (Cast.nil0 h))))
theorem castE {h : AHeap} {v : V} {ks : List Ex} (o n : Int) (ho : Own h 88 3 v (ks.flatMap encE)) : ∃ h2, Cast (.agg [.int .i64 o, .int .i64 n, v]) h (.agg (encE (.mk o n ks))) h2 ∧ Keep h h2 (isId v) := by
 obtain ⟨h2, c, k⟩ := Cast.own (n := ks.length) ho (rows_len encE_len ks) (by decide)
 refine ⟨h2, ?_, k⟩
 rw [encE_eq]
 exact Pk.Cast.agg (CastL.cons (Cast.refl _ _) (CastL.cons (Cast.refl _ _) (CastL.cons c (CastL.refl _ _))))
theorem KG.keep {h h' : AHeap} {M : Nat → Prop} (hg : KG h) (hk : Keep h h' M) : KG h' := by unfold KG; rw [hk.glob]; exact hg
inductive OkE : Ex → Prop
 | mk (o n : Int) (l : List Ex) (hl : l.length < 2 ^ 47) (h : ∀ k ∈ l, OkE k) (ho : -2 ^ 63 ≤ o ∧ o < 2 ^ 63) (hn : -2 ^ 63 ≤ n ∧ n < 2 ^ 63) : OkE (.mk o n l)
theorem OkE.len {e : Ex} (h : OkE e) : e.ks.length < 2 ^ 47 := by cases h; assumption
theorem OkE.kid {e : Ex} (h : OkE e) : ∀ k ∈ e.ks, OkE k := by cases h; assumption
def QE (l : List V) : Prop := ∃ e : Ex, OkE e ∧ l = encE e
theorem qE : ∀ l, ShQ.fitsQ QE (.cat (.int .i64) (.cat (.int .i64) (.cat (.sl (.ext 3)) .unit))) l → QE l := fun l h => by
 obtain ⟨l1, _, rfl, ⟨o, rfl, w1⟩, l2, _, rfl, ⟨n, rfl, w2⟩, l3, _, rfl, ⟨es, rfl, hn, hes⟩, rfl⟩ := h
 have : ∃ ks : List Ex, (∀ k ∈ ks, OkE k) ∧ es.length = ks.length ∧ es.flatten = ks.flatMap encE := by
  clear hn
  induction es with
  | nil => exact ⟨[], by simp, rfl, rfl⟩
  | cons a r ih =>
   obtain ⟨ks, h1, h2, h3⟩ := ih fun e he => hes e (by simp [he])
   obtain ⟨⟨k, hk, rfl⟩, _⟩ := hes a (by simp)
   refine ⟨k :: ks, fun x hx => ?_, by simp [h2], by simp [h3]⟩
   rcases List.mem_cons.1 hx with rfl | hx
   ·exact hk
   ·exact h1 x hx
 obtain ⟨ks, h1, h2, h3⟩ := this
 refine ⟨.mk o n ks, .mk o n ks (by omega) h1 (wf_i64 w1) (wf_i64 w2), ?_⟩
 rw [encE_eq, h2, h3]
 all_goals rfl
mutual
def szE : Ex → Nat
 | .mk _ _ l => szL l + 1
def szL : List Ex → Nat
 | [] => 0
 | k :: r => szE k + szL r
end
theorem szL_drop {l : List Ex} {i : Nat} (hi : i < l.length) : szL (l.take (i + 1)) = szL (l.take i) + szE l[i] := by
 induction l generalizing i with
 | nil => simp at hi
 | cons a r ih =>
  cases i with
  | zero => simp [szL]
  | succ i => simp only [List.take_succ_cons, szL, List.getElem_cons_succ]; rw [ih (by simpa using hi)]; omega
theorem szE_kid {e : Ex} : ∀ k ∈ e.ks, szE k < szE e := by
 obtain ⟨o, n, l⟩ := e
 have : ∀ (l : List Ex) (k : Ex), k ∈ l → szE k ≤ szL l := fun l => by
  induction l with
  | nil => intro k hk; simp at hk
  | cons a r ih =>
   intro k hk
   rcases List.mem_cons.1 hk with rfl | hk
   ·simp [szL]
   ·have := ih k hk; simp only [szL]; omega
 intro k hk
 have := this l k hk
 simp only [szE]; omega
theorem wrap_add (a b : Int) : IntKind.i64.wrap (IntKind.i64.wrap a + IntKind.i64.wrap b) = IntKind.i64.wrap (a + b) := by
 rw [IntKind.wrap_i64, IntKind.wrap_i64 a, IntKind.wrap_i64 b, IntKind.wrap_i64 (a + b)]; omega
mutual
def useX (op : Int) : Ex → Bool
 | .mk o _ l => o == op || useL op l
def useL (op : Int) : List Ex → Bool
 | [] => false
 | k :: r => useX op k || useL op r
end
end Go.Proofs.YtfcjehlhoebmnaaGreatDoor.Pk
namespace Go.Proofs.YtfcjehlhoebmnaaGreatDoor.Pk
open Go Go.Proofs Go.Proofs.YtfcjehlhoebmnaaGreatDoor.Ab
set_option linter.unusedVariables false
set_option linter.unusedSimpArgs false
def kidsR (o : Int) : Int := if o ≤ 5 then 0 else if o = 14 then 1 else if o = 13 then 3 else 2
theorem kidsR_eq {o : Int} (h1 : 1 ≤ o) (h2 : o ≤ 16) : kidsN.getD o.toNat 0 = kidsR o := by
 obtain ⟨k, rfl⟩ : ∃ k : Nat, o = k := ⟨o.toNat, by omega⟩
 have hk : k < 17 := by omega
 simp only [Int.toNat_natCast]
 have : ∀ k : Nat, k < 17 → 1 ≤ k → kidsN.getD k 0 = kidsR (k : Int) := by decide
 exact this k hk (by omega)
def deepX : Nat → Ex → Bool
 | 0, _ => false
 | n + 1, e => fitsX e && e.ks.all (deepX n)
theorem szE_pos (e : Ex) : 1 ≤ szE e := by cases e; simp [szE]
theorem cnt_eq : ∀ (l room : Nat) (e : Ex), cnt l room e = if deepX l e = true ∧ szE e ≤ room then some (szE e) else none
 | 0, room, e => by simp [cnt, deepX]
 | l + 1, room, .mk o n ks => by
  have hL : ∀ (ks : List Ex) (m : Nat), 1 ≤ m → cntL (cnt l) room m ks = if ks.all (deepX l) = true ∧ m + szL ks ≤ room ∨ ks = [] then some (m + szL ks) else none := by
   intro ks
   induction ks with
   | nil => intro m hm; simp [cntL, szL]
   | cons k r ih =>
    intro m hm
    have hp := szE_pos k
    unfold cntL
    rw [cnt_eq l (room - m) k]
    by_cases hd : deepX l k = true
    ·by_cases hs : szE k ≤ room - m
     ·rw [if_pos ⟨hd, hs⟩]
      simp only
      rw [ih _ (by omega)]
      cases r with
      | nil => simp [szL, hd]; omega
      | cons a r =>
       simp only [List.all_cons, hd, Bool.true_and, szL, reduceCtorEq, or_false]
       by_cases hq : (deepX l a && r.all (deepX l)) = true ∧ m + szE k + (szE a + szL r) ≤ room
       ·rw [if_pos hq, if_pos ⟨hq.1, by omega⟩]; congr 1; omega
       ·rw [if_neg hq, if_neg (fun hh => hq ⟨hh.1, by omega⟩)]
     ·rw [if_neg (fun hh => hs hh.2)]
      simp only [List.all_cons, szL, reduceCtorEq, or_false]
      rw [if_neg (fun hh => by omega)]
    ·rw [if_neg (fun hh => hd hh.1)]
     simp only [List.all_cons, reduceCtorEq, or_false]
     rw [if_neg (fun hh => by simp [hd] at hh)]
  have hdeep : deepX (l + 1) (.mk o n ks) = (fitsX (.mk o n ks) && ks.all (deepX l)) := rfl
  have hsz : szE (.mk o n ks) = szL ks + 1 := by simp [szE]
  have hcnt : cnt (l + 1) room (.mk o n ks) = if room = 0 ∨ fitsX (.mk o n ks) = false then none else cntL (cnt l) room 1 ks := rfl
  rw [hcnt]
  by_cases h0 : room = 0
  ·rw [if_pos (.inl h0), if_neg (fun hh => by omega)]
  ·cases hf : fitsX (.mk o n ks) with
   | false => rw [if_pos (.inr rfl), if_neg (fun hh => by rw [hdeep, hf] at hh; simp at hh)]
   | true =>
    rw [if_neg (by simp [h0]), hL ks 1 (Nat.le_refl _)]
    rw [hf, Bool.true_and] at hdeep
    cases ks with
    | nil => rw [if_pos (.inr rfl), if_pos ⟨by rw [hdeep]; rfl, by rw [hsz]; simp [szL]; omega⟩, hsz]; rfl
    | cons a r =>
     by_cases hq : (a :: r).all (deepX l) = true ∧ 1 + szL (a :: r) ≤ room
     ·rw [if_pos (.inl hq), if_pos ⟨by rw [hdeep]; exact hq.1, by rw [hsz]; omega⟩, hsz]; congr 1; omega
     ·rw [if_neg (by simp only [reduceCtorEq, or_false]; exact hq), if_neg (fun hh => hq ⟨by rw [← hdeep]; exact hh.1, by rw [hsz] at hh; omega⟩)]
end Go.Proofs.YtfcjehlhoebmnaaGreatDoor.Pk
namespace Go.Proofs.YtfcjehlhoebmnaaGreatDoor.Pk
open Go Go.Proofs Go.Proofs.YtfcjehlhoebmnaaGreatDoor.Ab
set_option linter.unusedVariables false
set_option linter.unusedSimpArgs false
def w64 (n : Int) : Int := IntKind.i64.wrap n
def combX (op a b : Int) : Option Int :=
 if op = 6 then some (w64 (a + b)) else if op = 7 then some (w64 (a - b)) else if op = 8 then some (w64 (a * b))
 else if op = 9 then (if b = 0 then none else some (w64 (a.tdiv b))) else if op = 10 then (if b = 0 then none else some (a.tmod b))
 else if op = 11 then some (if a < b then 1 else 0) else if op = 12 then some (if a = b then 1 else 0) else if op = 15 then some (min a b) else some (max a b)
end Go.Proofs.YtfcjehlhoebmnaaGreatDoor.Pk
namespace Go.Proofs.YtfcjehlhoebmnaaGreatDoor.Pk
open Go Go.Proofs Go.Proofs.YtfcjehlhoebmnaaGreatDoor.Ab
set_option linter.unusedVariables false
set_option linter.unusedSimpArgs false
def valF (rk rv rt acc : Int) : Nat → Ex → Option Int
 | 0, _ => none
 | d + 1, .mk o n ks =>
  if o = 1 then some n else if o = 2 then some rk else if o = 3 then some rv else if o = 4 then some rt else if o = 5 then some acc
  else if o = 14 then ((ks[0]?).bind (valF rk rv rt acc d)).map fun a => w64 (-a)
  else if o = 13 then ((ks[0]?).bind (valF rk rv rt acc d)).bind fun a => if a = 0 then (ks[2]?).bind (valF rk rv rt acc d) else (ks[1]?).bind (valF rk rv rt acc d)
  else ((ks[0]?).bind (valF rk rv rt acc d)).bind fun a => ((ks[1]?).bind (valF rk rv rt acc d)).bind fun b => combX o a b
def okX (d : Nat) (e : Ex) : Prop := ∃ room c, cnt d room e = some c
theorem cntL_mem {f : Nat → Ex → Option Nat} {room : Nat} : ∀ {m : Nat} {l : List Ex} {c : Nat}, cntL f room m l = some c → ∀ k ∈ l, ∃ q c, f q k = some c
 | m, [], c, h, k, hk => by simp at hk
 | m, a :: r, c, h, k, hk => by
  unfold cntL at h
  split at h
  ·rename_i d hd
   rcases List.mem_cons.1 hk with rfl | hk
   ·exact ⟨_, _, hd⟩
   ·exact cntL_mem h k hk
  ·cases h
theorem okX.fits {d : Nat} {e : Ex} (h : okX (d + 1) e) : fitsX e = true ∧ ∀ k ∈ e.ks, okX d k := by
 obtain ⟨room, c, h⟩ := h
 unfold cnt at h
 split at h
 ·cases h
 ·rename_i hn
  refine ⟨?_, fun k hk => cntL_mem h k hk⟩
  cases hf : fitsX e <;> simp_all
theorem okX.zero {e : Ex} (h : okX 0 e) : False := by
 obtain ⟨room, c, h⟩ := h
 simp [cnt] at h
theorem fits_len {o n : Int} {ks : List Ex} (h : fitsX (.mk o n ks) = true) : (ks.length : Int) = kidsN.getD o.toNat 0 ∧ 1 ≤ o ∧ o ≤ 16 := by
 simp only [fitsX, Bool.and_eq_true, Bool.or_eq_true, decide_eq_true_eq] at h
 exact ⟨h.2.1, h.1⟩
end Go.Proofs.YtfcjehlhoebmnaaGreatDoor.Pk
namespace Go.Proofs.YtfcjehlhoebmnaaGreatDoor.Pk
open Go Go.Proofs Go.Proofs.YtfcjehlhoebmnaaGreatDoor.Ab
set_option linter.unusedVariables false
set_option linter.unusedSimpArgs false
set_option maxRecDepth 10000
mutual
def encB : Ex → List Nat
 | .mk o n l => enc o.toNat ++ (if o = 1 then enc (zz n) else []) ++ encBL l
def encBL : List Ex → List Nat
 | [] => []
 | k :: r => encB k ++ encBL r
end
theorem encBL_eq : ∀ l : List Ex, encBL l = l.flatMap encB
 | [] => by rw [encBL]; rfl
 | k :: r => by rw [encBL, encBL_eq r]; rfl
theorem encB_eq (o n : Int) (l : List Ex) : encB (.mk o n l) = enc o.toNat ++ (if o = 1 then enc (zz n) else []) ++ l.flatMap encB := by rw [encB, encBL_eq]
theorem szL_append : ∀ a b : List Ex, szL (a ++ b) = szL a + szL b
 | [], b => by rw [List.nil_append, szL]; omega
 | k :: a, b => by rw [List.cons_append, szL, szL, szL_append a b]; omega
theorem szL_at {l : List Ex} {i : Nat} (hi : i < l.length) : szL (l.take i) + szE l[i] ≤ szL l := by
 have h1 := szL_drop hi
 have h2 := szL_append (l.take (i + 1)) (l.drop (i + 1))
 rw [List.take_append_drop] at h2
 omega
theorem flat_len20 : ∀ l : List Ex, (∀ k ∈ l, (encB k).length ≤ 20 * szE k) → (l.flatMap encB).length ≤ 20 * szL l
 | [], _ => Nat.zero_le _
 | k :: r, h => by
  have h1 := h k (by simp)
  have h2 := flat_len20 r fun x hx => h x (by simp [hx])
  rw [List.flatMap_cons, List.length_append, szL]
  omega
theorem encB_len : ∀ (s : Nat) (e : Ex), szE e = s → OkE e → (encB e).length ≤ 20 * szE e := by
 intro s
 induction s using Nat.strongRecOn with
 | _ s ih =>
 intro e hs hok
 have hk : ∀ k ∈ e.ks, (encB k).length ≤ 20 * szE k := fun k hk => ih (szE k) (by have := szE_kid k hk; omega) k rfl (hok.kid k hk)
 cases hok with
 | mk o n l hl hh ho hn =>
  have h1 := enc_le o.toNat (by omega)
  have h2 := enc_le (zz n) (zz_lt n hn.1 hn.2)
  have h3 := flat_len20 l hk
  rw [encB_eq, List.length_append, List.length_append, szE]
  split
  ·omega
  ·simp only [List.length_nil]; omega
theorem ex_cells (e : Ex) : (V.agg (encE e)).cells = some (encE e) := rfl
theorem ex_st (e : Ex) : setC (some 3) (AObj.cells [V.int .i64 0, V.int .i64 0, V.snil] 88 none) 0 (encE e) = some (.cells (encE e) 88 none) := by cases e; rfl
theorem ex_ldc (e : Ex) : (if 3 ≤ (encE e).length then some (V.agg (List.take 3 (encE e))) else none) = some (.agg (encE e)) := by cases e; rfl
theorem ex_d0 (o n : Int) (ks : List Ex) : dropC (AObj.cells (encE (.mk o n ks)) 88 none) 0 = some [.int .i64 o, .int .i64 n, .imm ks.length (ks.flatMap encE)] := by rw [encE_eq]; rfl
theorem ex_d1 (o n : Int) (ks : List Ex) : dropC (AObj.cells (encE (.mk o n ks)) 88 none) 1 = some [.int .i64 n, .imm ks.length (ks.flatMap encE)] := by rw [encE_eq]; rfl
theorem ex_d2 (o n : Int) (ks : List Ex) : dropC (AObj.cells (encE (.mk o n ks)) 88 none) 2 = some [.imm ks.length (ks.flatMap encE)] := by rw [encE_eq]; rfl
theorem ex_lr (A : Ex) (q : List V) : loadGo (some (some 3)) (some (encE A ++ q)) = some (.agg (encE A)) := load_row (encE_len A)
set_option maxHeartbeats 2000000 in
set_option maxRecDepth 10000 in
theorem pEncode : ∀ (d : Nat) (e : Ex) (h : AHeap) (x : V) (cs : List Nat), okX d e → OkE e → Rd h x cs → cs.length + 20 * szE e ≤ 2 ^ 40 → Pure Tryz.prog 102 [x, .agg (encE e)] h (.imm (cs ++ encB e).length (bytesV (cs ++ encB e)))
 | 0, e, h, x, cs, hd, _, _, _ => hd.zero.elim
 | d + 1, e, h, x, cs, hd, hok, rd, hb => by
  obtain ⟨hf, hkd⟩ := hd.fits
  have hkok := hok.kid
  have hks : ∀ k ∈ e.ks, (encB k).length ≤ 20 * szE k := fun k hk => encB_len _ k rfl (hkok k hk)
  obtain ⟨o, n, ks⟩ := e
  obtain ⟨_, ho1, ho2⟩ := fits_len hf
  have hn : -2 ^ 63 ≤ n ∧ n < 2 ^ 63 := by cases hok; assumption
  have hlen := hok.len
  simp only [Ex.ks] at hkd hkok hlen hks
  obtain ⟨k, rfl⟩ : ∃ k : Nat, o = k := ⟨o.toNat, by omega⟩
  have hz := enc_le (zz n) (zz_lt n hn.1 hn.2)
  have hz2 := enc_le k (by omega)
  rw [szE] at hb
  refine Pure.val (Clo.imm (bytesV_clo _)) ?_
  obtain ⟨mid, hmid⟩ : ∃ m, m = cs ++ enc k ++ (if (k : Int) = 1 then enc (zz n) else []) := ⟨_, rfl⟩
  have hfin : cs ++ encB (.mk k n ks) = mid ++ ks.flatMap encB := by rw [hmid, encB_eq]; simp
  have hml : mid.length ≤ cs.length + 20 := by
   rw [hmid, List.length_append, List.length_append]
   split
   ·omega
   ·simp only [List.length_nil]; omega
  rw [hfin]
  refine SCalls.enterI (c := _) Tryz.func102 rfl (by kernel_rfl) (by simp) ?_
  have hc := ex_cells (.mk k n ks)
  have hd0 := ex_d0 k n ks
  have hd1 := ex_d1 k n ks
  have hd2 := ex_d2 k n ks
  have wk : IntKind.u64.wrap (k : Int) = (k : Int) := nat_u64 (by omega)
  obtain ⟨H, hH⟩ : ∃ y, y = h.push (.cells (encE (.mk k n ks)) 88 none) := ⟨_, rfl⟩
  have gH : H.get h.n = .cells (encE (.mk k n ks)) 88 none := by rw [hH]; exact get_push_new
  have kH : Keep h H none_ := by rw [hH]; exact Keep.push _ _ _
  simp only [wpA_region, wpA_seq, seqQ_normal, goI_out, goI_ops, opsA_nil, opsA_cons, stepA_move, stepA_assign, stepA_box, stepA_load, stepA_convert, stepA_fieldAddr, stepA_call, thenV_some, thenC_some, thenH_some, eval_tmp, eval_const, put_some, enterF_zero, enterF_succ, absV_snil, aField_eq, fieldGo_ptr, aLoad_eq, loadGo_one, aPlace_ptr, aBox_eq, get_push_new, Nat.reduceEqDiff, reduceCtorEq, List.map_cons, List.map_nil, Option.map_some, Nat.add_zero, if_true, if_false, ft_88_0, lt_3, hc, hd0, aConv_int it_3 it_108, wk]
  rw [← hH]
  clear hH
  refine callI_pure cal62 (pUint x cs k H (rd.keep kH) (by omega) (by omega)) ?_
  by_cases h1 : (k : Int) = 1
  ·have c1 : ((k : Int) == 1) = true := by simpa using h1
   have m1 : cs ++ enc k ++ enc (zz n) = mid := by rw [hmid, if_pos h1]
   simp only [wpA_region, wpA_seq, wpA_cond, condI_true, seqQ_normal, goI_out, goI_ops, opsA_nil, opsA_cons, stepA_move, stepA_assign, stepA_load, stepA_binOp, stepA_fieldAddr, stepA_call, thenV_some, eval_tmp, eval_const, put_some, enterF_zero, enterF_succ, aBin_eql, absV_int, aField_eq, fieldGo_ptr, aLoad_eq, loadGo_one, aPlace_ptr, Nat.reduceEqDiff, reduceCtorEq, List.map_cons, List.map_nil, Nat.add_zero, Nat.zero_add, if_true, if_false, ft_88_0, ft_88_1, lt_2, lt_3, gH, hd0, hd1, c1]
   refine callI_pure cal64 (pInt _ (cs ++ enc k) n H (Rd.imm _ _) (by rw [List.length_append]; omega) hn.1 hn.2) ?_
   rw [m1]
   simp only [wpA_region, wpA_seq, wpA_block, wpA_loop, seqQ_normal, goI_out, goI_ops, opsA_nil, opsA_cons, stepA_move, stepA_assign, stepA_load, stepA_fieldAddr, stepA_len, thenV_some, eval_tmp, eval_const, put_some, enterF_succ, absV_int, aField_eq, fieldGo_ptr, aLoad_eq, loadGo_one, aPlace_ptr, aLen_imm, Nat.reduceEqDiff, reduceCtorEq, Nat.zero_add, if_true, if_false, ft_88_2, kt_86, lt_86, gH, hd2]
   refine SWp.loopG (α := Nat) (fun i f h' => f 0 = .imm (mid ++ (ks.take i).flatMap encB).length (bytesV (mid ++ (ks.take i).flatMap encB)) ∧ f 20 = .imm ks.length (ks.flatMap encE) ∧ f 21 = .int .i64 ((ks.length : Nat) : Int) ∧ f 22 = .int .i64 (i : Nat) ∧ i ≤ ks.length ∧ Keep h h' none_) (fun i => ks.length - i) 0
    ⟨(show V.imm _ _ = _ by simp), rfl, rfl, rfl, Nat.zero_le _, kH⟩ ?_
   rintro i f h1 ⟨f0, f20, f21, f22, hi, k1⟩
   refine wpI_sound (by kernel_rfl) ?_
   by_cases hlt : i < ks.length
   ·have d1 : decide ((i : Int) < ((ks.length : Nat) : Int)) = true := decide_eq_true (by omega)
    have hw : IntKind.i64.wrap (((i : Nat) : Int) + 1) = ((i + 1 : Nat) : Int) := by rw [Go.IntWalk.i64_in _ (by omega)]; omega
    have x1 := ex_ix (kk := .i64) hlt
    have hsz := szL_at hlt
    have hfl := flat_len20 (ks.take i) fun k hk => hks k (List.mem_of_mem_take hk)
    have ht1 : (ks.take (i + 1)).flatMap encB = (ks.take i).flatMap encB ++ encB ks[i] := by rw [List.take_succ_eq_append_getElem hlt, List.flatMap_append]; simp
    have hAm : ks[i] ∈ ks := List.getElem_mem hlt
    generalize ks[i] = A at x1 hsz ht1 hAm
    have hA1 := hkd A hAm
    have hA2 := hkok A hAm
    have lr := ex_lr A
    have cA := ex_cells A
    have st := ex_st A
    have ldc := ex_ldc A
    have hl0 : (mid ++ (ks.take i).flatMap encB).length = mid.length + ((ks.take i).flatMap encB).length := List.length_append
    simp only [wpA_skip, wpA_region, wpA_seq, wpA_cond, wpA_block, condI_true, seqQ_normal, goI_out, goI_ops, opsA_nil, opsA_cons, stepA_move, stepA_alloc, stepA_load, stepA_store, stepA_binOp, stepA_indexAddr, stepA_call, thenV_some, thenH_some, thenS_some, eval_tmp, put_some, put_none, aBin_lss, aLoad_eq, loadGo_row, aPlace_ptr, aPlace_at, dropC_cells, aStore_eq, storeGo_ptr, aAlloc_eq, get_push_new, set_push, Nat.reduceEqDiff, reduceCtorEq, List.map_cons, List.map_nil, Option.map_some, Nat.zero_le, List.drop_zero, if_true, if_false, lt_88, zc_88, zt_88, f0, f20, f21, f22, d1, x1, lr, cA, st, ldc]
    refine callI_pure cal102 (pEncode d A _ _ _ hA1 hA2 (Rd.imm _ _) (by omega)) ?_
    rw [List.append_assoc, ← ht1]
    simp only [wpA_region, seqQ_normal, blkQ_normal, endI_mk, andThen_normal, goI_out, goI_ops, opsA_nil, opsA_cons, stepA_move, stepA_assign, stepA_binOp, thenV_some, eval_tmp, eval_const, put_some, put_none, aBin_add, absV_int, Nat.reduceEqDiff, reduceCtorEq, if_true, if_false, f22, hw]
    exact hid_mk ⟨i + 1, ⟨rfl, f20, f21, rfl, hlt, k1.then_push _⟩, by omega⟩
   ·have d1 : decide ((i : Int) < ((ks.length : Nat) : Int)) = false := decide_eq_false (by omega)
    rw [List.take_of_length_le (by omega)] at f0
    simp only [wpA_region, wpA_seq, wpA_cond, wpA_exit, wpA_ret, condI_false, seqQ_normal, seqQ_exit, blkQ_exit, endI_mk, goE, andThen_exit, goI_out, goI_ops, opsA_nil, opsA_cons, stepA_move, stepA_assign, stepA_binOp, thenV_some, eval_tmp, put_some, aBin_lss, Nat.reduceEqDiff, reduceCtorEq, if_true, if_false, f0, f21, f22, d1, retA_ret, Tryz.results102, resultsA_1]
    exact hid_mk ⟨rfl, k1⟩
  ·have c1 : ((k : Int) == 1) = false := by simpa using h1
   have m1 : cs ++ enc k = mid := by rw [hmid, if_neg h1, List.append_nil]
   rw [m1]
   simp only [wpA_skip, wpA_region, wpA_seq, wpA_cond, wpA_block, wpA_loop, condI_false, seqQ_normal, goI_out, goI_ops, opsA_nil, opsA_cons, stepA_move, stepA_assign, stepA_load, stepA_binOp, stepA_fieldAddr, stepA_len, thenV_some, eval_tmp, eval_const, put_some, enterF_succ, aBin_eql, absV_int, aField_eq, fieldGo_ptr, aLoad_eq, loadGo_one, aPlace_ptr, aLen_imm, Nat.reduceEqDiff, reduceCtorEq, Nat.add_zero, Nat.zero_add, if_true, if_false, ft_88_0, ft_88_2, kt_86, lt_3, lt_86, gH, hd0, hd2, c1]
   refine SWp.loopG (α := Nat) (fun i f h' => f 0 = .imm (mid ++ (ks.take i).flatMap encB).length (bytesV (mid ++ (ks.take i).flatMap encB)) ∧ f 20 = .imm ks.length (ks.flatMap encE) ∧ f 21 = .int .i64 ((ks.length : Nat) : Int) ∧ f 22 = .int .i64 (i : Nat) ∧ i ≤ ks.length ∧ Keep h h' none_) (fun i => ks.length - i) 0
    ⟨(show V.imm _ _ = _ by simp), rfl, rfl, rfl, Nat.zero_le _, kH⟩ ?_
   rintro i f h1 ⟨f0, f20, f21, f22, hi, k1⟩
   refine wpI_sound (by kernel_rfl) ?_
   by_cases hlt : i < ks.length
   ·have d1 : decide ((i : Int) < ((ks.length : Nat) : Int)) = true := decide_eq_true (by omega)
    have hw : IntKind.i64.wrap (((i : Nat) : Int) + 1) = ((i + 1 : Nat) : Int) := by rw [Go.IntWalk.i64_in _ (by omega)]; omega
    have x1 := ex_ix (kk := .i64) hlt
    have hsz := szL_at hlt
    have hfl := flat_len20 (ks.take i) fun k hk => hks k (List.mem_of_mem_take hk)
    have ht1 : (ks.take (i + 1)).flatMap encB = (ks.take i).flatMap encB ++ encB ks[i] := by rw [List.take_succ_eq_append_getElem hlt, List.flatMap_append]; simp
    have hAm : ks[i] ∈ ks := List.getElem_mem hlt
    generalize ks[i] = A at x1 hsz ht1 hAm
    have hA1 := hkd A hAm
    have hA2 := hkok A hAm
    have lr := ex_lr A
    have cA := ex_cells A
    have st := ex_st A
    have ldc := ex_ldc A
    have hl0 : (mid ++ (ks.take i).flatMap encB).length = mid.length + ((ks.take i).flatMap encB).length := List.length_append
    simp only [wpA_skip, wpA_region, wpA_seq, wpA_cond, wpA_block, condI_true, seqQ_normal, goI_out, goI_ops, opsA_nil, opsA_cons, stepA_move, stepA_alloc, stepA_load, stepA_store, stepA_binOp, stepA_indexAddr, stepA_call, thenV_some, thenH_some, thenS_some, eval_tmp, put_some, put_none, aBin_lss, aLoad_eq, loadGo_row, aPlace_ptr, aPlace_at, dropC_cells, aStore_eq, storeGo_ptr, aAlloc_eq, get_push_new, set_push, Nat.reduceEqDiff, reduceCtorEq, List.map_cons, List.map_nil, Option.map_some, Nat.zero_le, List.drop_zero, if_true, if_false, lt_88, zc_88, zt_88, f0, f20, f21, f22, d1, x1, lr, cA, st, ldc]
    refine callI_pure cal102 (pEncode d A _ _ _ hA1 hA2 (Rd.imm _ _) (by omega)) ?_
    rw [List.append_assoc, ← ht1]
    simp only [wpA_region, seqQ_normal, blkQ_normal, endI_mk, andThen_normal, goI_out, goI_ops, opsA_nil, opsA_cons, stepA_move, stepA_assign, stepA_binOp, thenV_some, eval_tmp, eval_const, put_some, put_none, aBin_add, absV_int, Nat.reduceEqDiff, reduceCtorEq, if_true, if_false, f22, hw]
    exact hid_mk ⟨i + 1, ⟨rfl, f20, f21, rfl, hlt, k1.then_push _⟩, by omega⟩
   ·have d1 : decide ((i : Int) < ((ks.length : Nat) : Int)) = false := decide_eq_false (by omega)
    rw [List.take_of_length_le (by omega)] at f0
    simp only [wpA_region, wpA_seq, wpA_cond, wpA_exit, wpA_ret, condI_false, seqQ_normal, seqQ_exit, blkQ_exit, endI_mk, goE, andThen_exit, goI_out, goI_ops, opsA_nil, opsA_cons, stepA_move, stepA_assign, stepA_binOp, thenV_some, eval_tmp, put_some, aBin_lss, Nat.reduceEqDiff, reduceCtorEq, if_true, if_false, f0, f21, f22, d1, retA_ret, Tryz.results102, resultsA_1]
    exact hid_mk ⟨rfl, k1⟩
theorem mayX_ok {e : Ex} (hm : mayX e = true) : okX 16 e := by
 unfold mayX at hm
 cases hc : cnt 16 64 e with
 | none => rw [hc] at hm; cases hm
 | some c => exact ⟨64, c, hc⟩
def bytX (e : Ex) : List Nat := if mayX e = true then encB e else []
def bytV (e : Ex) : V := .tuple [.imm (bytX e).length (bytesV (bytX e)), .int .i64 (if mayX e = true then 0 else 1)]
theorem bytV_clo (e : Ex) : Clo (bytV e) := Clo.tuple (CloL.cons (Clo.imm (bytesV_clo _)) (CloL.cons (Clo.int _ _) CloL.nil))
theorem mayX_sz {e : Ex} (h : mayX e = true) : szE e ≤ 64 := by
 unfold mayX at h
 rw [cnt_eq] at h
 split at h
 ·rename_i hh; exact hh.2
 ·cases h
set_option maxRecDepth 10000 in
theorem pBytesX (e : Ex) (hok : OkE e) (h : AHeap) (hg : KG h) : Pure Tryz.prog 65 [.agg (encE e)] h (bytV e) := by
 refine Pure.of (bytV_clo e) ?_
 refine SCalls.enterI (c := _) Tryz.func65 rfl (by kernel_rfl) (by simp) ?_
 have hc := ex_cells e
 have ldc := ex_ldc e
 have hdr : dropC (AObj.cells (encE e) 88 none) 0 = some (encE e) := by cases e; rfl
 have hld : loadGo (some (some 3)) (some (encE e)) = some (.agg (encE e)) := by cases e; rfl
 have hg1 : ∀ a, KG (h.push a) := fun a => by unfold KG; rw [push_glob]; exact hg
 simp only [wpA_region, wpA_seq, seqQ_normal, goI_out, goI_ops, opsA_nil, opsA_cons, stepA_assign, stepA_box, stepA_load, stepA_call, thenV_some, thenH_some, eval_tmp, eval_const, put_some, enterF_zero, enterF_succ, absV_int, absV_snil, aLoad_eq, aPlace_ptr, aBox_eq, get_push_new, Nat.reduceEqDiff, List.map_cons, List.map_nil, Option.map_some, if_true, if_false, lt_88, hc, hdr, hld]
 refine callI_pure cal101 (pMay e _ (hg1 _)) ?_
 unfold bytV bytX
 cases hm : mayX e
 ·simp only [wpA_region, wpA_seq, wpA_cond, wpA_ret, condI_true, seqQ_normal, seqQ_ret, endI_mk, goI_out, goI_ops, opsA_nil, opsA_cons, stepA_assign, stepA_unOp, thenV_some, eval_tmp, eval_const, put_some, enterF_succ, aUn_not, absV_int, absV_snil, Nat.reduceEqDiff, if_true, if_false, Bool.not_false, retA_ret, Tryz.results65, resultsA_2]
  exact hid_mk ⟨_, Cast.tuple (CastL.cons (Cast.snil0 _) (CastL.refl _ _)), Keep.push _ _ _⟩
 ·have hsz := mayX_sz hm
  simp only [wpA_skip, wpA_region, wpA_seq, wpA_cond, condI_false, seqQ_normal, goI_out, goI_ops, opsA_nil, opsA_cons, stepA_load, stepA_unOp, stepA_call, thenV_some, eval_tmp, eval_const, put_some, enterF_succ, aUn_not, absV_snil, aLoad_eq, aPlace_ptr, get_push_new, Nat.reduceEqDiff, List.map_cons, List.map_nil, if_true, if_false, Bool.not_true, lt_88, hdr, hld]
  refine callI_pure cal102 (pEncode 16 e _ .snil [] (mayX_ok hm) hok (Rd.snil _) (by simp only [List.length_nil]; omega)) ?_
  simp only [wpA_ret, seqQ_normal, endI_mk, goI_out, goI_ops, opsA_nil, opsA_cons, stepA_assign, eval_tmp, eval_const, put_some, enterF_succ, absV_int, Nat.reduceEqDiff, List.nil_append, if_true, if_false, retA_ret, Tryz.results65, resultsA_2]
  exact hid_mk ⟨_, Cast.refl _ _, Keep.push _ _ _⟩
end Go.Proofs.YtfcjehlhoebmnaaGreatDoor.Pk
namespace Go.Proofs.YtfcjehlhoebmnaaGreatDoor.Pk
open Go Go.Proofs Go.Proofs.YtfcjehlhoebmnaaGreatDoor.Ab
set_option linter.unusedVariables false
set_option linter.unusedSimpArgs false
set_option maxRecDepth 10000
abbrev GR := Except Nat (Ex × List Nat × Nat)
def kidsG (f : Nat → List Nat → GR) : Nat → Nat → List Nat → Except Nat (List Ex × List Nat × Nat)
 | 0, left, bs => .ok ([], bs, left)
 | m + 1, left, bs => match f left bs with
  | .error e => .error e
  | .ok (k, bs', left') => match kidsG f m left' bs' with
   | .error e => .error e
   | .ok (ks, r) => .ok (k :: ks, r)
def getX : Nat → Nat → List Nat → GR
 | 0, _, _ => .error 11
 | d + 1, left, bs =>
  if left = 0 then .error 11
  else if (dec bs 0 0).2.2 ≠ 0 then .error (dec bs 0 0).2.2
  else if (dec bs 0 0).1 < 1 ∨ 16 < (dec bs 0 0).1 then .error 5
  else if (dec bs 0 0).1 = 1 then
   if (dec (bs.drop (dec bs 0 0).2.1) 0 0).2.2 ≠ 0 then .error (dec (bs.drop (dec bs 0 0).2.1) 0 0).2.2
   else .ok (.mk 1 (unz (dec (bs.drop (dec bs 0 0).2.1) 0 0).1) [], (bs.drop (dec bs 0 0).2.1).drop (dec (bs.drop (dec bs 0 0).2.1) 0 0).2.1, left - 1)
  else match kidsG (getX d) (kidsR (dec bs 0 0).1).toNat (left - 1) (bs.drop (dec bs 0 0).2.1) with
   | .error e => .error e
   | .ok (ks, r) => .ok (.mk (dec bs 0 0).1 0 ks, r)
theorem zz_unz (n : Nat) (hn : n < 2 ^ 64) : zz (unz n) = n := by
 unfold zz unz
 split <;> split <;> omega
theorem dec_ok {bs : List Nat} (hb : ∀ b ∈ bs, b < 256) (h : (dec bs 0 0).2.2 = 0) : bs = enc (dec bs 0 0).1 ++ bs.drop (dec bs 0 0).2.1 ∧ (dec bs 0 0).1 < 2 ^ 64 := by
 refine ⟨?_, dec_lt bs 0 0 (by omega) (by decide) hb⟩
 obtain ⟨h1, x, h2, h3, _⟩ := dec_enc bs 0 0 (dec bs 0 0).1 (dec bs 0 0).2.1 hb (Prod.ext rfl (Prod.ext rfl h))
 have hx : x = (dec bs 0 0).1 := by rw [h2]; simp
 rw [hx, Nat.sub_zero] at h3
 rw [← h3, List.take_append_drop]
structure Got (d left : Nat) (bs : List Nat) (e : Ex) (bs' : List Nat) (left' : Nat) : Prop where
 by_ : bs = encB e ++ bs'
 sz : left' + szE e = left
 deep : deepX d e = true
 ok : OkE e
theorem kidsG_sound {d : Nat} {f : Nat → List Nat → GR} (hf : ∀ left bs, (∀ b ∈ bs, b < 256) → ∀ e bs' left', f left bs = .ok (e, bs', left') → Got d left bs e bs' left') :
  ∀ (m left : Nat) (bs : List Nat), (∀ b ∈ bs, b < 256) → ∀ ks bs' left', kidsG f m left bs = .ok (ks, bs', left') → ks.length = m ∧ bs = ks.flatMap encB ++ bs' ∧ left' + szL ks = left ∧ (∀ k ∈ ks, deepX d k = true) ∧ ∀ k ∈ ks, OkE k
 | 0, left, bs, hb, ks, bs', left', h => by
  simp only [kidsG, Except.ok.injEq, Prod.mk.injEq] at h
  obtain ⟨rfl, rfl, rfl⟩ := h
  exact ⟨rfl, rfl, by simp [szL], by simp, by simp⟩
 | m + 1, left, bs, hb, ks, bs', left', h => by
  unfold kidsG at h
  split at h
  ·cases h
  ·rename_i k bs1 l1 hk
   have g := hf left bs hb k bs1 l1 hk
   have hb1 : ∀ b ∈ bs1, b < 256 := fun b hbm => hb b (by rw [g.by_]; simp [hbm])
   split at h
   ·cases h
   ·rename_i ks2 r hks
    obtain ⟨bs2, l2⟩ := r
    simp only [Except.ok.injEq, Prod.mk.injEq] at h
    obtain ⟨rfl, rfl, rfl⟩ := h
    obtain ⟨h1, h2, h3, h4, h5⟩ := kidsG_sound hf m l1 bs1 hb1 ks2 bs2 l2 hks
    refine ⟨by simp [h1], ?_, ?_, ?_, ?_⟩
    ·rw [g.by_, h2]; simp
    ·rw [szL]; have := g.sz; omega
    ·intro x hx
     rcases List.mem_cons.1 hx with rfl | hx
     ·exact g.deep
     ·exact h4 x hx
    ·intro x hx
     rcases List.mem_cons.1 hx with rfl | hx
     ·exact g.ok
     ·exact h5 x hx
theorem kidsR_le (o : Int) : 0 ≤ kidsR o ∧ kidsR o ≤ 3 := by unfold kidsR; split <;> (try split) <;> (try split) <;> omega
theorem getX_sound : ∀ (d left : Nat) (bs : List Nat), (∀ b ∈ bs, b < 256) → ∀ e bs' left', getX d left bs = .ok (e, bs', left') → Got d left bs e bs' left'
 | 0, left, bs, hb, e, bs', left', h => by simp [getX] at h
 | d + 1, left, bs, hb, e, bs', left', h => by
  unfold getX at h
  split at h
  ·cases h
  rename_i hl
  split at h
  ·cases h
  rename_i he
  split at h
  ·cases h
  rename_i hr
  obtain ⟨hd, hlt⟩ := dec_ok hb (by simpa using he)
  have hb1 : ∀ b ∈ bs.drop (dec bs 0 0).2.1, b < 256 := fun b hbm => hb b (List.mem_of_mem_drop hbm)
  generalize (dec bs 0 0).1 = o at *
  generalize bs.drop (dec bs 0 0).2.1 = bs1 at *
  split at h
  ·rename_i ho
   split at h
   ·cases h
   rename_i he2
   obtain ⟨hd2, hlt2⟩ := dec_ok hb1 (by simpa using he2)
   simp only [Except.ok.injEq, Prod.mk.injEq] at h
   obtain ⟨rfl, rfl, rfl⟩ := h
   have hu := unz_range _ hlt2
   refine ⟨?_, by simp only [szE, szL]; omega, ?_, .mk _ _ _ (by simp) (by simp) (by omega) hu⟩
   ·rw [encB_eq, if_pos rfl, zz_unz _ hlt2]
    conv => lhs; rw [hd, hd2, ho]
    simp
   ·simp [deepX, fitsX, kidsN, Ex.ks]
  ·rename_i ho
   split at h
   ·cases h
   rename_i ks r hk
   obtain ⟨bs2, l2⟩ := r
   simp only [Except.ok.injEq, Prod.mk.injEq] at h
   obtain ⟨rfl, rfl, rfl⟩ := h
   obtain ⟨h1, h2, h3, h4, h5⟩ := kidsG_sound (getX_sound d) _ _ _ hb1 ks bs2 l2 hk
   have hkr := kidsR_le (o : Int)
   have hke := kidsR_eq (o := (o : Int)) (by omega) (by omega)
   refine ⟨?_, by rw [szE]; omega, ?_, .mk _ _ _ (by omega) h5 (by omega) (by omega)⟩
   ·rw [encB_eq, if_neg (by omega)]
    conv => lhs; rw [hd, h2]
    simp
   ·have hfit : fitsX (.mk (o : Int) 0 ks) = true := by
     simp only [fitsX, Bool.and_eq_true, Bool.or_eq_true, decide_eq_true_eq]
     exact ⟨⟨by omega, by omega⟩, by rw [hke]; omega, by simp⟩
    rw [deepX, hfit, Bool.true_and, List.all_eq_true]
    exact h4
theorem kidsG_comp {d : Nat} {f : Nat → List Nat → GR} (r : List Nat) : ∀ (ks : List Ex) (left : Nat), (∀ k ∈ ks, ∀ left r, szE k ≤ left → f left (encB k ++ r) = .ok (k, r, left - szE k)) → szL ks ≤ left → kidsG f ks.length left (ks.flatMap encB ++ r) = .ok (ks, r, left - szL ks)
 | [], left, _, _ => by simp [kidsG, szL]
 | k :: ks, left, hf, hl => by
  rw [szL] at hl
  rw [List.length_cons, kidsG, List.flatMap_cons, List.append_assoc, hf k (by simp) left _ (by omega)]
  simp only
  rw [kidsG_comp (d := d) r ks (left - szE k) (fun x hx => hf x (by simp [hx])) (by omega)]
  simp only [szL, Nat.sub_sub]
theorem getX_comp : ∀ (d left : Nat) (e : Ex) (r : List Nat), deepX d e = true → OkE e → szE e ≤ left → getX d left (encB e ++ r) = .ok (e, r, left - szE e)
 | 0, left, e, r, hd, _, _ => by simp [deepX] at hd
 | d + 1, left, e, r, hd, hok, hl => by
  have hkok := hok.kid
  rw [deepX, Bool.and_eq_true, List.all_eq_true] at hd
  obtain ⟨hf, hk⟩ := hd
  obtain ⟨o, n, ks⟩ := e
  obtain ⟨h1, h2, h3⟩ := fits_len hf
  have hn : -2 ^ 63 ≤ n ∧ n < 2 ^ 63 := by cases hok; assumption
  obtain ⟨o, rfl⟩ : ∃ k : Nat, o = k := ⟨o.toNat, by omega⟩
  have hke := kidsR_eq (o := (o : Int)) (by omega) (by omega)
  simp only [Ex.ks] at hk hkok
  rw [szE] at hl ⊢
  have hnn : n = 0 ∨ o = 1 := by
   simp only [fitsX, Bool.and_eq_true, Bool.or_eq_true, decide_eq_true_eq] at hf
   omega
  rw [encB_eq, Int.toNat_natCast]
  unfold getX
  rw [if_neg (by omega)]
  by_cases ho : o = 1
  ·subst ho
   have hks : ks = [] := by
    have : kidsN.getD (((1 : Nat) : Int)).toNat 0 = 0 := by decide
    rw [this] at h1
    exact List.eq_nil_of_length_eq_zero (by omega)
   subst hks
   have e1 : enc 1 ++ (if (((1 : Nat) : Int)) = 1 then enc (zz n) else []) ++ ([] : List Ex).flatMap encB ++ r = enc 1 ++ (enc (zz n) ++ r) := by simp
   rw [e1, dec_app 1 (by decide)]
   simp only [List.drop_left, ne_eq, not_true, if_false]
   rw [if_neg (by omega), dec_app (zz n) (zz_lt n hn.1 hn.2)]
   simp [unz_zz, szL]
  ·have hn0 : n = 0 := by omega
   subst hn0
   have e1 : enc o ++ (if ((o : Nat) : Int) = 1 then enc (zz 0) else []) ++ ks.flatMap encB ++ r = enc o ++ (ks.flatMap encB ++ r) := by rw [if_neg (by omega)]; simp
   rw [e1, dec_app o (by omega)]
   simp only [List.drop_left, ne_eq, not_true, if_false]
   rw [if_neg (by omega), if_neg ho]
   have hm : (kidsR (o : Int)).toNat = ks.length := by rw [← hke, ← h1]; simp
   rw [hm, kidsG_comp (d := d) r ks (left - 1) (fun k hkm left r hle => getX_comp d left k r (hk k hkm) (hkok k hkm) hle) (by omega)]
   simp only [Nat.sub_sub]
   rw [Nat.add_comm]
end Go.Proofs.YtfcjehlhoebmnaaGreatDoor.Pk
namespace Go.Proofs.YtfcjehlhoebmnaaGreatDoor.Pk
open Go Go.Proofs Go.Proofs.YtfcjehlhoebmnaaGreatDoor.Ab
set_option linter.unusedVariables false
set_option linter.unusedSimpArgs false
set_option maxRecDepth 10000
theorem kidsG_err {f : Nat → List Nat → GR} (hf : ∀ l b c, f l b = .error c → c ≠ 0) : ∀ (m l : Nat) (b : List Nat) (c : Nat), kidsG f m l b = .error c → c ≠ 0
 | 0, l, b, c, h => by simp [kidsG] at h
 | m + 1, l, b, c, h => by
  unfold kidsG at h
  split at h
  ·rename_i e he
   cases h
   exact hf _ _ _ he
  ·split at h
   ·rename_i e he
    cases h
    exact kidsG_err hf _ _ _ _ he
   ·cases h
theorem getX_err : ∀ (d l : Nat) (b : List Nat) (c : Nat), getX d l b = .error c → c ≠ 0
 | 0, l, b, c, h => by simp [getX] at h; omega
 | d + 1, l, b, c, h => by
  unfold getX at h
  split at h
  ·cases h; omega
  split at h
  ·cases h; assumption
  split at h
  ·cases h; omega
  split at h
  ·split at h
   ·cases h; assumption
   ·cases h
  ·split at h
   ·rename_i e he
    cases h
    exact kidsG_err (getX_err d) _ _ _ _ he
   ·cases h
def IsDec (h : AHeap) (di ri : Nat) (bs : List Nat) (begun : Nat) : Prop := di < h.n ∧ h.get di = .cells [.ptr ri 0, .int .i64 (begun : Nat)] 246 none ∧ IsRd h (.ptr ri 0) ri bs ∧ di ≠ ri
theorem IsDec.keep {h h' : AHeap} {di ri : Nat} {bs : List Nat} {begun : Nat} {own : Nat → Prop} (w : IsDec h di ri bs begun) (k : Keep h h' own) (h1 : ¬ own di) (h2 : ¬ own ri) : IsDec h' di ri bs begun :=
 ⟨Nat.lt_of_lt_of_le w.1 k.n, (k.get di w.1 h1).trans w.2.1, IsRd.keep w.2.2.1 k h2, w.2.2.2⟩
def decO (di ri : Nat) : Nat → Prop := fun q => q = di ∨ q = ri
def gotV : GR → V
 | .error c => .tuple [.agg (encE (.mk 0 0 [])), .int .i64 (c : Nat)]
 | .ok (e, _, _) => .tuple [.agg (encE e), .int .i64 0]
theorem errC (h : AHeap) (c : Nat) : Cast (.tuple [.agg [.int .i64 0, .int .i64 0, .snil], .int .i64 (c : Nat)]) h (.tuple [.agg (encE (.mk 0 0 [])), .int .i64 (c : Nat)]) h := Cast.tuple (CastL.cons (castE0 0 0 h) (CastL.refl _ _))
theorem st0 : setC (some 3) (AObj.cells [V.int .i64 0, V.int .i64 0, V.snil] 88 none) 0 [V.int .i64 0, V.int .i64 0, V.snil] = some (.cells [V.int .i64 0, V.int .i64 0, V.snil] 88 none) := rfl
theorem lit1e (h : AHeap) (e : Ex) : aBuildSlice Tryz.prog 86 1 [(0, .agg (encE e))] h = some (.sl h.n 0 1 1, h.push (.cells (encE e) 88 none)) := by cases e; rw [buildSlice_go sl_86]; rfl
theorem app1E {h : AHeap} {s : V} {cs : List Ex} (o : Own h 88 3 s (cs.flatMap encE)) (hl : cs.length ≤ 2 ^ 40) (c : Ex) :
  ∃ s' h', aAppend Tryz.prog 86 86 s (.sl h.n 0 1 1) (h.push (.cells (encE c) 88 none)) = some (s', h') ∧ Own h' 88 3 s' ((cs ++ [c]).flatMap encE) ∧ Keep h h' (isId s) ∧ NewOr h s s' := by
 have kp : Keep h (h.push (.cells (encE c) 88 none)) none_ := Keep.push _ _ _
 have oj : Own (h.push (.cells (encE c) 88 none)) 88 3 (.sl h.n 0 1 1) (encE c) := Own.fresh' (encE c) 1 (encE_len c) (by decide)
 have hsrc := own_src (P := Tryz.prog) (t := 86) kt_86 oj (n := 1) (encE_len c) (by decide) (encE_one c)
 obtain ⟨s', h', ea, oa, ka, na⟩ := append_ownM (P := Tryz.prog) (t := 86) (tx := 86) sl_86 (by decide) (o.keepN kp) hsrc (encE_len c) (fun m hm => by
  change m * 3 = _ at hm
  rw [rows_len encE_len, encE_len] at hm
  exact ⟨by simp only [lim]; omega, by simp only [lim]; omega⟩)
 refine ⟨s', h', ea, ?_, (kp.up).trans' ka, ?_⟩
 ·rw [List.flatMap_append]
  simpa using oa
 ·rcases na with na | na
  ·exact .inl na
  ·exact .inr fun q hq => Nat.le_trans kp.n (na q hq)
set_option maxHeartbeats 4000000 in
set_option maxRecDepth 10000 in
theorem pNext : ∀ (d left : Nat) (bs : List Nat) (h : AHeap) (di ri : Nat), d ≤ 16 → left ≤ 64 → KG h → IsDec h di ri bs (64 - left) → (∀ b ∈ bs, b < 256) → bs.length ≤ 2 ^ 47 →
  SCalls Tryz.prog 136 [.ptr di 0, .int .i64 ((17 - d : Nat) : Int)] h (fun r h' => r = gotV (getX d left bs) ∧ Keep h h' (decO di ri) ∧ ∀ e bs' l', getX d left bs = .ok (e, bs', l') → IsDec h' di ri bs' (64 - l'))
 | 0, left, bs, h, di, ri, _, hl, hg, hd, hb, hbl => by
  refine SCalls.cast ?_
  refine SCalls.enterI (c := _) Tryz.func136 rfl (by kernel_rfl) (by simp) ?_
  have c1 : decide ((16 : Int) < ((17 - 0 : Nat) : Int)) = true := by decide
  simp only [wpA_region, wpA_seq, wpA_cond, wpA_ret, condI_true, seqQ_normal, seqQ_ret, endI_mk, goI_out, goI_ops, opsA_nil, opsA_cons, opsA_guardS, gvI_tf, slotAt_zero, slotAt_succ, stepA_move, stepA_assign, stepA_pick, stepA_alloc, stepA_build, stepA_store, stepA_binOp, thenV_some, thenH_some, thenS_some, pickV_true, eval_tmp, eval_const, put_some, put_none, enterF_zero, enterF_succ, aBin_gtr, absV_int, absV_bool, cells_agg, one_int, one_snil, all_nil, all_cons, aLoad_eq, loadGo_row, aPlace_ptr, dropC_cells, aStore_eq, storeGo_ptr, setC_row, setAll_nil, setAll_cons, aAlloc_eq, aBuild_go, aFill_nil, buildGo_struct, get_push_new, set_push, Nat.reduceEqDiff, Nat.reduceAdd, Nat.reduceSub, List.map_nil, Option.map_some, Nat.zero_add, Nat.zero_le, List.length_cons, List.length_nil, List.drop_zero, List.take_succ_cons, List.take_nil, List.set_cons_zero, List.set_cons_succ, if_true, if_false, Bool.and_self, Nat.le_refl, lt_88, pl_88, zc_88, zt_88, c1, retA_ret, Tryz.results136, resultsC_2, resultA_tmp, resultA_cell, res2_some]
  exact hid_mk ⟨_, _, errC _ 11, rfl, (Keep.push _ _ _), fun e bs' l' hh => by cases hh⟩
 | d + 1, left, bs, h, di, ri, hd16, hl, hg, hd, hb, hbl => by
  refine SCalls.cast ?_
  refine SCalls.enterI (c := _) Tryz.func136 rfl (by kernel_rfl) (by simp) ?_
  have c1 : decide ((16 : Int) < ((17 - (d + 1) : Nat) : Int)) = false := decide_eq_false (by omega)
  obtain ⟨H0, hH0⟩ : ∃ y, y = h.push (.cells [.int .i64 0, .int .i64 0, .snil] 88 none) := ⟨_, rfl⟩
  have k0 : Keep h H0 none_ := by rw [hH0]; exact Keep.push _ _ _
  have n0 : H0.n = h.n + 1 := by rw [hH0]; rfl
  have g0 : H0.get h.n = .cells [.int .i64 0, .int .i64 0, .snil] 88 none := by rw [hH0]; exact get_push_new
  have dc0 := IsDec.keep hd k0 (by simp [none_]) (by simp [none_])
  have gd0 := dc0.2.1
  have hdi := hd.1
  have hri := hd.2.2.1.2.1
  have hne := hd.2.2.2
  have gdp : (h.push (.cells [.int .i64 0, .int .i64 0, .snil] 88 none)).get di = .cells [.ptr ri 0, .int .i64 ((64 - left : Nat) : Int)] 246 none := by rw [← hH0]; exact gd0
  by_cases hl0 : left = 0
  ·have c2 : (((64 - left : Nat) : Int) == 64) = true := by simp; omega
   have hG : getX (d + 1) left bs = .error 11 := by rw [getX, if_pos hl0]
   simp only [wpA_region, wpA_seq, wpA_cond, wpA_ret, condI_true, seqQ_normal, seqQ_ret, endI_mk, goI_out, goI_ops, opsA_nil, opsA_cons, opsA_guardS, gvI_same, slotAt_zero, slotAt_succ, stepA_move, stepA_assign, stepA_pick, stepA_alloc, stepA_build, stepA_load, stepA_store, stepA_nilCheck, stepA_binOp, stepA_fieldAddr, thenV_some, thenH_some, thenS_some, pickV_false, nilV_ptr, eval_tmp, eval_const, put_some, put_none, enterF_zero, enterF_succ, aBin_eql, aBin_gtr, absV_int, absV_bool, cells_agg, one_int, one_snil, all_nil, all_cons, aField_eq, fieldGo_ptr, aLoad_eq, loadGo_one, loadGo_row, aPlace_ptr, dropC_cells, aStore_eq, storeGo_ptr, setC_row, setAll_nil, setAll_cons, aAlloc_eq, aBuild_go, aFill_nil, buildGo_struct, get_push_new, set_push, Nat.reduceEqDiff, Nat.reduceAdd, Nat.reduceLeDiff, reduceCtorEq, List.map_nil, Option.map_some, Nat.zero_add, Nat.zero_le, List.length_cons, List.length_nil, List.drop_zero, List.drop_succ_cons, List.take_succ_cons, List.take_nil, List.set_cons_zero, List.set_cons_succ, if_true, if_false, Bool.and_self, Nat.le_refl, ft_246_1, lt_3, lt_88, pl_88, zc_88, zt_88, c1, gdp, c2, retA_ret, Tryz.results136, resultsC_2, resultA_tmp, resultA_cell, res2_some]
   exact hid_mk ⟨_, _, errC _ 11, by rw [hG]; rfl, (Keep.push _ _ _), fun e bs' l' hh => by rw [hG] at hh; cases hh⟩
  have c2 : (((64 - left : Nat) : Int) == 64) = false := by simp; omega
  have hw : IntKind.i64.wrap (((64 - left : Nat) : Int) + 1) = ((64 - (left - 1) : Nat) : Int) := by rw [Go.IntWalk.i64_in _ (by omega)]; omega
  obtain ⟨H1, hH1⟩ : ∃ y, y = H0.set di (.cells [.ptr ri 0, .int .i64 ((64 - (left - 1) : Nat) : Int)] 246 none) := ⟨_, rfl⟩
  have k1 : Keep H0 H1 (fun q => q = di) := by rw [hH1]; exact Keep.set _ _ _
  have n1 : H1.n = H0.n := by rw [hH1]; rfl
  have gd1 : H1.get di = .cells [.ptr ri 0, .int .i64 ((64 - (left - 1) : Nat) : Int)] 246 none := by rw [hH1]; exact get_set_same
  have g1 := (k1.get h.n (by omega) (by omega)).trans g0
  have r1 : IsRd H1 (.ptr ri 0) ri bs := IsRd.keep dc0.2.2.1 k1 (by omega)
  have kk1 : Keep h H1 (decO di ri) := (k0.up).trans k1 fun q hq hh => .inl hh
  simp only [wpA_skip, wpA_region, wpA_seq, wpA_cond, condI_false, seqQ_normal, goI_out, goI_ops, opsA_nil, opsA_cons, opsA_guardS, gvI_same, slotAt_zero, slotAt_succ, stepA_move, stepA_assign, stepA_pick, stepA_alloc, stepA_load, stepA_store, stepA_nilCheck, stepA_binOp, stepA_fieldAddr, stepA_call, thenV_some, thenH_some, thenS_some, pickV_false, nilV_ptr, eval_tmp, eval_const, put_some, put_none, enterF_zero, enterF_succ, aBin_add, aBin_eql, aBin_gtr, absV_int, absV_bool, cells_int, one_int, all_nil, all_cons, aField_eq, fieldGo_ptr, aLoad_eq, loadGo_one, aPlace_ptr, dropC_cells, aStore_eq, storeGo_ptr, setC_row, setAll_nil, setAll_cons, aAlloc_eq, get_set_same, Nat.reduceEqDiff, Nat.reduceAdd, Nat.reduceLeDiff, reduceCtorEq, List.map_cons, List.map_nil, Option.map_some, Nat.add_zero, Nat.zero_add, Nat.zero_le, List.length_cons, List.length_nil, List.drop_zero, List.drop_succ_cons, List.set_cons_zero, List.set_cons_succ, if_true, if_false, Bool.and_self, Nat.le_refl, ft_246_0, ft_246_1, lt_3, lt_80, zc_88, zt_3, c1, gdp, c2, hw]
  rw [← hH0, ← hH1]
  clear hH0 hH1
  refine callI_of cal80 (RUint (.ptr ri 0) ri bs H1 r1 hb (by omega)) fun r h2 ⟨e2, r2, k2⟩ => ?_
  subst e2
  have n2 := k2.n
  have gd2 := (k2.get di (by omega) (by omega)).trans gd1
  have g2 := (k2.get h.n (by omega) (by omega)).trans g1
  have kk2 : Keep h h2 (decO di ri) := kk1.trans k2 fun q hq hh => .inr hh
  by_cases herr : (dec bs 0 0).2.2 = 0
  rotate_left
  ·have c3 : ((((dec bs 0 0).2.2 : Nat) : Int) != 0) = true := by simp; omega
   have hG : getX (d + 1) left bs = .error (dec bs 0 0).2.2 := by rw [getX, if_neg hl0, if_pos herr]
   simp only [wpA_region, wpA_seq, wpA_cond, wpA_ret, condI_true, seqQ_normal, seqQ_ret, endI_mk, goI_out, goI_ops, opsA_nil, opsA_cons, stepA_move, stepA_assign, stepA_build, stepA_store, stepA_binOp, stepA_extract, thenV_some, thenS_some, extV_zero, extV_succ, eval_tmp, eval_const, put_some, put_none, enterF_succ, aBin_neq, absV_int, cells_agg, one_int, one_snil, all_nil, all_cons, aLoad_eq, loadGo_row, aPlace_ptr, dropC_cells, aStore_eq, storeGo_ptr, setC_row, setAll_nil, setAll_cons, aBuild_go, aFill_nil, buildGo_struct, get_set_same, Nat.reduceEqDiff, Nat.reduceAdd, List.map_nil, Option.map_some, Nat.zero_add, Nat.zero_le, List.length_cons, List.length_nil, List.drop_zero, List.take_succ_cons, List.take_nil, List.set_cons_zero, List.set_cons_succ, if_true, if_false, Bool.and_self, Nat.le_refl, lt_88, pl_88, zc_88, zt_88, c3, g2, retA_ret, Tryz.results136, resultsC_2, resultA_tmp, resultA_cell, res2_some]
   exact hid_mk ⟨_, _, errC _ _, by rw [hG]; rfl, kk2.trans (Keep.set _ h.n _) fun q hq hh => by omega, fun e bs' l' hh => by rw [hG] at hh; cases hh⟩
  have c3 : ((((dec bs 0 0).2.2 : Nat) : Int) != 0) = false := by simp; omega
  obtain ⟨hdk, hklt⟩ := dec_ok hb herr
  have hG0 : getX (d + 1) left bs = (if (dec bs 0 0).1 < 1 ∨ 16 < (dec bs 0 0).1 then .error 5
   else if (dec bs 0 0).1 = 1 then
    if (dec (bs.drop (dec bs 0 0).2.1) 0 0).2.2 ≠ 0 then .error (dec (bs.drop (dec bs 0 0).2.1) 0 0).2.2
    else .ok (.mk 1 (unz (dec (bs.drop (dec bs 0 0).2.1) 0 0).1) [], (bs.drop (dec bs 0 0).2.1).drop (dec (bs.drop (dec bs 0 0).2.1) 0 0).2.1, left - 1)
   else match kidsG (getX d) (kidsR (dec bs 0 0).1).toNat (left - 1) (bs.drop (dec bs 0 0).2.1) with
    | .error e => .error e
    | .ok (ks, r) => .ok (.mk (dec bs 0 0).1 0 ks, r)) := by
   conv => lhs; unfold getX
   rw [if_neg hl0, if_neg (by simpa using herr)]
   all_goals rfl
  have hb1 : ∀ y ∈ bs.drop (dec bs 0 0).2.1, y < 256 := fun y hy => hb y (List.mem_of_mem_drop hy)
  have hl1 : (bs.drop (dec bs 0 0).2.1).length ≤ 2 ^ 47 := by rw [List.length_drop]; omega
  simp only [wpA_skip, wpA_region, wpA_seq, wpA_cond, condI_false, seqQ_normal, goI_out, goI_ops, opsA_nil, opsA_cons, opsA_guardS, slotAt_zero, slotAt_succ, stepA_move, stepA_assign, stepA_binOp, stepA_extract, thenV_some, extV_zero, extV_succ, eval_tmp, eval_const, put_some, put_none, enterF_succ, aBin_neq, aBin_lss, absV_int, Nat.reduceEqDiff, if_true, if_false, c3]
  clear c3 herr hdk
  generalize bs.drop (dec bs 0 0).2.1 = bs1 at *
  generalize (dec bs 0 0).1 = k at *
  by_cases hk1 : k < 1
  ·have c4 : decide ((k : Int) < 1) = true := decide_eq_true (by omega)
   have hG : getX (d + 1) left bs = .error 5 := by rw [hG0, if_pos (.inl hk1)]
   simp only [wpA_region, wpA_seq, wpA_cond, wpA_ret, condI_true, seqQ_normal, seqQ_ret, endI_mk, goI_out, goI_ops, opsA_nil, opsA_cons, opsA_guardS, gvI_tf, slotAt_zero, slotAt_succ, stepA_assign, stepA_pick, stepA_build, stepA_store, thenV_some, thenS_some, pickV_true, eval_tmp, eval_const, put_some, put_none, enterF_succ, absV_int, absV_bool, cells_agg, one_int, one_snil, all_nil, all_cons, aLoad_eq, loadGo_row, aPlace_ptr, dropC_cells, aStore_eq, storeGo_ptr, setC_row, setAll_nil, setAll_cons, aBuild_go, aFill_nil, buildGo_struct, get_set_same, Nat.reduceEqDiff, Nat.reduceAdd, List.map_nil, Option.map_some, Nat.zero_add, Nat.zero_le, List.length_cons, List.length_nil, List.drop_zero, List.take_succ_cons, List.take_nil, List.set_cons_zero, List.set_cons_succ, if_true, if_false, Bool.and_self, Nat.le_refl, lt_88, pl_88, zc_88, zt_88, c4, g2, retA_ret, Tryz.results136, resultsC_2, resultA_tmp, resultA_cell, res2_some]
   exact hid_mk ⟨_, _, errC _ 5, by rw [hG]; rfl, kk2.trans (Keep.set _ h.n _) fun q hq hh => by omega, fun e bs' l' hh => by rw [hG] at hh; cases hh⟩
  have c4 : decide ((k : Int) < 1) = false := decide_eq_false (by omega)
  by_cases hk2 : 16 < k
  ·have c5 : decide ((16 : Int) < (k : Int)) = true := decide_eq_true (by omega)
   have hG : getX (d + 1) left bs = .error 5 := by rw [hG0, if_pos (.inr hk2)]
   simp only [wpA_region, wpA_seq, wpA_cond, wpA_ret, condI_true, seqQ_normal, seqQ_ret, endI_mk, goI_out, goI_ops, opsA_nil, opsA_cons, opsA_guardS, gvI_same, slotAt_zero, slotAt_succ, stepA_move, stepA_assign, stepA_pick, stepA_build, stepA_store, stepA_binOp, thenV_some, thenS_some, pickV_false, eval_tmp, eval_const, put_some, put_none, enterF_succ, aBin_gtr, absV_int, absV_bool, cells_agg, one_int, one_snil, all_nil, all_cons, aLoad_eq, loadGo_row, aPlace_ptr, dropC_cells, aStore_eq, storeGo_ptr, setC_row, setAll_nil, setAll_cons, aBuild_go, aFill_nil, buildGo_struct, get_set_same, Nat.reduceEqDiff, Nat.reduceAdd, List.map_nil, Option.map_some, Nat.zero_add, Nat.zero_le, List.length_cons, List.length_nil, List.drop_zero, List.take_succ_cons, List.take_nil, List.set_cons_zero, List.set_cons_succ, if_true, if_false, Bool.and_self, Nat.le_refl, lt_88, pl_88, zc_88, zt_88, c4, c5, g2, retA_ret, Tryz.results136, resultsC_2, resultA_tmp, resultA_cell, res2_some]
   exact hid_mk ⟨_, _, errC _ 5, by rw [hG]; rfl, kk2.trans (Keep.set _ h.n _) fun q hq hh => by omega, fun e bs' l' hh => by rw [hG] at hh; cases hh⟩
  have c5 : decide ((16 : Int) < (k : Int)) = false := decide_eq_false (by omega)
  rw [if_neg (by omega)] at hG0
  have wk : IntKind.i64.wrap (k : Int) = (k : Int) := Go.IntWalk.i64_in _ (by omega)
  have st1 : setC (some 3) (AObj.cells [V.int .i64 0, V.int .i64 0, V.snil] 88 none) 0 [V.int .i64 (k : Int), V.int .i64 0, V.snil] = some (.cells [V.int .i64 (k : Int), V.int .i64 0, V.snil] 88 none) := rfl
  obtain ⟨b8, hb8e⟩ : ∃ y, y = h2.n := ⟨_, rfl⟩
  have hb8g : h.n < b8 := by omega
  obtain ⟨H3, hH3⟩ : ∃ y, y = h2.push (.cells [V.int .i64 (k : Int), V.int .i64 0, V.snil] 88 none) := ⟨_, rfl⟩
  have k3 : Keep h2 H3 none_ := by rw [hH3]; exact Keep.push _ _ _
  have n3 : H3.n = h2.n + 1 := by rw [hH3]; rfl
  have g38 : H3.get b8 = .cells [V.int .i64 (k : Int), V.int .i64 0, V.snil] 88 none := by rw [hH3, hb8e]; exact get_push_new
  have g34 := (k3.get h.n (by omega) (by simp [none_])).trans g2
  have gd3 := (k3.get di (by omega) (by simp [none_])).trans gd2
  have r3 : IsRd H3 (.ptr ri 0) ri bs1 := IsRd.keep r2 k3 (by simp [none_])
  have kk3 : Keep h H3 (decO di ri) := kk2.trans' k3.up
  have hkk : k < 17 := by omega
  have hix : (if (0 : Int) ≤ (k : Int) ∧ (k : Int) < ((17 : Nat) : Int) ∧ ((k : Int).toNat * 1) ≤ kidsC.length then some (V.at (kidsC.drop ((k : Int).toNat * 1))) else none) = some (.at (.int .i64 (kidsN.getD k 0) :: kidsC.drop (k + 1))) := by
   rw [if_pos ⟨by omega, by omega, by simp [kidsC, kidsN]; omega⟩]
   have : kidsC.drop ((k : Int).toNat * 1) = .int .i64 (kidsN.getD k 0) :: kidsC.drop (k + 1) := by
    rw [Int.toNat_natCast, Nat.mul_one, List.drop_eq_getElem_cons (by simp [kidsC, kidsN]; omega)]
    simp [kidsC, List.getD, List.getElem?_eq_getElem (show k < kidsN.length by simp [kidsN]; omega)]
   rw [this]
  have hke := kidsR_eq (o := (k : Int)) (by omega) (by omega)
  rw [Int.toNat_natCast] at hke
  simp only [wpA_skip, wpA_region, wpA_seq, wpA_cond, condI_false, seqQ_normal, goI_out, goI_ops, opsA_nil, opsA_cons, opsA_guardS, gvI_same, slotAt_zero, slotAt_succ, stepA_move, stepA_pick, stepA_alloc, stepA_build, stepA_load, stepA_store, stepA_binOp, stepA_convert, stepA_fieldAddr, thenV_some, thenC_some, thenH_some, thenS_some, pickV_false, eval_tmp, eval_const, put_some, put_none, enterF_succ, aBin_eql, aBin_gtr, absV_int, absV_bool, cells_int, cells_agg, aField_eq, fieldGo_ptr, aLoad_eq, loadGo_one, aPlace_ptr, dropC_cells, aStore_eq, storeGo_ptr, setAll_nil, setAll_cons, aAlloc_eq, aBuild_go, aFill_nil, aFill_cons, fillGo_some, buildGo_struct, get_push_new, set_push, List.getElem?_cons_zero, Nat.reduceEqDiff, Nat.reduceAdd, Nat.reduceLeDiff, List.map_cons, List.map_nil, Option.map_some, Nat.add_zero, Nat.zero_add, Nat.zero_le, List.length_cons, List.length_nil, List.drop_zero, List.set_cons_zero, and_self, if_true, if_false, ft_88_0, lt_3, pl_88, zc_88, zt_88, c4, c5, aConv_int it_108 it_3, wk, st1]
  rw [← hb8e, ← hH3]
  clear hH3
  by_cases hk3 : k = 1
  ·have c6 : ((k : Int) == 1) = true := by simp; omega
   simp only [wpA_region, wpA_seq, condI_true, goI_ops, opsA_cons, stepA_move, stepA_load, stepA_nilCheck, stepA_fieldAddr, stepA_call, thenV_some, nilV_ptr, eval_tmp, put_some, put_none, enterF_zero, enterF_succ, aField_eq, fieldGo_ptr, aLoad_eq, loadGo_one, aPlace_ptr, dropC_cells, Nat.reduceEqDiff, Nat.reduceAdd, reduceCtorEq, List.map_cons, List.map_nil, Nat.add_zero, Nat.zero_add, Nat.zero_le, List.length_cons, List.length_nil, List.drop_zero, if_true, if_false, ft_246_0, lt_80, c6, gd3]
   refine callI_of cal95 (RInt (.ptr ri 0) ri bs1 H3 r3 hb1 (by omega)) fun r h4 ⟨e4, r4, k4⟩ => ?_
   subst e4
   have n4 := k4.n
   have g48 := (k4.get b8 (by omega) (by omega)).trans g38
   have g44 := (k4.get h.n (by omega) (by omega)).trans g34
   have gd4 := (k4.get di (by omega) (by omega)).trans gd3
   have kk4 : Keep h h4 (decO di ri) := kk3.trans k4 fun q hq hh => .inr hh
   have kH4 : Keep H3 h4 (fun q => q = ri) := k4
   obtain ⟨H5, hH5⟩ : ∃ y, y = h4.set b8 (.cells [V.int .i64 (k : Int), V.int .i64 (unz (dec bs1 0 0).1), V.snil] 88 none) := ⟨_, rfl⟩
   have k5 : Keep h4 H5 (fun q => q = b8) := by rw [hH5]; exact Keep.set _ _ _
   have n5 : H5.n = h4.n := by rw [hH5]; rfl
   have g58 : H5.get b8 = .cells [V.int .i64 (k : Int), V.int .i64 (unz (dec bs1 0 0).1), V.snil] 88 none := by rw [hH5]; exact get_set_same
   have g54 := (k5.get h.n (by omega) (by omega)).trans g44
   have gd5 := (k5.get di (by omega) (by omega)).trans gd4
   have r5 : IsRd H5 (.ptr ri 0) ri _ := IsRd.keep r4 k5 (by omega)
   have kk5 : Keep h H5 (decO di ri) := kk4.trans k5 fun q hq hh => by omega
   simp only [nne2, nne3, nne4, nne1', nne2', nne3', wpA_region, wpA_seq, wpA_cond, seqQ_normal, goI_out, goI_ops, opsA_nil, opsA_cons, stepA_move, stepA_assign, stepA_store, stepA_binOp, stepA_fieldAddr, stepA_extract, thenV_some, thenS_some, extV_zero, extV_succ, eval_tmp, eval_const, put_some, put_none, enterF_succ, aBin_neq, absV_int, cells_int, one_int, all_nil, all_cons, aField_eq, fieldGo_ptr, aStore_eq, storeGo_ptr, setC_row, setAll_nil, setAll_cons, Nat.reduceEqDiff, Nat.reduceAdd, Nat.reduceLeDiff, Option.map_some, Nat.zero_add, List.length_cons, List.length_nil, List.set_cons_zero, List.set_cons_succ, if_true, if_false, Bool.and_self, ft_88_1, zt_2, g48]
   rw [← hH5]
   clear hH5
   by_cases herr2 : (dec bs1 0 0).2.2 = 0
   rotate_left
   ·have c7 : ((((dec bs1 0 0).2.2 : Nat) : Int) != 0) = true := by simp; omega
    have hG : getX (d + 1) left bs = .error (dec bs1 0 0).2.2 := by rw [hG0, if_pos hk3, if_pos herr2]
    simp only [wpA_region, wpA_seq, wpA_ret, condI_true, seqQ_normal, seqQ_ret, endI_mk, goI_out, goI_ops, opsA_nil, opsA_cons, stepA_move, stepA_assign, stepA_build, stepA_store, thenV_some, thenS_some, eval_tmp, put_some, put_none, enterF_succ, cells_agg, one_int, one_snil, all_nil, all_cons, aLoad_eq, loadGo_row, aPlace_ptr, dropC_cells, aStore_eq, storeGo_ptr, setC_row, setAll_nil, setAll_cons, aBuild_go, aFill_nil, buildGo_struct, get_set_same, Nat.reduceEqDiff, Nat.reduceAdd, List.map_nil, Option.map_some, Nat.zero_add, Nat.zero_le, List.length_cons, List.length_nil, List.drop_zero, List.take_succ_cons, List.take_nil, List.set_cons_zero, List.set_cons_succ, if_true, if_false, Bool.and_self, Nat.le_refl, lt_88, pl_88, zc_88, zt_88, c7, g54, retA_ret, Tryz.results136, resultsC_2, resultA_tmp, resultA_cell, res2_some]
    exact hid_mk ⟨_, _, errC _ _, by rw [hG]; rfl, kk5.trans (Keep.set _ h.n _) fun q hq hh => by omega, fun e bs' l' hh => by rw [hG] at hh; cases hh⟩
   have c7 : ((((dec bs1 0 0).2.2 : Nat) : Int) != 0) = false := by simp; omega
   have hkl := (dec_ok hb1 herr2).2
   have hb2 : ∀ y ∈ bs1.drop (dec bs1 0 0).2.1, y < 256 := fun y hy => hb1 y (List.mem_of_mem_drop hy)
   have hl2 : (bs1.drop (dec bs1 0 0).2.1).length ≤ 2 ^ 47 := by rw [List.length_drop]; omega
   rw [if_pos hk3, if_neg (by simpa using herr2)] at hG0
   generalize bs1.drop (dec bs1 0 0).2.1 = bs2 at *
   generalize unz (dec bs1 0 0).1 = n at *
   have hmz : kidsR (k : Int) = 0 := by rw [hk3]; decide
   obtain ⟨m, hm⟩ : ∃ m : Nat, m = (kidsR (k : Int)).toNat := ⟨_, rfl⟩
   have hm0 : m = 0 := by rw [hm, hmz]; rfl
   have hG : getX (d + 1) left bs = (match kidsG (getX d) m (left - 1) bs2 with | .error e => .error e | .ok (ks, r) => .ok (.mk (k : Int) n ks, r)) := by rw [hG0, hm0, hk3, kidsG]; rfl
   have hK0 : kidsN.getD k 0 = ((m : Nat) : Int) := by rw [hke, hmz, hm0]; rfl
   have dc5 : IsDec H5 di ri bs2 (64 - (left - 1)) := ⟨by omega, gd5, r5, hne⟩
   have hgl5 : ∀ (f : AFrame), AFrame.eval f H5 (.global 2) = .at kidsC := fun f => eval_glob (hg.keep kk5)
   have g5d := g58
   have hb8n : b8 < H5.n := by omega
   simp only [wpA_skip, wpA_region, wpA_seq, condI_false, seqQ_normal, goI_ops, opsA_cons, stepA_load, stepA_fieldAddr, thenV_some, eval_tmp, put_some, put_none, enterF_succ, aField_eq, fieldGo_ptr, aLoad_eq, aPlace_ptr, Nat.reduceEqDiff, Nat.add_zero, if_true, if_false, ft_88_0, lt_3, c7]
   have hm3 := kidsR_le (k : Int)
   simp only [wpA_block, wpA_loop, seqQ_normal, goI_out, goI_ops, opsA_nil, opsA_cons, stepA_move, stepA_load, stepA_indexAddr, thenV_some, eval_tmp, eval_const, put_some, put_none, enterF_succ, absV_int, aLoad_eq, loadGo_one, aPlace_at, dropC_cells, aIndexAddr_eq, ixGo_at, Nat.reduceEqDiff, Nat.reduceAdd, Nat.zero_add, Nat.zero_le, List.length_cons, List.length_nil, List.drop_zero, if_true, if_false, as_312, lt_3, ss_312, g5d, hgl5, hix, hK0]
   refine SWp.loopG (α := Nat × V × List Ex × List Nat × Nat) (fun x f h' => f 0 = .ptr di 0 ∧ f 1 = .int .i64 ((17 - (d + 1) : Nat) : Int) ∧ f 4 = .ptr h.n 0 ∧ f 8 = .ptr b8 0 ∧ f 69 = .int .i64 (m : Nat) ∧ f 70 = .int .i64 (x.1 : Nat) ∧ x.1 ≤ m ∧ h'.get h.n = .cells [.int .i64 0, .int .i64 0, .snil] 88 none ∧ h'.get b8 = .cells [.int .i64 (k : Int), .int .i64 n, x.2.1] 88 none ∧
     Own h' 88 3 x.2.1 (x.2.2.1.flatMap encE) ∧ (∀ j, idOf x.2.1 = some j → h.n ≤ j ∧ j ≠ h.n ∧ j ≠ b8) ∧ x.2.2.1.length = x.1 ∧ IsDec h' di ri x.2.2.2.1 (64 - x.2.2.2.2) ∧ x.2.2.2.2 ≤ 64 ∧ (∀ y ∈ x.2.2.2.1, y < 256) ∧ x.2.2.2.1.length ≤ 2 ^ 47 ∧ Keep h h' (decO di ri) ∧ b8 < h'.n ∧
     kidsG (getX d) m (left - 1) bs2 = (match kidsG (getX d) (m - x.1) x.2.2.2.2 x.2.2.2.1 with | .error e => .error e | .ok (ks, r) => .ok (x.2.2.1 ++ ks, r))) (fun x => m - x.1) (0, .snil, [], bs2, left - 1)
    ⟨rfl, rfl, rfl, rfl, rfl, rfl, Nat.zero_le _, g54, g58, Own.snil _ _ _, by simp [idOf], rfl, dc5, by simp only; omega, hb2, hl2, kk5, hb8n, by simp only [Nat.sub_zero]; cases kidsG (getX d) m (left - 1) bs2 <;> rfl⟩ ?_
   rintro ⟨i, s, acc, b, l⟩ f h6 ⟨f0, f1, f4, f8, f69, f70, hi, g4, g8, os, ids, hal, dc, hl64, hby, hbl, kk, hb8, hKG⟩
   simp only at f70 hi g8 os ids hal dc hl64 hby hbl hKG
   refine wpI_sound (by kernel_rfl) ?_
   by_cases him : i < m
   ·have e1 : decide ((i : Int) < ((m : Nat) : Int)) = true := decide_eq_true (by omega)
    have hwi : IntKind.i64.wrap ((i : Int) + 1) = ((i + 1 : Nat) : Int) := by rw [Go.IntWalk.i64_in _ (by omega)]; omega
    have hwl : IntKind.i64.wrap (((17 - (d + 1) : Nat) : Int) + 1) = ((17 - d : Nat) : Int) := by rw [Go.IntWalk.i64_in _ (by omega)]; omega
    obtain ⟨mi, hmi⟩ : ∃ mi, m - i = mi + 1 := ⟨m - i - 1, by omega⟩
    rw [hmi, kidsG] at hKG
    simp only [wpA_skip, wpA_region, wpA_seq, wpA_cond, wpA_block, condI_true, seqQ_normal, goI_out, goI_ops, opsA_nil, opsA_cons, stepA_move, stepA_binOp, stepA_call, thenV_some, eval_tmp, eval_const, put_some, aBin_add, aBin_lss, absV_int, Nat.reduceEqDiff, reduceCtorEq, List.map_cons, List.map_nil, if_true, if_false, f0, f1, f69, f70, e1, hwl]
    refine callI_of cal136 (pNext d l b h6 di ri (by omega) hl64 (hg.keep kk) dc hby hbl) fun r h7 ⟨e7, k7, d7⟩ => ?_
    subst e7
    have hdi := dc.1
    have hri := dc.2.2.1.2.1
    have h4di : di < h.n := hd.1
    have h4ri : ri < h.n := hd.2.2.1.2.1
    have b8ge : h.n < b8 := hb8g
    have g47 := (k7.get h.n (by omega) (by rintro (hh | hh) <;> omega)).trans g4
    have g87 := (k7.get b8 hb8 (by rintro (hh | hh) <;> omega)).trans g8
    have os7 := os.keep k7 fun j hj hh => by
     have := (ids j hj).1
     rcases hh with hh | hh <;> omega
    have kk7 : Keep h h7 (decO di ri) := kk.trans' k7
    have n7 := k7.n
    cases hgx : getX d l b with
    | error c =>
     rw [hgx] at hKG
     have hc0 := getX_err d l b c hgx
     have c1 : (((c : Nat) : Int) != 0) = true := by simp; omega
     rw [hgx] at d7
     simp only at hKG
     have hG2 : getX (d + 1) left bs = .error c := by rw [hG, hKG]
     simp only [gotV]
     have cA := ex_cells (.mk 0 0 [])
     have stA := ex_st (.mk 0 0 [])
     have kZ : Keep h7 (h7.push (.cells (encE (.mk 0 0 [])) 88 none)) none_ := Keep.push _ _ _
     have g4Z := (kZ.get h.n (by omega) (by simp [none_])).trans g47
     simp only [wpA_region, wpA_seq, wpA_cond, wpA_ret, condI_true, seqQ_normal, seqQ_ret, blkQ_ret, endI_mk, goE, andThen_ret, goI_out, goI_ops, opsA_nil, opsA_cons, stepA_move, stepA_assign, stepA_alloc, stepA_build, stepA_store, stepA_binOp, stepA_extract, thenV_some, thenH_some, thenS_some, extV_zero, extV_succ, eval_tmp, eval_const, put_some, put_none, aBin_neq, absV_int, cells_agg, one_int, one_snil, all_nil, all_cons, aLoad_eq, loadGo_row, aPlace_ptr, dropC_cells, aStore_eq, storeGo_ptr, setC_row, setAll_nil, setAll_cons, aAlloc_eq, aBuild_go, aFill_nil, buildGo_struct, get_push_new, get_set_same, set_push, Nat.reduceEqDiff, Nat.reduceAdd, List.map_nil, Option.map_some, Nat.zero_add, Nat.zero_le, List.length_cons, List.length_nil, List.drop_zero, List.take_succ_cons, List.take_nil, List.set_cons_zero, List.set_cons_succ, if_true, if_false, Bool.and_self, Nat.le_refl, lt_88, pl_88, zc_88, zt_88, f4, cA, stA, c1, g4Z, retA_ret, Tryz.results136, resultsC_2, resultA_tmp, resultA_cell, res2_some]
     refine hid_mk ⟨_, _, errC _ c, by rw [hG2]; rfl, ?_, fun e bs' l' hh => by rw [hG2] at hh; cases hh⟩
     exact ((kk7.trans' kZ.up).trans (Keep.set _ h.n _) fun q hq hh => by omega)
    | ok r =>
     obtain ⟨A, b', l'⟩ := r
     rw [hgx] at hKG
     simp only at hKG
     have gt := getX_sound d l b hby A b' l' hgx
     have dc7 := d7 A b' l' hgx
     have hby' : ∀ y ∈ b', y < 256 := fun y hy => hby y (by rw [gt.by_]; simp [hy])
     have hbl' : b'.length ≤ b.length := by rw [gt.by_]; simp
     have hsz := gt.sz
     simp only [gotV]
     have cA := ex_cells A
     have stA := ex_st A
     have ldA := ex_ldc A
     obtain ⟨H8, hH8⟩ : ∃ y, y = h7.push (.cells (encE A) 88 none) := ⟨_, rfl⟩
     have k8 : Keep h7 H8 none_ := by rw [hH8]; exact Keep.push _ _ _
     have n8 : H8.n = h7.n + 1 := by rw [hH8]; rfl
     have g9 : H8.get h7.n = .cells (encE A) 88 none := by rw [hH8]; exact get_push_new
     have g88 := (k8.get b8 (by omega) (by simp [none_])).trans g87
     have g48 := (k8.get h.n (by omega) (by simp [none_])).trans g47
     have dA : dropC (AObj.cells (encE A) 88 none) 0 = some (encE A) := by cases A; rfl
     have lA : loadGo (some (some 3)) (some (encE A)) = some (.agg (encE A)) := by cases A; rfl
     obtain ⟨s', h9, ea, o9, k9, n9⟩ := app1E (os7.keepN k8) (by omega) A
     have hlit := lit1e H8 A
     have hsj : ∀ j, idOf s = some j → j < h6.n := fun j hj => os.lt j hj
     have g89 := (k9.get b8 (by omega) (fun hh => (ids b8 hh).2.2 rfl)).trans g88
     have g49 := (k9.get h.n (by omega) (fun hh => (ids h.n hh).2.1 rfl)).trans g48
     have one_s : s'.one = true := by
      rcases o9 with ⟨rfl | rfl, _⟩ | ⟨_, _, _, _, _, rfl, _⟩ <;> rfl
     have cell_s : s'.cells = some [s'] := by
      rcases o9 with ⟨rfl | rfl, _⟩ | ⟨_, _, _, _, _, rfl, _⟩ <;> rfl
     have hset : setC (some 1) (AObj.cells [V.int .i64 (k : Int), V.int .i64 n, s] 88 none) 2 [s'] = some (.cells [.int .i64 (k : Int), .int .i64 n, s'] 88 none) := by rw [setC_one one_s]; rfl
     have z0 : ((0 : Int) != 0) = false := rfl
     simp only [wpA_skip, wpA_region, wpA_seq, wpA_cond, condI_false, seqQ_normal, goI_out, goI_ops, opsA_nil, opsA_cons, stepA_move, stepA_assign, stepA_alloc, stepA_load, stepA_store, stepA_binOp, stepA_fieldAddr, stepA_extract, thenV_some, thenH_some, thenS_some, extV_zero, extV_succ, eval_tmp, eval_const, put_some, put_none, aBin_neq, absV_int, aField_eq, fieldGo_ptr, aLoad_eq, aPlace_ptr, aStore_eq, storeGo_ptr, aAlloc_eq, get_push_new, set_push, bne_self_eq_false, Nat.reduceEqDiff, Option.map_some, Nat.zero_add, if_true, if_false, ft_88_2, lt_86, zc_88, zt_88, f8, cA, stA]
     rw [← hH8]
     clear hH8
     simp only [wpA_region, seqQ_normal, blkQ_normal, endI_mk, andThen_normal, goI_out, goI_ops, opsA_nil, opsA_cons, stepA_move, stepA_buildSlice, stepA_load, stepA_store, stepA_binOp, stepA_fieldAddr, stepA_append, thenV_some, thenH_some, thenS_some, eval_tmp, eval_const, put_some, put_none, aBin_add, absV_int, aField_eq, fieldGo_ptr, aLoad_eq, loadGo_one, aPlace_ptr, dropC_cells, aStore_eq, storeGo_ptr, Nat.reduceEqDiff, Nat.reduceAdd, Nat.reduceLeDiff, List.map_cons, List.map_nil, Option.map_some, Nat.zero_add, List.length_cons, List.length_nil, List.drop_zero, List.drop_succ_cons, if_true, if_false, ft_88_2, lt_88, zt_86, f8, f70, g88, g9, dA, lA, hlit, ea, g89, cell_s, hset, hwi]
     have kS : Keep h9 (h9.set b8 (.cells [V.int .i64 (k : Int), V.int .i64 n, s'] 88 none)) (fun q => q = b8) := Keep.set _ _ _
     have ids' : ∀ j, idOf s' = some j → h.n ≤ j ∧ j ≠ h.n ∧ j ≠ b8 := fun j hj => by
      rcases n9 with n9 | n9
      ·exact ids j (by rw [← n9]; exact hj)
      ·have := n9 j hj; omega
     have kk9 : Keep h h9 (decO di ri) := (kk7.trans' k8.up).trans k9 fun q hq hh => by have := (ids q hh).1; omega
     have dc9 : IsDec h9 di ri b' (64 - l') := IsDec.keep dc7 (k8.up.trans' k9) (fun hh => by have := (ids di hh).1; omega) (fun hh => by have := (ids ri hh).1; omega)
     have n9' := k9.n
     refine hid_mk ⟨(i + 1, s', acc ++ [A], b', l'), ⟨f0, f1, f4, f8, f69, rfl, him, (get_set_ne (by omega)).trans g49, get_set_same, o9.keep kS (fun j hj hh => (ids' j hj).2.2 hh), ids', by simp [hal], IsDec.keep dc9 kS (by omega) (by omega), by simp only; omega, hby', by simp only; omega, kk9.trans kS fun q hq hh => by omega, by rw [set_n]; omega, ?_⟩, by simp only; omega⟩
     rw [hKG, show m - (i + 1) = mi by omega]
     cases kidsG (getX d) mi l' b' with
     | error e => rfl
     | ok r => obtain ⟨ks, r⟩ := r; simp
   ·have e1 : decide ((i : Int) < ((m : Nat) : Int)) = false := decide_eq_false (by omega)
    rw [show m - i = 0 by omega, kidsG] at hKG
    simp only [List.append_nil] at hKG
    have hG2 : getX (d + 1) left bs = .ok (.mk k n acc, b, l) := by rw [hG, hKG]
    have one_s : s.one = true := by
     rcases os with ⟨rfl | rfl, _⟩ | ⟨_, _, _, _, _, rfl, _⟩ <;> rfl
    have stF : setC (some 3) (AObj.cells [V.int .i64 0, V.int .i64 0, V.snil] 88 none) 0 [.int .i64 (k : Int), .int .i64 n, s] = some (.cells [.int .i64 (k : Int), .int .i64 n, s] 88 none) := by
     exact (setC_row (n := 3) (vs := [V.int .i64 (k : Int), V.int .i64 n, s]) rfl (by simp only [all_cons, all_nil, one_int, one_s, Bool.and_self])).trans rfl
    have kS : Keep h6 (h6.set h.n (.cells [V.int .i64 (k : Int), V.int .i64 n, s] 88 none)) (fun q => q = h.n) := Keep.set _ _ _
    have os2 := os.keep kS fun j hj hh => (ids j hj).2.1 hh
    obtain ⟨h9, c9, k9⟩ := castE (k : Int) n os2
    simp only [wpA_region, wpA_seq, wpA_cond, wpA_exit, wpA_ret, condI_false, seqQ_normal, seqQ_exit, blkQ_exit, endI_mk, goE, andThen_exit, goI_out, goI_ops, opsA_nil, opsA_cons, stepA_assign, stepA_load, stepA_store, stepA_binOp, thenV_some, thenS_some, eval_tmp, eval_const, put_some, put_none, aBin_lss, absV_int, cells_agg, aLoad_eq, loadGo_row, aPlace_ptr, dropC_cells, aStore_eq, storeGo_ptr, get_set_same, Nat.reduceEqDiff, Nat.reduceAdd, Option.map_some, Nat.zero_add, Nat.zero_le, List.length_cons, List.length_nil, List.drop_zero, List.take_succ_cons, List.take_nil, if_true, if_false, Nat.le_refl, lt_88, zt_88, f4, f8, f69, f70, e1, g8, g4, stF, retA_ret, Tryz.results136, resultsC_2, resultA_tmp, resultA_cell, res2_some]
    have h4di : di < h.n := hd.1
    have h4ri : ri < h.n := hd.2.2.1.2.1
    refine hid_mk ⟨_, h9, Cast.tuple (CastL.cons c9 (CastL.refl _ _)), by rw [hG2]; rfl, (kk.trans kS fun q hq hh => by omega).trans k9 fun q hq hh => by have := (ids q hh).1; omega, fun e bs' l' hh => ?_⟩
    rw [hG2] at hh
    cases hh
    exact IsDec.keep (IsDec.keep dc kS (by omega) (by omega)) k9 (fun hh => by have := (ids di hh).1; omega) (fun hh => by have := (ids ri hh).1; omega)
  ·have c6 : ((k : Int) == 1) = false := by simp; omega
   rw [if_neg hk3] at hG0
   obtain ⟨m, hm⟩ : ∃ m : Nat, m = (kidsR (k : Int)).toNat := ⟨_, rfl⟩
   rw [← hm] at hG0
   have hkl := kidsR_le (k : Int)
   obtain ⟨n, hn⟩ : ∃ n : Int, n = 0 := ⟨0, rfl⟩
   rw [← hn] at hG0 g38
   have hG := hG0
   have hK0 : kidsN.getD k 0 = ((m : Nat) : Int) := by rw [hke, hm]; omega
   have dc5 : IsDec H3 di ri bs1 (64 - (left - 1)) := ⟨by omega, gd3, r3, hne⟩
   have hgl5 : ∀ (f : AFrame), AFrame.eval f H3 (.global 2) = .at kidsC := fun f => eval_glob (hg.keep kk3)
   have g5d := g38
   have g54 := g34
   have g58 := g38
   have kk5 := kk3
   have hb8n : b8 < H3.n := by omega
   have hb2 := hb1
   have hl2 := hl1
   simp only [wpA_skip, wpA_region, wpA_seq, condI_false, seqQ_normal, goI_ops, opsA_cons, stepA_load, stepA_fieldAddr, stepA_indexAddr, thenV_some, eval_tmp, put_some, put_none, enterF_succ, aField_eq, fieldGo_ptr, aLoad_eq, loadGo_one, aPlace_ptr, dropC_cells, aIndexAddr_eq, Nat.reduceEqDiff, Nat.reduceAdd, Nat.add_zero, Nat.zero_add, Nat.zero_le, List.length_cons, List.length_nil, List.drop_zero, if_true, if_false, as_312, ft_88_0, lt_3, ss_312, g38, c6]
   have hm3 := kidsR_le (k : Int)
   simp only [wpA_block, wpA_loop, seqQ_normal, goI_out, goI_ops, opsA_nil, opsA_cons, stepA_move, stepA_load, thenV_some, eval_tmp, eval_const, put_some, put_none, enterF_succ, absV_int, aLoad_eq, loadGo_one, aPlace_at, ixGo_at, Nat.reduceEqDiff, if_true, if_false, lt_3, hgl5, hix, hK0]
   refine SWp.loopG (α := Nat × V × List Ex × List Nat × Nat) (fun x f h' => f 0 = .ptr di 0 ∧ f 1 = .int .i64 ((17 - (d + 1) : Nat) : Int) ∧ f 4 = .ptr h.n 0 ∧ f 8 = .ptr b8 0 ∧ f 69 = .int .i64 (m : Nat) ∧ f 70 = .int .i64 (x.1 : Nat) ∧ x.1 ≤ m ∧ h'.get h.n = .cells [.int .i64 0, .int .i64 0, .snil] 88 none ∧ h'.get b8 = .cells [.int .i64 (k : Int), .int .i64 n, x.2.1] 88 none ∧
     Own h' 88 3 x.2.1 (x.2.2.1.flatMap encE) ∧ (∀ j, idOf x.2.1 = some j → h.n ≤ j ∧ j ≠ h.n ∧ j ≠ b8) ∧ x.2.2.1.length = x.1 ∧ IsDec h' di ri x.2.2.2.1 (64 - x.2.2.2.2) ∧ x.2.2.2.2 ≤ 64 ∧ (∀ y ∈ x.2.2.2.1, y < 256) ∧ x.2.2.2.1.length ≤ 2 ^ 47 ∧ Keep h h' (decO di ri) ∧ b8 < h'.n ∧
     kidsG (getX d) m (left - 1) bs1 = (match kidsG (getX d) (m - x.1) x.2.2.2.2 x.2.2.2.1 with | .error e => .error e | .ok (ks, r) => .ok (x.2.2.1 ++ ks, r))) (fun x => m - x.1) (0, .snil, [], bs1, left - 1)
    ⟨rfl, rfl, rfl, rfl, rfl, rfl, Nat.zero_le _, g54, g58, Own.snil _ _ _, by simp [idOf], rfl, dc5, by simp only; omega, hb2, hl2, kk5, hb8n, by simp only [Nat.sub_zero]; cases kidsG (getX d) m (left - 1) bs1 <;> rfl⟩ ?_
   rintro ⟨i, s, acc, b, l⟩ f h6 ⟨f0, f1, f4, f8, f69, f70, hi, g4, g8, os, ids, hal, dc, hl64, hby, hbl, kk, hb8, hKG⟩
   simp only at f70 hi g8 os ids hal dc hl64 hby hbl hKG
   refine wpI_sound (by kernel_rfl) ?_
   by_cases him : i < m
   ·have e1 : decide ((i : Int) < ((m : Nat) : Int)) = true := decide_eq_true (by omega)
    have hwi : IntKind.i64.wrap ((i : Int) + 1) = ((i + 1 : Nat) : Int) := by rw [Go.IntWalk.i64_in _ (by omega)]; omega
    have hwl : IntKind.i64.wrap (((17 - (d + 1) : Nat) : Int) + 1) = ((17 - d : Nat) : Int) := by rw [Go.IntWalk.i64_in _ (by omega)]; omega
    obtain ⟨mi, hmi⟩ : ∃ mi, m - i = mi + 1 := ⟨m - i - 1, by omega⟩
    rw [hmi, kidsG] at hKG
    simp only [wpA_skip, wpA_region, wpA_seq, wpA_cond, wpA_block, condI_true, seqQ_normal, goI_out, goI_ops, opsA_nil, opsA_cons, stepA_move, stepA_binOp, stepA_call, thenV_some, eval_tmp, eval_const, put_some, aBin_add, aBin_lss, absV_int, Nat.reduceEqDiff, reduceCtorEq, List.map_cons, List.map_nil, if_true, if_false, f0, f1, f69, f70, e1, hwl]
    refine callI_of cal136 (pNext d l b h6 di ri (by omega) hl64 (hg.keep kk) dc hby hbl) fun r h7 ⟨e7, k7, d7⟩ => ?_
    subst e7
    have hdi := dc.1
    have hri := dc.2.2.1.2.1
    have h4di : di < h.n := hd.1
    have h4ri : ri < h.n := hd.2.2.1.2.1
    have b8ge : h.n < b8 := hb8g
    have g47 := (k7.get h.n (by omega) (by rintro (hh | hh) <;> omega)).trans g4
    have g87 := (k7.get b8 hb8 (by rintro (hh | hh) <;> omega)).trans g8
    have os7 := os.keep k7 fun j hj hh => by
     have := (ids j hj).1
     rcases hh with hh | hh <;> omega
    have kk7 : Keep h h7 (decO di ri) := kk.trans' k7
    have n7 := k7.n
    cases hgx : getX d l b with
    | error c =>
     rw [hgx] at hKG
     have hc0 := getX_err d l b c hgx
     have c1 : (((c : Nat) : Int) != 0) = true := by simp; omega
     rw [hgx] at d7
     simp only at hKG
     have hG2 : getX (d + 1) left bs = .error c := by rw [hG, hKG]
     simp only [gotV]
     have cA := ex_cells (.mk 0 0 [])
     have stA := ex_st (.mk 0 0 [])
     have kZ : Keep h7 (h7.push (.cells (encE (.mk 0 0 [])) 88 none)) none_ := Keep.push _ _ _
     have g4Z := (kZ.get h.n (by omega) (by simp [none_])).trans g47
     simp only [wpA_region, wpA_seq, wpA_cond, wpA_ret, condI_true, seqQ_normal, seqQ_ret, blkQ_ret, endI_mk, goE, andThen_ret, goI_out, goI_ops, opsA_nil, opsA_cons, stepA_move, stepA_assign, stepA_alloc, stepA_build, stepA_store, stepA_binOp, stepA_extract, thenV_some, thenH_some, thenS_some, extV_zero, extV_succ, eval_tmp, eval_const, put_some, put_none, aBin_neq, absV_int, cells_agg, one_int, one_snil, all_nil, all_cons, aLoad_eq, loadGo_row, aPlace_ptr, dropC_cells, aStore_eq, storeGo_ptr, setC_row, setAll_nil, setAll_cons, aAlloc_eq, aBuild_go, aFill_nil, buildGo_struct, get_push_new, get_set_same, set_push, Nat.reduceEqDiff, Nat.reduceAdd, List.map_nil, Option.map_some, Nat.zero_add, Nat.zero_le, List.length_cons, List.length_nil, List.drop_zero, List.take_succ_cons, List.take_nil, List.set_cons_zero, List.set_cons_succ, if_true, if_false, Bool.and_self, Nat.le_refl, lt_88, pl_88, zc_88, zt_88, f4, cA, stA, c1, g4Z, retA_ret, Tryz.results136, resultsC_2, resultA_tmp, resultA_cell, res2_some]
     refine hid_mk ⟨_, _, errC _ c, by rw [hG2]; rfl, ?_, fun e bs' l' hh => by rw [hG2] at hh; cases hh⟩
     exact ((kk7.trans' kZ.up).trans (Keep.set _ h.n _) fun q hq hh => by omega)
    | ok r =>
     obtain ⟨A, b', l'⟩ := r
     rw [hgx] at hKG
     simp only at hKG
     have gt := getX_sound d l b hby A b' l' hgx
     have dc7 := d7 A b' l' hgx
     have hby' : ∀ y ∈ b', y < 256 := fun y hy => hby y (by rw [gt.by_]; simp [hy])
     have hbl' : b'.length ≤ b.length := by rw [gt.by_]; simp
     have hsz := gt.sz
     simp only [gotV]
     have cA := ex_cells A
     have stA := ex_st A
     have ldA := ex_ldc A
     obtain ⟨H8, hH8⟩ : ∃ y, y = h7.push (.cells (encE A) 88 none) := ⟨_, rfl⟩
     have k8 : Keep h7 H8 none_ := by rw [hH8]; exact Keep.push _ _ _
     have n8 : H8.n = h7.n + 1 := by rw [hH8]; rfl
     have g9 : H8.get h7.n = .cells (encE A) 88 none := by rw [hH8]; exact get_push_new
     have g88 := (k8.get b8 (by omega) (by simp [none_])).trans g87
     have g48 := (k8.get h.n (by omega) (by simp [none_])).trans g47
     have dA : dropC (AObj.cells (encE A) 88 none) 0 = some (encE A) := by cases A; rfl
     have lA : loadGo (some (some 3)) (some (encE A)) = some (.agg (encE A)) := by cases A; rfl
     obtain ⟨s', h9, ea, o9, k9, n9⟩ := app1E (os7.keepN k8) (by omega) A
     have hlit := lit1e H8 A
     have hsj : ∀ j, idOf s = some j → j < h6.n := fun j hj => os.lt j hj
     have g89 := (k9.get b8 (by omega) (fun hh => (ids b8 hh).2.2 rfl)).trans g88
     have g49 := (k9.get h.n (by omega) (fun hh => (ids h.n hh).2.1 rfl)).trans g48
     have one_s : s'.one = true := by
      rcases o9 with ⟨rfl | rfl, _⟩ | ⟨_, _, _, _, _, rfl, _⟩ <;> rfl
     have cell_s : s'.cells = some [s'] := by
      rcases o9 with ⟨rfl | rfl, _⟩ | ⟨_, _, _, _, _, rfl, _⟩ <;> rfl
     have hset : setC (some 1) (AObj.cells [V.int .i64 (k : Int), V.int .i64 n, s] 88 none) 2 [s'] = some (.cells [.int .i64 (k : Int), .int .i64 n, s'] 88 none) := by rw [setC_one one_s]; rfl
     have z0 : ((0 : Int) != 0) = false := rfl
     simp only [wpA_skip, wpA_region, wpA_seq, wpA_cond, condI_false, seqQ_normal, goI_out, goI_ops, opsA_nil, opsA_cons, stepA_move, stepA_assign, stepA_alloc, stepA_load, stepA_store, stepA_binOp, stepA_fieldAddr, stepA_extract, thenV_some, thenH_some, thenS_some, extV_zero, extV_succ, eval_tmp, eval_const, put_some, put_none, aBin_neq, absV_int, aField_eq, fieldGo_ptr, aLoad_eq, aPlace_ptr, aStore_eq, storeGo_ptr, aAlloc_eq, get_push_new, set_push, bne_self_eq_false, Nat.reduceEqDiff, Option.map_some, Nat.zero_add, if_true, if_false, ft_88_2, lt_86, zc_88, zt_88, f8, cA, stA]
     rw [← hH8]
     clear hH8
     simp only [wpA_region, seqQ_normal, blkQ_normal, endI_mk, andThen_normal, goI_out, goI_ops, opsA_nil, opsA_cons, stepA_move, stepA_buildSlice, stepA_load, stepA_store, stepA_binOp, stepA_fieldAddr, stepA_append, thenV_some, thenH_some, thenS_some, eval_tmp, eval_const, put_some, put_none, aBin_add, absV_int, aField_eq, fieldGo_ptr, aLoad_eq, loadGo_one, aPlace_ptr, dropC_cells, aStore_eq, storeGo_ptr, Nat.reduceEqDiff, Nat.reduceAdd, Nat.reduceLeDiff, List.map_cons, List.map_nil, Option.map_some, Nat.zero_add, List.length_cons, List.length_nil, List.drop_zero, List.drop_succ_cons, if_true, if_false, ft_88_2, lt_88, zt_86, f8, f70, g88, g9, dA, lA, hlit, ea, g89, cell_s, hset, hwi]
     have kS : Keep h9 (h9.set b8 (.cells [V.int .i64 (k : Int), V.int .i64 n, s'] 88 none)) (fun q => q = b8) := Keep.set _ _ _
     have ids' : ∀ j, idOf s' = some j → h.n ≤ j ∧ j ≠ h.n ∧ j ≠ b8 := fun j hj => by
      rcases n9 with n9 | n9
      ·exact ids j (by rw [← n9]; exact hj)
      ·have := n9 j hj; omega
     have kk9 : Keep h h9 (decO di ri) := (kk7.trans' k8.up).trans k9 fun q hq hh => by have := (ids q hh).1; omega
     have dc9 : IsDec h9 di ri b' (64 - l') := IsDec.keep dc7 (k8.up.trans' k9) (fun hh => by have := (ids di hh).1; omega) (fun hh => by have := (ids ri hh).1; omega)
     have n9' := k9.n
     refine hid_mk ⟨(i + 1, s', acc ++ [A], b', l'), ⟨f0, f1, f4, f8, f69, rfl, him, (get_set_ne (by omega)).trans g49, get_set_same, o9.keep kS (fun j hj hh => (ids' j hj).2.2 hh), ids', by simp [hal], IsDec.keep dc9 kS (by omega) (by omega), by simp only; omega, hby', by simp only; omega, kk9.trans kS fun q hq hh => by omega, by rw [set_n]; omega, ?_⟩, by simp only; omega⟩
     rw [hKG, show m - (i + 1) = mi by omega]
     cases kidsG (getX d) mi l' b' with
     | error e => rfl
     | ok r => obtain ⟨ks, r⟩ := r; simp
   ·have e1 : decide ((i : Int) < ((m : Nat) : Int)) = false := decide_eq_false (by omega)
    rw [show m - i = 0 by omega, kidsG] at hKG
    simp only [List.append_nil] at hKG
    have hG2 : getX (d + 1) left bs = .ok (.mk k n acc, b, l) := by rw [hG, hKG]
    have one_s : s.one = true := by
     rcases os with ⟨rfl | rfl, _⟩ | ⟨_, _, _, _, _, rfl, _⟩ <;> rfl
    have stF : setC (some 3) (AObj.cells [V.int .i64 0, V.int .i64 0, V.snil] 88 none) 0 [.int .i64 (k : Int), .int .i64 n, s] = some (.cells [.int .i64 (k : Int), .int .i64 n, s] 88 none) := by
     exact (setC_row (n := 3) (vs := [V.int .i64 (k : Int), V.int .i64 n, s]) rfl (by simp only [all_cons, all_nil, one_int, one_s, Bool.and_self])).trans rfl
    have kS : Keep h6 (h6.set h.n (.cells [V.int .i64 (k : Int), V.int .i64 n, s] 88 none)) (fun q => q = h.n) := Keep.set _ _ _
    have os2 := os.keep kS fun j hj hh => (ids j hj).2.1 hh
    obtain ⟨h9, c9, k9⟩ := castE (k : Int) n os2
    simp only [wpA_region, wpA_seq, wpA_cond, wpA_exit, wpA_ret, condI_false, seqQ_normal, seqQ_exit, blkQ_exit, endI_mk, goE, andThen_exit, goI_out, goI_ops, opsA_nil, opsA_cons, stepA_assign, stepA_load, stepA_store, stepA_binOp, thenV_some, thenS_some, eval_tmp, eval_const, put_some, put_none, aBin_lss, absV_int, cells_agg, aLoad_eq, loadGo_row, aPlace_ptr, dropC_cells, aStore_eq, storeGo_ptr, get_set_same, Nat.reduceEqDiff, Nat.reduceAdd, Option.map_some, Nat.zero_add, Nat.zero_le, List.length_cons, List.length_nil, List.drop_zero, List.take_succ_cons, List.take_nil, if_true, if_false, Nat.le_refl, lt_88, zt_88, f4, f8, f69, f70, e1, g8, g4, stF, retA_ret, Tryz.results136, resultsC_2, resultA_tmp, resultA_cell, res2_some]
    have h4di : di < h.n := hd.1
    have h4ri : ri < h.n := hd.2.2.1.2.1
    refine hid_mk ⟨_, h9, Cast.tuple (CastL.cons c9 (CastL.refl _ _)), by rw [hG2]; rfl, (kk.trans kS fun q hq hh => by omega).trans k9 fun q hq hh => by have := (ids q hh).1; omega, fun e bs' l' hh => ?_⟩
    rw [hG2] at hh
    cases hh
    exact IsDec.keep (IsDec.keep dc kS (by omega) (by omega)) k9 (fun hh => by have := (ids di hh).1; omega) (fun hh => by have := (ids ri hh).1; omega)
end Go.Proofs.YtfcjehlhoebmnaaGreatDoor.Pk
namespace Go.Proofs.YtfcjehlhoebmnaaGreatDoor.Pk
open Go Go.Proofs Go.Proofs.YtfcjehlhoebmnaaGreatDoor.Ab
set_option linter.unusedVariables false
set_option linter.unusedSimpArgs false
set_option maxRecDepth 10000
def ofX (bs : List Nat) : Except Nat Ex := match getX 16 64 bs with
 | .error c => .error c
 | .ok (e, r, _) => if r.length = 0 then .ok e else .error 5
def ofE (bs : List Nat) : Ex := match ofX bs with
 | .error _ => .mk 0 0 []
 | .ok e => e
def ofC (bs : List Nat) : Nat := match ofX bs with
 | .error c => c
 | .ok _ => 0
def ofV (bs : List Nat) : V := .tuple [.agg (encE (ofE bs)), .int .i64 (ofC bs : Nat)]
theorem ofV_clo (bs : List Nat) : Clo (ofV bs) := Clo.tuple (CloL.cons (Clo.agg (encE_clo _)) (CloL.cons (Clo.int _ _) CloL.nil))
theorem ofX_err {bs : List Nat} {c : Nat} (h : ofX bs = .error c) : c ≠ 0 := by
 unfold ofX at h
 split at h
 ·rename_i e he
  cases h
  exact getX_err _ _ _ _ he
 ·split at h
  ·cases h
  ·cases h; omega
theorem ofX_ok {bs : List Nat} (hb : ∀ b ∈ bs, b < 256) {e : Ex} (h : ofX bs = .ok e) : bs = encB e ∧ mayX e = true ∧ OkE e := by
 unfold ofX at h
 split at h
 ·cases h
 ·rename_i e' r l hg
  split at h
  ·rename_i hr
   cases h
   have g := getX_sound 16 64 bs hb _ _ _ hg
   have hr' : r = [] := List.eq_nil_of_length_eq_zero hr
   refine ⟨by rw [g.by_, hr', List.append_nil], ?_, g.ok⟩
   have hs := g.sz
   unfold mayX
   rw [cnt_eq, if_pos ⟨g.deep, by omega⟩]
   all_goals rfl
  ·cases h
theorem ofX_enc {e : Ex} (hm : mayX e = true) (hok : OkE e) : ofX (encB e) = .ok e := by
 have hd : deepX 16 e = true ∧ szE e ≤ 64 := by
  unfold mayX at hm
  rw [cnt_eq] at hm
  split at hm
  ·assumption
  ·cases hm
 have := getX_comp 16 64 e [] hd.1 hok hd.2
 rw [List.append_nil] at this
 unfold ofX
 rw [this]
 all_goals rfl
set_option maxHeartbeats 1000000 in
set_option maxRecDepth 10000 in
theorem pOf (x : V) (bs : List Nat) (h : AHeap) (hg : KG h) (rd : Rd h x bs) (hb : ∀ b ∈ bs, b < 256) (hl : bs.length ≤ 2 ^ 47) : Pure Tryz.prog 97 [x] h (ofV bs) := by
 refine Pure.of (ofV_clo bs) ?_
 refine SCalls.enterI (c := _) Tryz.func97 rfl (by kernel_rfl) (by simp) ?_
 obtain ⟨H0, hH0⟩ : ∃ y, y = h.push (.cells [.int .i64 0, .int .i64 0, .snil] 88 none) := ⟨_, rfl⟩
 have k0 : Keep h H0 none_ := by rw [hH0]; exact Keep.push _ _ _
 have g0 : H0.get h.n = .cells [.int .i64 0, .int .i64 0, .snil] 88 none := by rw [hH0]; exact get_push_new
 have n0 : H0.n = h.n + 1 := by rw [hH0]; rfl
 simp only [wpA_region, wpA_seq, seqQ_normal, goI_out, goI_ops, opsA_nil, opsA_cons, stepA_move, stepA_assign, stepA_alloc, stepA_call, thenH_some, eval_tmp, eval_const, put_some, enterF_zero, enterF_succ, absV_int, aAlloc_eq, Nat.reduceEqDiff, reduceCtorEq, List.map_cons, List.map_nil, Option.map_some, if_true, if_false, zc_88]
 rw [← hH0]
 clear hH0
 refine callI_of cal26 (From x bs H0 (rd.keep k0) (by omega)) fun r H1 ⟨e1, r1, k1⟩ => ?_
 subst e1
 have n1 : H0.n + 1 ≤ H1.n := r1.2.1
 have g1 := (k1.get h.n (by omega) (by simp [none_])).trans g0
 have stD : setC (some 2) (AObj.cells [V.pnil, V.int .i64 0] 246 none) 0 [V.ptr H0.n 0, V.int .i64 0] = some (.cells [V.ptr H0.n 0, V.int .i64 0] 246 none) := rfl
 obtain ⟨H2, hH2⟩ : ∃ y, y = H1.push (.cells [V.ptr H0.n 0, V.int .i64 0] 246 none) := ⟨_, rfl⟩
 have k2 : Keep H1 H2 none_ := by rw [hH2]; exact Keep.push _ _ _
 have n2 : H2.n = H1.n + 1 := by rw [hH2]; rfl
 have gd2 : H2.get H1.n = .cells [V.ptr H0.n 0, V.int .i64 0] 246 none := by rw [hH2]; exact get_push_new
 have g2 := (k2.get h.n (by omega) (by simp [none_])).trans g1
 have dc : IsDec H2 H1.n H0.n bs (64 - 64) := ⟨by omega, gd2, IsRd.keep r1 k2 (by simp [none_]), by omega⟩
 have kk2 : Keep h H2 none_ := (k0.trans' k1).trans' k2
 simp only [wpA_region, wpA_seq, seqQ_normal, goI_out, goI_ops, opsA_nil, opsA_cons, stepA_alloc, stepA_build, stepA_store, stepA_call, thenV_some, thenH_some, thenS_some, eval_tmp, eval_const, put_some, put_none, enterF_succ, absV_int, cells_ptr, cells_agg, aStore_eq, storeGo_ptr, setAll_nil, setAll_cons, aAlloc_eq, aBuild_go, aFill_nil, aFill_cons, fillGo_some, buildGo_struct, get_push_new, set_push, List.getElem?_cons_zero, Nat.reduceEqDiff, Nat.reduceAdd, Nat.reduceLeDiff, List.map_cons, List.map_nil, Option.map_some, Nat.zero_add, List.length_cons, List.length_nil, List.set_cons_zero, and_self, if_true, if_false, pl_246, zc_246, zt_246, stD]
 rw [← hH2]
 clear hH2
 refine callI_of cal136 (pNext 16 64 bs H2 H1.n H0.n (by decide) (by decide) (hg.keep kk2) dc hb hl) fun r H3 ⟨e3, k3, d3⟩ => ?_
 subst e3
 have n3 := k3.n
 have g3 := (k3.get h.n (by omega) (by rintro (hh | hh) <;> omega)).trans g2
 have kk3 : Keep h H3 none_ := kk2.trans k3 fun q hq hh => by rcases hh with hh | hh <;> omega
 cases hx : getX 16 64 bs with
 | error c =>
  have hc0 := getX_err _ _ _ _ hx
  have c1 : (((c : Nat) : Int) != 0) = true := by simp; omega
  have hE : ofX bs = .error c := by unfold ofX; rw [hx]
  have hV : ofV bs = .tuple [.agg (encE (.mk 0 0 [])), .int .i64 (c : Nat)] := by unfold ofV ofE ofC; rw [hE]
  rw [hV]
  have cA := ex_cells (.mk 0 0 [])
  have stA := ex_st (.mk 0 0 [])
  have kZ : Keep H3 (H3.push (.cells (encE (.mk 0 0 [])) 88 none)) none_ := Keep.push _ _ _
  have g4 := (kZ.get h.n (by omega) (by simp [none_])).trans g3
  simp only [gotV]
  simp only [wpA_region, wpA_seq, wpA_cond, wpA_ret, condI_true, seqQ_normal, seqQ_ret, endI_mk, goI_out, goI_ops, opsA_nil, opsA_cons, stepA_move, stepA_assign, stepA_alloc, stepA_build, stepA_store, stepA_binOp, stepA_extract, thenV_some, thenH_some, thenS_some, extV_zero, extV_succ, eval_tmp, eval_const, put_some, put_none, enterF_succ, aBin_neq, absV_int, cells_agg, one_int, one_snil, all_nil, all_cons, aLoad_eq, loadGo_row, aPlace_ptr, dropC_cells, aStore_eq, storeGo_ptr, setC_row, setAll_nil, setAll_cons, aAlloc_eq, aBuild_go, aFill_nil, buildGo_struct, get_push_new, get_set_same, set_push, Nat.reduceEqDiff, Nat.reduceAdd, List.map_nil, Option.map_some, Nat.zero_add, Nat.zero_le, List.length_cons, List.length_nil, List.drop_zero, List.take_succ_cons, List.take_nil, List.set_cons_zero, List.set_cons_succ, if_true, if_false, Bool.and_self, Nat.le_refl, lt_88, pl_88, zc_88, zt_88, cA, stA, c1, g4, retA_ret, Tryz.results97, resultsC_2, resultA_tmp, resultA_cell, res2_some]
  exact hid_mk ⟨_, errC _ c, (kk3.trans' kZ).trans (Keep.set _ h.n _) fun q hq hh => by omega⟩
 | ok r =>
  obtain ⟨e, b', l'⟩ := r
  have dc3 := d3 e b' l' hx
  have z0 : ((0 : Int) != 0) = false := rfl
  have cA := ex_cells e
  have stA := ex_st e
  obtain ⟨H4, hH4⟩ : ∃ y, y = H3.push (.cells (encE e) 88 none) := ⟨_, rfl⟩
  have k4 : Keep H3 H4 none_ := by rw [hH4]; exact Keep.push _ _ _
  have g44 : H4.get H3.n = .cells (encE e) 88 none := by rw [hH4]; exact get_push_new
  have g4 := (k4.get h.n (by omega) (by simp [none_])).trans g3
  have dc4 := IsDec.keep dc3 k4 (by simp [none_]) (by simp [none_])
  have gd4 := dc4.2.1
  have kk4 := kk3.trans' k4
  simp only [gotV]
  simp only [wpA_skip, wpA_region, wpA_seq, wpA_cond, condI_false, seqQ_normal, goI_out, goI_ops, opsA_nil, opsA_cons, stepA_move, stepA_assign, stepA_alloc, stepA_load, stepA_store, stepA_binOp, stepA_fieldAddr, stepA_extract, thenV_some, thenH_some, thenS_some, extV_zero, extV_succ, eval_tmp, eval_const, put_some, put_none, enterF_succ, aBin_neq, absV_int, aField_eq, fieldGo_ptr, aLoad_eq, aPlace_ptr, aStore_eq, storeGo_ptr, aAlloc_eq, get_push_new, set_push, bne_self_eq_false, Nat.reduceEqDiff, Option.map_some, Nat.add_zero, if_true, if_false, ft_246_0, lt_80, zc_88, zt_88, cA, stA]
  rw [← hH4]
  clear hH4
  simp only [goI_ops, opsA_cons, stepA_call, thenV_some, eval_tmp, put_some, put_none, enterF_succ, loadGo_one, dropC_cells, Nat.reduceEqDiff, Nat.reduceAdd, List.map_cons, List.map_nil, Nat.zero_add, Nat.zero_le, List.length_cons, List.length_nil, List.drop_zero, if_true, if_false, gd4]
  refine callI_pure cal28 (Left H4 _ _ b' dc4.2.2.1) ?_
  by_cases hb0 : b'.length = 0
  ·have c1 : decide ((0 : Int) < ((b'.length : Nat) : Int)) = false := decide_eq_false (by omega)
   have hE : ofX bs = .ok e := by unfold ofX; rw [hx]; simp only; rw [if_pos hb0]
   have hV : ofV bs = .tuple [.agg (encE e), .int .i64 0] := by unfold ofV ofE ofC; rw [hE]; rfl
   rw [hV]
   have dA : dropC (AObj.cells (encE e) 88 none) 0 = some (encE e) := by cases e; rfl
   have lA : loadGo (some (some 3)) (some (encE e)) = some (.agg (encE e)) := by cases e; rfl
   have ldc := ex_ldc e
   simp only [wpA_skip, wpA_region, wpA_seq, wpA_cond, wpA_ret, condI_false, seqQ_normal, endI_mk, goI_out, goI_ops, opsA_nil, opsA_cons, stepA_assign, stepA_load, stepA_store, stepA_binOp, thenV_some, thenS_some, eval_tmp, eval_const, put_some, put_none, enterF_succ, aBin_gtr, absV_int, aLoad_eq, aPlace_ptr, aStore_eq, storeGo_ptr, get_set_same, Nat.reduceEqDiff, Option.map_some, if_true, if_false, lt_88, zt_88, c1, g44, g4, dA, lA, cA, stA, retA_ret, Tryz.results97, resultsC_2, resultA_tmp, resultA_cell, res2_some]
   exact hid_mk ⟨_, Cast.refl _ _, kk4.trans (Keep.set _ h.n _) fun q hq hh => by omega⟩
  ·have c1 : decide ((0 : Int) < ((b'.length : Nat) : Int)) = true := decide_eq_true (by omega)
   have hE : ofX bs = .error 5 := by unfold ofX; rw [hx]; simp only; rw [if_neg hb0]
   have hV : ofV bs = .tuple [.agg (encE (.mk 0 0 [])), .int .i64 (5 : Nat)] := by unfold ofV ofE ofC; rw [hE]
   rw [hV]
   simp only [wpA_region, wpA_seq, wpA_cond, wpA_ret, condI_true, seqQ_normal, seqQ_ret, endI_mk, goI_out, goI_ops, opsA_nil, opsA_cons, stepA_assign, stepA_build, stepA_store, stepA_binOp, thenV_some, thenS_some, eval_tmp, eval_const, put_some, put_none, enterF_succ, aBin_gtr, absV_int, cells_agg, one_int, one_snil, all_nil, all_cons, aLoad_eq, loadGo_row, aPlace_ptr, dropC_cells, aStore_eq, storeGo_ptr, setC_row, setAll_nil, setAll_cons, aBuild_go, aFill_nil, buildGo_struct, get_set_same, Nat.reduceEqDiff, Nat.reduceAdd, List.map_nil, Option.map_some, Nat.zero_add, Nat.zero_le, List.length_cons, List.length_nil, List.drop_zero, List.take_succ_cons, List.take_nil, List.set_cons_zero, List.set_cons_succ, if_true, if_false, Bool.and_self, Nat.le_refl, lt_88, pl_88, zc_88, zt_88, c1, g4, retA_ret, Tryz.results97, resultsC_2, resultA_tmp, resultA_cell, res2_some]
   exact hid_mk ⟨_, errC _ 5, kk4.trans (Keep.set _ h.n _) fun q hq hh => by omega⟩
end Go.Proofs.YtfcjehlhoebmnaaGreatDoor.Pk
