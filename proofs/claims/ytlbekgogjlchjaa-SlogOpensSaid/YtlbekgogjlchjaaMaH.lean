/-
  What functions of the program do, told of abstract states. Conditions: as each theorem says.
-/
import Derived.Test.YtlbekgogjlchjaaMaG
namespace Go.Proofs.Ytlbekgogjlchjaa.Pk
open Go Go.Proofs Go.Proofs.Ytlbekgogjlchjaa.Ab
set_option linter.unusedVariables false
set_option linter.unusedSimpArgs false
/-! ### A node on a disk of its own -/
structure Nd (h0 h : AHeap) (a m k j i : Nat) (room : Int) (v pv : V) (l : List (List Nat)) (torn : Int) : Prop where
  nd : IsNode h a m k j i room (l.flatMap frame) ((l.flatMap frame).length : Nat) v pv l torn (redoL l)
  ok : NOk (redoL l)
  pl : ∀ p ∈ l, p.length ≤ 4096 ∧ ∀ x ∈ p, x < 256
  new : ∀ q, NodP a m k j i v pv q → h0.n ≤ q
  keep : Keep h0 h none_
theorem Nd.on {h0 h h' : AHeap} {a m k j i : Nat} {room torn : Int} {v pv : V} {l : List (List Nat)} (d : Nd h0 h a m k j i room v pv l torn) (hk : Keep h h' none_) : Nd h0 h' a m k j i room v pv l torn :=
  ⟨d.nd.keepN hk, d.ok, d.pl, d.new, d.keep.trans hk fun _ _ h => h⟩
theorem Nd.len {h0 h : AHeap} {a m k j i : Nat} {room torn : Int} {v pv : V} {l : List (List Nat)} (d : Nd h0 h a m k j i room v pv l torn) : l.length ≤ 1048576 := by
  have h1 := d.nd.seg.disk.len
  have h2 := d.nd.seg.disk.most
  have h3 := frames_len l
  rw [nI_len] at h1
  omega
theorem kset_len {κ α : Type} [DecidableEq κ] (l : List (Nat × κ × α)) (cl : Nat) (k : κ) (a : α) : (kset cl l k a).length ≤ l.length + 1 := by
  rw [klen_set]; split <;> omega
theorem redoL_len : ∀ (l : List (List Nat)) (s : NSt), (l.foldl redo s).2.1.length ≤ s.2.1.length + l.length
  | [], s => by simp
  | p :: l, s => by
    have ih := redoL_len l (redo s p)
    have h1 : (redo s p).2.1.length ≤ s.2.1.length + 1 := by
      unfold redo
      split
      · simp only [appC]
        split
        · omega
        · exact kset_len _ _ _ _
      · omega
    rw [List.foldl_cons, List.length_cons]
    omega
theorem Nd.step {h0 h h' : AHeap} {a m k j i : Nat} {room torn : Int} {v pv v' pv' : V} {l : List (List Nat)} {x : Act} (d : Nd h0 h a m k j i room v pv l torn)
    (n1 : IsNode h' a m k j i room (l.flatMap frame ++ frame (payN x)) ((l.flatMap frame ++ frame (payN x)).length : Nat) v' pv' (l ++ [payN x]) torn (appS (redoL l) x)) (n2 : NewP h i v v') (n3 : idOf pv' = idOf pv ∨ ∀ y, idOf pv' = some y → h.n ≤ y) (n4 : Keep h h' (NodP a m k j i v pv))
    (hx : redo (redoL l) (payN x) = appS (redoL l) x) (hw : NOk (appS (redoL l) x)) (hp : (payN x).length ≤ 4096 ∧ ∀ y ∈ payN x, y < 256) : Nd h0 h' a m k j i room v' pv' (l ++ [payN x]) torn := by
  have hR : redoL (l ++ [payN x]) = appS (redoL l) x := by rw [redoL_snoc, hx]
  have hF : (l ++ [payN x]).flatMap frame = l.flatMap frame ++ frame (payN x) := by simp
  have kn := d.keep.n
  refine ⟨by rw [hR, hF]; exact n1, by rw [hR]; exact hw, fun p hp' => ?_, fun q hq => ?_, d.keep.trans n4 fun q hq hh => by have := d.new q hh; omega⟩
  · rcases List.mem_append.1 hp' with h1 | h1
    · exact d.pl p h1
    · simp at h1; subst h1; exact hp
  · rcases hq with hq | hq | hq | hq | hq | hq | hq
    · exact d.new q (.inl hq)
    · exact d.new q (.inr (.inl hq))
    · exact d.new q (.inr (.inr (.inl hq)))
    · exact d.new q (.inr (.inr (.inr (.inl hq))))
    · exact d.new q (.inr (.inr (.inr (.inr (.inl hq)))))
    · rcases n2 with n2 | n2
      · exact d.new q (.inr (.inr (.inr (.inr (.inr (.inl (n2 ▸ hq)))))))
      · have := n2 q hq; omega
    · rcases n3 with n3 | n3
      · exact d.new q (.inr (.inr (.inr (.inr (.inr (.inr (n3 ▸ hq)))))))
      · have := n3 q hq; omega
theorem kget_ok {s : NSt} (w : NOk s) {at_ : Int} {c : Cel} (hg : kget s.2.1 at_ = some c) : c.bytes.length ≤ 2048 ∧ (∀ n ∈ c.bytes, n < 256) ∧ c.at_ = at_ := by
  obtain ⟨e, he, h2⟩ := kget_mem hg
  obtain ⟨s1, s2, _, _, s5⟩ := w.sm e he
  obtain ⟨e1, e2, e3⟩ := e
  simp only [Prod.mk.injEq] at h2 s1 s2 s5
  obtain ⟨rfl, rfl⟩ := h2
  exact ⟨s1, s2, s5⟩
theorem pay_ok (x : Act) (ho : okAct x) (hb : ∀ n ∈ x.bytes, n < 256) : (payN x).length ≤ 4096 ∧ ∀ y ∈ payN x, y < 256 := by
  obtain ⟨h1, h2, h3, h4⟩ := ho
  have e1 := enc_le x.kind.toNat (by omega)
  have e2 := enc_le x.epoch.toNat (by omega)
  have e3 := enc_le x.at_.toNat (by omega)
  have e4 := enc_le x.bytes.length (by omega)
  have l1 := enc_lt x.kind.toNat x.kind.toNat (Nat.le_refl _)
  have l2 := enc_lt x.epoch.toNat x.epoch.toNat (Nat.le_refl _)
  have l3 := enc_lt x.at_.toNat x.at_.toNat (Nat.le_refl _)
  have l4 := enc_lt x.bytes.length x.bytes.length (Nat.le_refl _)
  unfold payN encBytes
  split
  · refine ⟨by simp only [List.length_append]; omega, fun y hy => ?_⟩
    rcases List.mem_append.1 hy with hy | hy
    · exact l1 y hy
    · exact l2 y hy
  · refine ⟨by simp only [List.length_append]; omega, fun y hy => ?_⟩
    simp only [List.mem_append] at hy
    rcases hy with ((hy | hy) | hy) | hy | hy
    · exact l1 y hy
    · exact l2 y hy
    · exact l3 y hy
    · exact l4 y hy
    · exact hb y hy
end Go.Proofs.Ytlbekgogjlchjaa.Pk
namespace Go.Proofs.Ytlbekgogjlchjaa.Pk
open Go Go.Proofs Go.Proofs.Ytlbekgogjlchjaa.Ab
set_option linter.unusedVariables false
set_option linter.unusedSimpArgs false
theorem wr_ok {s : NSt} {ep at_ : Int} {b : List Nat} (hw : wrI s ep at_ b = none) : mayWr ⟨1, ep, at_, b⟩ = true := by
  cases hm : mayWr ⟨1, ep, at_, b⟩
  · unfold wrI at hw; rw [if_pos hm] at hw; cases hw
  · rfl
theorem wr_rng {ep at_ : Int} {b : List Nat} (hm : mayWr ⟨1, ep, at_, b⟩ = true) : (0 ≤ at_ ∧ at_ < 4096) ∧ (0 ≤ ep ∧ ep ≤ 1048576) ∧ b.length ≤ 2048 := by
  unfold mayWr mayEp at hm
  simp only [Bool.and_eq_true, decide_eq_true_eq] at hm
  obtain ⟨⟨⟨m1, m2⟩, m3, m4⟩, m5⟩ := hm
  exact ⟨⟨m1, m2⟩, ⟨m3, m4⟩, m5⟩
theorem ndWrite {h0 h : AHeap} {a m k j i : Nat} {room torn : Int} {v pv : V} {l : List (List Nat)} (d : Nd h0 h a m k j i room v pv l torn) (ep at_ : Int) (b : List Nat) (hb : ∀ n ∈ b, n < 256) (hbl : b.length ≤ 2 ^ 50) :
    SCalls Try.prog 17 [.ptr a 0, .int .i64 ep, .int .i64 at_, .imm b.length (bytesV b)] h (fun r h' => match wrI (redoL l) ep at_ b with
      | some e => r = .int .i64 e ∧ Nd h0 h' a m k j i room v pv l torn
      | none => r = .int .i64 (putBad room (l.flatMap frame) (payN ⟨1, ep, at_, b⟩)) ∧
        if putBad room (l.flatMap frame) (payN ⟨1, ep, at_, b⟩) = 0 then ∃ v' pv', Nd h0 h' a m k j i room v' pv' (l ++ [payN ⟨1, ep, at_, b⟩]) torn else Nd h0 h' a m k j i room v pv l torn) := by
  refine (nWrite h a m k j i room _ torn _ v pv l (redoL l) d.nd (by have := d.len; omega) ep at_ b hb hbl (fun c hc => (kget_ok d.ok hc).2.1)).mono fun r h' hp => ?_
  cases hw : wrI (redoL l) ep at_ b with
  | some e =>
    rw [hw] at hp
    exact ⟨hp.1, d.on hp.2.2⟩
  | none =>
    rw [hw] at hp
    obtain ⟨e, hp⟩ := hp
    refine ⟨e, ?_⟩
    have hm := wr_ok hw
    obtain ⟨r1, r2, r3⟩ := wr_rng hm
    by_cases hP : putBad room (l.flatMap frame) (payN ⟨1, ep, at_, b⟩) = 0
    · rw [if_pos hP] at hp ⊢
      obtain ⟨v', pv', n1, n2, n3, n4⟩ := hp
      refine ⟨v', pv', d.step n1 n2 n3 n4 ?_ (d.ok.write ep at_ b hb hm) (pay_ok _ ⟨by simp only; omega, by simp only; omega, by simp only; omega, r3⟩ hb)⟩
      obtain ⟨e1, rfl⟩ : ∃ q : Nat, ep = q := ⟨ep.toNat, by omega⟩
      obtain ⟨e2, rfl⟩ : ∃ q : Nat, at_ = q := ⟨at_.toNat, by omega⟩
      exact redo_write _ e1 e2 b hw
    · rw [if_neg hP] at hp ⊢
      exact d.on hp.2
theorem ndSeal {h0 h : AHeap} {a m k j i : Nat} {room torn : Int} {v pv : V} {l : List (List Nat)} (d : Nd h0 h a m k j i room v pv l torn) (ep : Int) :
    SCalls Try.prog 16 [.ptr a 0, .int .i64 ep] h (fun r h' => match selI (redoL l) ep with
      | some e => r = .tuple [.snil, .int .i64 e] ∧ Nd h0 h' a m k j i room v pv l torn
      | none => if putBad room (l.flatMap frame) (payN (selA ep)) = 0 then ∃ (v' pv' rv : V) (out : List Cel), r = .tuple [rv, .int .i64 0] ∧ Nd h0 h' a m k j i room v' pv' (l ++ [payN (selA ep)]) torn ∧
          out.Perm ((redoL l).2.1.map (·.2.2)) ∧ (out.Pairwise fun a b => ¬ b.at_ < a.at_) ∧ Own h' 39 3 rv (out.flatMap celE) ∧ (∀ q, idOf rv = some q → h.n ≤ q)
        else r = .tuple [.snil, .int .i64 (putBad room (l.flatMap frame) (payN (selA ep)))] ∧ Nd h0 h' a m k j i room v pv l torn) := by
  have hll := d.len
  have hrl := redoL_len l (0, [], 0)
  refine (nSeal h a m k j i room _ torn _ v pv l (redoL l) d.nd d.ok (by omega) (by unfold redoL; simp only [List.length_nil] at hrl; omega) ep).mono fun r h' hp => ?_
  cases hs : selI (redoL l) ep with
  | some e =>
    rw [hs] at hp
    exact ⟨hp.1, d.on hp.2.2⟩
  | none =>
    rw [hs] at hp
    have hm : mayEp ep = true ∧ (redoL l).1 < ep := by
      unfold selI at hs
      split at hs
      · cases hs
      split at hs
      · cases hs
      · rename_i h1 h2
        exact ⟨by simpa using h1, by omega⟩
    obtain ⟨hm, hlt⟩ := hm
    have hm' := hm
    unfold mayEp at hm'
    simp only [Bool.and_eq_true, decide_eq_true_eq] at hm'
    by_cases hP : putBad room (l.flatMap frame) (payN (selA ep)) = 0
    · simp only at hp ⊢
      rw [if_pos hP] at hp ⊢
      obtain ⟨v', pv', rv, out, e, n1, o1, o2, o3, o4, n2, n3, n4⟩ := hp
      refine ⟨v', pv', rv, out, e, d.step n1 n2 n3 n4 ?_ (d.ok.sealed ep) (pay_ok _ ⟨by simp only [selA]; omega, by simp only [selA]; omega, by simp only [selA]; omega, by simp [selA]⟩ (by simp [selA])), o1, o2, o3, fun q hq => (o4 q hq).1⟩
      obtain ⟨e1, rfl⟩ : ∃ q : Nat, ep = q := ⟨ep.toNat, by omega⟩
      exact redo_seal _ e1 (by omega) hlt
    · simp only at hp ⊢
      rw [if_neg hP] at hp ⊢
      exact ⟨hp.1, d.on hp.2.2⟩
/-- A node on a new disk. -/
theorem ndOpen {h0 h : AHeap} {i : Nat} {room : Int} (d : IsDisk h (.ptr i 0) room [] 0 i .snil) (hk : Keep h0 h none_) (hi : h0.n ≤ i) :
    SCalls Try.prog 15 [.ptr i 0] h (fun r h' => ∃ a m k j v pv, r = .ptr a 0 ∧ Nd h0 h' a m k j i room v pv [] 0) := by
  have kn := hk.n
  refine (nOpen h i room [] (by simp) 0 .snil d).mono fun r h' ⟨a, m, k, j, v', pv, e, n1, i1, ha, hm, hk', hj, hp, kp⟩ => ?_
  refine ⟨a, m, k, j, v', pv, e, n1, NOk.nil, by simp, fun q hq => ?_, hk.trans kp fun q hq hh => ?_⟩
  · rcases hq with hq | hq | hq | hq | hq | hq | hq
    · omega
    · omega
    · omega
    · omega
    · omega
    · rw [i1] at hq; cases hq
    · have := hp q hq; omega
  · rcases hh with hh | hh
    · omega
    · cases hh
end Go.Proofs.Ytlbekgogjlchjaa.Pk
namespace Go.Proofs.Ytlbekgogjlchjaa.Pk
open Go Go.Proofs Go.Proofs.Ytlbekgogjlchjaa.Ab
set_option linter.unusedVariables false
set_option linter.unusedSimpArgs false
theorem crashed_safe (bs : List Int) (keep turn : Int) : crashed bs bs.length keep turn = bs := by
  have h0 : min (max keep 0) ((bs.length : Int) - bs.length) = 0 := by omega
  unfold crashed
  simp only [h0]
  rw [if_neg (by omega), Int.add_zero, Int.toNat_natCast, List.take_length]
theorem ndCrash {h0 h : AHeap} {a m k j i : Nat} {room torn : Int} {v pv : V} {l : List (List Nat)} (d : Nd h0 h a m k j i room v pv l torn) (keep turn : Int) :
    SCalls Try.prog 21 [.ptr i 0, .int .i64 keep, .int .i64 turn] h (fun r h' => ∃ v', IsDisk h' (.ptr i 0) room (nI (l.flatMap frame)) ((l.flatMap frame).length : Nat) i v' ∧ idOf v' = idOf v ∧ Keep h h' (Parts i v)) := by
  have hd := d.nd.seg.disk
  have hl := nI_len (l.flatMap frame)
  refine (dCrash h _ room _ _ i v hd keep turn).mono fun r h' ⟨v', e1, e2, e3⟩ => ?_
  rw [← hl, crashed_safe, hl] at e1
  exact ⟨v', e1, e2, e3⟩
/-- A node opened anew on its disk. -/
theorem ndReopen {h0 h h1 : AHeap} {a m k j i : Nat} {room torn : Int} {v pv v' : V} {l : List (List Nat)} (d : Nd h0 h a m k j i room v pv l torn) (hd : IsDisk h1 (.ptr i 0) room (nI (l.flatMap frame)) ((l.flatMap frame).length : Nat) i v') (hi : idOf v' = idOf v) (hk : Keep h h1 (Parts i v)) :
    SCalls Try.prog 15 [.ptr i 0] h1 (fun r h' => ∃ a m k j v pv, r = .ptr a 0 ∧ Nd h0 h' a m k j i room v pv l 0) := by
  have hb : ∀ x ∈ l.flatMap frame, x < 256 := fun x hx => by
    obtain ⟨p, hp, hx⟩ := List.mem_flatMap.1 hx
    have he := enc_lt p.length p.length (Nat.le_refl _)
    unfold frame encBytes at hx
    rcases List.mem_append.1 hx with hx | hx
    · rcases List.mem_append.1 hx with hx | hx
      · exact he x hx
      · exact (d.pl p hp).2 x hx
    · simp only [sumL, List.mem_cons, List.not_mem_nil, or_false] at hx
      rcases hx with rfl | rfl | rfl | rfl <;> exact sumB_lt _ _
  have hs := scan_all l (fun p hp => (d.pl p hp).1)
  have kn := hk.n
  have kn0 := d.keep.n
  have hin : h0.n ≤ i := d.new i (.inr (.inr (.inr (.inr (.inl rfl)))))
  have hvn : ∀ q, idOf v = some q → h0.n ≤ q := fun q hq => d.new q (.inr (.inr (.inr (.inr (.inr (.inl hq))))))
  refine (nOpen h1 i room (l.flatMap frame) hb _ v' hd).mono fun r h' ⟨a', m', k', j', v2, pv2, e, n1, i1, ha, hm, hk', hj, hp, kp⟩ => ?_
  rw [hs] at n1
  simp only [List.take_length, Int.sub_self] at n1
  refine ⟨a', m', k', j', v2, pv2, e, n1, d.ok, d.pl, fun q hq => ?_, (d.keep.trans hk fun q hq hh => ?_).trans kp fun q hq hh => ?_⟩
  · rcases hq with hq | hq | hq | hq | hq | hq | hq
    · omega
    · omega
    · omega
    · omega
    · omega
    · rw [i1, hi] at hq; exact hvn q hq
    · have := hp q hq; omega
  · rcases hh with hh | hh
    · omega
    · have := hvn q hh; omega
  · rcases hh with hh | hh
    · omega
    · rw [hi] at hh; have := hvn q hh; omega
theorem ndEpoch {h0 h : AHeap} {a m k j i : Nat} {room torn : Int} {v pv : V} {l : List (List Nat)} (d : Nd h0 h a m k j i room v pv l torn) : Pure Try.prog 18 [.ptr a 0] h (.int .i64 (redoL l).1) :=
  nEpoch h a m k _ _ _ d.nd.nod
theorem ndTail {h0 h : AHeap} {a m k j i : Nat} {room torn : Int} {v pv : V} {l : List (List Nat)} (d : Nd h0 h a m k j i room v pv l torn) : Pure Try.prog 19 [.ptr a 0] h (.int .i64 (topI ((redoL l).2.1.map (·.2.1)))) :=
  nTail h a m k _ d.nd.nod d.ok
theorem ndRead {h0 h : AHeap} {a m k j i : Nat} {room torn : Int} {v pv : V} {l : List (List Nat)} (d : Nd h0 h a m k j i room v pv l torn) (at_ : Int) :
    Pure Try.prog 20 [.ptr a 0, .int .i64 at_] h (.tuple [.agg (celE (readI (redoL l) at_).1), .int .i64 (readI (redoL l) at_).2]) :=
  nRead h a m k _ _ _ d.nd.nod at_ (fun c hc => by have := (kget_ok d.ok hc).1; omega)
/-! ### No node -/
theorem zEpoch (h : AHeap) : Pure Try.prog 18 [.pnil] h (.int .i64 0) := by
  refine SCalls.enterI (c := _) Try.func18 rfl (by kernel_rfl) (by simp) ?_
  simp only [wpA_region, wpA_seq, wpA_cond, wpA_ret, condI_true, seqQ_normal, seqQ_ret, endI_mk, goI_out, goI_ops, opsA_nil, opsA_cons, stepA_move, stepA_assign, stepA_binOp, thenV_some, eval_tmp, eval_const, put_some, enterF_zero, enterF_succ, nil_nil_eql, absV_int, absV_pnil, Nat.reduceEqDiff, reduceCtorEq, if_true, if_false, kt_28, retA_ret, Try.results18, resultsA_1]
  exact hid_mk ⟨rfl, rfl⟩
theorem zTail (h : AHeap) : Pure Try.prog 19 [.pnil] h (.int .i64 0) := by
  refine SCalls.enterI (c := _) Try.func19 rfl (by kernel_rfl) (by simp) ?_
  simp only [wpA_region, wpA_seq, wpA_cond, wpA_ret, condI_true, seqQ_normal, seqQ_ret, endI_mk, goI_out, goI_ops, opsA_nil, opsA_cons, stepA_move, stepA_assign, stepA_binOp, thenV_some, eval_tmp, eval_const, put_some, enterF_zero, enterF_succ, nil_nil_eql, absV_int, absV_pnil, Nat.reduceEqDiff, reduceCtorEq, if_true, if_false, kt_28, retA_ret, Try.results19, resultsA_1]
  exact hid_mk ⟨rfl, rfl⟩
theorem zWrite (h : AHeap) (ep at_ : Int) (b : V) : Pure Try.prog 17 [.pnil, .int .i64 ep, .int .i64 at_, b] h (.int .i64 8) := by
  refine SCalls.enterI (c := _) Try.func17 rfl (by kernel_rfl) (by simp) ?_
  simp only [wpA_region, wpA_seq, wpA_cond, wpA_ret, condI_true, seqQ_normal, seqQ_ret, endI_mk, goI_out, goI_ops, opsA_nil, opsA_cons, stepA_move, stepA_assign, stepA_binOp, thenV_some, eval_tmp, eval_const, put_some, enterF_zero, enterF_succ, nil_nil_eql, absV_int, absV_pnil, Nat.reduceEqDiff, reduceCtorEq, if_true, if_false, kt_28, retA_ret, Try.results17, resultsA_1]
  exact hid_mk ⟨rfl, rfl⟩
theorem zSeal (h : AHeap) (ep : Int) : Pure Try.prog 16 [.pnil, .int .i64 ep] h (.tuple [.snil, .int .i64 8]) := by
  refine SCalls.enterI (c := _) Try.func16 rfl (by kernel_rfl) (by simp) ?_
  simp only [wpA_region, wpA_seq, wpA_cond, wpA_ret, condI_true, seqQ_normal, seqQ_ret, endI_mk, goI_out, goI_ops, opsA_nil, opsA_cons, stepA_move, stepA_assign, stepA_binOp, thenV_some, eval_tmp, eval_const, put_some, enterF_zero, enterF_succ, nil_nil_eql, absV_int, absV_pnil, absV_snil, Nat.reduceEqDiff, reduceCtorEq, if_true, if_false, kt_28, retA_ret, Try.results16, resultsA_2]
  exact hid_mk ⟨rfl, rfl⟩
theorem zRead (h : AHeap) (at_ : Int) : Pure Try.prog 20 [.pnil, .int .i64 at_] h (.tuple [.agg (celE ⟨0, 0, []⟩), .int .i64 8]) := by
  refine Pure.of (Clo.tuple (CloL.cons (Clo.agg (celE_clo _)) (CloL.cons (Clo.int _ _) CloL.nil))) ?_
  have hst : setC (some 3) (AObj.cells [.int .i64 0, .int .i64 0, .snil] 39 none) 0 [.int .i64 0, .int .i64 0, .snil] = some (.cells [.int .i64 0, .int .i64 0, .snil] 39 none) := by
    rw [setC_row (n := 3) rfl rfl, if_pos (by decide)]; rfl
  refine SCalls.enterI (c := _) Try.func20 rfl (by kernel_rfl) (by simp) ?_
  simp only [wpA_region, wpA_seq, wpA_cond, wpA_ret, condI_true, seqQ_normal, seqQ_ret, endI_mk, goI_out, goI_ops, opsA_nil, opsA_cons, stepA_move, stepA_assign, stepA_alloc, stepA_build, stepA_store, stepA_binOp, thenV_some, thenH_some, thenS_some, eval_tmp, eval_const, put_some, put_none, enterF_zero, enterF_succ, nil_nil_eql, absV_int, absV_pnil, cells_agg, aLoad_eq, loadGo_row, aPlace_ptr, dropC_cells, aStore_eq, storeGo_ptr, aAlloc_eq, aBuild_go, aFill_nil, buildGo_struct, get_push_new, set_push, Nat.reduceEqDiff, Nat.reduceAdd, reduceCtorEq, List.map_nil, Option.map_some, Nat.zero_add, Nat.zero_le, List.length_cons, List.length_nil, List.drop_zero, List.take_succ_cons, List.take_nil, if_true, if_false, Nat.le_refl, kt_28, lt_39, pl_39, zc_39, zt_39, hst, retA_ret, Try.results20, resultsC_2, resultA_tmp, resultA_cell, res2_some]
  exact hid_mk ⟨_, zCast _ _, Keep.push _ _ _⟩
end Go.Proofs.Ytlbekgogjlchjaa.Pk
namespace Go.Proofs.Ytlbekgogjlchjaa.Pk
open Go Go.Proofs Go.Proofs.Ytlbekgogjlchjaa.Ab
set_option linter.unusedVariables false
set_option linter.unusedSimpArgs false
theorem pb0 {room : Int} {bs : List Nat} {x : Act} (ho : okAct x) (hf : (bs.length : Int) + 60 + x.bytes.length ≤ room) : putBad room bs (payN x) = 0 := by
  obtain ⟨h1, h2, h3, h4⟩ := ho
  have e1 := enc_le x.kind.toNat (by omega)
  have e2 := enc_le x.epoch.toNat (by omega)
  have e3 := enc_le x.at_.toNat (by omega)
  have e4 := enc_le x.bytes.length (by omega)
  have hp : (payN x).length ≤ 40 + x.bytes.length := by
    unfold payN encBytes
    split <;> simp only [List.length_append] <;> omega
  have e5 := enc_le (payN x).length (by omega)
  have hF : (frame (payN x)).length ≤ 14 + (payN x).length := by
    unfold frame encBytes
    rw [List.length_append, List.length_append, sumL_len]
    omega
  unfold putBad
  rw [if_neg (by omega), if_pos (by omega)]
theorem fr_len (x : Act) (ho : okAct x) : (frame (payN x)).length ≤ 54 + x.bytes.length := by
  obtain ⟨h1, h2, h3, h4⟩ := ho
  have e1 := enc_le x.kind.toNat (by omega)
  have e2 := enc_le x.epoch.toNat (by omega)
  have e3 := enc_le x.at_.toNat (by omega)
  have e4 := enc_le x.bytes.length (by omega)
  have hp : (payN x).length ≤ 40 + x.bytes.length := by
    unfold payN encBytes
    split <;> simp only [List.length_append] <;> omega
  have e5 := enc_le (payN x).length (by omega)
  unfold frame encBytes
  rw [List.length_append, List.length_append, sumL_len]
  omega
/-- A write of a literal of one byte. -/
theorem ndWrite1 {h0 h : AHeap} {a m k j i : Nat} {room torn : Int} {v pv : V} {l : List (List Nat)} (d : Nd h0 h a m k j i room v pv l torn) (ep at_ : Int) (c : Nat) (hc : c < 256) :
    SCalls Try.prog 17 [.ptr a 0, .int .i64 ep, .int .i64 at_, .sl h.n 0 1 1] (h.push (.cells [.int .u8 (c : Int)] 5 none)) (fun r h' => match wrI (redoL l) ep at_ [c] with
      | some e => r = .int .i64 e ∧ Nd h0 h' a m k j i room v pv l torn
      | none => r = .int .i64 (putBad room (l.flatMap frame) (payN ⟨1, ep, at_, [c]⟩)) ∧
        if putBad room (l.flatMap frame) (payN ⟨1, ep, at_, [c]⟩) = 0 then ∃ v' pv', Nd h0 h' a m k j i room v' pv' (l ++ [payN ⟨1, ep, at_, [c]⟩]) torn else Nd h0 h' a m k j i room v pv l torn) := by
  obtain ⟨h2, cc, k2⟩ := Cast.lit (h := h) (c := [.int .u8 (c : Int)]) (e := 5) (n := 1) (sz := 1) rfl (by decide) (by decide)
  exact SCalls.args (CastL.cons (Cast.refl _ _) (CastL.cons (Cast.refl _ _) (CastL.cons (Cast.refl _ _) (CastL.cons cc (CastL.refl _ _))))) (ndWrite (d.on k2) ep at_ [c] (by simpa using hc) (by simp))
set_option maxHeartbeats 1000000 in
set_option maxRecDepth 10000 in
theorem shown8 (h : AHeap) : Pure Try.prog 13 [] h (.bool true) := by
  refine Pure.val (Clo.bool _) ?_
  have o1 : okAct ⟨1, 0, 3, [7]⟩ := ⟨by decide, by decide, by decide, by decide⟩
  have o2 : okAct (selA 2) := ⟨by decide, by decide, by decide, by decide⟩
  have o3 : okAct ⟨1, 2, 3, [8]⟩ := ⟨by decide, by decide, by decide, by decide⟩
  have f1 := fr_len _ o1
  have f2 := fr_len _ o2
  simp only [List.length_cons, List.length_nil, selA] at f1 f2
  refine SCalls.enterI (c := _) Try.func13 rfl (by kernel_rfl) (by simp) ?_
  simp only [wpA_region, wpA_seq, seqQ_normal, goI_out, goI_ops, opsA_nil, opsA_cons, stepA_assign, stepA_call, eval_const, absV_int, absV_bool, List.map_cons, List.map_nil]
  refine callI_of cal14 (dNew h 1000 (by decide) (by decide)) fun r1 h1 ⟨e1, d1, k1⟩ => ?_
  subst e1
  simp only [wpA_skip, wpA_region, wpA_seq, wpA_cond, condI_false, seqQ_normal, goI_out, goI_ops, opsA_nil, opsA_cons, opsA_guardS, gvI_same, slotAt_zero, slotAt_succ, stepA_move, stepA_assign, stepA_pick, stepA_binOp, stepA_extract, stepA_call, thenV_some, pickV_false, extV_zero, extV_succ, eval_tmp, eval_const, put_some, aBin_neq, ptr_nil_eql, absV_int, absV_bool, absV_pnil, bne_self_eq_false, Nat.reduceEqDiff, reduceCtorEq, List.map_cons, List.map_nil, if_true, if_false, kt_24]
  refine callI_of cal15 (ndOpen d1 k1 (Nat.le_refl _)) fun r2 h2 ⟨a, m, k, j, v2, pv2, e2, d2⟩ => ?_
  subst e2
  have R0 : redoL [] = (0, [], 0) := rfl
  simp only [wpA_region, wpA_seq, seqQ_normal, goI_out, goI_ops, opsA_nil, opsA_cons, stepA_move, stepA_assign, stepA_buildSlice, stepA_call, thenH_some, eval_tmp, eval_const, put_some, absV_int, Nat.reduceEqDiff, reduceCtorEq, List.map_cons, List.map_nil, if_true, if_false, lit1b]
  refine callI_of cal17 (ndWrite1 d2 0 3 7 (by decide)) fun r3 h3 hp => ?_
  rw [show wrI (redoL []) 0 3 [7] = none from by decide] at hp
  obtain ⟨e3, hp⟩ := hp
  have P1 : putBad 1000 (([] : List (List Nat)).flatMap frame) (payN ⟨1, 0, 3, [7]⟩) = 0 := pb0 o1 (by simp)
  rw [if_pos P1] at hp
  rw [P1] at e3
  subst e3
  obtain ⟨v3, pv3, d3⟩ := hp
  have R1 : redoL ([] ++ [payN ⟨1, 0, 3, [7]⟩]) = (0, [(0, 3, ⟨3, 0, [7]⟩)], 1) := by
    rw [redoL_snoc, R0]
    exact redo_write (0, [], 0) 0 3 [7] (by decide)
  simp only [wpA_region, wpA_seq, seqQ_normal, goI_out, goI_ops, opsA_nil, opsA_cons, stepA_move, stepA_assign, stepA_buildSlice, stepA_call, thenH_some, eval_tmp, eval_const, put_some, absV_int, Nat.reduceEqDiff, reduceCtorEq, List.map_cons, List.map_nil, if_true, if_false, lit1b]
  refine callI_of cal17 (ndWrite1 d3 0 3 8 (by decide)) fun r4 h4 hp => ?_
  rw [R1, show wrI (0, [(0, 3, ⟨3, 0, [7]⟩)], 1) 0 3 [8] = some 12 from by decide] at hp
  obtain ⟨e4, d4⟩ := hp
  subst e4
  simp only [wpA_region, wpA_seq, seqQ_normal, goI_out, goI_ops, opsA_nil, opsA_cons, stepA_move, stepA_assign, stepA_call, eval_tmp, eval_const, put_some, absV_int, Nat.reduceEqDiff, reduceCtorEq, List.map_cons, List.map_nil, if_true, if_false]
  refine callI_of cal16 (ndSeal d4 2) fun r5 h5 hp => ?_
  rw [R1, show selI (0, [(0, 3, ⟨3, 0, [7]⟩)], 1) 2 = none from by decide] at hp
  have P2 : putBad 1000 (([] ++ [payN ⟨1, 0, 3, [7]⟩]).flatMap frame) (payN (selA 2)) = 0 := pb0 o2 (by simp [selA]; omega)
  simp only at hp
  rw [if_pos P2] at hp
  obtain ⟨v5, pv5, rv, out, e5, d5, pl, sl, ow, nw⟩ := hp
  subst e5
  have R2 : redoL ([] ++ [payN ⟨1, 0, 3, [7]⟩] ++ [payN (selA 2)]) = (2, [(0, 3, ⟨3, 0, [7]⟩)], 1) := by
    rw [redoL_snoc, R1]
    exact redo_seal (0, [(0, 3, ⟨3, 0, [7]⟩)], 1) 2 (by decide) (by decide)
  have hol : out.length = 1 := pl.length_eq
  simp only [wpA_region, wpA_seq, seqQ_normal, goI_out, goI_ops, opsA_nil, opsA_cons, stepA_move, stepA_assign, stepA_buildSlice, stepA_extract, stepA_call, thenV_some, thenH_some, extV_zero, extV_succ, eval_tmp, eval_const, put_some, absV_int, Nat.reduceEqDiff, reduceCtorEq, List.map_cons, List.map_nil, if_true, if_false, lit1b]
  refine callI_of cal17 (ndWrite1 d5 1 4 9 (by decide)) fun r6 h6 hp => ?_
  rw [R2, show wrI (2, [(0, 3, ⟨3, 0, [7]⟩)], 1) 1 4 [9] = some 7 from by decide] at hp
  obtain ⟨e6, d6⟩ := hp
  subst e6
  simp only [wpA_region, wpA_seq, seqQ_normal, goI_out, goI_ops, opsA_nil, opsA_cons, stepA_move, stepA_assign, stepA_buildSlice, stepA_call, thenH_some, eval_tmp, eval_const, put_some, absV_int, Nat.reduceEqDiff, reduceCtorEq, List.map_cons, List.map_nil, if_true, if_false, lit1b]
  refine callI_of cal17 (ndWrite1 d6 2 3 8 (by decide)) fun r7 h7 hp => ?_
  rw [R2, show wrI (2, [(0, 3, ⟨3, 0, [7]⟩)], 1) 2 3 [8] = none from by decide] at hp
  obtain ⟨e7, hp⟩ := hp
  have P3 : putBad 1000 (([] ++ [payN ⟨1, 0, 3, [7]⟩] ++ [payN (selA 2)]).flatMap frame) (payN ⟨1, 2, 3, [8]⟩) = 0 := pb0 o3 (by simp [selA]; simp [selA] at f2; omega)
  rw [if_pos P3] at hp
  rw [P3] at e7
  subst e7
  obtain ⟨v7, pv7, d7⟩ := hp
  have R3 : redoL ([] ++ [payN ⟨1, 0, 3, [7]⟩] ++ [payN (selA 2)] ++ [payN ⟨1, 2, 3, [8]⟩]) = (2, [(0, 3, ⟨3, 2, [8]⟩)], 1) := by
    rw [redoL_snoc, R2]
    exact redo_write (2, [(0, 3, ⟨3, 0, [7]⟩)], 1) 2 3 [8] (by decide)
  have hT := ndTail d7
  rw [R3] at hT
  have hlen : aLen Try.prog 33 rv h7 = some (.int .i64 1) := by
    have h3 : (out.flatMap celE).length = 3 := by rw [rows_len celE_len, hol]
    rcases ow with ⟨_, hc⟩ | ⟨i2, len, cap, c, ex, rfl, _, _, hl, _⟩
    · rw [hc] at h3; cases h3
    · have hl1 : len = 1 := by omega
      subst hl1
      exact aLen_sl kt_33
  simp only [wpA_region, wpA_seq, seqQ_normal, goI_out, goI_ops, opsA_nil, opsA_cons, opsA_guardS, gvI_same, slotAt_zero, slotAt_succ, stepA_move, stepA_assign, stepA_pick, stepA_binOp, stepA_len, stepA_call, thenV_some, pickV_true, eval_tmp, eval_const, put_some, aBin_eql, absV_int, absV_bool, beq_self_eq_true, Nat.reduceEqDiff, reduceCtorEq, List.map_cons, List.map_nil, if_true, if_false, hlen]
  refine callI_pure cal19 hT ?_
  simp only [wpA_ret, seqQ_normal, endI_mk, goI_out, goI_ops, opsA_nil, opsA_cons, opsA_guardS, gvI_same, slotAt_zero, slotAt_succ, stepA_assign, stepA_pick, stepA_binOp, thenV_some, pickV_true, eval_tmp, eval_const, put_some, aBin_eql, absV_int, absV_bool, Nat.reduceEqDiff, reduceCtorEq, List.map_cons, List.map_nil, if_true, if_false, retA_ret, Try.results13, resultsA_1]
  exact hid_mk ⟨rfl, d7.keep⟩
/-! ### SlotNobody -/
set_option maxRecDepth 10000 in
theorem slotNobody (at_ : Int) (h : AHeap) : SCalls Try.prog 6 [.int .i64 at_] h (fun r h' => r = .bool true) := by
  refine SCalls.enterI (c := _) Try.func6 rfl (by kernel_rfl) (by simp) ?_
  simp only [wpA_region, wpA_seq, seqQ_normal, goI_out, goI_ops, opsA_nil, opsA_cons, stepA_assign, stepA_call, eval_const, absV_bool, List.map_nil]
  refine callI_pure cal13 (shown8 h) ?_
  simp only [wpA_region, wpA_seq, seqQ_normal, goI_out, goI_ops, opsA_nil, opsA_cons, stepA_move, stepA_assign, stepA_call, eval_tmp, eval_const, put_some, enterF_zero, enterF_succ, absV_pnil, Nat.reduceEqDiff, reduceCtorEq, List.map_cons, List.map_nil, if_true, if_false]
  refine callI_pure cal20 (zRead h at_) ?_
  have hst : setC (some 3) (AObj.cells [.int .i64 0, .int .i64 0, .snil] 39 none) 0 (celE ⟨0, 0, []⟩) = some (.cells (celE ⟨0, 0, []⟩) 39 none) := by
    rw [setC_row (n := 3) rfl rfl, if_pos (by decide)]; rfl
  have hcc : (V.agg (celE ⟨0, 0, []⟩)).cells = some (celE ⟨0, 0, []⟩) := rfl
  simp only [wpA_region, wpA_seq, seqQ_normal, goI_out, goI_ops, opsA_nil, opsA_cons, stepA_move, stepA_assign, stepA_alloc, stepA_store, stepA_extract, stepA_call, thenV_some, thenH_some, thenS_some, extV_zero, extV_succ, eval_tmp, eval_const, put_some, put_none, enterF_succ, absV_int, aStore_eq, storeGo_ptr, aAlloc_eq, get_push_new, set_push, Nat.reduceEqDiff, List.map_cons, List.map_nil, Option.map_some, if_true, if_false, zc_39, zt_39, hst, hcc]
  refine callI_pure cal16 (zSeal _ 1) ?_
  simp only [wpA_region, wpA_seq, seqQ_normal, goI_out, goI_ops, opsA_nil, opsA_cons, opsA_guardS, gvI_same, slotAt_zero, slotAt_succ, stepA_move, stepA_assign, stepA_extract, stepA_call, thenV_some, extV_zero, extV_succ, eval_tmp, eval_const, put_some, put_none, enterF_zero, enterF_succ, absV_int, absV_snil, Nat.reduceEqDiff, reduceCtorEq, List.map_cons, List.map_nil, if_true, if_false]
  refine callI_pure cal17 (zWrite _ 0 at_ .snil) ?_
  simp only [goI_ops, opsA_cons, opsA_guardS, gvI_same, slotAt_zero, slotAt_succ, stepA_move, stepA_pick, stepA_binOp, stepA_call, thenV_some, pickV_true, eval_tmp, eval_const, put_some, put_none, enterF_succ, aBin_eql, absV_int, absV_bool, beq_self_eq_true, Nat.reduceEqDiff, List.map_cons, List.map_nil, if_true, if_false]
  refine callI_pure cal18 (zEpoch _) ?_
  simp only [goI_ops, opsA_cons, opsA_guardS, gvI_same, slotAt_zero, slotAt_succ, stepA_move, stepA_pick, stepA_binOp, stepA_call, thenV_some, pickV_true, eval_tmp, eval_const, put_some, put_none, enterF_succ, aBin_eql, absV_int, absV_bool, beq_self_eq_true, Nat.reduceEqDiff, List.map_cons, List.map_nil, if_true, if_false]
  refine callI_pure cal19 (zTail _) ?_
  simp only [wpA_ret, seqQ_normal, endI_mk, goI_out, goI_ops, opsA_nil, opsA_cons, opsA_guardS, gvI_same, slotAt_zero, slotAt_succ, stepA_assign, stepA_pick, stepA_binOp, thenV_some, pickV_true, eval_tmp, eval_const, put_some, put_none, enterF_succ, aBin_eql, absV_int, absV_bool, beq_self_eq_true, Nat.reduceEqDiff, if_true, if_false, retA_ret, Try.results6, resultsA_1]
  exact hid_mk rfl
end Go.Proofs.Ytlbekgogjlchjaa.Pk
