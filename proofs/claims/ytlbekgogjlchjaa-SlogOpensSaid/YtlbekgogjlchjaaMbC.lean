/-
  What functions of the program do, told of abstract states. Conditions: as each theorem says.
-/
import Derived.Test.YtlbekgogjlchjaaMbB
import Derived.Test.YtlbekgogjlchjaaTyS
namespace Go.Proofs.Ytlbekgogjlchjaa.Pk
open Go Go.Proofs Go.Proofs.Ytlbekgogjlchjaa.Ab
set_option linter.unusedVariables false
set_option linter.unusedSimpArgs false
/-! ### The counter -/
theorem adO : adOk Try.prog 103 := ⟨_, Try.func103, by kernel_rfl, by kernel_rfl, by kernel_rfl, by kernel_rfl, 165, 2, by kernel_rfl, by decide⟩
theorem ldO : ldOk Try.prog 104 := ⟨_, Try.func104, by kernel_rfl, by kernel_rfl, by kernel_rfl, by kernel_rfl, 165, by kernel_rfl⟩
set_option maxRecDepth 10000 in
theorem tAdd (h : AHeap) (i : Nat) (x y : Int) (g : h.get i = .cells [.int .i64 x] 145 none) :
    SCalls Try.prog 87 [.ptr i 0, .int .i64 y] h (fun r h' => r = .int .i64 (IntKind.i64.wrap (x + y)) ∧ h' = h.set i (.cells [.int .i64 (IntKind.i64.wrap (x + y))] 145 none)) := by
  refine SCalls.enterI (c := _) Try.func87 rfl (by kernel_rfl) (by simp) ?_
  have ha : aAd h [.ptr i 0, .int .i64 y] = some (.int .i64 (IntKind.i64.wrap (x + y)), h.set i (.cells [.int .i64 (IntKind.i64.wrap (x + y))] 145 none)) := by
    unfold aAd; simp only [g]; rfl
  simp only [wpA_region, wpA_seq, seqQ_normal, goI_out, goI_ops, opsA_nil, opsA_cons, stepA_move, stepA_assign, stepA_nilCheck, stepA_fieldAddr, stepA_call, thenV_some, nilV_ptr, eval_tmp, eval_const, put_some, enterF_zero, enterF_succ, absV_int, aField_eq, fieldGo_ptr, Nat.reduceEqDiff, reduceCtorEq, List.map_cons, List.map_nil, Nat.add_zero, if_true, if_false, ft_145_2]
  refine callI_ad ncal103 adO ha ?_
  simp only [wpA_ret, seqQ_normal, endI_mk, goI_out, goI_ops, opsA_nil, opsA_cons, stepA_assign, eval_tmp, put_some, enterF_succ, Nat.reduceEqDiff, if_true, if_false, retA_ret, Try.results87, resultsA_1]
  exact hid_mk ⟨rfl, rfl⟩
set_option maxRecDepth 10000 in
theorem tLoad64 (h : AHeap) (i : Nat) (x : Int) (g : h.get i = .cells [.int .i64 x] 145 none) : Pure Try.prog 88 [.ptr i 0] h (.int .i64 x) := by
  refine SCalls.enterI (c := _) Try.func88 rfl (by kernel_rfl) (by simp) ?_
  have ha : aLd h [.ptr i 0] = some (.int .i64 x) := by unfold aLd; simp only [g]; rfl
  simp only [wpA_region, wpA_seq, seqQ_normal, goI_out, goI_ops, opsA_nil, opsA_cons, stepA_move, stepA_assign, stepA_nilCheck, stepA_fieldAddr, stepA_call, thenV_some, nilV_ptr, eval_tmp, eval_const, put_some, enterF_zero, enterF_succ, absV_int, aField_eq, fieldGo_ptr, Nat.reduceEqDiff, reduceCtorEq, List.map_cons, List.map_nil, Nat.add_zero, if_true, if_false, ft_145_2]
  refine callI_ld ncal104 ldO ha ?_
  simp only [wpA_ret, seqQ_normal, endI_mk, goI_out, goI_ops, opsA_nil, opsA_cons, stepA_assign, eval_tmp, put_some, enterF_succ, Nat.reduceEqDiff, if_true, if_false, retA_ret, Try.results88, resultsA_1]
  exact hid_mk ⟨rfl, rfl⟩
/-! ### A node among others -/
structure NR where
  a : Nat
  m : Nat
  k : Nat
  j : Nat
  i : Nat
  v : V
  pv : V
  torn : Int
def NP (r : NR) : Nat → Prop := NodP r.a r.m r.k r.j r.i r.v r.pv
structure NdB (h : AHeap) (room : Int) (r : NR) (l : Pays) : Prop where
  nd : IsNode h r.a r.m r.k r.j r.i room (l.flatMap frame) ((l.flatMap frame).length : Nat) r.v r.pv l r.torn (redoL l)
  ok : NOk (redoL l)
  pl : ∀ p ∈ l, p.length ≤ 4096 ∧ ∀ x ∈ p, x < 256
theorem NdB.keep {h h' : AHeap} {room : Int} {r : NR} {l : Pays} (d : NdB h room r l) {own : Nat → Prop} (hk : Keep h h' own) (hne : ∀ q, NP r q → ¬ own q) : NdB h' room r l := ⟨d.nd.keep hk hne, d.ok, d.pl⟩
theorem NdB.lt {h : AHeap} {room : Int} {r : NR} {l : Pays} (d : NdB h room r l) : ∀ q, NP r q → q < h.n := d.nd.parts_lt
/-- What a node is after a call: its blocks are its own or new, and nothing else is turned. -/
def NStep (h h' : AHeap) (r r' : NR) : Prop := r'.a = r.a ∧ r'.i = r.i ∧ Keep h h' (NP r) ∧ ∀ q, NP r' q → NP r q ∨ h.n ≤ q
theorem NStep.of {h h' : AHeap} {r : NR} (k : Keep h h' none_) : NStep h h' r r := ⟨rfl, rfl, k.mono fun _ h => h.elim, fun _ h => .inl h⟩
theorem NdB.nd0 {h : AHeap} {room : Int} {r : NR} {l : Pays} (d : NdB h room r l) : Nd ⟨0, fun _ => .dead, h.glob⟩ h r.a r.m r.k r.j r.i room r.v r.pv l r.torn :=
  ⟨d.nd, d.ok, d.pl, fun _ _ => Nat.zero_le _, ⟨Nat.zero_le _, fun _ hh => absurd hh (Nat.not_lt_zero _), rfl⟩⟩
theorem NdB.step {h h' : AHeap} {room : Int} {r : NR} {v' pv' : V} {l : Pays} {x : Act} (d : NdB h room r l)
    (n1 : IsNode h' r.a r.m r.k r.j r.i room (l.flatMap frame ++ frame (payN x)) ((l.flatMap frame ++ frame (payN x)).length : Nat) v' pv' (l ++ [payN x]) r.torn (appS (redoL l) x)) (n2 : NewP h r.i r.v v') (n3 : idOf pv' = idOf r.pv ∨ ∀ y, idOf pv' = some y → h.n ≤ y) (n4 : Keep h h' (NodP r.a r.m r.k r.j r.i r.v r.pv))
    (hx : redo (redoL l) (payN x) = appS (redoL l) x) (hw : NOk (appS (redoL l) x)) (hp : (payN x).length ≤ 4096 ∧ ∀ y ∈ payN x, y < 256) : NdB h' room { r with v := v', pv := pv' } (l ++ [payN x]) ∧ NStep h h' r { r with v := v', pv := pv' } := by
  have hR : redoL (l ++ [payN x]) = appS (redoL l) x := by rw [redoL_snoc, hx]
  have hF : (l ++ [payN x]).flatMap frame = l.flatMap frame ++ frame (payN x) := by simp
  refine ⟨⟨by rw [hR, hF]; exact n1, by rw [hR]; exact hw, fun p hp' => ?_⟩, rfl, rfl, n4, fun q hq => ?_⟩
  · rcases List.mem_append.1 hp' with h1 | h1
    · exact d.pl p h1
    · simp at h1; subst h1; exact hp
  · rcases hq with hq | hq | hq | hq | hq | hq | hq
    · exact .inl (.inl hq)
    · exact .inl (.inr (.inl hq))
    · exact .inl (.inr (.inr (.inl hq)))
    · exact .inl (.inr (.inr (.inr (.inl hq))))
    · exact .inl (.inr (.inr (.inr (.inr (.inl hq)))))
    · rcases n2 with n2 | n2
      · exact .inl (.inr (.inr (.inr (.inr (.inr (.inl (n2 ▸ hq)))))))
      · exact .inr (n2 q hq)
    · rcases n3 with n3 | n3
      · exact .inl (.inr (.inr (.inr (.inr (.inr (.inr (n3 ▸ hq)))))))
      · exact .inr (n3 q hq)
theorem nbWrite {h : AHeap} {room : Int} {r : NR} {l : Pays} (d : NdB h room r l) (ep at_ : Int) (b : List Nat) (hb : ∀ n ∈ b, n < 256) (hbl : b.length ≤ 2 ^ 50) :
    SCalls Try.prog 17 [.ptr r.a 0, .int .i64 ep, .int .i64 at_, .imm b.length (bytesV b)] h (fun x h' => x = .int .i64 (nw room ep at_ b l).2 ∧ ∃ r', NdB h' room r' (nw room ep at_ b l).1 ∧ NStep h h' r r') := by
  refine (nWrite h r.a r.m r.k r.j r.i room _ r.torn _ r.v r.pv l (redoL l) d.nd (by have := d.nd0.len; omega) ep at_ b hb hbl (fun c hc => (kget_ok d.ok hc).2.1)).mono fun x h' hp => ?_
  unfold nw
  cases hw : wrI (redoL l) ep at_ b with
  | some e =>
    rw [hw] at hp
    exact ⟨hp.1, r, ⟨hp.2.1, d.ok, d.pl⟩, NStep.of hp.2.2⟩
  | none =>
    rw [hw] at hp
    obtain ⟨e, hp⟩ := hp
    have hm := wr_ok hw
    obtain ⟨r1, r2, r3⟩ := wr_rng hm
    by_cases hP : putBad room (l.flatMap frame) (payN ⟨1, ep, at_, b⟩) = 0
    · rw [if_pos hP] at hp ⊢
      obtain ⟨v', pv', n1, n2, n3, n4⟩ := hp
      refine ⟨by rw [e, hP], _, d.step n1 n2 n3 n4 ?_ (d.ok.write ep at_ b hb hm) (pay_ok _ ⟨by simp only; omega, by simp only; omega, by simp only; omega, r3⟩ hb)⟩
      obtain ⟨e1, rfl⟩ : ∃ q : Nat, ep = q := ⟨ep.toNat, by omega⟩
      obtain ⟨e2, rfl⟩ : ∃ q : Nat, at_ = q := ⟨at_.toNat, by omega⟩
      exact redo_write _ e1 e2 b hw
    · rw [if_neg hP] at hp ⊢
      exact ⟨e, r, ⟨hp.1, d.ok, d.pl⟩, NStep.of hp.2⟩
theorem nbSeal {h : AHeap} {room : Int} {r : NR} {l : Pays} (d : NdB h room r l) (ep : Int) :
    SCalls Try.prog 16 [.ptr r.a 0, .int .i64 ep] h (fun x h' => ∃ rv, x = .tuple [rv, .int .i64 (nseal room ep l).2] ∧ ((nseal room ep l).2 ≠ 0 → rv = .snil) ∧ ∃ r', NdB h' room r' (nseal room ep l).1 ∧ NStep h h' r r' ∧
      ((nseal room ep l).2 = 0 → ∃ out : List Cel, out.Perm ((redoL l).2.1.map (·.2.2)) ∧ (out.Pairwise fun a b => ¬ b.at_ < a.at_) ∧ Own h' 39 3 rv (out.flatMap celE) ∧ (∀ q, idOf rv = some q → h.n ≤ q ∧ ¬ NP r' q))) := by
  have hll := d.nd0.len
  have hrl := redoL_len l (0, [], 0)
  refine (nSeal h r.a r.m r.k r.j r.i room _ r.torn _ r.v r.pv l (redoL l) d.nd d.ok (by omega) (by unfold redoL; simp only [List.length_nil] at hrl; omega) ep).mono fun x h' hp => ?_
  unfold nseal
  cases hs : selI (redoL l) ep with
  | some e =>
    rw [hs] at hp
    refine ⟨.snil, hp.1, fun _ => rfl, r, ⟨hp.2.1, d.ok, d.pl⟩, NStep.of hp.2.2, fun he => ?_⟩
    simp only at he
    subst he
    unfold selI at hs
    split at hs
    · cases hs
    split at hs <;> cases hs
  | none =>
    rw [hs] at hp
    obtain ⟨hm, hlt⟩ := sel_rng hs
    by_cases hP : putBad room (l.flatMap frame) (payN (selA ep)) = 0
    · simp only at hp ⊢
      rw [if_pos hP] at hp ⊢
      obtain ⟨v', pv', rv, out, e, n1, o1, o2, o3, o4, n2, n3, n4⟩ := hp
      have st := d.step n1 n2 n3 n4 (by
        obtain ⟨e1, rfl⟩ : ∃ q : Nat, ep = q := ⟨ep.toNat, by omega⟩
        exact redo_seal _ e1 (by omega) hlt) (d.ok.sealed ep) (pay_ok _ ⟨by simp only [selA]; omega, by simp only [selA]; omega, by simp only [selA]; omega, by simp [selA]⟩ (by simp [selA]))
      exact ⟨rv, e, fun hh => absurd rfl hh, _, st.1, st.2, fun _ => ⟨out, o1, o2, o3, o4⟩⟩
    · simp only at hp ⊢
      rw [if_neg hP] at hp ⊢
      exact ⟨.snil, hp.1, fun _ => rfl, r, ⟨hp.2.1, d.ok, d.pl⟩, NStep.of hp.2.2, fun he => absurd he hP⟩
/-! ### A node opened on its disk -/
theorem dLose (h : AHeap) (p : V) (room : Int) (bs : List Int) (safe : Int) (i : Nat) (v : V) (d : IsDisk h p room bs safe i v) :
    SCalls Try.prog 57 [p] h (fun r h' => ∃ v', IsDisk h' p room [] 0 i v' ∧ idOf v' = idOf v ∧ Keep h h' (Parts i v)) := by
  obtain rfl := d.p
  refine SCalls.enterI (c := _) Try.func57 rfl (by kernel_rfl) (by simp) ?_
  simp only [wpA_region, wpA_seq, wpA_cond, condI_true, seqQ_normal, goI_out, goI_ops, opsA_nil, opsA_cons, stepA_move, stepA_binOp, stepA_call, thenV_some, eval_tmp, eval_const, put_some, enterF_zero, enterF_succ, ptr_nil_neq, absV_int, absV_pnil, Nat.reduceEqDiff, reduceCtorEq, List.map_cons, List.map_nil, if_true, if_false, kt_24]
  refine callI_of cal47 (dKeep h _ room bs safe i v d 0 (by omega)) fun r h1 ⟨v1, e1, e2, e3⟩ => ?_
  have hm : min safe ((0 : Nat) : Int) = 0 := by have := d.safe0; omega
  rw [hm, List.take_zero] at e1
  simp only [endI_mk, goI_out, goI_ops, opsA_nil, retA_normal, Try.results57, resultsA_0]
  exact hid_mk ⟨v1, e1, e2, e3⟩
theorem nbOpen {h : AHeap} {room safe : Int} {i : Nat} {v : V} {l : Pays} (hd : IsDisk h (.ptr i 0) room (nI (l.flatMap frame)) safe i v) (ok : NOk (redoL l)) (pl : ∀ p ∈ l, p.length ≤ 4096 ∧ ∀ x ∈ p, x < 256) :
    SCalls Try.prog 15 [.ptr i 0] h (fun x h' => ∃ r', x = .ptr r'.a 0 ∧ NdB h' room r' l ∧ r'.i = i ∧ Keep h h' (Parts i v) ∧ ∀ q, NP r' q → Parts i v q ∨ h.n ≤ q) := by
  have hb : ∀ x ∈ l.flatMap frame, x < 256 := fun x hx => by
    obtain ⟨p, hp, hx⟩ := List.mem_flatMap.1 hx
    have he := enc_lt p.length p.length (Nat.le_refl _)
    unfold frame encBytes at hx
    rcases List.mem_append.1 hx with hx | hx
    · rcases List.mem_append.1 hx with hx | hx
      · exact he x hx
      · exact (pl p hp).2 x hx
    · simp only [sumL, List.mem_cons, List.not_mem_nil, or_false] at hx
      rcases hx with rfl | rfl | rfl | rfl <;> exact sumB_lt _ _
  have hs := scan_all l (fun p hp => (pl p hp).1)
  refine (nOpen h i room (l.flatMap frame) hb _ v hd).mono fun x h' ⟨a', m', k', j', v2, pv2, e, n1, i1, ha, hm, hk', hj, hp, kp⟩ => ?_
  rw [hs] at n1
  simp only [List.take_length, Int.sub_self] at n1
  refine ⟨⟨a', m', k', j', i, v2, pv2, 0⟩, e, ⟨n1, ok, pl⟩, rfl, kp, fun q hq => ?_⟩
  rcases hq with hq | hq | hq | hq | hq | hq | hq
  · right; simp only at hq; omega
  · right; simp only at hq; omega
  · right; simp only at hq; omega
  · right; simp only at hq; omega
  · exact .inl (.inl hq)
  · exact .inl (.inr (by rw [← i1]; exact hq))
  · exact .inr (hp q hq)
theorem NdB.disk {h : AHeap} {room : Int} {r : NR} {l : Pays} (d : NdB h room r l) : IsDisk h (.ptr r.i 0) room (nI (l.flatMap frame)) ((l.flatMap frame).length : Nat) r.i r.v := d.nd.seg.disk
theorem Parts.np {r : NR} {q : Nat} (h : Parts r.i r.v q) : NP r q := by
  rcases h with h | h
  · exact .inr (.inr (.inr (.inr (.inl h))))
  · exact .inr (.inr (.inr (.inr (.inr (.inl h)))))
theorem nbCrash {h : AHeap} {room : Int} {r : NR} {l : Pays} (d : NdB h room r l) (keep turn : Int) :
    SCalls Try.prog 21 [.ptr r.i 0, .int .i64 keep, .int .i64 turn] h (fun x h' => ∃ v' safe, IsDisk h' (.ptr r.i 0) room (nI (l.flatMap frame)) safe r.i v' ∧ idOf v' = idOf r.v ∧ Keep h h' (NP r)) := by
  have hl := nI_len (l.flatMap frame)
  refine (dCrash h _ room _ _ r.i r.v d.disk keep turn).mono fun x h' ⟨v', e1, e2, e3⟩ => ?_
  rw [← hl, crashed_safe, hl] at e1
  exact ⟨v', _, e1, e2, e3.mono fun _ => Parts.np⟩
theorem nbLose {h : AHeap} {room : Int} {r : NR} {l : Pays} (d : NdB h room r l) :
    SCalls Try.prog 57 [.ptr r.i 0] h (fun x h' => ∃ v' safe, IsDisk h' (.ptr r.i 0) room (nI (([] : Pays).flatMap frame)) safe r.i v' ∧ idOf v' = idOf r.v ∧ Keep h h' (NP r)) := by
  refine (dLose h _ room _ _ r.i r.v d.disk).mono fun x h' ⟨v', e1, e2, e3⟩ => ?_
  exact ⟨v', _, e1, e2, e3.mono fun _ => Parts.np⟩
end Go.Proofs.Ytlbekgogjlchjaa.Pk
namespace Go.Proofs.Ytlbekgogjlchjaa.Pk
open Go Go.Proofs Go.Proofs.Ytlbekgogjlchjaa.Ab
set_option linter.unusedVariables false
set_option linter.unusedSimpArgs false
/-! ### The nodes of a log -/
def ptrs (f : Nat → Nat) (n : Nat) : List V := (List.range n).map fun q => V.ptr (f q) 0
theorem ptrs_len (f : Nat → Nat) (n : Nat) : (ptrs f n).length = n := by simp [ptrs]
theorem ptrs_ix {f : Nat → Nat} {n k : Nat} (hk : k < (ptrs f n).length) : (ptrs f n)[k] = V.ptr (f k) 0 := by simp [ptrs]
theorem ptrs_congr {f g : Nat → Nat} {n : Nat} (h : ∀ q, q < n → f q = g q) : ptrs f n = ptrs g n := by
  unfold ptrs
  refine List.map_congr_left fun q hq => ?_
  rw [h q (by simpa using hq)]
structure NodesS (h : AHeap) (room : Int) (n : Nat) (rs : Nat → NR) (nd : Nds) (ow : Nat → Nat) : Prop where
  nd : ∀ q, q < n → NdB h room (rs q) (nd q)
  ond : ∀ q, q < n → ∀ x, NP (rs q) x → ow x = q + 5
  old : ∀ x, ow x ≠ 0 → x < h.n
open Classical in
noncomputable def owN (ow : Nat → Nat) (n0 : Nat) (P : Nat → Prop) (t : Nat) : Nat → Nat := fun x => if x < n0 then ow x else if P x then t else 0
theorem owN_lt {ow : Nat → Nat} {n0 : Nat} {P : Nat → Prop} {t x : Nat} (h : x < n0) : owN ow n0 P t x = ow x := by unfold owN; rw [if_pos h]
theorem owN_new {ow : Nat → Nat} {n0 : Nat} {P : Nat → Prop} {t x : Nat} (h : n0 ≤ x) (hp : P x) : owN ow n0 P t x = t := by unfold owN; rw [if_neg (by omega), if_pos hp]
theorem owN_old {ow : Nat → Nat} {n0 n1 : Nat} {P : Nat → Prop} {t : Nat} (hn : n0 ≤ n1) (hp : ∀ x, P x → x < n1) : ∀ x, owN ow n0 P t x ≠ 0 → x < n1 := fun x hx => by
  unfold owN at hx
  split at hx
  · omega
  · split at hx
    · rename_i hh; exact hp x hh
    · exact absurd rfl hx
theorem NodesS.on {h h' : AHeap} {room : Int} {n : Nat} {rs : Nat → NR} {nd : Nds} {ow : Nat → Nat} (w : NodesS h room n rs nd ow) {own : Nat → Prop} (k : Keep h h' own) (hn : ∀ x, own x → ow x < 5) : NodesS h' room n rs nd ow :=
  ⟨fun q hq => (w.nd q hq).keep k fun x hx hh => by have := w.ond q hq x hx; have := hn x hh; omega, w.ond, fun x hx => Nat.lt_of_lt_of_le (w.old x hx) k.n⟩
def updN {α : Type} (f : Nat → α) (q : Nat) (a : α) : Nat → α := fun x => if x = q then a else f x
theorem updN_same {α : Type} {f : Nat → α} {q : Nat} {a : α} : updN f q a q = a := by unfold updN; rw [if_pos rfl]
theorem updN_ne {α : Type} {f : Nat → α} {q x : Nat} {a : α} (h : x ≠ q) : updN f q a x = f x := by unfold updN; rw [if_neg h]
theorem NodesS.step {h h' : AHeap} {room : Int} {n : Nat} {rs : Nat → NR} {nd : Nds} {ow : Nat → Nat} (w : NodesS h room n rs nd ow) {q : Nat} (hq : q < n) {r' : NR} {l' : Pays} (d : NdB h' room r' l') (hk : Keep h h' (NP (rs q))) (hx : ∀ x, NP r' x → NP (rs q) x ∨ h.n ≤ x) :
    NodesS h' room n (updN rs q r') (updN nd q l') (owN ow h.n (NP r') (q + 5)) ∧ Keep h h' (fun x => 5 ≤ ow x) := by
  refine ⟨⟨fun p hp => ?_, fun p hp x hx2 => ?_, owN_old hk.n d.lt⟩, hk.mono fun x hh => by have := w.ond q hq x hh; omega⟩
  · by_cases e : p = q
    · subst e; rw [updN_same, updN_same]; exact d
    · rw [updN_ne e, updN_ne e]
      exact (w.nd p hp).keep hk fun x h1 h2 => by have := w.ond p hp x h1; have := w.ond q hq x h2; omega
  · by_cases e : p = q
    · subst e
      rw [updN_same] at hx2
      rcases hx x hx2 with h1 | h1
      · rw [owN_lt ((w.nd p hp).lt x h1)]; exact w.ond p hp x h1
      · exact owN_new h1 hx2
    · rw [updN_ne e] at hx2
      rw [owN_lt ((w.nd p hp).lt x hx2)]; exact w.ond p hp x hx2
/-- What a step of nodes leaves as it is: which node lies where, the tags of older blocks, and what belongs to no node. -/
structure Same (h h' : AHeap) (n : Nat) (rs rs' : Nat → NR) (ow ow' : Nat → Nat) : Prop where
  keep : Keep h h' (fun x => 5 ≤ ow x)
  a : ∀ q, q < n → (rs' q).a = (rs q).a
  i : ∀ q, q < n → (rs' q).i = (rs q).i
  ow : ∀ x, x < h.n → ow' x = ow x
theorem Same.refl (h : AHeap) (n : Nat) (rs : Nat → NR) (ow : Nat → Nat) : Same h h n rs rs ow ow := ⟨Keep.refl _ _, fun _ _ => rfl, fun _ _ => rfl, fun _ _ => rfl⟩
theorem Same.trans {h h1 h2 : AHeap} {n : Nat} {rs rs1 rs2 : Nat → NR} {ow ow1 ow2 : Nat → Nat} (a : Same h h1 n rs rs1 ow ow1) (b : Same h1 h2 n rs1 rs2 ow1 ow2) : Same h h2 n rs rs2 ow ow2 :=
  ⟨a.keep.trans b.keep fun x hx hh => by rw [a.ow x hx] at hh; exact hh, fun q hq => (b.a q hq).trans (a.a q hq), fun q hq => (b.i q hq).trans (a.i q hq), fun x hx => (b.ow x (Nat.lt_of_lt_of_le hx a.keep.n)).trans (a.ow x hx)⟩
theorem Same.on {h h1 h2 : AHeap} {n : Nat} {rs rs1 : Nat → NR} {ow ow1 : Nat → Nat} (a : Same h h1 n rs rs1 ow ow1) {own : Nat → Prop} (k : Keep h1 h2 own) (hn : ∀ x, x < h.n → ¬ own x) : Same h h2 n rs rs1 ow ow1 :=
  ⟨a.keep.trans k fun x hx hh => absurd hh (hn x hx), a.a, a.i, a.ow⟩
/-! ### A slot written -/
set_option maxRecDepth 10000 in
theorem wClo {h : AHeap} {room : Int} {r : NR} {l : Pays} (d : NdB h room r l) {L c1 c2 c3 : Nat} {dv nv pv op : V} {ep at_ : Int} {b : List Nat} (hb : ∀ n ∈ b, n < 256) (hbl : b.length ≤ 2 ^ 40)
    (gL : h.get L = .cells [dv, nv, op, .int .i64 ep, pv] 94 none) (g1 : h.get c1 = .cells [.ptr L 0] 51 none) (g2 : h.get c2 = .cells [.int .i64 at_] 3 none) (g3 : h.get c3 = .cells [.imm b.length (bytesV b)] 30 none) (nL : ¬ NP r L) (n1 : ¬ NP r c1) (n2 : ¬ NP r c2) (n3 : ¬ NP r c3) :
    SCalls Try.prog 70 [.ptr r.a 0, .ptr c1 0, .ptr c2 0, .ptr c3 0] h (fun x h' => x = .int .i64 (nw room ep at_ b l).2 ∧ ∃ r', NdB h' room r' (nw room ep at_ b l).1 ∧ NStep h h' r r') := by
  have d3 : dropC (AObj.cells [dv, nv, op, .int .i64 ep, pv] 94 none) 3 = some [.int .i64 ep, pv] := rfl
  refine SCalls.enterI (c := _) Try.func70 rfl (by kernel_rfl) (by simp) ?_
  simp only [wpA_region, wpA_seq, wpA_draw, seqQ_normal, goI_out, goI_ops, opsA_nil, opsA_cons, stepA_assign, eval_const, absV_int]
  refine SWp.drawnS (fun x => NP r x) [7] (.q 0 (.q 1 (.q 2 (.q 3 (.q 4 (.q 5 (.q 6 (.a 7 (.q 8 .done))))))))) (by kernel_rfl) (by kernel_rfl) (by kernel_rfl) ?_
  simp only [mOk_move, mOk_nilCheck, mOk_fieldAddr, mOk_load, mOkV_ptr, nne2, nne3, nne4, nne1', nne2', nne3', not_false_eq_true, siI_q, siI_a, sqI_some, saI_some, implies_true, qI_nil, qI_cons, thenQ_some, q_move, q_load, q_nilCheck, q_fieldAddr, goI_mk, opsA_cons, stepA_call, nilV_ptr, eval_tmp, put_some, enterF_zero, enterF_succ, aField_eq, fieldGo_ptr, aLoad_eq, loadGo_one, aPlace_ptr, dropC_cells, List.getElem?_cons_zero, List.getElem?_cons_succ, Nat.reduceEqDiff, reduceCtorEq, List.map_cons, List.map_nil, Nat.zero_add, Nat.zero_le, List.length_cons, List.length_nil, List.drop_zero, true_and, if_true, if_false, ft_94_3, lt_3, lt_30, lt_51, gL, g1, g2, g3, d3, nL, n1, n2, n3]
  refine callI_of cal17 (nbWrite d ep at_ b hb (Nat.le_trans hbl (by decide))) fun x h' ⟨e, r', d', st⟩ => ?_
  subst e
  simp only [mOk_assign, nne2, nne3, nne4, nne1', nne2', nne3', siI_done, siI_q, sqI_some, implies_true, qI_nil, qI_cons, q_assign, wpA_ret, seqQ_normal, endI_mk, goI_out, goI_ops, goI_mk, opsA_nil, eval_tmp, put_some, enterF_succ, List.getElem?_cons_zero, List.getElem?_cons_succ, Bool.false_eq_true, Nat.reduceEqDiff, true_and, if_true, if_false, retA_ret, Try.results70, resultsA_1]
  exact hid_mk ⟨rfl, r', d', st⟩
/-! ### A quorum asked to write -/
theorem own_ptr {h : AHeap} {t e : TypeId} {v : V} {f : Nat → Nat} {n : Nat} (hs : slSz Try.prog t = some 1) (o : Own h e 1 v (ptrs f n)) {k : Nat} (hk : k < n) :
    ∃ i q, aIndexAddr Try.prog t v (.int .i64 (k : Int)) = some (.ptr i k) ∧ idOf v = some i ∧ dropC (h.get i) k = some (V.ptr (f k) 0 :: q) := by
  have hk' : k < (ptrs f n).length := by rw [ptrs_len]; exact hk
  obtain ⟨j, x1, x2, ⟨rr, x3⟩, x4⟩ := own_elem (P := Try.prog) (t := t) (kk := .i64) hs o (k := k) hk'
  exact ⟨j, rr, x1, x2, by rw [x3, ptrs_ix hk']⟩
end Go.Proofs.Ytlbekgogjlchjaa.Pk
namespace Go.Proofs.Ytlbekgogjlchjaa.Pk
open Go Go.Proofs Go.Proofs.Ytlbekgogjlchjaa.Ab
set_option linter.unusedVariables false
set_option linter.unusedSimpArgs false
def boE (b : Bool) : List V := [.bool b]
def bV (l : List Bool) : List V := l.flatMap boE
def rch (l : List Bool) (q : Nat) : Bool := l.getD q false
theorem rch_lt {l : List Bool} {q : Nat} (h : q < l.length) : rch l q = l[q] := by unfold rch; rw [List.getD_eq_getElem?_getD, List.getElem?_eq_getElem h]; rfl
theorem rch_ge {l : List Bool} {q : Nat} (h : l.length ≤ q) : rch l q = false := by unfold rch; rw [List.getD_eq_getElem?_getD, List.getElem?_eq_none h]; rfl
theorem bo_ix {l : List Bool} {k : Nat} (hk : k < l.length) : aIndexAddr Try.prog 55 (.imm l.length (bV l)) (.int .i64 (k : Int)) = some (.at (boE l[k] ++ (l.drop (k + 1)).flatMap boE)) := rows_ix (enc := boE) (sz := 1) (fun _ => rfl) hk ss_55
theorem bo_ld (b : Bool) (r : List V) : loadGo (some none) (some (boE b ++ r)) = some (.bool b) := rfl
/-- Who is reached: a row that is read alone, or one that belongs to no log. -/
structure RVal (h : AHeap) (ow : Nat → Nat) (rv : V) (l : List Bool) : Prop where
  v : rv = .imm l.length (bV l) ∨ Own h 4 1 rv (bV l)
  ow : ∀ x, idOf rv = some x → ow x = 0
theorem bV_len (l : List Bool) : (bV l).length = l.length := by
  have := rows_len (enc := boE) (sz := 1) (fun _ => rfl) l
  rwa [Nat.mul_one] at this
theorem bV_get {l : List Bool} {i : Nat} (h : i < (bV l).length) (h2 : i < l.length) : (bV l)[i] = .bool l[i] := by
  have e : bV l = l.map V.bool := by
    unfold bV boE
    clear h h2
    induction l with
    | nil => rfl
    | cons b l ih => simp [ih]
  simp only [e, List.getElem_map]
theorem RVal.len {h : AHeap} {ow : Nat → Nat} {rv : V} {l : List Bool} (r : RVal h ow rv l) : aLen Try.prog 55 rv h = some (.int .i64 (l.length : Nat)) := by
  rcases r.v with e | o
  · rw [e]; exact aLen_imm kt_55
  · have := o.length (by decide) Try.prog (t := 55) kt_55
    rw [Nat.div_one, bV_len] at this
    exact this
theorem RVal.ix {h : AHeap} {ow : Nat → Nat} {rv : V} {l : List Bool} (r : RVal h ow rv l) {i : Nat} (hi : i < l.length) : ∃ p rr, aIndexAddr Try.prog 55 rv (.int .i64 (i : Int)) = some p ∧ aPlace h p = some (V.bool l[i] :: rr) := by
  rcases r.v with e | o
  · rw [e]; exact ⟨_, _, bo_ix hi, rfl⟩
  · have hk' : i < (bV l).length := by rw [bV_len]; exact hi
    obtain ⟨j, x1, x2, ⟨rr, x3⟩, _⟩ := own_elem (P := Try.prog) (t := 55) (kk := .i64) ss_55 o (k := i) hk'
    rw [bV_get hk' hi] at x3
    exact ⟨_, rr, x1, by rw [aPlace_ptr]; exact x3⟩
theorem RVal.on {h h' : AHeap} {ow ow' : Nat → Nat} {rv : V} {l : List Bool} (r : RVal h ow rv l) {own : Nat → Prop} (k : Keep h h' own) (hn : ∀ x, x < h.n → ow x = 0 → ¬ own x) (ho : ∀ x, x < h.n → ow x = 0 → ow' x = 0) : RVal h' ow' rv l := by
  rcases r.v with e | o
  · exact ⟨.inl e, fun x hx => by rw [e] at hx; cases hx⟩
  · exact ⟨.inr (o.keep k fun x hx => hn x (o.lt x hx) (r.ow x hx)), fun x hx => ho x (o.lt x hx) (r.ow x hx)⟩
theorem RVal.imm (h : AHeap) (ow : Nat → Nat) (l : List Bool) : RVal h ow (.imm l.length (bV l)) l := ⟨.inl rfl, fun x hx => by cases hx⟩
set_option maxHeartbeats 2000000 in
set_option maxRecDepth 20000 in
theorem quorumW {h : AHeap} {room : Int} {n : Nat} {rs : Nat → NR} {nd : Nds} {ow : Nat → Nat} (w : NodesS h room n rs nd ow) {L c1 c2 c3 : Nat} {dv nv pv op : V} {ep at_ : Int} {b : List Nat} (hb : ∀ n ∈ b, n < 256) (hbl : b.length ≤ 2 ^ 40)
    (gL : h.get L = .cells [dv, nv, op, .int .i64 ep, pv] 94 none) (g1 : h.get c1 = .cells [.ptr L 0] 51 none) (g2 : h.get c2 = .cells [.int .i64 at_] 3 none) (g3 : h.get c3 = .cells [.imm b.length (bytesV b)] 30 none)
    (lL : L < h.n ∧ ow L < 5) (l1 : c1 < h.n ∧ ow c1 < 5) (l2 : c2 < h.n ∧ ow c2 < 5) (l3 : c3 < h.n ∧ ow c3 < 5) (nk : Own h 28 1 nv (ptrs (fun q => (rs q).a) n)) (onv : ∀ x, idOf nv = some x → ow x < 5) (hn : n ≤ 2 ^ 30) (reach : List Bool) {rv : V} (rvl : RVal h ow rv reach) (hr : reach.length ≤ 2 ^ 47) :
    SCalls Try.prog 69 [.ptr L 0, rv, .func (.func 70) [] [.ptr c1 0, .ptr c2 0, .ptr c3 0]] h (fun x h' => x = .bool (wrL room n ep at_ b (rch reach) nd).2 ∧
      ∃ rs' ow', NodesS h' room n rs' (wrL room n ep at_ b (rch reach) nd).1 ow' ∧ Same h h' n rs rs' ow ow') := by
  have hx0 : ow h.n = 0 := by
    cases hq : ow h.n with
    | zero => rfl
    | succ k => have := w.old h.n (by omega); omega
  have kP : Keep h (h.push (.cells [.int .i64 0] 145 none)) none_ := Keep.push _ _ _
  have gN : h.get L = .cells [dv, nv, op, .int .i64 ep, pv] 94 none := gL
  have d1' : dropC (AObj.cells [dv, nv, op, .int .i64 ep, pv] 94 none) 1 = some [nv, op, .int .i64 ep, pv] := rfl
  have gLP : (h.push (.cells [.int .i64 0] 145 none)).get L = .cells [dv, nv, op, .int .i64 ep, pv] 94 none := (get_push_lt lL.1).trans gL
  have hlen : ∀ {h1 : AHeap} {rs1 : Nat → NR}, Own h1 28 1 nv (ptrs (fun q => (rs1 q).a) n) → aLen Try.prog 92 nv h1 = some (.int .i64 (n : Nat)) := fun {h1 rs1} o => by
    have := o.length (by decide) Try.prog (t := 92) kt_92
    rw [ptrs_len, Nat.div_one] at this
    exact this
  have oP := nk.keepN kP
  have lenP := hlen oP
  refine SCalls.enterI (c := _) Try.func69 rfl (by kernel_rfl) (by simp) ?_
  simp only [wpA_region, wpA_seq, wpA_block, wpA_loop, seqQ_normal, goI_out, goI_ops, opsA_nil, opsA_cons, stepA_move, stepA_assign, stepA_alloc, stepA_load, stepA_nilCheck, stepA_fieldAddr, stepA_len, thenV_some, thenH_some, nilV_ptr, eval_tmp, eval_const, put_some, enterF_zero, enterF_succ, absV_int, absV_bool, aField_eq, fieldGo_ptr, aLoad_eq, loadGo_one, aPlace_ptr, aAlloc_eq, Nat.reduceEqDiff, reduceCtorEq, Option.map_some, Nat.zero_add, if_true, if_false, ft_94_1, lt_92, zc_145, gLP, d1', lenP]
  refine SWp.loopG (α := Nat × (Nat → NR) × (Nat → Nat)) (fun x f h1 => f 0 = .ptr L 0 ∧ f 1 = rv ∧ f 2 = .func (.func 70) [] [.ptr c1 0, .ptr c2 0, .ptr c3 0] ∧ f 7 = .ptr h.n 0 ∧ f 13 = nv ∧ f 14 = .int .i64 (n : Nat) ∧ f 15 = .int .i64 (x.1 : Nat) ∧ x.1 ≤ n ∧
      NodesS h1 room n x.2.1 (allN (nw room ep at_ b) (rch reach) x.1 nd) x.2.2 ∧ Same h h1 n rs x.2.1 ow x.2.2 ∧ h1.get h.n = .cells [.int .i64 (cntN (fineN (nw room ep at_ b) (rch reach) nd) x.1 : Nat)] 145 none ∧ x.2.2 h.n = 0 ∧ h.n < h1.n) (fun x => n - x.1) (0, rs, ow)
    ⟨rfl, rfl, rfl, rfl, rfl, rfl, rfl, Nat.zero_le _, (by rw [allN_zero]; exact w.on kP (fun x hx => hx.elim)), (Same.refl h n rs ow).on kP (fun x _ hx => hx), get_push_new, hx0, Nat.lt_succ_self _⟩ ?_
  rintro ⟨i, rs1, ow1⟩ f h1 ⟨f0, f1, f2, f7, f13, f14, f15, hi, w1, s1, gc, o1, n1⟩
  simp only at f15 hi w1 s1 gc o1
  have keepc : ∀ x, x < h.n → ow x < 5 → h1.get x = h.get x := fun x hx ho => s1.keep.get x hx (by omega)
  have gL1 := (keepc L lL.1 lL.2).trans gL
  have nk1 : Own h1 28 1 nv (ptrs (fun q => (rs1 q).a) n) := by
    rw [ptrs_congr (f := fun q => (rs1 q).a) (g := fun q => (rs q).a) fun q hq => s1.a q hq]
    exact nk.keep s1.keep fun x hx hh => by have := onv x hx; omega
  have rv1 := rvl.on (ow' := ow1) s1.keep (fun x hx h0 => by rw [h0]; decide) (fun x hx h0 => (s1.ow x hx).trans h0)
  have rlen := rv1.len
  refine wpI_sound (by kernel_rfl) ?_
  by_cases hlt : i < n
  · have c1' : decide ((i : Int) < ((n : Nat) : Int)) = true := decide_eq_true (by omega)
    obtain ⟨j, q, x1, x2, x3⟩ := own_ptr (t := 92) ss_92 nk1 hlt
    have hw : IntKind.i64.wrap ((i : Int) + 1) = ((i + 1 : Nat) : Int) := by rw [Go.IntWalk.i64_in _ (by omega)]; rfl
    have hsucc := allN_succ (nw room ep at_ b) (rch reach) i nd
    by_cases hlr : i < reach.length
    · have c2' : decide ((i : Int) < ((reach.length : Nat) : Int)) = true := decide_eq_true (by omega)
      obtain ⟨rp, rr, y1, yl⟩ := rv1.ix hlr
      have hri := rch_lt hlr
      cases hb2 : reach[i] with
      | false =>
        rw [hb2] at yl hri
        have e1 : allN (nw room ep at_ b) (rch reach) (i + 1) nd = allN (nw room ep at_ b) (rch reach) i nd := by rw [hsucc, if_neg (by rw [hri]; decide)]
        have e2 : cntN (fineN (nw room ep at_ b) (rch reach) nd) (i + 1) = cntN (fineN (nw room ep at_ b) (rch reach) nd) i := by
          show _ + _ = _
          rw [if_neg (by unfold fineN; rw [hri]; simp)]
          rfl
        simp only [wpA_skip, wpA_region, wpA_seq, wpA_cond, wpA_block, condI_true, condI_false, seqQ_normal, blkQ_normal, endI_mk, andThen_normal, goI_out, goI_ops, opsA_nil, opsA_cons, opsA_guardS, gvI_same, gvI_ft, slotAt_zero, slotAt_succ, stepA_move, stepA_assign, stepA_pick, stepA_load, stepA_binOp, stepA_indexAddr, stepA_len, thenV_some, pickV_true, pickV_false, eval_tmp, eval_const, put_some, aBin_add, aBin_lss, absV_int, absV_bool, aLoad_eq, loadGo_one, aPlace_ptr, Nat.reduceEqDiff, if_true, if_false, lt_28, lt_4, f1, f13, f14, f15, c1', rlen, c2', x1, x3, y1, yl, hw]
        exact hid_mk ⟨(i + 1, rs1, ow1), ⟨f0, f1, f2, f7, f13, f14, rfl, hlt, by rw [e1]; exact w1, s1, by rw [e2]; exact gc, o1, n1⟩, by simp only; omega⟩
      | true =>
        rw [hb2] at yl hri
        have d0 := w1.nd i hlt
        rw [allN_at] at d0
        have tagc : ∀ x, x < h.n → ow x < 5 → ¬ NP (rs1 i) x := fun x hx ho hh => by have := w1.ond i hlt x hh; have := s1.ow x hx; omega
        simp only [wpA_skip, wpA_region, wpA_seq, wpA_cond, wpA_block, condI_true, seqQ_normal, goI_out, goI_ops, opsA_nil, opsA_cons, opsA_guardS, gvI_same, slotAt_zero, slotAt_succ, stepA_move, stepA_assign, stepA_pick, stepA_load, stepA_binOp, stepA_indexAddr, stepA_len, stepA_callv, callvI_func, thenV_some, pickV_true, eval_tmp, eval_const, put_some, aBin_lss, absV_bool, aLoad_eq, loadGo_one, aPlace_ptr, Nat.reduceEqDiff, List.map_cons, List.map_nil, List.nil_append, List.cons_append, if_true, if_false, lt_28, lt_4, f1, f2, f13, f14, f15, c1', rlen, c2', x1, x3, y1, yl]
        refine callI_of cal70 (wClo d0 hb hbl gL1 ((keepc c1 l1.1 l1.2).trans g1) ((keepc c2 l2.1 l2.2).trans g2) ((keepc c3 l3.1 l3.2).trans g3) (tagc L lL.1 lL.2) (tagc c1 l1.1 l1.2) (tagc c2 l2.1 l2.2) (tagc c3 l3.1 l3.2)) fun x h2 ⟨ex, r', d', st⟩ => ?_
        subst ex
        obtain ⟨st1, st2, st3, st4⟩ := st
        obtain ⟨w2, k2⟩ := w1.step hlt d' st3 st4
        have e1 : allN (nw room ep at_ b) (rch reach) (i + 1) nd = updN (allN (nw room ep at_ b) (rch reach) i nd) i (nw room ep at_ b (nd i)).1 := by rw [hsucc, if_pos hri]; rfl
        rw [← e1] at w2
        have s2 : Same h h2 n rs (updN rs1 i r') ow (owN ow1 h1.n (NP r') (i + 5)) := s1.trans ⟨k2, fun q hq => by
            by_cases e : q = i
            · subst e; rw [updN_same]; exact st1
            · rw [updN_ne e], fun q hq => by
            by_cases e : q = i
            · subst e; rw [updN_same]; exact st2
            · rw [updN_ne e], fun x hx => owN_lt hx⟩
        have gc2 := (k2.get h.n n1 (by rw [o1]; omega)).trans gc
        have n2 := k2.n
        have o2 : owN ow1 h1.n (NP r') (i + 5) h.n = 0 := by rw [owN_lt n1]; exact o1
        by_cases hz : (nw room ep at_ b (nd i)).2 = 0
        · have e2 : cntN (fineN (nw room ep at_ b) (rch reach) nd) (i + 1) = cntN (fineN (nw room ep at_ b) (rch reach) nd) i + 1 := by
            show _ + _ = _
            rw [if_pos (by unfold fineN; rw [hri, hz]; rfl)]
          have cle := cntN_le (fineN (nw room ep at_ b) (rch reach) nd) i
          have hcw : IntKind.i64.wrap (((cntN (fineN (nw room ep at_ b) (rch reach) nd) i : Nat) : Int) + 1) = ((cntN (fineN (nw room ep at_ b) (rch reach) nd) (i + 1) : Nat) : Int) := by
            rw [e2, Go.IntWalk.i64_in _ (by omega)]; rfl
          have z1 : ((0 : Int) == 0) = true := rfl
          rw [hz]
          simp only [wpA_region, wpA_cond, condI_true, seqQ_normal, goI_out, goI_ops, opsA_nil, opsA_cons, opsA_guardS, gvI_same, slotAt_zero, slotAt_succ, stepA_pick, stepA_binOp, stepA_call, thenV_some, pickV_true, eval_tmp, eval_const, put_some, aBin_eql, absV_int, absV_bool, beq_self_eq_true, Nat.reduceEqDiff, List.map_cons, List.map_nil, if_true, if_false, f7]
          refine callI_of cal87 (tAdd h2 h.n _ 1 gc2) fun x h3 ⟨ex, eh⟩ => ?_
          subst ex; subst eh
          rw [hcw]
          have kS : ∀ o, Keep h2 (h2.set h.n o) (· = h.n) := fun o => Keep.set _ _ _
          simp only [wpA_region, seqQ_normal, blkQ_normal, endI_mk, andThen_normal, goI_out, goI_ops, opsA_nil, opsA_cons, stepA_move, stepA_binOp, thenV_some, eval_tmp, eval_const, put_some, aBin_add, absV_int, Nat.reduceEqDiff, if_true, if_false, f15, hw]
          exact hid_mk ⟨(i + 1, updN rs1 i r', owN ow1 h1.n (NP r') (i + 5)), ⟨f0, f1, f2, f7, f13, f14, rfl, hlt, w2.on (kS _) (fun x hx => by subst hx; rw [o2]; omega), s2.on (kS _) (fun x hx hh => by omega), get_set_same, o2, by simp only [set_n]; omega⟩, by simp only; omega⟩
        · have e2 : cntN (fineN (nw room ep at_ b) (rch reach) nd) (i + 1) = cntN (fineN (nw room ep at_ b) (rch reach) nd) i := by
            show _ + _ = _
            rw [if_neg (by unfold fineN; simp [hz])]
            rfl
          have z1 : ((nw room ep at_ b (nd i)).2 == 0) = false := by simp [hz]
          simp only [wpA_skip, wpA_region, wpA_cond, condI_false, seqQ_normal, blkQ_normal, endI_mk, andThen_normal, goI_out, goI_ops, opsA_nil, opsA_cons, opsA_guardS, gvI_same, slotAt_zero, slotAt_succ, stepA_move, stepA_pick, stepA_binOp, thenV_some, pickV_true, eval_tmp, eval_const, put_some, aBin_add, aBin_eql, absV_int, absV_bool, Nat.reduceEqDiff, if_true, if_false, f15, z1, hw]
          exact hid_mk ⟨(i + 1, updN rs1 i r', owN ow1 h1.n (NP r') (i + 5)), ⟨f0, f1, f2, f7, f13, f14, rfl, hlt, w2, s2, by rw [e2]; exact gc2, o2, by omega⟩, by simp only; omega⟩
    · have c2' : decide ((i : Int) < ((reach.length : Nat) : Int)) = false := decide_eq_false (by omega)
      have hri := rch_ge (l := reach) (q := i) (by omega)
      have e1 : allN (nw room ep at_ b) (rch reach) (i + 1) nd = allN (nw room ep at_ b) (rch reach) i nd := by rw [hsucc, if_neg (by rw [hri]; decide)]
      have e2 : cntN (fineN (nw room ep at_ b) (rch reach) nd) (i + 1) = cntN (fineN (nw room ep at_ b) (rch reach) nd) i := by
        show _ + _ = _
        rw [if_neg (by unfold fineN; rw [hri]; simp)]
        rfl
      simp only [wpA_skip, wpA_region, wpA_seq, wpA_cond, wpA_block, condI_true, condI_false, seqQ_normal, blkQ_normal, endI_mk, andThen_normal, goI_out, goI_ops, opsA_nil, opsA_cons, opsA_guardS, gvI_ft, slotAt_zero, slotAt_succ, stepA_move, stepA_assign, stepA_pick, stepA_load, stepA_binOp, stepA_indexAddr, stepA_len, thenV_some, pickV_false, eval_tmp, eval_const, put_some, aBin_add, aBin_lss, absV_int, absV_bool, aLoad_eq, loadGo_one, aPlace_ptr, Nat.reduceEqDiff, if_true, if_false, lt_28, f1, f13, f14, f15, c1', rlen, c2', x1, x3, hw]
      exact hid_mk ⟨(i + 1, rs1, ow1), ⟨f0, f1, f2, f7, f13, f14, rfl, hlt, by rw [e1]; exact w1, s1, by rw [e2]; exact gc, o1, n1⟩, by simp only; omega⟩
  · have c1' : decide ((i : Int) < ((n : Nat) : Int)) = false := decide_eq_false (by omega)
    have hin : i = n := by omega
    subst hin
    have len1 := hlen nk1
    have fin : decide (((i : Nat) : Int) / 2 + 1 ≤ ((cntN (fineN (nw room ep at_ b) (rch reach) nd) i : Nat) : Int)) = (wrL room i ep at_ b (rch reach) nd).2 := by
      unfold wrL
      rw [Bool.eq_iff_iff, decide_eq_true_iff, decide_eq_true_iff]
      omega
    simp only [wpA_region, wpA_seq, wpA_cond, wpA_exit, wpA_draw, condI_false, seqQ_normal, seqQ_exit, blkQ_exit, endI_mk, goE, andThen_exit, goI_out, goI_ops, opsA_nil, opsA_cons, stepA_binOp, thenV_some, eval_tmp, put_some, aBin_lss, if_true, f14, f15, c1']
    refine SWp.drawnS none_ [] (.c 0 (.q 1 (.q 2 (.q 3 (.q 4 (.q 5 (.c 6 (.q 7 (.q 8 .done))))))))) (by kernel_rfl) (by kernel_rfl) (by kernel_rfl) ?_
    refine siI_c (v := .int .i64 (cntN (fineN (nw room ep at_ b) (rch reach) nd) i : Nat)) rfl rfl rfl (fun h' hk => ?_) ?_
    · show Ab.Pure Try.prog 88 [f 7] h' _
      rw [f7]
      refine tLoad64 h' h.n _ ?_
      rcases hk with hk | hk
      · exact (hk.get h.n n1 (fun hh => hh)).trans gc
      · rw [hk]; exact gc
    simp only [siI_q, sqI_some, mOk_none', implies_true, qI_nil, qI_cons, thenQ_some, q_move, q_load, q_nilCheck, q_fieldAddr, q_len, goI_mk, nilV_ptr, eval_tmp, put_some, aField_eq, fieldGo_ptr, aLoad_eq, loadGo_one, aPlace_ptr, List.getElem?_cons_zero, List.getElem?_cons_succ, Nat.reduceEqDiff, reduceCtorEq, Nat.zero_add, true_and, if_true, if_false, ft_94_1, lt_92, f0, gL1, d1', len1]
    refine siI_c rfl rfl rfl (fun h' _ => pNeed (i : Int) (by omega) (by omega) h') ?_
    simp only [siI_done, siI_q, sqI_some, mOk_none', implies_true, qI_nil, qI_cons, thenQ_some, q_assign, q_binOp, wpA_ret, seqQ_normal, endI_mk, goI_out, goI_mk, eval_tmp, put_some, aBin_geq, List.getElem?_cons_zero, List.getElem?_cons_succ, Nat.reduceEqDiff, true_and, if_true, if_false, fin, retA_ret, Try.results69, resultsA_1]
    exact hid_mk ⟨rfl, rs1, ow1, w1, s1⟩
end Go.Proofs.Ytlbekgogjlchjaa.Pk
namespace Go.Proofs.Ytlbekgogjlchjaa.Pk
open Go Go.Proofs Go.Proofs.Ytlbekgogjlchjaa.Ab
set_option linter.unusedVariables false
set_option linter.unusedSimpArgs false
/-! ### What is told of a sealed node -/
theorem atOf_map : ∀ {es : Ces}, KNodup es → (∀ e ∈ es, e.2.2.at_ = e.2.1) → ∀ k, atOf (es.map (·.2.2)) k = (kget es k).toList
  | [], _, _, k => rfl
  | e :: es, hn, ha, k => by
    have hn' := List.nodup_cons.1 hn
    have ih := atOf_map (es := es) hn'.2 (fun x hx => ha x (by simp [hx])) k
    have h0 := ha e (by simp)
    unfold atOf at ih ⊢
    rw [List.map_cons, List.filter_cons]
    unfold kget
    by_cases hk : k = e.2.1
    · rw [if_pos (by rw [h0, hk]; simp), if_pos hk, ih]
      have : kget es k = none := kget_none.2 fun x hx hh => hn'.1 (List.mem_map.2 ⟨x, hx, by rw [hh, hk]⟩)
      rw [this]; rfl
    · rw [if_neg (by rw [h0]; simpa using fun h => hk h.symm), if_neg hk, ih]
theorem atOf_cells {l : Pays} (w : NOk (redoL l)) {out : List Cel} (p : out.Perm ((redoL l).2.1.map (·.2.2))) (k : Int) : atOf out k = (cellAt l k).toList := by
  have h1 : (atOf out k).Perm (atOf ((redoL l).2.1.map (·.2.2)) k) := by unfold atOf; exact p.filter _
  rw [atOf_map w.nd (fun e he => (w.sm e he).2.2.2.2)] at h1
  show _ = (kget (redoL l).2.1 k).toList
  cases hg : kget (redoL l).2.1 k with
  | none => rw [hg] at h1; exact h1.eq_nil
  | some c => rw [hg] at h1; exact List.perm_singleton.1 h1
theorem cells_small {l : Pays} (w : NOk (redoL l)) {out : List Cel} (p : out.Perm ((redoL l).2.1.map (·.2.2))) : ∀ c ∈ out, (c.bytes.length ≤ 2048 ∧ ∀ x ∈ c.bytes, x < 256) ∧ 0 ≤ c.at_ ∧ c.at_ < 4096 := fun c hc => by
  obtain ⟨e, he, rfl⟩ := List.mem_map.1 (p.mem_iff.1 hc)
  obtain ⟨s1, s2, s3, s4, s5⟩ := w.sm e he
  rw [s5]
  exact ⟨⟨s1, s2⟩, s3, s4⟩
theorem cells_len {h : AHeap} {room : Int} {r : NR} {l : Pays} (d : NdB h room r l) {out : List Cel} (p : out.Perm ((redoL l).2.1.map (·.2.2))) : out.length ≤ 1048576 := by
  have h1 := p.length_eq
  rw [List.length_map] at h1
  have h2 := redoL_len l (0, [], 0)
  have h3 := d.nd0.len
  unfold redoL at h1
  simp only [List.length_nil] at h2
  omega
/-- Seal, its answer being read alone. -/
theorem nbSealI {h : AHeap} {room : Int} {r : NR} {l : Pays} (d : NdB h room r l) (ep : Int) :
    SCalls Try.prog 16 [.ptr r.a 0, .int .i64 ep] h (fun x h' => ∃ out : List Cel, x = .tuple [.imm out.length (out.flatMap celE), .int .i64 (nseal room ep l).2] ∧ ((nseal room ep l).2 = 0 → out.Perm ((redoL l).2.1.map (·.2.2))) ∧ ∃ r', NdB h' room r' (nseal room ep l).1 ∧ NStep h h' r r') := by
  refine SCalls.cast ((nbSeal d ep).mono fun x h' ⟨rv, e, hs, r', d', st, hz⟩ => ?_)
  subst e
  by_cases h0 : (nseal room ep l).2 = 0
  · obtain ⟨out, o1, o2, o3, o4⟩ := hz h0
    obtain ⟨h2, c, k⟩ := Cast.own o3 (n := out.length) (rows_len celE_len _) (by decide)
    have hne : ∀ q, NP r' q → ¬ isId rv q := fun q hq hh => (o4 q hh).2 hq
    obtain ⟨s1, s2, s3, s4⟩ := st
    exact ⟨_, h2, Cast.tuple (CastL.cons c (CastL.refl _ _)), out, rfl, fun _ => o1, r', d'.keep k hne, s1, s2, s3.trans k fun q hq hh => by have := (o4 q hh).1; omega, s4⟩
  · have := hs h0
    subst this
    exact ⟨_, _, Cast.tuple (CastL.cons (Cast.snil0 _) (CastL.refl _ _)), [], rfl, fun hh => absurd hh h0, r', d', st⟩
set_option maxHeartbeats 1000000 in
set_option maxRecDepth 20000 in
theorem sClo {h : AHeap} {room : Int} {r : NR} {l : Pays} (d : NdB h room r l) {L c1 c6 : Nat} {dv nv pv op pr : V} {ep : Int} {rows : List (List Cel)} (hrl : rows.length ≤ 2 ^ 20)
    (gL : h.get L = .cells [dv, nv, op, .int .i64 ep, pv] 94 none) (g1 : h.get c1 = .cells [.ptr L 0] 51 none) (g6 : h.get c6 = .cells [pr] 97 none) (l6 : c6 < h.n) (o6 : Own h 33 1 pr (rows.flatMap rowE))
    (n6 : ¬ NP r c6) (npr : ∀ x, idOf pr = some x → ¬ NP r x ∧ x ≠ c6) :
    SCalls Try.prog 71 [.ptr r.a 0, .ptr c1 0, .ptr c6 0] h (fun x h' => x = .int .i64 (nseal room ep l).2 ∧ ∃ r' pr' rows', NdB h' room r' (nseal room ep l).1 ∧ r'.a = r.a ∧ r'.i = r.i ∧ (∀ q, NP r' q → NP r q ∨ h.n ≤ q) ∧
      Keep h h' (fun x => NP r x ∨ x = c6 ∨ idOf pr = some x) ∧ h'.get c6 = .cells [pr'] 97 none ∧ Own h' 33 1 pr' (rows'.flatMap rowE) ∧ (idOf pr' = idOf pr ∨ ∀ x, idOf pr' = some x → h.n ≤ x ∧ ¬ NP r' x) ∧ (∀ x, idOf pr' = some x → x ≠ c6 ∧ x < h'.n) ∧
      (((nseal room ep l).2 ≠ 0 ∧ rows' = rows) ∨ ((nseal room ep l).2 = 0 ∧ ∃ out : List Cel, rows' = rows ++ [out] ∧ out.Perm ((redoL l).2.1.map (·.2.2))))) := by
  have d3 : dropC (AObj.cells [dv, nv, op, .int .i64 ep, pv] 94 none) 3 = some [.int .i64 ep, pv] := rfl
  refine SCalls.enterI (c := _) Try.func71 rfl (by kernel_rfl) (by simp) ?_
  simp only [wpA_region, wpA_seq, seqQ_normal, goI_out, goI_ops, opsA_nil, opsA_cons, stepA_move, stepA_assign, stepA_load, stepA_nilCheck, stepA_fieldAddr, stepA_call, thenV_some, nilV_ptr, eval_tmp, eval_const, put_some, enterF_zero, enterF_succ, absV_int, aField_eq, fieldGo_ptr, aLoad_eq, loadGo_one, aPlace_ptr, dropC_cells, Nat.reduceEqDiff, reduceCtorEq, List.map_cons, List.map_nil, Nat.zero_add, Nat.zero_le, List.length_cons, List.length_nil, List.drop_zero, if_true, if_false, ft_94_3, lt_3, lt_51, gL, g1, d3]
  refine callI_of cal16 (nbSealI d ep) fun x h1 ⟨out, e, ho, r', d', s1, s2, s3, s4⟩ => ?_
  subst e
  have g61 : h1.get c6 = .cells [pr] 97 none := (s3.get c6 l6 n6).trans g6
  have o61 : Own h1 33 1 pr (rows.flatMap rowE) := o6.keep s3 fun x hx hh => (npr x hx).1 hh
  have kn1 := s3.n
  by_cases h0 : (nseal room ep l).2 = 0
  case neg =>
    have c1' : ((nseal room ep l).2 == 0) = false := by simp [h0]
    simp only [wpA_skip, wpA_region, wpA_seq, wpA_cond, wpA_ret, condI_false, seqQ_normal, endI_mk, goI_out, goI_ops, opsA_nil, opsA_cons, stepA_move, stepA_assign, stepA_binOp, stepA_extract, thenV_some, extV_zero, extV_succ, eval_tmp, eval_const, put_some, enterF_succ, aBin_eql, absV_int, Nat.reduceEqDiff, if_true, if_false, c1', retA_ret, Try.results71, resultsA_1]
    exact hid_mk ⟨rfl, r', pr, rows, d', s1, s2, s4, s3.mono fun _ hh => .inl hh, g61, o61, .inl rfl, fun x hx => ⟨(npr x hx).2, by have := o61.lt x hx; omega⟩, .inl ⟨h0, rfl⟩⟩
  have c1' : ((nseal room ep l).2 == 0) = true := by simp [h0]
  obtain ⟨v, h2, ea, o2, k2, nw2⟩ := append_elemM (P := Try.prog) sl_97 (by decide) o61 (xs := rowE out) rfl rfl (fun m hm => by
    have e1 : (rows.flatMap rowE).length = rows.length * 1 := rows_len rowE_len _
    change m * 1 = _ + 1 at hm
    rw [e1] at hm
    exact ⟨by simp only [lim]; omega, by simp only [lim]; omega⟩)
  obtain ⟨vc, v1⟩ := one_of_own o2
  have lit : aBuildSlice Try.prog 97 1 [(0, .imm out.length (out.flatMap celE))] h1 = some (.sl h1.n 0 1 1, h1.push (.cells (rowE out) 33 none)) := by rw [buildSlice_go sl_97]; rfl
  have hc6 : c6 < h1.n := by omega
  have gP : (h1.push (.cells (rowE out) 33 none)).get c6 = .cells [pr] 97 none := (get_push_lt hc6).trans g61
  have nc6 : ¬ isId pr c6 := fun hh => (npr c6 hh).2 rfl
  have g62 : h2.get c6 = .cells [pr] 97 none := (k2.get c6 hc6 nc6).trans g61
  have kn2 := k2.n
  have kS : ∀ o, Keep h2 (h2.set c6 o) (· = c6) := fun o => Keep.set _ _ _
  have vne : ∀ x, idOf v = some x → x ≠ c6 := fun x hx hh => by
    rcases nw2 with e | e
    · rw [e] at hx; exact (npr x hx).2 hh
    · have := e x hx; omega
  have dS : NdB (h2.set c6 (.cells [v] 97 none)) room r' (nseal room ep l).1 := (d'.keep k2 fun x hx hh => by
      rcases s4 x hx with h5 | h5
      · exact (npr x hh).1 h5
      · have := o6.lt x hh; omega).keep (kS _) fun x hx hh => by
      subst hh
      rcases s4 _ hx with h5 | h5
      · exact n6 h5
      · omega
  simp only [wpA_region, wpA_seq, wpA_cond, wpA_ret, condI_true, seqQ_normal, endI_mk, goI_out, goI_ops, opsA_nil, opsA_cons, stepA_move, stepA_assign, stepA_buildSlice, stepA_load, stepA_store, stepA_binOp, stepA_extract, stepA_append, thenV_some, thenH_some, thenS_some, extV_zero, extV_succ, eval_tmp, eval_const, put_some, put_none, enterF_zero, enterF_succ, aBin_eql, absV_int, all_nil, all_cons, aLoad_eq, loadGo_one, aPlace_ptr, dropC_cells, aStore_eq, storeGo_ptr, setC_row, setAll_nil, setAll_cons, Nat.reduceEqDiff, List.map_cons, List.map_nil, Option.map_some, Nat.zero_add, Nat.zero_le, List.length_cons, List.length_nil, List.drop_zero, List.set_cons_zero, if_true, if_false, Bool.and_self, Nat.le_refl, lt_97, zt_97, c1', g61, lit, ea, g62, vc, v1, retA_ret, Try.results71, resultsA_1]
  refine hid_mk ⟨rfl, r', v, rows ++ [out], dS, s1, s2, s4, ?_, get_set_same, ?_, ?_, fun x hx => ⟨vne x hx, o2.lt x hx⟩, .inr ⟨h0, out, rfl, ho h0⟩⟩
  · refine ((s3.mono fun _ hh => Or.inl hh).trans k2 fun q hq hh => .inr (.inr hh)).trans (kS _) fun q hq hh => .inr (.inl hh)
  · refine (?_ : Own h2 33 1 v ((rows ++ [out]).flatMap rowE)).keep (kS _) fun x hx hh => vne x hx hh
    rw [List.flatMap_append]
    simpa using o2
  · rcases nw2 with e | e
    · exact .inl e
    · exact .inr fun x hx => ⟨by have := e x hx; omega, fun hh => by have := e x hx; have := d'.lt x hh; omega⟩
end Go.Proofs.Ytlbekgogjlchjaa.Pk
namespace Go.Proofs.Ytlbekgogjlchjaa.Pk
open Go Go.Proofs Go.Proofs.Ytlbekgogjlchjaa.Ab
set_option linter.unusedVariables false
set_option linter.unusedSimpArgs false
/-- More cells than a disk has room for. -/
def mostC : Nat := 1048576
/-- What replies tell: at each slot what the sealed nodes have there. -/
structure Rep (P : Nat → Bool) (nd : Nds) (n : Nat) (rows : List (List Cel)) : Prop where
  at_ : ∀ k, atOf rows.flatten k = votes P nd k n
  len : rows.flatten.length ≤ n * mostC
  rl : rows.length ≤ n
  sm : ∀ c ∈ rows.flatten, (c.bytes.length ≤ 2048 ∧ ∀ x ∈ c.bytes, x < 256) ∧ 0 ≤ c.at_ ∧ c.at_ < 4096
theorem Rep.nil (P : Nat → Bool) (nd : Nds) : Rep P nd 0 [] := ⟨fun _ => rfl, Nat.zero_le _, Nat.le_refl _, fun c hc => by cases hc⟩
set_option maxRecDepth 10000 in
theorem Rep.skip {P : Nat → Bool} {nd : Nds} {n : Nat} {rows : List (List Cel)} (w : Rep P nd n rows) (h : P n = false) : Rep P nd (n + 1) rows :=
  ⟨fun k => by unfold votes; rw [if_neg (by rw [h]; decide), List.append_nil]; exact w.at_ k, by rw [Nat.succ_mul]; exact Nat.le_trans w.len (Nat.le_add_right _ _), by have := w.rl; omega, w.sm⟩
set_option maxRecDepth 10000 in
theorem Rep.more {P : Nat → Bool} {nd : Nds} {n : Nat} {rows : List (List Cel)} (w : Rep P nd n rows) (h : P n = true) {out : List Cel} (ho : ∀ k, atOf out k = (cellAt (nd n) k).toList) (hl : out.length ≤ mostC) (hs : ∀ c ∈ out, (c.bytes.length ≤ 2048 ∧ ∀ x ∈ c.bytes, x < 256) ∧ 0 ≤ c.at_ ∧ c.at_ < 4096) : Rep P nd (n + 1) (rows ++ [out]) := by
  have hf : (rows ++ [out]).flatten = rows.flatten ++ out := by simp
  refine ⟨fun k => ?_, ?_, ?_, fun c hc => ?_⟩
  · unfold votes
    rw [if_pos h, hf, atOf_append, w.at_, ho]
  · rw [hf, List.length_append, Nat.succ_mul]; exact Nat.add_le_add w.len hl
  · rw [List.length_append]; have := w.rl; simp; omega
  · rw [hf] at hc
    rcases List.mem_append.1 hc with h1 | h1
    · exact w.sm c h1
    · exact hs c h1
open Classical in
noncomputable def ow3 (ow : Nat → Nat) (n0 : Nat) (P : Nat → Prop) (t : Nat) (P2 : Nat → Prop) (t2 : Nat) : Nat → Nat := fun x => if x < n0 then ow x else if P x then t else if P2 x then t2 else 0
theorem ow3_lt {ow : Nat → Nat} {n0 : Nat} {P P2 : Nat → Prop} {t t2 x : Nat} (h : x < n0) : ow3 ow n0 P t P2 t2 x = ow x := by unfold ow3; rw [if_pos h]
theorem ow3_one {ow : Nat → Nat} {n0 : Nat} {P P2 : Nat → Prop} {t t2 x : Nat} (h : n0 ≤ x) (hp : P x) : ow3 ow n0 P t P2 t2 x = t := by unfold ow3; rw [if_neg (by omega), if_pos hp]
theorem ow3_two {ow : Nat → Nat} {n0 : Nat} {P P2 : Nat → Prop} {t t2 x : Nat} (h : n0 ≤ x) (hn : ¬ P x) (hp : P2 x) : ow3 ow n0 P t P2 t2 x = t2 := by unfold ow3; rw [if_neg (by omega), if_neg hn, if_pos hp]
theorem ow3_old {ow : Nat → Nat} {n0 n1 : Nat} {P P2 : Nat → Prop} {t t2 : Nat} (hn : n0 ≤ n1) (hp : ∀ x, P x → x < n1) (hp2 : ∀ x, P2 x → x < n1) : ∀ x, ow3 ow n0 P t P2 t2 x ≠ 0 → x < n1 := fun x hx => by
  unfold ow3 at hx
  split at hx
  · omega
  split at hx
  · rename_i hh; exact hp x hh
  split at hx
  · rename_i hh; exact hp2 x hh
  · exact absurd rfl hx
theorem NodesS.stepG {h h' : AHeap} {room : Int} {n : Nat} {rs : Nat → NR} {nd : Nds} {ow : Nat → Nat} (w : NodesS h room n rs nd ow) {q : Nat} (hq : q < n) {r' : NR} {l' : Pays} (d : NdB h' room r' l') {own : Nat → Prop} (hk : Keep h h' own) (ho : ∀ x, own x → ∀ p, p < n → p ≠ q → ow x ≠ p + 5) (hx : ∀ x, NP r' x → NP (rs q) x ∨ h.n ≤ x)
    {ow2 : Nat → Nat} (o1 : ∀ x, x < h.n → ow2 x = ow x) (o2 : ∀ x, h.n ≤ x → NP r' x → ow2 x = q + 5) (o3 : ∀ x, ow2 x ≠ 0 → x < h'.n) : NodesS h' room n (updN rs q r') (updN nd q l') ow2 := by
  refine ⟨fun p hp => ?_, fun p hp x hx2 => ?_, o3⟩
  · by_cases e : p = q
    · subst e; rw [updN_same, updN_same]; exact d
    · rw [updN_ne e, updN_ne e]
      exact (w.nd p hp).keep hk fun x h1 h2 => ho x h2 p hp e (w.ond p hp x h1)
  · by_cases e : p = q
    · subst e
      rw [updN_same] at hx2
      rcases hx x hx2 with h1 | h1
      · rw [o1 x ((w.nd p hp).lt x h1)]; exact w.ond p hp x h1
      · exact o2 x h1 hx2
    · rw [updN_ne e] at hx2
      rw [o1 x ((w.nd p hp).lt x hx2)]; exact w.ond p hp x hx2
set_option maxHeartbeats 2000000 in
set_option maxRecDepth 20000 in
theorem quorumS {h : AHeap} {room : Int} {n : Nat} {rs : Nat → NR} {nd : Nds} {ow : Nat → Nat} (w : NodesS h room n rs nd ow) {L c1 c6 : Nat} {dv nv pv op : V} {ep : Int}
    (gL : h.get L = .cells [dv, nv, op, .int .i64 ep, pv] 94 none) (g1 : h.get c1 = .cells [.ptr L 0] 51 none) (g6 : h.get c6 = .cells [.snil] 97 none)
    (lL : L < h.n ∧ ow L < 5) (l1 : c1 < h.n ∧ ow c1 < 5) (l6 : c6 < h.n ∧ ow c6 = n + 5) (nk : Own h 28 1 nv (ptrs (fun q => (rs q).a) n)) (onv : ∀ x, idOf nv = some x → ow x < 5) (hn : n ≤ 2 ^ 10) (reach : List Bool) {rv : V} (rvl : RVal h ow rv reach) (hr : reach.length ≤ 2 ^ 47) :
    SCalls Try.prog 69 [.ptr L 0, rv, .func (.func 71) [] [.ptr c1 0, .ptr c6 0]] h (fun x h' => x = .bool (decide (n / 2 + 1 ≤ cntN (fineN (nseal room ep) (rch reach) nd) n)) ∧
      ∃ rs' ow' pr rows, NodesS h' room n rs' (allN (nseal room ep) (rch reach) n nd) ow' ∧ Same h h' n rs rs' ow ow' ∧ h'.get c6 = .cells [pr] 97 none ∧ Own h' 33 1 pr (rows.flatMap rowE) ∧ (∀ x, idOf pr = some x → h.n ≤ x ∧ ow' x = n + 5) ∧ Rep (fineN (nseal room ep) (rch reach) nd) nd n rows) := by
  have hx0 : ow h.n = 0 := by
    cases hq : ow h.n with
    | zero => rfl
    | succ k => have := w.old h.n (by omega); omega
  have kP : Keep h (h.push (.cells [.int .i64 0] 145 none)) none_ := Keep.push _ _ _
  have d1' : dropC (AObj.cells [dv, nv, op, .int .i64 ep, pv] 94 none) 1 = some [nv, op, .int .i64 ep, pv] := rfl
  have gLP : (h.push (.cells [.int .i64 0] 145 none)).get L = .cells [dv, nv, op, .int .i64 ep, pv] 94 none := (get_push_lt lL.1).trans gL
  have hlen : ∀ {h1 : AHeap} {rs1 : Nat → NR}, Own h1 28 1 nv (ptrs (fun q => (rs1 q).a) n) → aLen Try.prog 92 nv h1 = some (.int .i64 (n : Nat)) := fun {h1 rs1} o => by
    have := o.length (by decide) Try.prog (t := 92) kt_92
    rw [ptrs_len, Nat.div_one] at this
    exact this
  have oP := nk.keepN kP
  have lenP := hlen oP
  refine SCalls.enterI (c := _) Try.func69 rfl (by kernel_rfl) (by simp) ?_
  simp only [wpA_region, wpA_seq, wpA_block, wpA_loop, seqQ_normal, goI_out, goI_ops, opsA_nil, opsA_cons, stepA_move, stepA_assign, stepA_alloc, stepA_load, stepA_nilCheck, stepA_fieldAddr, stepA_len, thenV_some, thenH_some, nilV_ptr, eval_tmp, eval_const, put_some, enterF_zero, enterF_succ, absV_int, absV_bool, aField_eq, fieldGo_ptr, aLoad_eq, loadGo_one, aPlace_ptr, aAlloc_eq, Nat.reduceEqDiff, reduceCtorEq, Option.map_some, Nat.zero_add, if_true, if_false, ft_94_1, lt_92, zc_145, gLP, d1', lenP]
  refine SWp.loopG (α := Nat × (Nat → NR) × (Nat → Nat) × V × List (List Cel)) (fun x f h1 => f 0 = .ptr L 0 ∧ f 1 = rv ∧ f 2 = .func (.func 71) [] [.ptr c1 0, .ptr c6 0] ∧ f 7 = .ptr h.n 0 ∧ f 13 = nv ∧ f 14 = .int .i64 (n : Nat) ∧ f 15 = .int .i64 (x.1 : Nat) ∧ x.1 ≤ n ∧
      NodesS h1 room n x.2.1 (allN (nseal room ep) (rch reach) x.1 nd) x.2.2.1 ∧ Same h h1 n rs x.2.1 ow x.2.2.1 ∧ h1.get h.n = .cells [.int .i64 (cntN (fineN (nseal room ep) (rch reach) nd) x.1 : Nat)] 145 none ∧ x.2.2.1 h.n = 0 ∧ h.n < h1.n ∧
      h1.get c6 = .cells [x.2.2.2.1] 97 none ∧ Own h1 33 1 x.2.2.2.1 (x.2.2.2.2.flatMap rowE) ∧ (∀ y, idOf x.2.2.2.1 = some y → h.n ≤ y ∧ x.2.2.1 y = n + 5) ∧ Rep (fineN (nseal room ep) (rch reach) nd) nd x.1 x.2.2.2.2) (fun x => n - x.1) (0, rs, ow, .snil, [])
    ⟨rfl, rfl, rfl, rfl, rfl, rfl, rfl, Nat.zero_le _, (by rw [allN_zero]; exact w.on kP (fun x hx => hx.elim)), (Same.refl h n rs ow).on kP (fun x _ hx => hx), get_push_new, hx0, Nat.lt_succ_self _, (get_push_lt l6.1).trans g6, Own.snil _ _ _, (fun y hy => by cases hy), Rep.nil _ _⟩ ?_
  rintro ⟨i, rs1, ow1, pr, rows⟩ f h1 ⟨f0, f1, f2, f7, f13, f14, f15, hi, w1, s1, gc, o1, n1, gr, orow, tpr, rp⟩
  simp only at f15 hi w1 s1 gc o1 gr orow tpr rp
  have keepc : ∀ x, x < h.n → ow x < 5 → h1.get x = h.get x := fun x hx ho => s1.keep.get x hx (by omega)
  have gL1 := (keepc L lL.1 lL.2).trans gL
  have nk1 : Own h1 28 1 nv (ptrs (fun q => (rs1 q).a) n) := by
    rw [ptrs_congr (f := fun q => (rs1 q).a) (g := fun q => (rs q).a) fun q hq => s1.a q hq]
    exact nk.keep s1.keep fun x hx hh => by have := onv x hx; omega
  have rv1 := rvl.on (ow' := ow1) s1.keep (fun x hx h0 => by rw [h0]; omega) (fun x hx h0 => (s1.ow x hx).trans h0)
  have rlen := rv1.len
  refine wpI_sound (by kernel_rfl) ?_
  by_cases hlt : i < n
  · have c1' : decide ((i : Int) < ((n : Nat) : Int)) = true := decide_eq_true (by omega)
    obtain ⟨j, q, x1, x2, x3⟩ := own_ptr (t := 92) ss_92 nk1 hlt
    have hw : IntKind.i64.wrap ((i : Int) + 1) = ((i + 1 : Nat) : Int) := by rw [Go.IntWalk.i64_in _ (by omega)]; rfl
    have hsucc := allN_succ (nseal room ep) (rch reach) i nd
    have skip : rch reach i = false → allN (nseal room ep) (rch reach) (i + 1) nd = allN (nseal room ep) (rch reach) i nd ∧ cntN (fineN (nseal room ep) (rch reach) nd) (i + 1) = cntN (fineN (nseal room ep) (rch reach) nd) i ∧ Rep (fineN (nseal room ep) (rch reach) nd) nd (i + 1) rows := fun hri => by
      have hf : fineN (nseal room ep) (rch reach) nd i = false := by unfold fineN; rw [hri]; simp
      refine ⟨by rw [hsucc, if_neg (by rw [hri]; decide)], ?_, rp.skip hf⟩
      show _ + _ = _
      rw [if_neg (by rw [hf]; decide)]
      rfl
    by_cases hlr : i < reach.length
    · have c2' : decide ((i : Int) < ((reach.length : Nat) : Int)) = true := decide_eq_true (by omega)
      obtain ⟨rpp, rr, y1, yl⟩ := rv1.ix hlr
      have hri := rch_lt hlr
      cases hb2 : reach[i] with
      | false =>
        rw [hb2] at yl hri
        obtain ⟨e1, e2, e3⟩ := skip hri
        simp only [wpA_skip, wpA_region, wpA_seq, wpA_cond, wpA_block, condI_true, condI_false, seqQ_normal, blkQ_normal, endI_mk, andThen_normal, goI_out, goI_ops, opsA_nil, opsA_cons, opsA_guardS, gvI_same, gvI_ft, slotAt_zero, slotAt_succ, stepA_move, stepA_assign, stepA_pick, stepA_load, stepA_binOp, stepA_indexAddr, stepA_len, thenV_some, pickV_true, pickV_false, eval_tmp, eval_const, put_some, aBin_add, aBin_lss, absV_int, absV_bool, aLoad_eq, loadGo_one, aPlace_ptr, Nat.reduceEqDiff, if_true, if_false, lt_28, lt_4, f1, f13, f14, f15, c1', rlen, c2', x1, x3, y1, yl, hw]
        exact hid_mk ⟨(i + 1, rs1, ow1, pr, rows), ⟨f0, f1, f2, f7, f13, f14, rfl, hlt, by rw [e1]; exact w1, s1, by rw [e2]; exact gc, o1, n1, gr, orow, tpr, e3⟩, by simp only; omega⟩
      | true =>
        rw [hb2] at yl hri
        have d0 := w1.nd i hlt
        rw [allN_at] at d0
        have t6 : ow1 c6 = n + 5 := (s1.ow c6 l6.1).trans l6.2
        have tag6 : ¬ NP (rs1 i) c6 := fun hh => by have := w1.ond i hlt c6 hh; omega
        have lc6 : c6 < h1.n := by have := s1.keep.n; have := l6.1; omega
        simp only [wpA_skip, wpA_region, wpA_seq, wpA_cond, wpA_block, condI_true, seqQ_normal, goI_out, goI_ops, opsA_nil, opsA_cons, opsA_guardS, gvI_same, slotAt_zero, slotAt_succ, stepA_move, stepA_assign, stepA_pick, stepA_load, stepA_binOp, stepA_indexAddr, stepA_len, stepA_callv, callvI_func, thenV_some, pickV_true, eval_tmp, eval_const, put_some, aBin_lss, absV_bool, aLoad_eq, loadGo_one, aPlace_ptr, Nat.reduceEqDiff, List.map_cons, List.map_nil, List.nil_append, List.cons_append, if_true, if_false, lt_28, lt_4, f1, f2, f13, f14, f15, c1', rlen, c2', x1, x3, y1, yl]
        refine callI_of cal71 (sClo d0 (by have := rp.rl; omega) gL1 ((keepc c1 l1.1 l1.2).trans g1) gr lc6 orow tag6 (fun x hx => ⟨fun hh => by have := w1.ond i hlt x hh; have := (tpr x hx).2; omega, fun hh => by have := (tpr x hx).1; have := l6.1; omega⟩)) fun x h2 ⟨ex, r', pr', rows', d', st1, st2, st4, k2, gr', or', nw', lt', rr⟩ => ?_
        subst ex
        -- the step, told as one of a node and of the replies
        have n2 := k2.n
        have k2' : Keep h1 h2 (fun x => 5 ≤ ow1 x) := k2.mono fun x hh => by
          rcases hh with hh | hh | hh
          · have := w1.ond i hlt x hh; omega
          · subst hh; omega
          · have := (tpr x hh).2; omega
        have e1 : allN (nseal room ep) (rch reach) (i + 1) nd = updN (allN (nseal room ep) (rch reach) i nd) i (nseal room ep (nd i)).1 := by rw [hsucc, if_pos hri]; rfl
        have w2 := w1.stepG hlt d' k2 (fun x hh p hp hpi => by
          rcases hh with hh | hh | hh
          · have := w1.ond i hlt x hh; omega
          · subst hh; omega
          · have := (tpr x hh).2; omega) st4 (ow2 := ow3 ow1 h1.n (NP r') (i + 5) (isId pr') (n + 5)) (fun x hx => ow3_lt hx) (fun x hx hp => ow3_one hx hp) (ow3_old n2 d'.lt fun x hx => (lt' x hx).2)
        rw [← e1] at w2
        have s2 : Same h h2 n rs (updN rs1 i r') ow (ow3 ow1 h1.n (NP r') (i + 5) (isId pr') (n + 5)) := s1.trans ⟨k2', fun q hq => by
            by_cases e : q = i
            · subst e; rw [updN_same]; exact st1
            · rw [updN_ne e], fun q hq => by
            by_cases e : q = i
            · subst e; rw [updN_same]; exact st2
            · rw [updN_ne e], fun x hx => ow3_lt hx⟩
        have tpr2 : ∀ y, idOf pr' = some y → h.n ≤ y ∧ ow3 ow1 h1.n (NP r') (i + 5) (isId pr') (n + 5) y = n + 5 := fun y hy => by
          rcases nw' with e | e
          · rw [e] at hy
            obtain ⟨a1, a2⟩ := tpr y hy
            exact ⟨a1, by rw [ow3_lt (orow.lt y hy)]; exact a2⟩
          · obtain ⟨a1, a2⟩ := e y hy
            exact ⟨by omega, ow3_two a1 a2 hy⟩
        have gc2 : h2.get h.n = .cells [.int .i64 (cntN (fineN (nseal room ep) (rch reach) nd) i : Nat)] 145 none := (k2'.get h.n n1 (by rw [o1]; omega)).trans gc
        have o2 : ow3 ow1 h1.n (NP r') (i + 5) (isId pr') (n + 5) h.n = 0 := by rw [ow3_lt n1]; exact o1
        rcases rr with ⟨hz, rfl⟩ | ⟨hz, out, rfl, op_⟩
        · have hf : fineN (nseal room ep) (rch reach) nd i = false := by unfold fineN; simp [hz]
          have e2 : cntN (fineN (nseal room ep) (rch reach) nd) (i + 1) = cntN (fineN (nseal room ep) (rch reach) nd) i := by
            show _ + _ = _
            rw [if_neg (by rw [hf]; decide)]
            rfl
          have z1 : ((nseal room ep (nd i)).2 == 0) = false := by simp [hz]
          simp only [wpA_skip, wpA_region, wpA_cond, condI_false, seqQ_normal, blkQ_normal, endI_mk, andThen_normal, goI_out, goI_ops, opsA_nil, opsA_cons, opsA_guardS, gvI_same, slotAt_zero, slotAt_succ, stepA_move, stepA_pick, stepA_binOp, thenV_some, pickV_true, eval_tmp, eval_const, put_some, aBin_add, aBin_eql, absV_int, absV_bool, Nat.reduceEqDiff, if_true, if_false, f15, z1, hw]
          exact hid_mk ⟨(i + 1, updN rs1 i r', ow3 ow1 h1.n (NP r') (i + 5) (isId pr') (n + 5), pr', rows'), ⟨f0, f1, f2, f7, f13, f14, rfl, hlt, w2, s2, by rw [e2]; exact gc2, o2, by omega, gr', or', tpr2, rp.skip hf⟩, by simp only; omega⟩
        · have hf : fineN (nseal room ep) (rch reach) nd i = true := by unfold fineN; rw [hri, hz]; rfl
          have e2 : cntN (fineN (nseal room ep) (rch reach) nd) (i + 1) = cntN (fineN (nseal room ep) (rch reach) nd) i + 1 := by
            show _ + _ = _
            rw [if_pos hf]
          have cle := cntN_le (fineN (nseal room ep) (rch reach) nd) i
          have hcw : IntKind.i64.wrap (((cntN (fineN (nseal room ep) (rch reach) nd) i : Nat) : Int) + 1) = ((cntN (fineN (nseal room ep) (rch reach) nd) (i + 1) : Nat) : Int) := by
            rw [e2, Go.IntWalk.i64_in _ (by omega)]; rfl
          have z1 : ((0 : Int) == 0) = true := rfl
          rw [hz]
          simp only [wpA_region, wpA_cond, condI_true, seqQ_normal, goI_out, goI_ops, opsA_nil, opsA_cons, opsA_guardS, gvI_same, slotAt_zero, slotAt_succ, stepA_pick, stepA_binOp, stepA_call, thenV_some, pickV_true, eval_tmp, eval_const, put_some, aBin_eql, absV_int, absV_bool, beq_self_eq_true, Nat.reduceEqDiff, List.map_cons, List.map_nil, if_true, if_false, f7]
          refine callI_of cal87 (tAdd h2 h.n _ 1 gc2) fun x h3 ⟨ex, eh⟩ => ?_
          subst ex; subst eh
          rw [hcw]
          have kS : ∀ o, Keep h2 (h2.set h.n o) (· = h.n) := fun o => Keep.set _ _ _
          have rp2 := rp.more hf (atOf_cells d0.ok op_) (cells_len d0 op_) (cells_small d0.ok op_)
          have hc6 := l6.1
          simp only [wpA_region, seqQ_normal, blkQ_normal, endI_mk, andThen_normal, goI_out, goI_ops, opsA_nil, opsA_cons, stepA_move, stepA_binOp, thenV_some, eval_tmp, eval_const, put_some, aBin_add, absV_int, Nat.reduceEqDiff, if_true, if_false, f15, hw]
          exact hid_mk ⟨(i + 1, updN rs1 i r', ow3 ow1 h1.n (NP r') (i + 5) (isId pr') (n + 5), pr', rows ++ [out]), ⟨f0, f1, f2, f7, f13, f14, rfl, hlt, w2.on (kS _) (fun x hx => by subst hx; rw [o2]; omega), s2.on (kS _) (fun x hx hh => by omega), get_set_same, o2, by simp only [set_n]; omega, (get_set_ne (by omega)).trans gr', or'.keep (kS _) (fun x hx hh => by have := tpr2 x hx; subst hh; omega), tpr2, rp2⟩, by simp only; omega⟩
    · have c2' : decide ((i : Int) < ((reach.length : Nat) : Int)) = false := decide_eq_false (by omega)
      obtain ⟨e1, e2, e3⟩ := skip (rch_ge (l := reach) (q := i) (by omega))
      simp only [wpA_skip, wpA_region, wpA_seq, wpA_cond, wpA_block, condI_true, condI_false, seqQ_normal, blkQ_normal, endI_mk, andThen_normal, goI_out, goI_ops, opsA_nil, opsA_cons, opsA_guardS, gvI_ft, slotAt_zero, slotAt_succ, stepA_move, stepA_assign, stepA_pick, stepA_load, stepA_binOp, stepA_indexAddr, stepA_len, thenV_some, pickV_false, eval_tmp, eval_const, put_some, aBin_add, aBin_lss, absV_int, absV_bool, aLoad_eq, loadGo_one, aPlace_ptr, Nat.reduceEqDiff, if_true, if_false, lt_28, f1, f13, f14, f15, c1', rlen, c2', x1, x3, hw]
      exact hid_mk ⟨(i + 1, rs1, ow1, pr, rows), ⟨f0, f1, f2, f7, f13, f14, rfl, hlt, by rw [e1]; exact w1, s1, by rw [e2]; exact gc, o1, n1, gr, orow, tpr, e3⟩, by simp only; omega⟩
  · have c1' : decide ((i : Int) < ((n : Nat) : Int)) = false := decide_eq_false (by omega)
    have hin : i = n := by omega
    subst hin
    have len1 := hlen nk1
    have fin : decide (((i : Nat) : Int) / 2 + 1 ≤ ((cntN (fineN (nseal room ep) (rch reach) nd) i : Nat) : Int)) = decide (i / 2 + 1 ≤ cntN (fineN (nseal room ep) (rch reach) nd) i) := by
      rw [Bool.eq_iff_iff, decide_eq_true_iff, decide_eq_true_iff]
      omega
    simp only [wpA_region, wpA_seq, wpA_cond, wpA_exit, wpA_draw, condI_false, seqQ_normal, seqQ_exit, blkQ_exit, endI_mk, goE, andThen_exit, goI_out, goI_ops, opsA_nil, opsA_cons, stepA_binOp, thenV_some, eval_tmp, put_some, aBin_lss, if_true, f14, f15, c1']
    refine SWp.drawnS none_ [] (.c 0 (.q 1 (.q 2 (.q 3 (.q 4 (.q 5 (.c 6 (.q 7 (.q 8 .done))))))))) (by kernel_rfl) (by kernel_rfl) (by kernel_rfl) ?_
    refine siI_c (v := .int .i64 (cntN (fineN (nseal room ep) (rch reach) nd) i : Nat)) rfl rfl rfl (fun h' hk => ?_) ?_
    · show Ab.Pure Try.prog 88 [f 7] h' _
      rw [f7]
      refine tLoad64 h' h.n _ ?_
      rcases hk with hk | hk
      · exact (hk.get h.n n1 (fun hh => hh)).trans gc
      · rw [hk]; exact gc
    simp only [siI_q, sqI_some, mOk_none', implies_true, qI_nil, qI_cons, thenQ_some, q_move, q_load, q_nilCheck, q_fieldAddr, q_len, goI_mk, nilV_ptr, eval_tmp, put_some, aField_eq, fieldGo_ptr, aLoad_eq, loadGo_one, aPlace_ptr, List.getElem?_cons_zero, List.getElem?_cons_succ, Nat.reduceEqDiff, reduceCtorEq, Nat.zero_add, true_and, if_true, if_false, ft_94_1, lt_92, f0, gL1, d1', len1]
    refine siI_c rfl rfl rfl (fun h' _ => pNeed (i : Int) (by omega) (by omega) h') ?_
    simp only [siI_done, siI_q, sqI_some, mOk_none', implies_true, qI_nil, qI_cons, thenQ_some, q_assign, q_binOp, wpA_ret, seqQ_normal, endI_mk, goI_out, goI_mk, eval_tmp, put_some, aBin_geq, List.getElem?_cons_zero, List.getElem?_cons_succ, Nat.reduceEqDiff, true_and, if_true, if_false, fin, retA_ret, Try.results69, resultsA_1]
    exact hid_mk ⟨rfl, rs1, ow1, pr, rows, w1, s1, gr, orow, tpr, rp⟩
end Go.Proofs.Ytlbekgogjlchjaa.Pk
namespace Go.Proofs.Ytlbekgogjlchjaa.Pk
open Go Go.Proofs Go.Proofs.Ytlbekgogjlchjaa.Ab
set_option linter.unusedVariables false
set_option linter.unusedSimpArgs false
theorem NodesS.zero {h : AHeap} {room : Int} {n : Nat} {rs : Nat → NR} {nd : Nds} {ow : Nat → Nat} (w : NodesS h room n rs nd ow) {x : Nat} (hx : h.n ≤ x) : ow x = 0 := by
  cases hq : ow x with
  | zero => rfl
  | succ k => have := w.old x (by omega); omega
set_option maxRecDepth 20000 in
theorem logWrite {h : AHeap} {room : Int} {n : Nat} {rs : Nat → NR} {nd : Nds} {ow : Nat → Nat} (w : NodesS h room n rs nd ow) {L : Nat} {dv nv pv op : V} {ep : Int} (at_ : Int) {b : List Nat} (hb : ∀ n ∈ b, n < 256) (hbl : b.length ≤ 2 ^ 40)
    (gL : h.get L = .cells [dv, nv, op, .int .i64 ep, pv] 94 none) (lL : L < h.n ∧ ow L < 5) (nk : Own h 28 1 nv (ptrs (fun q => (rs q).a) n)) (onv : ∀ x, idOf nv = some x → ow x < 5) (hn : n ≤ 2 ^ 10) (reach : List Bool) {rv : V} (rvl : RVal h ow rv reach) (hr : reach.length ≤ 2 ^ 47) :
    SCalls Try.prog 49 [.ptr L 0, .int .i64 at_, .imm b.length (bytesV b), rv] h (fun x h' => x = .bool (wrL room n ep at_ b (rch reach) nd).2 ∧
      ∃ rs' ow', NodesS h' room n rs' (wrL room n ep at_ b (rch reach) nd).1 ow' ∧ Same h h' n rs rs' ow ow') := by
  have kP : Keep h (((h.push (.cells [.ptr L 0] 51 none)).push (.cells [.int .i64 at_] 3 none)).push (.cells [.imm b.length (bytesV b)] 30 none)) none_ := ((Keep.push _ _ _).then_push _).then_push _
  have z0 := w.zero (Nat.le_refl _)
  have z1 : ow (h.n + 1) = 0 := w.zero (Nat.le_succ h.n)
  have z2 : ow (h.n + 2) = 0 := w.zero (by omega)
  have q1 : (((h.push (.cells [.ptr L 0] 51 none)).push (.cells [.int .i64 at_] 3 none)).push (.cells [.imm b.length (bytesV b)] 30 none)).get h.n = .cells [.ptr L 0] 51 none := (get_push_lt (by simp only [push_n]; omega)).trans ((get_push_lt (by simp only [push_n]; omega)).trans get_push_new)
  have q2 : (((h.push (.cells [.ptr L 0] 51 none)).push (.cells [.int .i64 at_] 3 none)).push (.cells [.imm b.length (bytesV b)] 30 none)).get (h.n + 1) = .cells [.int .i64 at_] 3 none := (get_push_lt (by simp only [push_n]; omega)).trans get_push_new
  have q3 : (((h.push (.cells [.ptr L 0] 51 none)).push (.cells [.int .i64 at_] 3 none)).push (.cells [.imm b.length (bytesV b)] 30 none)).get (h.n + 2) = .cells [.imm b.length (bytesV b)] 30 none := get_push_new
  have hN : (((h.push (.cells [.ptr L 0] 51 none)).push (.cells [.int .i64 at_] 3 none)).push (.cells [.imm b.length (bytesV b)] 30 none)).n = h.n + 3 := rfl
  refine SCalls.enterI (c := _) Try.func49 rfl (by kernel_rfl) (by simp) ?_
  simp only [wpA_region, wpA_seq, seqQ_normal, goI_out, goI_ops, opsA_nil, opsA_cons, stepA_move, stepA_assign, stepA_box, stepA_load, stepA_makeFunc, stepA_call, thenV_some, thenH_some, eval_tmp, eval_const, put_some, enterF_zero, enterF_succ, absV_bool, cells_int, cells_ptr, cells_imm, aLoad_eq, loadGo_one, aPlace_ptr, dropC_cells, aBox_eq, push_n, Nat.reduceEqDiff, List.map_cons, List.map_nil, Option.map_some, Nat.zero_add, Nat.zero_le, List.length_cons, List.length_nil, List.drop_zero, if_true, if_false, lt_51, q1]
  generalize ((h.push (.cells [.ptr L 0] 51 none)).push (.cells [.int .i64 at_] 3 none)).push (.cells [.imm b.length (bytesV b)] 30 none) = H at kP q1 q2 q3 hN ⊢
  refine callI_of cal69 (quorumW (w.on kP fun x hx => hx.elim) hb hbl ((kP.get L lL.1 fun hh => hh).trans gL) q1 q2 q3 ⟨by omega, lL.2⟩ ⟨by omega, by omega⟩ ⟨by omega, by omega⟩ ⟨by omega, by omega⟩ (nk.keepN kP) onv (by omega) reach (rvl.on kP (fun _ _ _ hh => hh) (fun _ _ h0 => h0)) hr) fun x h' ⟨e, rs', ow', w', s'⟩ => ?_
  subst e
  simp only [wpA_ret, seqQ_normal, endI_mk, goI_out, goI_ops, opsA_nil, opsA_cons, stepA_assign, eval_tmp, put_some, enterF_succ, Nat.reduceEqDiff, if_true, if_false, retA_ret, Try.results49, resultsA_1]
  exact hid_mk ⟨rfl, rs', ow', w', ⟨kP.up.trans s'.keep fun _ _ hh => hh, s'.a, s'.i, fun x hx => s'.ow x (by omega)⟩⟩
set_option maxRecDepth 20000 in
theorem logSeal {h : AHeap} {room : Int} {n : Nat} {rs : Nat → NR} {nd : Nds} {ow : Nat → Nat} (w : NodesS h room n rs nd ow) {L : Nat} {dv nv pv op : V} {ep : Int}
    (gL : h.get L = .cells [dv, nv, op, .int .i64 ep, pv] 94 none) (lL : L < h.n ∧ ow L < 5) (nk : Own h 28 1 nv (ptrs (fun q => (rs q).a) n)) (onv : ∀ x, idOf nv = some x → ow x < 5 ∧ x < h.n) (hn : n ≤ 2 ^ 10) (reach : List Bool) {rv : V} (rvl : RVal h ow rv reach) (hr : reach.length ≤ 2 ^ 47) :
    SCalls Try.prog 51 [.ptr L 0, rv] h (fun x h' => ∃ rows : List (List Cel), x = .tuple [.imm rows.length (rows.flatMap rowE), .bool (decide (n / 2 + 1 ≤ cntN (fineN (nseal room ep) (rch reach) nd) n))] ∧
      ∃ rs' ow', NodesS h' room n rs' (allN (nseal room ep) (rch reach) n nd) ow' ∧ Same h h' n rs rs' ow ow' ∧ Rep (fineN (nseal room ep) (rch reach) nd) nd n rows) := by
  refine SCalls.cast ?_
  have kP : Keep h ((h.push (.cells [.ptr L 0] 51 none)).push (.cells [.snil] 97 none)) none_ := (Keep.push _ _ _).then_push _
  have z0 := w.zero (Nat.le_refl _)
  have q1 : ((h.push (.cells [.ptr L 0] 51 none)).push (.cells [.snil] 97 none)).get h.n = .cells [.ptr L 0] 51 none := (get_push_lt (by simp only [push_n]; omega)).trans get_push_new
  have q2 : ((h.push (.cells [.ptr L 0] 51 none)).push (.cells [.snil] 97 none)).get (h.n + 1) = .cells [.snil] 97 none := get_push_new
  have hN : ((h.push (.cells [.ptr L 0] 51 none)).push (.cells [.snil] 97 none)).n = h.n + 2 := rfl
  refine SCalls.enterI (c := _) Try.func51 rfl (by kernel_rfl) (by simp) ?_
  simp only [wpA_region, wpA_seq, seqQ_normal, goI_out, goI_ops, opsA_nil, opsA_cons, stepA_move, stepA_assign, stepA_alloc, stepA_box, stepA_load, stepA_makeFunc, stepA_call, thenV_some, thenH_some, eval_tmp, eval_const, put_some, enterF_zero, enterF_succ, absV_bool, absV_snil, cells_ptr, aLoad_eq, loadGo_one, aPlace_ptr, dropC_cells, aAlloc_eq, aBox_eq, push_n, Nat.reduceEqDiff, List.map_cons, List.map_nil, Option.map_some, Nat.zero_add, Nat.zero_le, List.length_cons, List.length_nil, List.drop_zero, if_true, if_false, lt_51, zc_97, q1]
  generalize (h.push (.cells [.ptr L 0] 51 none)).push (.cells [.snil] 97 none) = H at kP q1 q2 hN ⊢
  have wP := w.on kP fun x hx => hx.elim
  have w2 : NodesS H room n rs nd (updN ow (h.n + 1) (n + 5)) := ⟨wP.nd, fun q hq x hx => by
      have h1 := w.ond q hq x hx
      rw [updN_ne fun e => by subst e; rw [w.zero (Nat.le_succ _)] at h1; omega]
      exact h1, fun x hx => by
      by_cases e : x = h.n + 1
      · omega
      · rw [updN_ne e] at hx; have := w.old x hx; omega⟩
  have hL := lL.1
  refine callI_of cal69 (quorumS w2 ((kP.get L lL.1 fun hh => hh).trans gL) q1 q2 ⟨by omega, by rw [updN_ne (by omega)]; exact lL.2⟩ ⟨by omega, by rw [updN_ne (by omega)]; omega⟩ ⟨by omega, updN_same⟩ (nk.keepN kP) (fun x hx => by rw [updN_ne fun e => by have := (onv x hx).2; omega]; exact (onv x hx).1) hn reach (rvl.on kP (fun _ _ _ hh => hh) (fun x hx h0 => by rw [updN_ne (by omega)]; exact h0)) hr) fun x h' ⟨e, rs', ow', pr, rows, w', s', g6, o6, t6, rp⟩ => ?_
  subst e
  have kh := s'.keep.n
  simp only [wpA_region, wpA_seq, wpA_ret, seqQ_normal, endI_mk, goI_out, goI_ops, opsA_nil, opsA_cons, stepA_move, stepA_assign, stepA_load, thenV_some, eval_tmp, put_some, enterF_succ, aLoad_eq, loadGo_one, aPlace_ptr, dropC_cells, Nat.reduceEqDiff, Nat.zero_add, Nat.zero_le, List.length_cons, List.length_nil, List.drop_zero, if_true, if_false, lt_97, g6, retA_ret, Try.results51, resultsA_2]
  obtain ⟨h2, c, k2⟩ := Cast.own o6 (n := rows.length) (rows_len rowE_len _) (by decide)
  refine hid_mk ⟨_, h2, Cast.tuple (CastL.cons c (CastL.refl _ _)), rows, rfl, rs', ow', ⟨fun q hq => (w'.nd q hq).keep k2 fun x hx hh => by have := w'.ond q hq x hx; have := (t6 x hh).2; omega, w'.ond, fun x hx => Nat.lt_of_lt_of_le (w'.old x hx) k2.n⟩, ⟨?_, s'.a, s'.i, fun x hx => ?_⟩, rp⟩
  · exact ((kP.up (o := fun x => 5 ≤ ow x)).trans s'.keep fun x hx hh => by
      rw [updN_ne (by omega)] at hh
      exact hh).trans k2 fun x hx hh => by have := (t6 x hh).1; omega
  · rw [s'.ow x (by omega), updN_ne (by omega)]
end Go.Proofs.Ytlbekgogjlchjaa.Pk
