/-
  What functions of the program do, told of abstract states. Conditions: as each theorem says.
-/
import Derived.Test.YtilgpaibolollaaGreatMf
import Derived.Test.YtilgpaibolollaaGreatAbD
namespace Go.Proofs.YtilgpaibolollaaGreat.Pk
open Go Go.Proofs Go.Proofs.YtilgpaibolollaaGreat.Ab
set_option maxRecDepth 20000
set_option linter.unusedVariables false
set_option linter.unusedSimpArgs false
set_option maxHeartbeats 8000000 in
theorem slotPlays (room : Nat) (hroom : room < 65536) (ds : List DeedS) (hd : ds.length ≤ 2 ^ 47) (hb : ∀ d ∈ ds, (∀ x ∈ d.b, x < 256) ∧ d.b.length ≤ 2 ^ 47) (h : AHeap) : SCalls Tryz.prog 3 [.int .u16 (room : Nat), .imm ds.length (ds.flatMap dsE)] h (fun r h' => r = .bool true) := by
  refine SCalls.enterI (c := _) Tryz.func3 rfl (by kernel_rfl) (by simp) ?_
  have wr : IntKind.i64.wrap ((room : Nat) : Int) = ((room : Nat) : Int) := wrap_nat (by omega)
  simp only [bW]
  refine callI_pure cal5 (shown8 h) ?_
  simp only [bW, Nat.reduceEqDiff, reduceCtorEq, aConv_int it_22 it_3, wr]
  refine callI_of cal6 (dNew h (room : Nat) (by omega) (by omega)) fun r1 h1 ⟨e1, d1, k1⟩ => ?_
  subst e1
  simp only [bW, Nat.reduceEqDiff, reduceCtorEq, aConv_int it_22 it_3, wr]
  refine callI_pure cal7 (rNew (room : Nat) h1 (by omega) (by omega)) ?_
  have cX : (V.agg (xE (room : Nat) [] [])).cells = some (xE (room : Nat) [] []) := rfl
  have sX : setC (some 3) (AObj.cells [.int .i64 0, .snil, .snil] 31 none) 0 (xE (room : Nat) [] []) = some (.cells (xE (room : Nat) [] []) 31 none) := rfl
  have lX : loadGo (some (some 3)) (some (xE (room : Nat) [] [])) = some (.agg (xE (room : Nat) [] [])) := rfl
  have kX : Keep h1 (h1.push (.cells (xE (room : Nat) [] []) 31 none)) none_ := Keep.push _ _ _
  have gX : (h1.push (.cells (xE (room : Nat) [] []) 31 none)).get h1.n = .cells (xE (room : Nat) [] []) 31 none := get_push_new
  have nX : h1.n < (h1.push (.cells (xE (room : Nat) [] []) 31 none)).n := Nat.lt_succ_self _
  have d2 := d1.keepN kX
  have dlt := d1.lt
  simp only [bW, Nat.reduceEqDiff, kt_25, zc_31, zt_31, cX, sX]
  generalize h1.push (.cells (xE (room : Nat) [] []) 31 none) = h2 at kX gX nX d2 ⊢
  refine callI_of cal8 (nbOpen (l := []) d2 NOk.nil (by simp)) fun r2 h3 ⟨r0, e2, n0, i0, k3, p3⟩ => ?_
  subst e2
  have gX3 := (k3.get h1.n nX (fun hh => by rcases hh with hh | hh; omega; cases hh)).trans gX
  obtain ⟨t0, hO⟩ := yOpenL n0
  simp only [bW, Nat.reduceEqDiff, lt_31, gX3, lX]
  refine callI_pure cal9 (hO h3) ?_
  have kY : Keep h3 (h3.push (.cells (yE (room : Nat) [] t0) 40 none)) none_ := Keep.push _ _ _
  have gY : (h3.push (.cells (yE (room : Nat) [] t0) 40 none)).get h3.n = .cells (yE (room : Nat) [] t0) 40 none := get_push_new
  have lY : h3.n < (h3.push (.cells (yE (room : Nat) [] t0) 40 none)).n := Nat.lt_succ_self _
  have nY : ¬ NP r0 h3.n := fun hh => by have := n0.lt _ hh; omega
  have n1 := n0.keep kY (fun _ _ hh => hh)
  simp only [bW, Nat.reduceEqDiff, zc_40, zt_40, yE_s0]
  generalize h3.push (.cells (yE (room : Nat) [] t0) 40 none) = h4 at kY gY lY n1 ⊢
  generalize h3.n = Y at gY lY nY ⊢
  rw [← i0]
  refine SWp.loopG (α := Nat × NR × Pays × Int) (fun x f h' => f 1 = .imm ds.length (ds.flatMap dsE) ∧ f 5 = .bool true ∧ f 6 = .ptr x.2.1.i 0 ∧ f 10 = .ptr x.2.1.a 0 ∧ f 11 = .ptr Y 0 ∧ f 12 = .int .i64 (x.1 : Nat) ∧ x.1 ≤ 60 ∧ NdB h' (room : Nat) x.2.1 x.2.2.1 ∧
    h'.get Y = .cells (yE (room : Nat) x.2.2.1 x.2.2.2) 40 none ∧ ¬ NP x.2.1 Y ∧ Y < h'.n) (fun x => 60 - x.1) (0, r0, [], t0)
    ⟨rfl, rfl, rfl, rfl, rfl, rfl, Nat.zero_le _, n1, gY, nY, lY⟩ ?_
  rintro ⟨i, r, l, t⟩ f h' ⟨f1, f5, f6, f10, f11, f12, hi, d, gy, ny, ly⟩
  simp only at f6 f10 f12 hi d gy ny
  refine wpI_sound (by kernel_rfl) ?_
  by_cases hlt : i < ds.length ∧ i < 60
  · obtain ⟨hlt, hlt2⟩ := hlt
    have c1 : decide ((i : Int) < ((ds.length : Nat) : Int)) = true := decide_eq_true (by omega)
    have c2 : decide ((i : Int) < 60) = true := decide_eq_true (by omega)
    have hw : IntKind.i64.wrap ((i : Int) + 1) = ((i + 1 : Nat) : Int) := by rw [Go.IntWalk.i64_in _ (by omega)]; rfl
    have x1 := ds_ix hlt
    obtain ⟨hbd, hbl⟩ := hb _ (List.getElem_mem hlt)
    have D1 := ds_d1
    have D2 := ds_d2
    have D3 := ds_d3
    have D4 := ds_d4
    have D5 := ds_d5
    have Y4 := yE_e4
    generalize ds[i] = z at x1 hbd hbl
    have kP : Keep h' (h'.push (.cells (dsE z) 43 none)) none_ := Keep.push _ _ _
    have dP := d.keep kP (fun _ _ hh => hh)
    have gz : (h'.push (.cells (dsE z) 43 none)).get h'.n = .cells (dsE z) 43 none := get_push_new
    have gyP := (kP.get Y ly (fun hh => hh)).trans gy
    have nz : ¬ NP r h'.n := fun hh => by have := d.lt _ hh; omega
    have lz : h'.n < (h'.push (.cells (dsE z) 43 none)).n := Nat.lt_succ_self _
    have lyP : Y < (h'.push (.cells (dsE z) 43 none)).n := Nat.lt_trans ly lz
    have hzy : h'.n ≠ Y := by omega
    simp only [bW, Nat.reduceEqDiff, ft_43_0, kt_23, lt_3, lt_43, zc_43, zt_43, f1, f12, c1, c2, x1, ds_ld, ds_store, gz, ds_l0]
    generalize h'.push (.cells (dsE z) 43 none) = hP at kP dP gz lz gyP lyP ⊢
    generalize h'.n = zb at gz nz lz hzy ⊢
    obtain ⟨l1, l2, l3, l4, l5⟩ := dP.lens
    by_cases k0 : z.kind = 0
    · have b0 : (z.kind == 0) = true := by simp [k0]
      simp only [bW, Nat.reduceEqDiff, ft_43_1, ft_43_2, ft_43_5, lt_29, lt_3, f10, b0, gz, D1, D2, D5]
      refine callI_of cal10 (nbWrite dP z.epoch z.at_ z.b hbd (by omega)) fun x h1 ⟨ex, r1, d1, st1⟩ => ?_
      subst ex
      obtain ⟨gz1, nz1, lz1⟩ := st1.get' lz nz
      obtain ⟨gy1, ny1, ly1⟩ := st1.get' lyP ny
      rw [gz] at gz1
      rw [gyP] at gy1
      obtain ⟨sa, si, _, _⟩ := st1
      rw [← sa] at f10
      rw [← si] at f6
      have hYW := yWrite dP t z.epoch z.at_ z.b hbd (by omega) h1
      generalize nw (room : Nat) z.epoch z.at_ z.b l = NW at d1 hYW ⊢
      obtain ⟨la, e⟩ := NW
      simp only at d1 hYW
      simp only [bW, Nat.reduceEqDiff, ft_43_1, ft_43_2, ft_43_5, lt_29, lt_3, lt_40, f11, gz1, gy1, yE_l6b, D1, D2, D5]
      refine callI_pure cal11 hYW ?_
      have kN : Keep h1 (h1.push (.cells (yE (room : Nat) la t) 40 none)) none_ := Keep.push _ _ _
      have gN : (h1.push (.cells (yE (room : Nat) la t) 40 none)).get h1.n = .cells (yE (room : Nat) la t) 40 none := get_push_new
      have gyN := (kN.get Y ly1 (fun hh => hh)).trans gy1
      have gzN := (kN.get zb lz1 (fun hh => hh)).trans gz1
      have lyN : Y < (h1.push (.cells (yE (room : Nat) la t) 40 none)).n := Nat.lt_trans ly1 (Nat.lt_succ_self _)
      have dN := d1.keep kN (fun _ _ hh => hh)
      simp only [bW, Nat.reduceEqDiff, lt_40, zc_40, zt_40, f11, yE_l6b, yE_s0]
      generalize h1.push (.cells (yE (room : Nat) la t) 40 none) = h5 at kN gN gyN gzN lyN dN ⊢
      have hnn : Y ≠ h1.n := by omega
      simp only [bW, Nat.reduceEqDiff, gyN, yE_s6]
      have dQ : NdB (h5.set Y (.cells (yE (room : Nat) la t) 40 none)) (room : Nat) r1 la := dN.keep (Keep.set _ _ _) fun q hq hh => ny1 (hh ▸ hq)
      have gQ : (h5.set Y (.cells (yE (room : Nat) la t) 40 none)).get Y = .cells (yE (room : Nat) la t) 40 none := get_set_same
      have lQ : Y < (h5.set Y (.cells (yE (room : Nat) la t) 40 none)).n := lyN
      generalize h5.set Y (.cells (yE (room : Nat) la t) 40 none) = hQ at dQ gQ lQ ⊢
      refine SWp.drawnS none_ [] (.q 0 (.c 1 (.q 2 (.q 3 (.q 4 (.q 5 (.q 6 (.c 7 (.q 8 (.c 9 (.q 10 (.q 11 .done)))))))))))) (by kernel_rfl) (by kernel_rfl) (by kernel_rfl) ?_
      simp only [bW, bS, Nat.reduceEqDiff, f10]
      refine siI_c rfl rfl rfl (fun h' hk => ndEpoch (dQ.kk hk).nd0) ?_
      simp only [bW, bS, Nat.reduceEqDiff, ft_40_1, lt_3, f10, f11, gQ, Y4]
      refine siI_c rfl rfl rfl (fun h' hk => ndTail (dQ.kk hk).nd0) ?_
      simp only [bW, bS, Nat.reduceEqDiff, lt_40, f11, gQ, yE_l6b]
      refine siI_c rfl rfl rfl (fun h' hk => yTail dQ t h') ?_
      simp only [bW, bS, Nat.reduceEqDiff, f12, hw]
      exact hid_mk ⟨(i + 1, r1, la, t), ⟨f1, f5, f6, f10, f11, rfl, by simp only; omega, dQ, gQ, ny1, lQ⟩, by simp only; omega⟩
    have b0 : (z.kind == 0) = false := by simp [k0]
    by_cases k1 : z.kind = 1
    · have b1 : (z.kind == 1) = true := by simp [k1]
      simp only [bW, Nat.reduceEqDiff, ft_43_2, lt_3, f10, b0, b1, gz, D2]
      refine callI_pure cal12 (ndRead dP.nd0 z.at_) ?_
      have hYR := yRead dP t z.at_
      have hS := ySame dP.ok z.at_
      generalize readI (redoL l) z.at_ = R at hYR hS ⊢
      obtain ⟨c, e⟩ := R
      simp only at hYR hS
      have kA : Keep hP (hP.push (.cells (celE c) 48 none)) none_ := Keep.push _ _ _
      have gA : (hP.push (.cells (celE c) 48 none)).get hP.n = .cells (celE c) 48 none := get_push_new
      have gzA := (kA.get zb lz (fun hh => hh)).trans gz
      have gyA := (kA.get Y lyP (fun hh => hh)).trans gyP
      have nA : (hP.push (.cells (celE c) 48 none)).n = hP.n + 1 := rfl
      have dA := dP.keep kA (fun _ _ hh => hh)
      simp only [bW, Nat.reduceEqDiff, lt_40, zc_48, zt_48, f11, cA_s]
      generalize hP.push (.cells (celE c) 48 none) = hA at kA gA gzA gyA nA dA ⊢
      simp only [bW, Nat.reduceEqDiff, ft_43_2, lt_3, gzA, gyA, D2, yE_l6b]
      refine callI_pure cal13 (hYR hA) ?_
      have kB : Keep hA (hA.push (.cells (celE c) 51 none)) none_ := Keep.push _ _ _
      have gB : (hA.push (.cells (celE c) 51 none)).get hA.n = .cells (celE c) 51 none := get_push_new
      have gAB := (kB.get hP.n (by omega) (fun hh => hh)).trans gA
      have gQ := (kB.get Y (by omega) (fun hh => hh)).trans gyA
      have nB : (hA.push (.cells (celE c) 51 none)).n = hA.n + 1 := rfl
      have dQ := dA.keep kB (fun _ _ hh => hh)
      simp only [bW, Nat.reduceEqDiff, lt_48, zc_51, zt_51, cR_s]
      generalize hA.push (.cells (celE c) 51 none) = hQ at kB gB gAB gQ nB dQ ⊢
      simp only [bW, Nat.reduceEqDiff, lt_51, gB, gAB, c_l3b]
      refine callI_pure cal14 (hS hQ) ?_
      have lQ : Y < hQ.n := by omega
      simp only [bW, Nat.reduceEqDiff]
      refine SWp.drawnS none_ [] (.q 0 (.c 1 (.q 2 (.q 3 (.q 4 (.q 5 (.q 6 (.c 7 (.q 8 (.c 9 (.q 10 (.q 11 .done)))))))))))) (by kernel_rfl) (by kernel_rfl) (by kernel_rfl) ?_
      simp only [bW, bS, Nat.reduceEqDiff, f10]
      refine siI_c rfl rfl rfl (fun h' hk => ndEpoch (dQ.kk hk).nd0) ?_
      simp only [bW, bS, Nat.reduceEqDiff, ft_40_1, lt_3, f10, f11, gQ, Y4]
      refine siI_c rfl rfl rfl (fun h' hk => ndTail (dQ.kk hk).nd0) ?_
      simp only [bW, bS, Nat.reduceEqDiff, lt_40, f11, gQ, yE_l6b]
      refine siI_c rfl rfl rfl (fun h' hk => yTail dQ t h') ?_
      simp only [bW, bS, Nat.reduceEqDiff, f12, hw]
      exact hid_mk ⟨(i + 1, r, l, t), ⟨f1, f5, f6, f10, f11, rfl, by simp only; omega, dQ, gQ, ny, lQ⟩, by simp only; omega⟩
    have b1 : (z.kind == 1) = false := by simp [k1]
    by_cases k2 : z.kind = 2
    · have b2 : (z.kind == 2) = true := by simp [k2]
      simp only [bW, Nat.reduceEqDiff, ft_43_1, lt_3, f10, b0, b1, b2, gz, D1]
      refine callI_of cal15 (nbSealV dP z.epoch) fun x h1 ⟨ex, r1, d1, st1⟩ => ?_
      subst ex
      obtain ⟨gz1, nz1, lz1⟩ := st1.get' lz nz
      obtain ⟨gy1, ny1, ly1⟩ := st1.get' lyP ny
      rw [gz] at gz1
      rw [gyP] at gy1
      obtain ⟨sa, si, _, _⟩ := st1
      rw [← sa] at f10
      rw [← si] at f6
      have hYS := ySeal dP t z.epoch h1
      have hC := yCells d1
      generalize selV (room : Nat) z.epoch l = SV at hYS hC ⊢
      generalize nseal (room : Nat) z.epoch l = NW at d1 hYS ⊢
      obtain ⟨la, e⟩ := NW
      simp only at d1 hYS
      simp only [bW, Nat.reduceEqDiff, ft_43_1, lt_3, lt_40, f11, gz1, gy1, yE_l6b, D1]
      refine callI_pure cal16 hYS ?_
      have kN : Keep h1 (h1.push (.cells (yE (room : Nat) la t) 40 none)) none_ := Keep.push _ _ _
      have gN : (h1.push (.cells (yE (room : Nat) la t) 40 none)).get h1.n = .cells (yE (room : Nat) la t) 40 none := get_push_new
      have gyN := (kN.get Y ly1 (fun hh => hh)).trans gy1
      have gzN := (kN.get zb lz1 (fun hh => hh)).trans gz1
      have lyN : Y < (h1.push (.cells (yE (room : Nat) la t) 40 none)).n := Nat.lt_trans ly1 (Nat.lt_succ_self _)
      have dN := d1.keep kN (fun _ _ hh => hh)
      simp only [bW, Nat.reduceEqDiff, lt_40, zc_40, zt_40, f11, yE_l6b, yE_s0]
      generalize h1.push (.cells (yE (room : Nat) la t) 40 none) = h5 at kN gN gyN gzN lyN dN ⊢
      simp only [bW, Nat.reduceEqDiff, gyN, yE_s6]
      have dQ : NdB (h5.set Y (.cells (yE (room : Nat) la t) 40 none)) (room : Nat) r1 la := dN.keep (Keep.set _ _ _) fun q hq hh => ny1 (hh ▸ hq)
      have gQ : (h5.set Y (.cells (yE (room : Nat) la t) 40 none)).get Y = .cells (yE (room : Nat) la t) 40 none := get_set_same
      have lQ : Y < (h5.set Y (.cells (yE (room : Nat) la t) 40 none)).n := lyN
      generalize h5.set Y (.cells (yE (room : Nat) la t) 40 none) = hQ at dQ gQ lQ ⊢
      refine callI_pure cal17 (hC hQ) ?_
      simp only [bW, Nat.reduceEqDiff]
      refine SWp.drawnS none_ [] (.q 0 (.c 1 (.q 2 (.q 3 (.q 4 (.q 5 (.q 6 (.c 7 (.q 8 (.c 9 (.q 10 (.q 11 .done)))))))))))) (by kernel_rfl) (by kernel_rfl) (by kernel_rfl) ?_
      simp only [bW, bS, Nat.reduceEqDiff, f10]
      refine siI_c rfl rfl rfl (fun h' hk => ndEpoch (dQ.kk hk).nd0) ?_
      simp only [bW, bS, Nat.reduceEqDiff, ft_40_1, lt_3, f10, f11, gQ, Y4]
      refine siI_c rfl rfl rfl (fun h' hk => ndTail (dQ.kk hk).nd0) ?_
      simp only [bW, bS, Nat.reduceEqDiff, lt_40, f11, gQ, yE_l6b]
      refine siI_c rfl rfl rfl (fun h' hk => yTail dQ t h') ?_
      simp only [bW, bS, Nat.reduceEqDiff, f12, hw]
      exact hid_mk ⟨(i + 1, r1, la, t), ⟨f1, f5, f6, f10, f11, rfl, by simp only; omega, dQ, gQ, ny1, lQ⟩, by simp only; omega⟩
    have b2 : (z.kind == 2) = false := by simp [k2]
    by_cases k3 : z.kind = 3
    · have b3 : (z.kind == 3) = true := by simp [k3]
      simp only [bW, Nat.reduceEqDiff, ft_43_3, ft_43_4, lt_3, f6, b0, b1, b2, b3, gz, D3, D4]
      refine callI_of cal18 (nbCrash dP z.keep z.turn) fun x h3 ⟨v3, safe3, dk3, iv3, k3⟩ => ?_
      have gz3 := (k3.get zb lz nz).trans gz
      have gy3 := (k3.get Y lyP ny).trans gyP
      have lz3 := Nat.lt_of_lt_of_le lz k3.n
      have ly3 := Nat.lt_of_lt_of_le lyP k3.n
      have hpn : ∀ x, Parts r.i v3 x → NP r x := fun x hh => by
        rcases hh with hh | hh
        · exact Parts.np (.inl hh)
        · exact Parts.np (.inr (by rw [← iv3]; exact hh))
      simp only [bW, Nat.reduceEqDiff, f6]
      refine callI_of cal8 (nbOpen dk3 dP.ok dP.pl) fun x h4 ⟨r4, ex, d4, i4, k4, p4⟩ => ?_
      subst ex
      have gz4 := (k4.get zb lz3 (fun hh => nz (hpn _ hh))).trans gz3
      have gy4 := (k4.get Y ly3 (fun hh => ny (hpn _ hh))).trans gy3
      have ly4 := Nat.lt_of_lt_of_le ly3 k4.n
      have ny4 : ¬ NP r4 Y := fun hh => by
        rcases p4 Y hh with hh | hh
        · exact ny (hpn _ hh)
        · omega
      rw [← i4] at f6
      obtain ⟨t4, hO⟩ := yOpenL d4
      simp only [bW, Nat.reduceEqDiff, ft_37_0, ft_40_0, ft_43_3, ft_43_4, lt_3, lt_31, f11, gz4, gy4, yE_l3, D3, D4]
      refine callI_pure cal19 (yCrash (room : Nat) (l.flatMap frame) z.keep z.turn (by omega) h4) ?_
      simp only [bW, Nat.reduceEqDiff]
      refine callI_pure cal9 (hO h4) ?_
      simp only [bW, Nat.reduceEqDiff, zt_40, f11, gy4, yE_s6]
      have dQ : NdB (h4.set Y (.cells (yE (room : Nat) l t4) 40 none)) (room : Nat) r4 l := d4.keep (Keep.set _ _ _) fun q hq hh => ny4 (hh ▸ hq)
      have gQ : (h4.set Y (.cells (yE (room : Nat) l t4) 40 none)).get Y = .cells (yE (room : Nat) l t4) 40 none := get_set_same
      have lQ : Y < (h4.set Y (.cells (yE (room : Nat) l t4) 40 none)).n := ly4
      generalize h4.set Y (.cells (yE (room : Nat) l t4) 40 none) = hQ at dQ gQ lQ ⊢
      refine SWp.drawnS none_ [] (.q 0 (.c 1 (.q 2 (.q 3 (.q 4 (.q 5 (.q 6 (.c 7 (.q 8 (.c 9 (.q 10 (.q 11 .done)))))))))))) (by kernel_rfl) (by kernel_rfl) (by kernel_rfl) ?_
      simp only [bW, bS, Nat.reduceEqDiff, f10]
      refine siI_c rfl rfl rfl (fun h' hk => ndEpoch (dQ.kk hk).nd0) ?_
      simp only [bW, bS, Nat.reduceEqDiff, ft_40_1, lt_3, f10, f11, gQ, Y4]
      refine siI_c rfl rfl rfl (fun h' hk => ndTail (dQ.kk hk).nd0) ?_
      simp only [bW, bS, Nat.reduceEqDiff, lt_40, f11, gQ, yE_l6b]
      refine siI_c rfl rfl rfl (fun h' hk => yTail dQ t4 h') ?_
      simp only [bW, bS, Nat.reduceEqDiff, f12, hw]
      exact hid_mk ⟨(i + 1, r4, l, t4), ⟨f1, f5, f6, rfl, f11, rfl, by simp only; omega, dQ, gQ, ny4, lQ⟩, by simp only; omega⟩
    have b3 : (z.kind == 3) = false := by simp [k3]
    by_cases k4 : z.kind = 4
    · have b4 : (z.kind == 4) = true := by simp [k4]
      simp only [bW, Nat.reduceEqDiff, ft_43_5, lt_29, f6, b0, b1, b2, b3, b4, gz, D5]
      refine callI_of cal20 (nbAppend dP z.b) fun x h3 ⟨v3, safe3, dk3, hpn, k3⟩ => ?_
      have gz3 := (k3.get zb lz nz).trans gz
      have gy3 := (k3.get Y lyP ny).trans gyP
      have lz3 := Nat.lt_of_lt_of_le lz k3.n
      have ly3 := Nat.lt_of_lt_of_le lyP k3.n
      have nzp : ¬ Parts r.i v3 zb := fun hh => by
        rcases hpn _ hh with hh | hh
        · exact nz hh
        · omega
      have nyp : ¬ Parts r.i v3 Y := fun hh => by
        rcases hpn _ hh with hh | hh
        · exact ny hh
        · omega
      have hbb := addM_b (room := (room : Nat)) l4 hbd
      have hbl2 := addM_lt (b := z.b) l2
      obtain ⟨ea, hYA⟩ := yAppend (room : Nat) (l.flatMap frame) z.b l1 (by omega) hbl
      obtain ⟨t4, hO⟩ := yOpenT (room : Nat) (l.flatMap frame) (addM (room : Nat) (l.flatMap frame) z.b) hbb (by omega)
      generalize addM (room : Nat) (l.flatMap frame) z.b = M at dk3 hbb hbl2 hYA hO ⊢
      simp only [bW, Nat.reduceEqDiff, f6]
      refine callI_of cal8 (nbOpenAny hbb dk3) fun x h4 ⟨r4, ex, d4, i4, k4, p4⟩ => ?_
      subst ex
      generalize (scanF (l.flatMap frame ++ M).length (l.flatMap frame ++ M)).1 = la at d4 hO ⊢
      have gz4 := (k4.get zb lz3 nzp).trans gz3
      have gy4 := (k4.get Y ly3 nyp).trans gy3
      have ly4 := Nat.lt_of_lt_of_le ly3 k4.n
      have ny4 : ¬ NP r4 Y := fun hh => by
        rcases p4 Y hh with hh | hh
        · exact nyp hh
        · omega
      rw [← i4] at f6
      simp only [bW, Nat.reduceEqDiff, ft_37_0, ft_40_0, ft_43_5, lt_29, lt_31, f11, gz4, gy4, yE_l3, D5]
      refine callI_pure cal21 (hYA h4) ?_
      have kM : Keep h4 (h4.push (.cells (xE (room : Nat) (nI (l.flatMap frame)) (nI M)) 31 none)) none_ := Keep.push _ _ _
      have gM : (h4.push (.cells (xE (room : Nat) (nI (l.flatMap frame)) (nI M)) 31 none)).get h4.n = .cells (xE (room : Nat) (nI (l.flatMap frame)) (nI M)) 31 none := get_push_new
      have gy5 := (kM.get Y ly4 (fun hh => hh)).trans gy4
      have ly5 : Y < (h4.push (.cells (xE (room : Nat) (nI (l.flatMap frame)) (nI M)) 31 none)).n := Nat.lt_trans ly4 (Nat.lt_succ_self _)
      have d5 := d4.keep kM (fun _ _ hh => hh)
      simp only [bW, Nat.reduceEqDiff, lt_31, zc_31, zt_31, xE_s]
      generalize h4.push (.cells (xE (room : Nat) (nI (l.flatMap frame)) (nI M)) 31 none) = h5 at kM gM gy5 ly5 d5 ⊢
      simp only [bW, Nat.reduceEqDiff, xE_l3b]
      refine callI_pure cal9 (hO h5) ?_
      simp only [bW, Nat.reduceEqDiff, zt_40, f11, gy5, yE_s6]
      have dQ : NdB (h5.set Y (.cells (yE (room : Nat) la t4) 40 none)) (room : Nat) r4 la := d5.keep (Keep.set _ _ _) fun q hq hh => ny4 (hh ▸ hq)
      have gQ : (h5.set Y (.cells (yE (room : Nat) la t4) 40 none)).get Y = .cells (yE (room : Nat) la t4) 40 none := get_set_same
      have lQ : Y < (h5.set Y (.cells (yE (room : Nat) la t4) 40 none)).n := ly5
      generalize h5.set Y (.cells (yE (room : Nat) la t4) 40 none) = hQ at dQ gQ lQ ⊢
      refine SWp.drawnS none_ [] (.q 0 (.c 1 (.q 2 (.q 3 (.q 4 (.q 5 (.q 6 (.c 7 (.q 8 (.c 9 (.q 10 (.q 11 .done)))))))))))) (by kernel_rfl) (by kernel_rfl) (by kernel_rfl) ?_
      simp only [bW, bS, Nat.reduceEqDiff, f10]
      refine siI_c rfl rfl rfl (fun h' hk => ndEpoch (dQ.kk hk).nd0) ?_
      simp only [bW, bS, Nat.reduceEqDiff, ft_40_1, lt_3, f10, f11, gQ, Y4]
      refine siI_c rfl rfl rfl (fun h' hk => ndTail (dQ.kk hk).nd0) ?_
      simp only [bW, bS, Nat.reduceEqDiff, lt_40, f11, gQ, yE_l6b]
      refine siI_c rfl rfl rfl (fun h' hk => yTail dQ t4 h') ?_
      simp only [bW, bS, Nat.reduceEqDiff, f12, hw]
      exact hid_mk ⟨(i + 1, r4, la, t4), ⟨f1, f5, f6, rfl, f11, rfl, by simp only; omega, dQ, gQ, ny4, lQ⟩, by simp only; omega⟩
    have b4 : (z.kind == 4) = false := by simp [k4]
    simp only [bW, Nat.reduceEqDiff, f6, b0, b1, b2, b3, b4]
    refine callI_of cal8 (nbOpen dP.disk dP.ok dP.pl) fun x h4 ⟨r4, ex, d4, i4, k4, p4⟩ => ?_
    subst ex
    have gy4 := (k4.get Y lyP (fun hh => ny (Parts.np hh))).trans gyP
    have ly4 := Nat.lt_of_lt_of_le lyP k4.n
    have ny4 : ¬ NP r4 Y := fun hh => by
      rcases p4 Y hh with hh | hh
      · exact ny (Parts.np hh)
      · omega
    rw [← i4] at f6
    obtain ⟨t4, hO⟩ := yOpenL d4
    simp only [bW, Nat.reduceEqDiff, ft_37_0, ft_40_0, lt_31, f11, gy4, yE_l3]
    refine callI_pure cal9 (hO h4) ?_
    simp only [bW, Nat.reduceEqDiff, zt_40, f11, gy4, yE_s6]
    have dQ : NdB (h4.set Y (.cells (yE (room : Nat) l t4) 40 none)) (room : Nat) r4 l := d4.keep (Keep.set _ _ _) fun q hq hh => ny4 (hh ▸ hq)
    have gQ : (h4.set Y (.cells (yE (room : Nat) l t4) 40 none)).get Y = .cells (yE (room : Nat) l t4) 40 none := get_set_same
    have lQ : Y < (h4.set Y (.cells (yE (room : Nat) l t4) 40 none)).n := ly4
    generalize h4.set Y (.cells (yE (room : Nat) l t4) 40 none) = hQ at dQ gQ lQ ⊢
    refine SWp.drawnS none_ [] (.q 0 (.c 1 (.q 2 (.q 3 (.q 4 (.q 5 (.q 6 (.c 7 (.q 8 (.c 9 (.q 10 (.q 11 .done)))))))))))) (by kernel_rfl) (by kernel_rfl) (by kernel_rfl) ?_
    simp only [bW, bS, Nat.reduceEqDiff, f10]
    refine siI_c rfl rfl rfl (fun h' hk => ndEpoch (dQ.kk hk).nd0) ?_
    simp only [bW, bS, Nat.reduceEqDiff, ft_40_1, lt_3, f10, f11, gQ, Y4]
    refine siI_c rfl rfl rfl (fun h' hk => ndTail (dQ.kk hk).nd0) ?_
    simp only [bW, bS, Nat.reduceEqDiff, lt_40, f11, gQ, yE_l6b]
    refine siI_c rfl rfl rfl (fun h' hk => yTail dQ t4 h') ?_
    simp only [bW, bS, Nat.reduceEqDiff, f12, hw]
    exact hid_mk ⟨(i + 1, r4, l, t4), ⟨f1, f5, f6, rfl, f11, rfl, by simp only; omega, dQ, gQ, ny4, lQ⟩, by simp only; omega⟩
  · have cE : decide ((i : Int) < ((ds.length : Nat) : Int)) = false ∨ decide ((i : Int) < ((ds.length : Nat) : Int)) = true ∧ decide ((i : Int) < 60) = false := by
      by_cases z : i < ds.length
      · exact .inr ⟨decide_eq_true (by omega), decide_eq_false (by omega)⟩
      · exact .inl (decide_eq_false (by omega))
    rcases cE with c1 | ⟨c1, c2⟩
    · skip
      simp only [bW, Nat.reduceEqDiff, kt_23, f1, f12, c1]
      refine SWp.loopG (α := Nat) (fun k f h2 => f 5 = .bool true ∧ f 10 = .ptr r.a 0 ∧ f 11 = .ptr Y 0 ∧ f 28 = .int .i64 (k : Nat) ∧ k ≤ 4096 ∧ NdB h2 (room : Nat) r l ∧ h2.get Y = .cells (yE (room : Nat) l t) 40 none ∧ Y < h2.n) (fun k => 4096 - k) 0
        ⟨f5, f10, f11, rfl, Nat.zero_le _, d, gy, ly⟩ ?_
      clear f1 f5 f6 f10 f11 f12 d gy ly ny f h'
      rintro k f hP ⟨g5, g10, g11, g28, hk, dP, gyP, lyP⟩
      refine wpI_sound (by kernel_rfl) ?_
      by_cases hk2 : k < 4096
      · have c3 : decide ((k : Int) < 4096) = true := decide_eq_true (by omega)
        have hw : IntKind.i64.wrap ((k : Int) + 1) = ((k + 1 : Nat) : Int) := by rw [Go.IntWalk.i64_in _ (by omega)]; rfl
        simp only [bW, Nat.reduceEqDiff, g10, g28, c3]
        refine callI_pure cal12 (ndRead dP.nd0 (k : Nat)) ?_
        have hYR := yRead dP t (k : Nat)
        have hS := ySame dP.ok (k : Nat)
        generalize readI (redoL l) (k : Nat) = R at hYR hS ⊢
        obtain ⟨c, e⟩ := R
        simp only at hYR hS
        have kA : Keep hP (hP.push (.cells (celE c) 48 none)) none_ := Keep.push _ _ _
        have gA : (hP.push (.cells (celE c) 48 none)).get hP.n = .cells (celE c) 48 none := get_push_new
        have gyA := (kA.get Y lyP (fun hh => hh)).trans gyP
        have nA : (hP.push (.cells (celE c) 48 none)).n = hP.n + 1 := rfl
        have dA := dP.keep kA (fun _ _ hh => hh)
        simp only [bW, Nat.reduceEqDiff, lt_40, zc_48, zt_48, g11, cA_s]
        generalize hP.push (.cells (celE c) 48 none) = hA at kA gA gyA nA dA ⊢
        simp only [bW, Nat.reduceEqDiff, g28, gyA, yE_l6b]
        refine callI_pure cal13 (hYR hA) ?_
        have kB : Keep hA (hA.push (.cells (celE c) 51 none)) none_ := Keep.push _ _ _
        have gB : (hA.push (.cells (celE c) 51 none)).get hA.n = .cells (celE c) 51 none := get_push_new
        have gAB := (kB.get hP.n (by omega) (fun hh => hh)).trans gA
        have gQ := (kB.get Y (by omega) (fun hh => hh)).trans gyA
        have nB : (hA.push (.cells (celE c) 51 none)).n = hA.n + 1 := rfl
        have dQ := dA.keep kB (fun _ _ hh => hh)
        simp only [bW, Nat.reduceEqDiff, lt_48, zc_51, zt_51, cR_s]
        generalize hA.push (.cells (celE c) 51 none) = hQ at kB gB gAB gQ nB dQ ⊢
        simp only [bW, Nat.reduceEqDiff, lt_51, gB, gAB, c_l3b]
        refine callI_pure cal14 (hS hQ) ?_
        have lQ : Y < hQ.n := by omega
        simp only [bW, Nat.reduceEqDiff, g28, hw]
        exact hid_mk ⟨k + 1, ⟨g5, g10, g11, rfl, by omega, dQ, gQ, lQ⟩, by omega⟩
      · have c3 : decide ((k : Int) < 4096) = false := decide_eq_false (by omega)
        simp only [bW, Nat.reduceEqDiff, g5, g28, c3, retA_ret, Tryz.results3, resultsA_1]
        exact hid_mk rfl
    · skip
      simp only [bW, Nat.reduceEqDiff, kt_23, f1, f12, c1, c2]
      refine SWp.loopG (α := Nat) (fun k f h2 => f 5 = .bool true ∧ f 10 = .ptr r.a 0 ∧ f 11 = .ptr Y 0 ∧ f 28 = .int .i64 (k : Nat) ∧ k ≤ 4096 ∧ NdB h2 (room : Nat) r l ∧ h2.get Y = .cells (yE (room : Nat) l t) 40 none ∧ Y < h2.n) (fun k => 4096 - k) 0
        ⟨f5, f10, f11, rfl, Nat.zero_le _, d, gy, ly⟩ ?_
      clear f1 f5 f6 f10 f11 f12 d gy ly ny f h'
      rintro k f hP ⟨g5, g10, g11, g28, hk, dP, gyP, lyP⟩
      refine wpI_sound (by kernel_rfl) ?_
      by_cases hk2 : k < 4096
      · have c3 : decide ((k : Int) < 4096) = true := decide_eq_true (by omega)
        have hw : IntKind.i64.wrap ((k : Int) + 1) = ((k + 1 : Nat) : Int) := by rw [Go.IntWalk.i64_in _ (by omega)]; rfl
        simp only [bW, Nat.reduceEqDiff, g10, g28, c3]
        refine callI_pure cal12 (ndRead dP.nd0 (k : Nat)) ?_
        have hYR := yRead dP t (k : Nat)
        have hS := ySame dP.ok (k : Nat)
        generalize readI (redoL l) (k : Nat) = R at hYR hS ⊢
        obtain ⟨c, e⟩ := R
        simp only at hYR hS
        have kA : Keep hP (hP.push (.cells (celE c) 48 none)) none_ := Keep.push _ _ _
        have gA : (hP.push (.cells (celE c) 48 none)).get hP.n = .cells (celE c) 48 none := get_push_new
        have gyA := (kA.get Y lyP (fun hh => hh)).trans gyP
        have nA : (hP.push (.cells (celE c) 48 none)).n = hP.n + 1 := rfl
        have dA := dP.keep kA (fun _ _ hh => hh)
        simp only [bW, Nat.reduceEqDiff, lt_40, zc_48, zt_48, g11, cA_s]
        generalize hP.push (.cells (celE c) 48 none) = hA at kA gA gyA nA dA ⊢
        simp only [bW, Nat.reduceEqDiff, g28, gyA, yE_l6b]
        refine callI_pure cal13 (hYR hA) ?_
        have kB : Keep hA (hA.push (.cells (celE c) 51 none)) none_ := Keep.push _ _ _
        have gB : (hA.push (.cells (celE c) 51 none)).get hA.n = .cells (celE c) 51 none := get_push_new
        have gAB := (kB.get hP.n (by omega) (fun hh => hh)).trans gA
        have gQ := (kB.get Y (by omega) (fun hh => hh)).trans gyA
        have nB : (hA.push (.cells (celE c) 51 none)).n = hA.n + 1 := rfl
        have dQ := dA.keep kB (fun _ _ hh => hh)
        simp only [bW, Nat.reduceEqDiff, lt_48, zc_51, zt_51, cR_s]
        generalize hA.push (.cells (celE c) 51 none) = hQ at kB gB gAB gQ nB dQ ⊢
        simp only [bW, Nat.reduceEqDiff, lt_51, gB, gAB, c_l3b]
        refine callI_pure cal14 (hS hQ) ?_
        have lQ : Y < hQ.n := by omega
        simp only [bW, Nat.reduceEqDiff, g28, hw]
        exact hid_mk ⟨k + 1, ⟨g5, g10, g11, rfl, by omega, dQ, gQ, lQ⟩, by omega⟩
      · have c3 : decide ((k : Int) < 4096) = false := decide_eq_false (by omega)
        simp only [bW, Nat.reduceEqDiff, g5, g28, c3, retA_ret, Tryz.results3, resultsA_1]
        exact hid_mk rfl
end Go.Proofs.YtilgpaibolollaaGreat.Pk
namespace Go.Proofs.YtilgpaibolollaaGreat.Pk
open Go Go.Proofs Go.Proofs.YtilgpaibolollaaGreat.Ab
set_option linter.unusedVariables false
set_option linter.unusedSimpArgs false
theorem bytes_nat : ∀ {es : List (List V)}, (∀ x ∈ es, Sh.fitsB (.int .u8) x) → ∃ bs : List Nat, es = (bs.map fun n : Nat => [V.int .u8 (n : Int)]) ∧ ∀ b ∈ bs, b < 256
  | [], _ => ⟨[], rfl, by simp⟩
  | e :: es, h => by
    obtain ⟨l, rfl, hl⟩ := bytes_nat (es := es) fun x hx => h x (by simp [hx])
    obtain ⟨n, rfl, hw⟩ := h e (by simp)
    simp only [Lit.wf, Bool.and_eq_true, decide_eq_true_eq] at hw
    have h1 : IntKind.u8.min = 0 := rfl
    have h2 : IntKind.u8.max = 255 := rfl
    refine ⟨n.toNat :: l, ?_, fun b hb => ?_⟩
    · rw [List.map_cons, Int.toNat_of_nonneg (by omega)]
    · rcases List.mem_cons.1 hb with rfl | hb
      · omega
      · exact hl b hb
theorem flat_nat (bs : List Nat) : (bs.map fun n : Nat => [V.int .u8 (n : Int)]).flatten = bytesV bs := by
  induction bs with
  | nil => rfl
  | cons n ns ih => simp [ih, bytesV]
theorem ds_of {e : List V} (h : Sh.fitsB (.cat (.int .i64) (.cat (.int .i64) (.cat (.int .i64) (.cat (.int .i64) (.cat (.int .i64) (.cat (.sl (.int .u8)) .unit)))))) e) : ∃ d : DeedS, e = dsE d ∧ (∀ x ∈ d.b, x < 256) ∧ d.b.length ≤ 2 ^ 47 := by
  obtain ⟨_, _, rfl, ⟨a, rfl, _⟩, _, _, rfl, ⟨b, rfl, _⟩, _, _, rfl, ⟨c, rfl, _⟩, _, _, rfl, ⟨d, rfl, _⟩, _, _, rfl, ⟨e, rfl, _⟩, _, _, rfl, hB, rfl⟩ := h
  obtain ⟨es, rfl, hl, he⟩ := hB
  obtain ⟨bs, rfl, hb⟩ := bytes_nat he
  rw [List.length_map] at hl
  exact ⟨⟨a, b, c, d, e, bs⟩, by rw [List.length_map, flat_nat]; rfl, hb, by simp only; omega⟩
theorem dss_of : ∀ {es : List (List V)}, (∀ x ∈ es, Sh.fitsB (.cat (.int .i64) (.cat (.int .i64) (.cat (.int .i64) (.cat (.int .i64) (.cat (.int .i64) (.cat (.sl (.int .u8)) .unit)))))) x) → ∃ l : List DeedS, es.length = l.length ∧ es.flatten = l.flatMap dsE ∧ ∀ d ∈ l, (∀ x ∈ d.b, x < 256) ∧ d.b.length ≤ 2 ^ 47
  | [], _ => ⟨[], rfl, rfl, by simp⟩
  | e :: es, h => by
    obtain ⟨l, h1, h2, h3⟩ := dss_of (es := es) fun x hx => h x (by simp [hx])
    obtain ⟨c, rfl, hc⟩ := ds_of (h e (by simp))
    exact ⟨c :: l, by simp [h1], by simp [h2], fun d hd => by
      rcases List.mem_cons.1 hd with rfl | hd
      · exact hc
      · exact h3 d hd⟩
end Go.Proofs.YtilgpaibolollaaGreat.Pk
