/- Contracts: the document's Parse. -/
import Derived.Test.YtmpgfmedldnhjaaGreatDoorR9a
namespace Go.Proofs.YtmpgfmedldnhjaaGreatDoor
open Go.RowKit Go.Shelf

theorem len5 {l : List (List UInt8)} (h : l.length = 5) : ∃ a b c d e, l = [a, b, c, d, e] := by
  match l, h with
  | [a, b, c, d, e], _ => exact ⟨a, b, c, d, e, rfl⟩
theorem len6 {l : List (List UInt8)} (h : l.length = 6) : ∃ a b c d e f, l = [a, b, c, d, e, f] := by
  match l, h with
  | [a, b, c, d, e, f], _ => exact ⟨a, b, c, d, e, f, rfl⟩
set_option maxRecDepth 100000 in
set_option maxHeartbeats 4000000 in
theorem rparse7_len (s : ByteArray) (w : World) (hz : s.size ≤ 80) (hl : (partsL 32 s.data.toList).length < 5 ∨ 6 < (partsL 32 s.data.toList).length) : Calls Tryz.prog 18 #[.string s] w (PrsOut s w) := by
  have Z0 := At.new w (ruA ru0) 31
  have b0 : Below w.heap.size w (w.alloc (.cells (ruA ru0) 31)) := (Below.refl _ _).alloc (Nat.le_refl _) _
  rw [rd0] at Z0 b0
  have hP := words_any s (w.alloc (.cells #[.int .i64 0, .int .i64 0, .int .i64 0, .int .i64 0, .int .u32 0, .int .u32 0, .int .i64 0] 31)) hz
  have HPX : Hid (PRS s ru0 71) := Lib.hid (.inr ⟨fun r' h1 h2 h3 => by
    have := rd_len r' h1
    rw [← parts_text, ← h3] at this
    omega, rfl, rfl⟩)
  obtain ⟨ps, hps⟩ : ∃ ps, partsL 32 s.data.toList = ps := ⟨_, rfl⟩
  unfold PartsOut at hP
  rw [hps] at hP hl
  clear hps
  go_enter Tryz.func18, Tryz.ntmps18
  go_wp2_with fail
  refine hP.mono ?_
  rintro e w1 ⟨v, rfl, row, b1⟩
  have Z1 := Z0.belows b1
  have B1 := b0.trans (b1.mono b0.size)
  obtain ⟨A, c, rfl⟩ := rowform row
  clear row hP b1 b0 Z0
  by_cases h5 : ps.length < 5
  · have d1 : decide ((ps.length : Int) < 5) = true := by simp; omega
    have d1n : decide (ps.length < 5) = true := by simp; omega
    clear hl
    have y0 := (Z1.cell 0).trans rfl; have y1 := (Z1.cell 1).trans rfl; have y2 := (Z1.cell 2).trans rfl; have y3 := (Z1.cell 3).trans rfl; have y4 := (Z1.cell 4).trans rfl; have y5 := (Z1.cell 5).trans rfl; have y6 := (Z1.cell 6).trans rfl
    have q0 := Z1.frozen 0; have q1 := Z1.frozen 1; have q2 := Z1.frozen 2; have q3 := Z1.frozen 3; have q4 := Z1.frozen 4; have q5 := Z1.frozen 5; have q6 := Z1.frozen 6
    go_wp2_with fail
    have Z := At.fill (y := ru0) (by rw [rd0]; exact Z1) ru0
    have Y0 := Z.cell 0; have Y1 := Z.cell 1; have Y2 := Z.cell 2; have Y3 := Z.cell 3; have Y4 := Z.cell 4; have Y5 := Z.cell 5; have Y6 := Z.cell 6
    unfold fillW at Y0 Y1 Y2 Y3 Y4 Y5 Y6
    refine bodyPost_ret (v := .tuple #[.agg (ruA ru0), .int .i64 71]) ?_ rfl ⟨ru0, 71, rfl, HPX.out, below_fill B1 (Nat.le_refl _) ru0⟩
    simp [ruA, ru0] at Y0 Y1 Y2 Y3 Y4 Y5 Y6
    simp [results, Tryz.results18, go_sem, Y0, Y1, Y2, Y3, Y4, Y5, Y6, ruA, ru0]
  · have d1 : decide ((ps.length : Int) < 5) = false := by simp; omega
    have d1n : decide (ps.length < 5) = false := by simp; omega
    have d2 : decide ((6 : Int) < (ps.length : Int)) = true := by simp; omega
    have d2n : decide (6 < ps.length) = true := by simp; omega
    clear hl
    have y0 := (Z1.cell 0).trans rfl; have y1 := (Z1.cell 1).trans rfl; have y2 := (Z1.cell 2).trans rfl; have y3 := (Z1.cell 3).trans rfl; have y4 := (Z1.cell 4).trans rfl; have y5 := (Z1.cell 5).trans rfl; have y6 := (Z1.cell 6).trans rfl
    have q0 := Z1.frozen 0; have q1 := Z1.frozen 1; have q2 := Z1.frozen 2; have q3 := Z1.frozen 3; have q4 := Z1.frozen 4; have q5 := Z1.frozen 5; have q6 := Z1.frozen 6
    go_wp2_with fail
    have Z := At.fill (y := ru0) (by rw [rd0]; exact Z1) ru0
    have Y0 := Z.cell 0; have Y1 := Z.cell 1; have Y2 := Z.cell 2; have Y3 := Z.cell 3; have Y4 := Z.cell 4; have Y5 := Z.cell 5; have Y6 := Z.cell 6
    unfold fillW at Y0 Y1 Y2 Y3 Y4 Y5 Y6
    refine bodyPost_ret (v := .tuple #[.agg (ruA ru0), .int .i64 71]) ?_ rfl ⟨ru0, 71, rfl, HPX.out, below_fill B1 (Nat.le_refl _) ru0⟩
    simp [ruA, ru0] at Y0 Y1 Y2 Y3 Y4 Y5 Y6
    simp [results, Tryz.results18, go_sem, Y0, Y1, Y2, Y3, Y4, Y5, Y6, ruA, ru0]

set_option maxRecDepth 100000 in
set_option maxHeartbeats 8000000 in
theorem rparse7_any (s : ByteArray) (w : World) (hz : s.size ≤ 80) : Calls Tryz.prog 18 #[.string s] w (PrsOut s w) := by
  by_cases hl0 : (partsL 32 s.data.toList).length < 5 ∨ 6 < (partsL 32 s.data.toList).length
  · exact rparse7_len s w hz hl0
  have Z0 := At.new w (ruA ru0) 31
  have b0 : Below w.heap.size w (w.alloc (.cells (ruA ru0) 31)) := (Below.refl _ _).alloc (Nat.le_refl _) _
  rw [rd0] at Z0 b0
  have hP := words_any s (w.alloc (.cells #[.int .i64 0, .int .i64 0, .int .i64 0, .int .i64 0, .int .u32 0, .int .u32 0, .int .i64 0] 31)) hz
  obtain ⟨ps, hps⟩ : ∃ ps, partsL 32 s.data.toList = ps := ⟨_, rfl⟩
  have hpl : ∀ p ∈ ps, p.length ≤ 80 := fun p hp => by
    have := part_len 32 s.data.toList p (by rw [hps]; exact hp)
    rw [← str_size] at this; omega
  have HT : Hid (∀ r', s.data.toList = textL r' → ps = partsR r') := Lib.hid fun r' e => by rw [← hps, e, parts_text]
  unfold PartsOut at hP
  rw [hps] at hP hl0
  clear hps
  have hlo : 5 ≤ ps.length := by omega
  have hhi : ps.length ≤ 6 := by omega
  clear hl0
  go_enter Tryz.func18, Tryz.ntmps18
  go_wp2_with fail
  refine hP.mono ?_
  rintro e w1 ⟨v, rfl, row, b1⟩
  have Z1 := Z0.belows b1
  have B1 := b0.trans (b1.mono b0.size)
  obtain ⟨g, cap, rfl, hcap, hg0, hg, hcell⟩ := srow row (by omega)
  have HC := Lib.hid hcell
  have HPL := Lib.hid hpl
  clear row hP b1 b0 Z0 hpl hcell
  have c0 := HC.out 0 (by omega)
  have c1 := HC.out 1 (by omega)
  have c2 := HC.out 2 (by omega)
  have c3 := HC.out 3 (by omega)
  have c4 := HC.out 4 (by omega)
  have l0 := HPL.out ps[0] (List.getElem_mem _)
  have l1 := HPL.out ps[1] (List.getElem_mem _)
  have l2 := HPL.out ps[2] (List.getElem_mem _)
  have l4 := HPL.out ps[4] (List.getElem_mem _)
  have k0 : ∀ u : World, Calls Tryz.prog 35 #[.string ⟨ps[0].toArray⟩, .int .i64 1048576] u fun e w' => e = .returned (.int .i64 (numI ps[0] 1048576)) ∧ u = w' := fun u => rnumber_any ⟨ps[0].toArray⟩ 1048576 u (by omega) (by rw [str_len]; omega)
  have k1 : ∀ u : World, Calls Tryz.prog 35 #[.string ⟨ps[1].toArray⟩, .int .i64 9] u fun e w' => e = .returned (.int .i64 (numI ps[1] 9)) ∧ u = w' := fun u => rnumber_any ⟨ps[1].toArray⟩ 9 u (by omega) (by rw [str_len]; omega)
  have k2 : ∀ u : World, Calls Tryz.prog 35 #[.string ⟨ps[2].toArray⟩, .int .i64 1024] u fun e w' => e = .returned (.int .i64 (numI ps[2] 1024)) ∧ u = w' := fun u => rnumber_any ⟨ps[2].toArray⟩ 1024 u (by omega) (by rw [str_len]; omega)
  have kr : ∀ u : World, Calls Tryz.prog 36 #[.string ⟨ps[4].toArray⟩] u (RRgOut ⟨ps[4].toArray⟩ u) := fun u => rrg_any _ u (by rw [str_len]; omega)
  have hzI0 := numI_isI ps[0] 1048576 (by decide)
  have hzI1 := numI_isI ps[1] 9 (by decide)
  have hzI2 := numI_isI ps[2] 1024 (by decide)
  -- what is read, as data
  have HBK : Hid (∀ (f t : Nat) (er : Int) (pt : Int) (r' : Ru), (∀ f' t' : Nat, f' ≤ t' → t' < 4294967296 → (⟨ps[4].toArray⟩ : ByteArray).data.toList = rngT f' t' → f = f' ∧ t = t' ∧ er = 0) → (ps.length = 5 → pt = 0) → (∀ h : ps.length = 6, pt = numI ps[5] 9) → ruB r' = true → r'.wf → s.data.toList = textL r' →
      (⟨numI ps[0] 1048576, numI ps[1] 9, numI ps[2] 1024, (kdf ⟨ps[3].toArray⟩ 4 : Nat), f, t, pt⟩ : Ru) = r' ∧ er = 0) := Lib.hid fun f t er pt r' hx h5 h6 hr hw hs => by
    have hp := HT.out r' hs
    by_cases h : ps.length = 5
    · obtain ⟨a, b, c, d, e, rfl⟩ := len5 h
      rw [h5 h]
      exact rd_five hr hw hp hx
    · have h' : ps.length = 6 := by omega
      rw [h6 h']
      obtain ⟨a, b, c, d, e, f', rfl⟩ := len6 h'
      exact rd_six hr hw hp hx
  obtain ⟨P0, hP0⟩ : ∃ P0, P0 = (⟨ps[0].toArray⟩ : ByteArray) := ⟨_, rfl⟩
  obtain ⟨P1, hP1⟩ : ∃ P1, P1 = (⟨ps[1].toArray⟩ : ByteArray) := ⟨_, rfl⟩
  obtain ⟨P2, hP2⟩ : ∃ P2, P2 = (⟨ps[2].toArray⟩ : ByteArray) := ⟨_, rfl⟩
  obtain ⟨P3, hP3⟩ : ∃ P3, P3 = (⟨ps[3].toArray⟩ : ByteArray) := ⟨_, rfl⟩
  obtain ⟨P4, hP4⟩ : ∃ P4, P4 = (⟨ps[4].toArray⟩ : ByteArray) := ⟨_, rfl⟩
  rw [← hP0] at k0 c0
  rw [← hP1] at k1 c1
  rw [← hP2] at k2 c2
  rw [← hP3] at c3 HBK
  rw [← hP4] at kr c4 HBK
  generalize numI ps[0] 1048576 = z0 at k0 HBK hzI0
  generalize numI ps[1] 9 = z1 at k1 HBK hzI1
  generalize numI ps[2] 1024 = z2 at k2 HBK hzI2
  clear hP0 hP1 hP2 hP3 hP4 l0 l1 l2 l4
  have HI0 := Lib.hid hzI0
  have HI1 := Lib.hid hzI1
  have HI2 := Lib.hid hzI2
  have KS : Hid (∀ u, Below w1.heap.size w1 u → u.cell? ⟨g, 0, none⟩ = some (.string P0) ∧ u.cell? ⟨g, 1, none⟩ = some (.string P1) ∧ u.cell? ⟨g, 2, none⟩ = some (.string P2)) := Lib.hid fun u hu => ⟨(hu.cell (p := ⟨g, 0, none⟩) hg).trans c0, (hu.cell (p := ⟨g, 1, none⟩) hg).trans c1, (hu.cell (p := ⟨g, 2, none⟩) hg).trans c2⟩
  have KP : Hid (∀ u, Below w1.heap.size w1 u → u.cell? ⟨g, 3, none⟩ = some (.string P3) ∧ u.cell? ⟨g, 4, none⟩ = some (.string P4)) := Lib.hid fun u hu => ⟨(hu.cell (p := ⟨g, 3, none⟩) hg).trans c3, (hu.cell (p := ⟨g, 4, none⟩) hg).trans c4⟩
  have d1 : decide ((ps.length : Int) < 5) = false := by simp; omega
  have d1n : decide (ps.length < 5) = false := by simp; omega
  have d2 : decide ((6 : Int) < (ps.length : Int)) = false := by simp; omega
  have d2n : decide (6 < ps.length) = false := by simp; omega
  have i0 : (0 : Int) < (ps.length : Int) := by omega
  have i0n : 0 < ps.length := by omega
  have i0e : ps ≠ [] := fun e => by rw [e] at hlo; simp at hlo
  have i0f : decide ((0 : Int) < (ps.length : Int)) = true := decide_eq_true i0
  have i1 : (1 : Int) < (ps.length : Int) := by omega
  have i2 : (2 : Int) < (ps.length : Int) := by omega
  have hb1 := Below.refl w1.heap.size w1
  clear hzI0 hzI1 hzI2 c3 c4
  go_upto_region 4 with (fail)
  go_cut [5] (fun r wc => r = .pointer (some ⟨w1.heap.size, 0, none⟩) ∧ Hid (Below w1.heap.size w1 wc ∧ At wc w1.heap.size #[.int .i64 z0, .int .i64 z1, .int .i64 z2, .int .i64 0, .int .u32 0, .int .u32 0, .int .i64 0] 31))
  case first =>
    go_region_held3 (fun W => W.cell? ⟨g, 0, none⟩ = some (.string P0) ∧ W.cell? ⟨g, 1, none⟩ = some (.string P1) ∧ W.cell? ⟨g, 2, none⟩ = some (.string P2)) (first | exact KS.out _ (hb1.alloc (Nat.le_refl _) _).drew | exact KS.out _ (hb1.drew.alloc (Nat.le_refl _) _) | exact KS.out _ hb1.drew | exact KS.out _ hb1) (first
      | (go_at_call_of 35 P0; refine (k0 _).mono ?_; rintro e wA ⟨rfl, rfl⟩)
      | (go_at_call_of 35 P1; refine (k1 _).mono ?_; rintro e wA ⟨rfl, rfl⟩)
      | (go_at_call_of 35 P2; refine (k2 _).mono ?_; rintro e wA ⟨rfl, rfl⟩))
    all_goals (go_wp2_with fail; go_meet; exact ⟨rfl, Lib.hid ⟨(hb1.alloc (Nat.le_refl _) _).drew, (At.new w1 _ _).drew⟩⟩)
  case rest =>
    obtain ⟨rfl, HW5⟩ := hcut
    clear hb1 k0 k1 k2 KS c0 c1 c2 i0 i1 i2 i0n i0e i0f
    obtain ⟨bc, Rc⟩ := HW5.out
    clear HW5
    have hgN : g ≠ w1.heap.size := by omega
    go_wp2
    go_loopw [6] (fun i wr => ∃ k : Nat, i = .int .i64 k ∧ k ≤ 4 ∧ Hid (Below w1.heap.size w1 wr ∧ At wr w1.heap.size #[.int .i64 z0, .int .i64 z1, .int .i64 z2, .int .i64 (kdf P3 k : Nat), .int .u32 0, .int .u32 0, .int .i64 0] 31)) (fun i _ => 4 - (intOf i).toNat)
    case atStart => exact ⟨0, rfl, by omega, Lib.hid ⟨bc, Rc⟩⟩
    case round =>
      obtain ⟨k, rfl, hk, HK⟩ := hrel
      by_cases hlt : k < 4
      · have hkl : (k : Int) < 4 := by omega
        have i0 : (0 : Int) ≤ (k : Int) := by omega
        obtain ⟨bk, Rk⟩ := HK.out
        have x3 : ∀ x : Sub wr, x.u.cell? ⟨g, 3, none⟩ = some (.string P3) := fun x => (KP.out x.u (bk.trans (x.h.mono bk.size))).1
        have i3 : (3 : Int) < (ps.length : Int) := by omega
        have HBK2 := Lib.hid bk
        have HRK2 := Lib.hid Rk
        clear bk Rk bc Rc
        go_upto_region 8 with (fail)
        refine wp_region_seg 0 8 (by kernel_rfl) (by kernel_rfl) rfl (by kernel_rfl) (by kernel_rfl) ?_
        show wpQuiet _ _ _ _ [] _
        refine wpQuiet_nil ?_
        intro u1 hu1
        refine held_more 1 7 1 (by kernel_rfl) (by kernel_rfl) (by kernel_rfl) hu1 ?_
        show wpQuiet _ _ _ _ [_] ⟨List.toArray (_ :: _ :: _ :: _ :: _ :: _ :: _ :: _ :: _ :: _ :: _ :: _ :: _ :: _ :: _ :: _ :: _ :: _ :: _ :: _ :: _ :: _ :: _ :: _ :: _ :: _ :: _ :: _ :: _ :: _ :: _ :: _ :: _ :: _ :: _ :: _ :: _ :: _ :: _ :: _ :: _ :: _ :: _ :: _ :: _ :: _ :: _ :: _ :: _ :: _ :: _ :: _ :: _ :: _ :: _ :: _ :: _ :: _ :: _ :: _ :: _ :: _ :: _ :: _ :: _ :: _ :: _ :: _ :: _ :: _ :: _ :: _ :: _ :: _ :: _ :: _ :: _ :: _ :: _ :: _ :: _ :: []), _⟩
        repeat (go_big_quiet_step (fail))
        refine wpQuiet_nil ?_
        intro u2 hu2
        refine held_more 3 4 4 (by kernel_rfl) (by kernel_rfl) (by kernel_rfl) hu2 ?_
        show wpQuiet _ _ _ _ [_, _, _] ⟨List.toArray (_ :: _ :: _ :: _ :: _ :: _ :: _ :: _ :: _ :: _ :: _ :: _ :: _ :: _ :: _ :: _ :: _ :: _ :: _ :: _ :: _ :: _ :: _ :: _ :: _ :: _ :: _ :: _ :: _ :: _ :: _ :: _ :: _ :: _ :: _ :: _ :: _ :: _ :: _ :: _ :: _ :: _ :: _ :: _ :: _ :: _ :: _ :: _ :: _ :: _ :: _ :: _ :: _ :: _ :: _ :: _ :: _ :: _ :: _ :: _ :: _ :: _ :: _ :: _ :: _ :: _ :: _ :: _ :: _ :: _ :: _ :: _ :: _ :: _ :: _ :: _ :: _ :: _ :: _ :: _ :: _ :: []), _⟩
        repeat (go_big_quiet_step (fail))
        refine wpQuiet_nil ?_
        intro u3 hu3
        clear x3
        refine held_call (k := 0) (ys := #[]) (by kernel_rfl) rfl (by kernel_rfl) rfl Tryz.func31 (by kernel_rfl) (by kernel_rfl) hu3 (by simp only [List.map_toArray, List.map_nil]) (fun v => rfl) ?_
        refine (kinds_any u3).mono ?_
        rintro e wB ⟨B, rfl, hB, b1⟩
        refine ⟨_, rfl, b1, ?_⟩
        obtain ⟨W, hW⟩ : ∃ W, W = wS k := ⟨_, rfl⟩
        have y0 : ∀ x : Sub wB, x.u.cell? ⟨B, k, none⟩ = some (.string W) := fun x => by rw [hW]; exact (hB.belows x.h).word k (by omega)
        have HCB : Hid (Below wr.heap.size wr wB) := Lib.hid (hu3.trans (b1.mono hu3.size))
        have HWW := Lib.hid hW
        clear hB b1 hu1 hu2 hu3 hW
        refine held_more 2 1 2 (by kernel_rfl) (by kernel_rfl) (by kernel_rfl) (Below.refl _ _) ?_
        show wpQuiet _ _ _ _ [_, _] ⟨List.toArray (_ :: _ :: _ :: _ :: _ :: _ :: _ :: _ :: _ :: _ :: _ :: _ :: _ :: _ :: _ :: _ :: _ :: _ :: _ :: _ :: _ :: _ :: _ :: _ :: _ :: _ :: _ :: _ :: _ :: _ :: _ :: _ :: _ :: _ :: _ :: _ :: _ :: _ :: _ :: _ :: _ :: _ :: _ :: _ :: _ :: _ :: _ :: _ :: _ :: _ :: _ :: _ :: _ :: _ :: _ :: _ :: _ :: _ :: _ :: _ :: _ :: _ :: _ :: _ :: _ :: _ :: _ :: _ :: _ :: _ :: _ :: _ :: _ :: _ :: _ :: _ :: _ :: _ :: _ :: _ :: _ :: []), _⟩
        repeat (go_big_quiet_step (fail))
        refine wpQuiet_nil ?_
        intro u4 hu4
        refine held_more 1 0 7 (by kernel_rfl) (by kernel_rfl) (by kernel_rfl) hu4 ?_
        show wpQuiet _ _ _ _ [_] ⟨List.toArray (_ :: _ :: _ :: _ :: _ :: _ :: _ :: _ :: _ :: _ :: _ :: _ :: _ :: _ :: _ :: _ :: _ :: _ :: _ :: _ :: _ :: _ :: _ :: _ :: _ :: _ :: _ :: _ :: _ :: _ :: _ :: _ :: _ :: _ :: _ :: _ :: _ :: _ :: _ :: _ :: _ :: _ :: _ :: _ :: _ :: _ :: _ :: _ :: _ :: _ :: _ :: _ :: _ :: _ :: _ :: _ :: _ :: _ :: _ :: _ :: _ :: _ :: _ :: _ :: _ :: _ :: _ :: _ :: _ :: _ :: _ :: _ :: _ :: _ :: _ :: _ :: _ :: _ :: _ :: _ :: _ :: []), _⟩
        repeat (go_big_quiet_step (fail))
        refine wpQuiet_nil ?_
        intro u5 hu5
        refine held_end (by kernel_rfl) ?_
        have c5 := HCB.out.trans (hu5.mono HCB.out.size)
        have B5 := HBK2.out.trans (c5.mono HBK2.out.size)
        have R5 := HRK2.out.belows c5
        clear y0 hu4 hu5 HCB c5 HBK2 HRK2
        obtain ⟨q, hq⟩ : ∃ q, q = (W.toList == P3.toList) := ⟨_, rfl⟩
        rw [← hq]
        rw [beqS] at hq
        cases q with
        | true =>
          have HN : Hid (kdf P3 (k + 1) = k) := Lib.hid (by rw [kdf, if_pos (by rw [← HWW.out]; exact of_decide_eq_true hq.symm)])
          have y3 := (R5.cell 3).trans rfl
          have q3 := R5.frozen 3
          clear hq HWW
          go_wp2_with fail
          refine ⟨⟨k + 1, by go_num, by omega, Lib.hid ⟨B5.setCell (p := ⟨w1.heap.size, 3, none⟩) (Nat.le_refl _) _, ?_⟩⟩, by simp [intOf]; omega⟩
          have := R5.set0 3 (.int .i64 k)
          rw [HN.out]
          simpa using this
        | false =>
          have HN : Hid (kdf P3 (k + 1) = kdf P3 k) := Lib.hid (by rw [kdf, if_neg (by rw [← HWW.out]; exact of_decide_eq_false hq.symm)])
          clear hq HWW
          go_wp2_with fail
          go_roundw
          case rel => exact ⟨k + 1, by go_num, by omega, Lib.hid ⟨B5, by rw [HN.out]; exact R5⟩⟩
          case measure => simp [intOf]; omega
      · obtain rfl : k = 4 := by omega
        obtain ⟨bk, Rk⟩ := HK.out
        clear HK bc Rc
        have hkd := kdf_le P3 4 (by omega)
        have Z4 := Z1.belows bk
        have B4 := B1.trans (bk.mono B1.size)
        generalize kdf P3 4 = kd at HBK Rk hkd
        have c4 := (KP.out wr bk).2
        have i4 : (4 : Int) < (ps.length : Int) := by omega
        go_wp2_with fail
        refine (kr _).mono ?_
        rintro e w6 ⟨f, t, er, rfl, hf, ht, hback, b6⟩
        have R6 := Rk.belows b6
        have Z6 := Z4.belows b6
        have B6 := B4.trans (b6.mono B4.size)
        have c6 := bk.trans (b6.mono bk.size)
        have hs6 : w1.heap.size < w6.heap.size := R6.lt
        have HBK3 : Hid (∀ (pt : Int) (r' : Ru), (ps.length = 5 → pt = 0) → (∀ h : ps.length = 6, pt = numI ps[5] 9) → ruB r' = true → r'.wf → s.data.toList = textL r' → (⟨z0, z1, z2, (kd : Nat), f, t, pt⟩ : Ru) = r' ∧ er = 0) := Lib.hid fun pt r' h5 h6 hr hw hs => HBK.out f t er pt r' hback h5 h6 hr hw hs
        have y4 := (R6.cell 4).trans rfl; have y5 := (R6.cell 5).trans rfl; have q4 := R6.frozen 4; have q5 := R6.frozen 5
        clear hback HBK kr c4 Rk Z4 B4 bk b6 KP
        go_upto_region 11 with (fail)
        go_cut [8] (fun e wc => e = .int .i64 er ∧ Hid (Below w.heap.size w wc ∧ Below w1.heap.size w1 wc ∧ At wc w.heap.size #[.int .i64 0, .int .i64 0, .int .i64 0, .int .i64 0, .int .u32 0, .int .u32 0, .int .i64 0] 31 ∧ At wc w1.heap.size #[.int .i64 z0, .int .i64 z1, .int .i64 z2, .int .i64 (kd : Nat), .int .u32 f, .int .u32 t, .int .i64 0] 31))
        case first =>
          go_wp2_with fail
          go_meet
          have hsw : w.heap.size < w1.heap.size := Z1.lt
          refine ⟨rfl, Lib.hid ⟨?_, ?_, ?_, ?_⟩⟩
          · exact ((B6.setCell (p := ⟨w1.heap.size, 4, none⟩) (by show w.heap.size ≤ w1.heap.size; omega) _).setCell (p := ⟨w1.heap.size, 5, none⟩) (by show w.heap.size ≤ w1.heap.size; omega) _).alloc (by simp; omega) _
          · exact ((c6.setCell (p := ⟨w1.heap.size, 4, none⟩) (Nat.le_refl _) _).setCell (p := ⟨w1.heap.size, 5, none⟩) (Nat.le_refl _) _).alloc (by simp; omega) _
          · exact ((Z6.other (by omega) 4 _).other (by omega) 5 _).alloc _
          · have := ((R6.set0 4 (.int .u32 f)).set0 5 (.int .u32 t)).alloc (.cells #[.int .u32 f, .int .u32 t] 29)
            simpa using this
        case rest =>
          obtain ⟨rfl, HWC⟩ := hcut
          obtain ⟨Bw, Bw1, Zc, Rc⟩ := HWC.out
          clear HWC Z6 B6 c6 R6 y4 y5 q4 q5 hs6
          have Hpt : Hid (∀ h : ps.length = 6, ∀ u, Below w1.heap.size w1 u → u.cell? ⟨g, 5, none⟩ = some (.string ⟨ps[5].toArray⟩)) := Lib.hid fun h u hu => (hu.cell (p := ⟨g, 5, none⟩) hg).trans (HC.out 5 (by omega))
          have hsw : w.heap.size < w1.heap.size := Z1.lt
          have r6 := (Rc.cell 6).trans rfl
          have q6 := Rc.frozen 6
          obtain ⟨qn, hqn⟩ : ∃ qn, ((ps.length : Int) == 6) = qn := ⟨_, rfl⟩
          go_upto_if 59 with (fail)
          go_cut [8] (fun e wd => e = .int .i64 er ∧ Hid (∃ pt : Int, isI pt ∧ (ps.length = 5 → pt = 0) ∧ (∀ h : ps.length = 6, pt = numI ps[5] 9) ∧ Below w.heap.size w wd ∧ At wd w.heap.size #[.int .i64 0, .int .i64 0, .int .i64 0, .int .i64 0, .int .u32 0, .int .u32 0, .int .i64 0] 31 ∧ At wd w1.heap.size #[.int .i64 z0, .int .i64 z1, .int .i64 z2, .int .i64 (kd : Nat), .int .u32 f, .int .u32 t, .int .i64 pt] 31))
          case first =>
            cases qn with
            | true =>
              have h6 : ps.length = 6 := by simp at hqn; omega
              have hpos : ps.length ≠ 5 := by omega
              clear hqn
              have l6 : 5 < ps.length := by omega
              have c5 := Hpt.out h6 wc Bw1
              have i5 : (5 : Int) < (ps.length : Int) := by omega
              have l5 := HPL.out (ps[5]'l6) (List.getElem_mem _)
              have k5 : ∀ u : World, Calls Tryz.prog 35 #[.string ⟨(ps[5]'l6).toArray⟩, .int .i64 9] u fun e w' => e = .returned (.int .i64 (numI (ps[5]'l6) 9)) ∧ u = w' := fun u => rnumber_any ⟨(ps[5]'l6).toArray⟩ 9 u (by omega) (by rw [str_len]; omega)
              have hI5 := numI_isI (ps[5]'l6) 9 (by decide)
              have HH6 := Lib.hid h6
              obtain ⟨z5, hz5⟩ : ∃ z5, z5 = numI (ps[5]'l6) 9 := ⟨_, rfl⟩
              rw [← hz5] at k5 hI5
              have HZ5 := Lib.hid hz5
              generalize (⟨(ps[5]'l6).toArray⟩ : ByteArray) = P5 at k5 c5
              clear hz5 l5 h6 hpos
              go_wp2_with fail
              refine (k5 _).mono ?_
              rintro e wA ⟨rfl, rfl⟩
              go_wp2_with fail
              go_meet
              refine ⟨rfl, Lib.hid ⟨z5, hI5, fun h => ?_, fun h => HZ5.out, ?_, ?_, ?_⟩⟩
              · have := HH6.out; omega
              · exact Bw.setCell (p := ⟨w1.heap.size, 6, none⟩) (by show w.heap.size ≤ w1.heap.size; omega) _
              · exact Zc.other (by omega) 6 _
              · have := Rc.set0 6 (.int .i64 z5)
                simpa using this
            | false =>
              have h6 : ps.length ≠ 6 := by simp at hqn; omega
              have HH6 : Hid (ps.length ≠ 6) := Lib.hid h6
              clear h6 hqn
              go_wp2_with fail
              go_meet
              exact ⟨rfl, Lib.hid ⟨0, by simp [isI], fun _ => rfl, fun h => absurd h HH6.out, Bw, Zc, Rc⟩⟩
          case rest =>
            obtain ⟨rfl, HWD⟩ := hcut
            obtain ⟨pt, hpt, hp5, hp6, Bd, Zd, Rd⟩ := HWD.out
            clear HWD Bw Bw1 Zc Rc r6 q6 Hpt hqn
            have HR : Hid (∀ r' : Ru, ruB r' = true → r'.wf → s.data.toList = textL r' → (⟨z0, z1, z2, (kd : Nat), f, t, pt⟩ : Ru) = r' ∧ er = 0) := Lib.hid fun r' a b c => HBK3.out pt r' hp5 hp6 a b c
            have hwf : (⟨z0, z1, z2, (kd : Nat), f, t, pt⟩ : Ru).wf := ⟨HI0.out, HI1.out, HI2.out, by show isI ((kd : Nat) : Int); unfold isI; omega, hf, ht, hpt⟩
            have hrr := fun u : World => drright_any ⟨z0, z1, z2, (kd : Nat), f, t, pt⟩ u hwf
            have Htx : Hid (ruB ⟨z0, z1, z2, (kd : Nat), f, t, pt⟩ = true → ∀ u : World, Calls Tryz.prog 16 #[.agg (ruA ⟨z0, z1, z2, (kd : Nat), f, t, pt⟩)] u fun e w' => e = .returned (.string ⟨(textL ⟨z0, z1, z2, (kd : Nat), f, t, pt⟩).toArray⟩) ∧ Below u.heap.size u w') := Lib.hid fun h u => rtext7_any _ u h hwf
            have Hno : Hid (er ≠ 0 ∨ ruB ⟨z0, z1, z2, (kd : Nat), f, t, pt⟩ = false ∨ textL ⟨z0, z1, z2, (kd : Nat), f, t, pt⟩ ≠ s.data.toList → PRS s ru0 71) := Lib.hid fun h => .inr ⟨fun r' h1 h2 h3 => by
              obtain ⟨e1, e2⟩ := HR.out r' h1 h2 h3
              rw [e1] at h
              rcases h with h | h | h
              · exact h e2
              · rw [h1] at h; cases h
              · exact h h3.symm, rfl, rfl⟩
            have Hyes : Hid (ruB ⟨z0, z1, z2, (kd : Nat), f, t, pt⟩ = true → textL ⟨z0, z1, z2, (kd : Nat), f, t, pt⟩ = s.data.toList → PRS s ⟨z0, z1, z2, (kd : Nat), f, t, pt⟩ 0) := Lib.hid fun h1 h2 => .inl ⟨h1, hwf, h2.symm, rfl⟩
            obtain ⟨tl, htl⟩ : ∃ tl, tl = textL ⟨z0, z1, z2, (kd : Nat), f, t, pt⟩ := ⟨_, rfl⟩
            obtain ⟨rb, hrb⟩ : ∃ rb, rb = ruB ⟨z0, z1, z2, (kd : Nat), f, t, pt⟩ := ⟨_, rfl⟩
            rw [← htl] at Htx Hno Hyes
            rw [← hrb] at Htx Hno Hyes hrr
            rw [ruA_mk] at hrr Htx
            clear htl hrb hwf hpt hp5 hp6 HR HBK3 HI0 HI1 HI2 hf ht HT HC HPL
            have x0 := (Rd.cell 0).trans rfl; have x1 := (Rd.cell 1).trans rfl; have x2 := (Rd.cell 2).trans rfl; have x3 := (Rd.cell 3).trans rfl; have x4 := (Rd.cell 4).trans rfl; have x5 := (Rd.cell 5).trans rfl; have x6 := (Rd.cell 6).trans rfl
            go_wp2_with fail
            refine (hrr _).mono ?_
            rintro e w9 ⟨rfl, b9⟩
            have Z9 := Zd.belows b9
            have R9 := Rd.belows b9
            have B9 := Bd.trans (b9.mono Bd.size)
            clear x0 x1 x2 x3 x4 x5 x6 Zd Rd Bd b9 hrr
            by_cases her : er = 0
            · have de : (er != 0) = false := by simp [her]
              have de2 : (er == 0) = true := by simp [her]
              cases rb with
              | false =>
                have HPX := Lib.hid (Hno.out (.inr (.inl rfl)))
                clear her Hno Hyes Htx
                have y0 := (Z9.cell 0).trans rfl; have y1 := (Z9.cell 1).trans rfl; have y2 := (Z9.cell 2).trans rfl; have y3 := (Z9.cell 3).trans rfl; have y4 := (Z9.cell 4).trans rfl; have y5 := (Z9.cell 5).trans rfl; have y6 := (Z9.cell 6).trans rfl
                have q0 := Z9.frozen 0; have q1 := Z9.frozen 1; have q2 := Z9.frozen 2; have q3 := Z9.frozen 3; have q4 := Z9.frozen 4; have q5 := Z9.frozen 5; have q6 := Z9.frozen 6
                go_wp2_with fail
                have Z := At.fill (y := ru0) (by rw [rd0]; exact Z9) ru0
                have Y0 := Z.cell 0; have Y1 := Z.cell 1; have Y2 := Z.cell 2; have Y3 := Z.cell 3; have Y4 := Z.cell 4; have Y5 := Z.cell 5; have Y6 := Z.cell 6
                unfold fillW at Y0 Y1 Y2 Y3 Y4 Y5 Y6
                refine bodyPost_ret (v := .tuple #[.agg (ruA ru0), .int .i64 71]) ?_ rfl ⟨ru0, 71, rfl, HPX.out, below_fill B9 (Nat.le_refl _) ru0⟩
                simp [ruA, ru0] at Y0 Y1 Y2 Y3 Y4 Y5 Y6
                simp [results, Tryz.results18, go_sem, Y0, Y1, Y2, Y3, Y4, Y5, Y6, ruA, ru0]
              | true =>
                have x0 := (R9.cell 0).trans rfl; have x1 := (R9.cell 1).trans rfl; have x2 := (R9.cell 2).trans rfl; have x3 := (R9.cell 3).trans rfl; have x4 := (R9.cell 4).trans rfl; have x5 := (R9.cell 5).trans rfl; have x6 := (R9.cell 6).trans rfl
                have htx := Htx.out rfl w9
                clear her Htx
                go_wp2_with fail
                refine htx.mono ?_
                rintro e w10 ⟨rfl, b10⟩
                have Z10 := Z9.belows b10
                have R10 := R9.belows b10
                have B10 := B9.trans (b10.mono B9.size)
                clear x0 x1 x2 x3 x4 x5 x6 Z9 R9 B9 b10 htx
                by_cases he : tl = s.data.toList
                · have hd : ((⟨tl.toArray⟩ : ByteArray).toList == s.toList) = true := by rw [beqS]; exact decide_eq_true (str_eq (by simpa using he))
                  have HPX := Lib.hid (Hyes.out (by trivial) he)
                  clear Hno Hyes he
                  generalize (⟨tl.toArray⟩ : ByteArray) = TS at hd
                  have hd2 : (TS.toList != s.toList) = false := by rw [bne, hd]; rfl
                  have x0 := (R10.cell 0).trans rfl; have x1 := (R10.cell 1).trans rfl; have x2 := (R10.cell 2).trans rfl; have x3 := (R10.cell 3).trans rfl; have x4 := (R10.cell 4).trans rfl; have x5 := (R10.cell 5).trans rfl; have x6 := (R10.cell 6).trans rfl
                  have y0 := (Z10.cell 0).trans rfl; have y1 := (Z10.cell 1).trans rfl; have y2 := (Z10.cell 2).trans rfl; have y3 := (Z10.cell 3).trans rfl; have y4 := (Z10.cell 4).trans rfl; have y5 := (Z10.cell 5).trans rfl; have y6 := (Z10.cell 6).trans rfl
                  have q0 := Z10.frozen 0; have q1 := Z10.frozen 1; have q2 := Z10.frozen 2; have q3 := Z10.frozen 3; have q4 := Z10.frozen 4; have q5 := Z10.frozen 5; have q6 := Z10.frozen 6
                  go_wp2_with fail
                  have Z := At.fill (y := ru0) (by rw [rd0]; exact Z10) ⟨z0, z1, z2, (kd : Nat), f, t, pt⟩
                  have Y0 := Z.cell 0; have Y1 := Z.cell 1; have Y2 := Z.cell 2; have Y3 := Z.cell 3; have Y4 := Z.cell 4; have Y5 := Z.cell 5; have Y6 := Z.cell 6
                  unfold fillW at Y0 Y1 Y2 Y3 Y4 Y5 Y6
                  refine bodyPost_ret (v := .tuple #[.agg (ruA ⟨z0, z1, z2, (kd : Nat), f, t, pt⟩), .int .i64 0]) ?_ rfl ⟨⟨z0, z1, z2, (kd : Nat), f, t, pt⟩, 0, rfl, HPX.out, below_fill B10 (Nat.le_refl _) ⟨z0, z1, z2, (kd : Nat), f, t, pt⟩⟩
                  simp [ruA] at Y0 Y1 Y2 Y3 Y4 Y5 Y6
                  simp [results, Tryz.results18, go_sem, Y0, Y1, Y2, Y3, Y4, Y5, Y6, ruA]
                · have hd : ((⟨tl.toArray⟩ : ByteArray).toList == s.toList) = false := by rw [beqS]; exact decide_eq_false (fun h => he (by rw [← h]))
                  have HPX := Lib.hid (Hno.out (.inr (.inr he)))
                  clear Hno Hyes he
                  generalize (⟨tl.toArray⟩ : ByteArray) = TS at hd
                  have hd2 : (TS.toList != s.toList) = true := by rw [bne, hd]; rfl
                  have y0 := (Z10.cell 0).trans rfl; have y1 := (Z10.cell 1).trans rfl; have y2 := (Z10.cell 2).trans rfl; have y3 := (Z10.cell 3).trans rfl; have y4 := (Z10.cell 4).trans rfl; have y5 := (Z10.cell 5).trans rfl; have y6 := (Z10.cell 6).trans rfl
                  have q0 := Z10.frozen 0; have q1 := Z10.frozen 1; have q2 := Z10.frozen 2; have q3 := Z10.frozen 3; have q4 := Z10.frozen 4; have q5 := Z10.frozen 5; have q6 := Z10.frozen 6
                  go_wp2_with fail
                  have Z := At.fill (y := ru0) (by rw [rd0]; exact Z10) ru0
                  have Y0 := Z.cell 0; have Y1 := Z.cell 1; have Y2 := Z.cell 2; have Y3 := Z.cell 3; have Y4 := Z.cell 4; have Y5 := Z.cell 5; have Y6 := Z.cell 6
                  unfold fillW at Y0 Y1 Y2 Y3 Y4 Y5 Y6
                  refine bodyPost_ret (v := .tuple #[.agg (ruA ru0), .int .i64 71]) ?_ rfl ⟨ru0, 71, rfl, HPX.out, below_fill B10 (Nat.le_refl _) ru0⟩
                  simp [ruA, ru0] at Y0 Y1 Y2 Y3 Y4 Y5 Y6
                  simp [results, Tryz.results18, go_sem, Y0, Y1, Y2, Y3, Y4, Y5, Y6, ruA, ru0]
            · have de : (er != 0) = true := by simp [her]
              have de2 : (er == 0) = false := by simp [her]
              have HPX := Lib.hid (Hno.out (.inl her))
              clear her Hno Hyes Htx
              have y0 := (Z9.cell 0).trans rfl; have y1 := (Z9.cell 1).trans rfl; have y2 := (Z9.cell 2).trans rfl; have y3 := (Z9.cell 3).trans rfl; have y4 := (Z9.cell 4).trans rfl; have y5 := (Z9.cell 5).trans rfl; have y6 := (Z9.cell 6).trans rfl
              have q0 := Z9.frozen 0; have q1 := Z9.frozen 1; have q2 := Z9.frozen 2; have q3 := Z9.frozen 3; have q4 := Z9.frozen 4; have q5 := Z9.frozen 5; have q6 := Z9.frozen 6
              go_wp2_with fail
              have Z := At.fill (y := ru0) (by rw [rd0]; exact Z9) ru0
              have Y0 := Z.cell 0; have Y1 := Z.cell 1; have Y2 := Z.cell 2; have Y3 := Z.cell 3; have Y4 := Z.cell 4; have Y5 := Z.cell 5; have Y6 := Z.cell 6
              unfold fillW at Y0 Y1 Y2 Y3 Y4 Y5 Y6
              refine bodyPost_ret (v := .tuple #[.agg (ruA ru0), .int .i64 71]) ?_ rfl ⟨ru0, 71, rfl, HPX.out, below_fill B9 (Nat.le_refl _) ru0⟩
              simp [ruA, ru0] at Y0 Y1 Y2 Y3 Y4 Y5 Y6
              simp [results, Tryz.results18, go_sem, Y0, Y1, Y2, Y3, Y4, Y5, Y6, ruA, ru0]
end Go.Proofs.YtmpgfmedldnhjaaGreatDoor
