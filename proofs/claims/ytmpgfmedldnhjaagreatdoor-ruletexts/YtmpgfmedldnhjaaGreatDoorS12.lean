/- Contracts: rule.Parse. -/
import Derived.Test.YtmpgfmedldnhjaaGreatDoorS11
namespace Go.Proofs.YtmpgfmedldnhjaaGreatDoor
open Go.RowKit Go.Shelf

/-- The rule of a text, or the error. -/
def PRS (s : ByteArray) (r : Ru) (er : Int) : Prop := (ruB r = true ∧ r.wf ∧ s.data.toList = textL r ∧ er = 0) ∨ ((∀ r', ruB r' = true → r'.wf → s.data.toList ≠ textL r') ∧ r = ru0 ∧ er = 71)
theorem PRS.one {s : ByteArray} {r r' : Ru} {er er' : Int} (h : PRS s r er) (h' : PRS s r' er') : r = r' ∧ er = er' := by
  rcases h with ⟨h1, h2, h3, h4⟩ | ⟨h1, h2, h3⟩ <;> rcases h' with ⟨g1, g2, g3, g4⟩ | ⟨g1, g2, g3⟩
  · exact ⟨text_inj h1 g1 h2 g2 (h3.symm.trans g3), h4.trans g4.symm⟩
  · exact absurd h3 (g1 r h1 h2)
  · exact absurd g3 (h1 r' g1 g2)
  · exact ⟨h2.trans g2.symm, h3.trans g3.symm⟩
theorem PRS.back {s : ByteArray} {r r' : Ru} {er : Int} (h : PRS s r er) (hr : ruB r' = true) (hw : r'.wf) (hs : s.data.toList = textL r') : r = r' ∧ er = 0 := h.one (.inl ⟨hr, hw, hs, rfl⟩)
def PrsOut (s : ByteArray) (w : World) (e : Ending) (w' : World) : Prop := ∃ (r : Ru) (er : Int), e = .returned (.tuple #[.agg (ruA r), .int .i64 er]) ∧ PRS s r er ∧ Below w.heap.size w w'
set_option maxRecDepth 100000 in
set_option maxHeartbeats 2000000 in
/-- rule.Parse. -/
theorem parse7_any (s : ByteArray) (w : World) (hT : Tb w) (hz : s.size ≤ 1000) : Calls Tryz.prog 17 #[.string s] w (PrsOut s w) := by
  have Z0 := At.new w (ruA ru0) 31
  have b0 : Below w.heap.size w (w.alloc (.cells (ruA ru0) 31)) := (Below.refl _ _).alloc (Nat.le_refl _) _
  have T0 := hT.alloc (.cells (ruA ru0) 31)
  rw [rd0] at Z0 b0 T0
  have hrd := read_any s _ T0 hz
  go_enter Tryz.func17, Tryz.ntmps17
  go_wp2_with fail
  refine hrd.mono ?_
  rintro e w1 ⟨r, ok, rfl, hwf, hback, b1⟩
  have HB := Lib.hid hback
  have B1 := b0.trans (b1.mono b0.size)
  have V1 := Z0.belows b1
  have Z1 := (Z0.belows b1).alloc (.cells (ruA r) 31)
  have R1 := At.new w1 (ruA r) 31
  have T1 := (T0.below b1).alloc (.cells (ruA r) 31)
  have hs1 : w.heap.size < w1.heap.size := (Z0.belows b1).lt
  have B2 : Below w.heap.size w (w1.alloc (.cells (ruA r) 31)) := B1.alloc (by omega) _
  have hrt := fun u : World => ruright_any r u
  have HWF := Lib.hid hwf
  have Ht : Hid (ruB r = true → ∀ u, Tb u → Calls Tryz.prog 15 #[.agg (ruA r)] u fun e w' => e = .returned (.string ⟨(textL r).toArray⟩) ∧ Below u.heap.size u w') := Lib.hid fun h u hu => text_right r u hu h hwf
  have Hno : Hid (ok = false ∨ ruB r = false ∨ textL r ≠ s.data.toList → PRS s ru0 71) := Lib.hid fun h => .inr ⟨fun r' h1 h2 h3 => by
    obtain ⟨rfl, h5⟩ := hback r' h1 h2 h3
    rcases h with h | h | h
    · rw [h5] at h; cases h
    · rw [h1] at h; cases h
    · exact h h3.symm, rfl, rfl⟩
  have Hyes : Hid (ruB r = true → textL r = s.data.toList → PRS s r 0) := Lib.hid fun h1 h2 => .inl ⟨h1, hwf, h2.symm, rfl⟩
  clear hback hwf hrd b0 T0 Z0 b1 hT HB
  obtain ⟨tl, htl⟩ : ∃ tl, tl = textL r := ⟨_, rfl⟩
  obtain ⟨rb, hrb⟩ : ∃ rb, rb = ruB r := ⟨_, rfl⟩
  rw [← htl] at Ht Hno Hyes
  rw [← hrb] at Ht Hno Hyes hrt
  clear htl hrb HWF
  obtain ⟨id, dv, pr, kd, f, t, pt⟩ := r
  rw [ruA_mk] at Z1 R1 T1 hrt Ht B2 ⊢
  cases ok with
  | false =>
    have hp := Hno.out (.inl rfl)
    have HPX := Lib.hid hp
    clear Ht Hno Hyes hp hrt T1 Z1
    have y0 := (V1.cell 0).trans rfl; have q0 := V1.frozen 0; have y1 := (V1.cell 1).trans rfl; have q1 := V1.frozen 1; have y2 := (V1.cell 2).trans rfl; have q2 := V1.frozen 2; have y3 := (V1.cell 3).trans rfl; have q3 := V1.frozen 3; have y4 := (V1.cell 4).trans rfl; have q4 := V1.frozen 4; have y5 := (V1.cell 5).trans rfl; have q5 := V1.frozen 5; have y6 := (V1.cell 6).trans rfl; have q6 := V1.frozen 6
    go_wp2_with fail
    have Z := (At.fill (y := ru0) (by rw [rd0]; exact V1) ru0).alloc (.cells #[.int .i64 id, .int .i64 dv, .int .i64 pr, .int .i64 kd, .int .u32 f, .int .u32 t, .int .i64 pt] 31)
    have Y0 := Z.cell 0; have Y1 := Z.cell 1; have Y2 := Z.cell 2; have Y3 := Z.cell 3; have Y4 := Z.cell 4; have Y5 := Z.cell 5; have Y6 := Z.cell 6
    have BF := (below_fill B1 (Nat.le_refl _) ru0).alloc (by simp [fillW]; omega) (.cells #[.int .i64 id, .int .i64 dv, .int .i64 pr, .int .i64 kd, .int .u32 f, .int .u32 t, .int .i64 pt] 31)
    unfold fillW at Y0 Y1 Y2 Y3 Y4 Y5 Y6
    refine bodyPost_ret (v := .tuple #[.agg (ruA ru0), .int .i64 71]) ?_ rfl ⟨ru0, 71, rfl, HPX.out, BF⟩
    simp [ruA, ru0] at Y0 Y1 Y2 Y3 Y4 Y5 Y6
    simp [results, Tryz.results17, go_sem, Y0, Y1, Y2, Y3, Y4, Y5, Y6, ruA, ru0]
  | true =>
    cases rb with
    | false =>
      have HPX := Lib.hid (Hno.out (.inr (.inl rfl)))
      clear Ht Hno Hyes T1 V1 B1
      have rr : ∀ (j : Nat), (w1.alloc (.cells #[.int .i64 id, .int .i64 dv, .int .i64 pr, .int .i64 kd, .int .u32 f, .int .u32 t, .int .i64 pt] 31)).cell? ⟨w1.heap.size, j, none⟩ = (#[.int .i64 id, .int .i64 dv, .int .i64 pr, .int .i64 kd, .int .u32 f, .int .u32 t, .int .i64 pt] : Array Value)[j]? := fun j => R1.cell j
      go_wp2_with fail
      refine (hrt _).mono ?_
      rintro e w2 ⟨rfl, b2⟩
      have Z2 := Z1.belows b2
      have B3 := B2.trans (b2.mono B2.size)
      have y0 := (Z2.cell 0).trans rfl; have q0 := Z2.frozen 0; have y1 := (Z2.cell 1).trans rfl; have q1 := Z2.frozen 1; have y2 := (Z2.cell 2).trans rfl; have q2 := Z2.frozen 2; have y3 := (Z2.cell 3).trans rfl; have q3 := Z2.frozen 3; have y4 := (Z2.cell 4).trans rfl; have q4 := Z2.frozen 4; have y5 := (Z2.cell 5).trans rfl; have q5 := Z2.frozen 5; have y6 := (Z2.cell 6).trans rfl; have q6 := Z2.frozen 6
      go_wp2_with fail
      have Z := At.fill (y := ru0) (by rw [rd0]; exact Z2) ru0
      have Y0 := Z.cell 0; have Y1 := Z.cell 1; have Y2 := Z.cell 2; have Y3 := Z.cell 3; have Y4 := Z.cell 4; have Y5 := Z.cell 5; have Y6 := Z.cell 6
      unfold fillW at Y0 Y1 Y2 Y3 Y4 Y5 Y6
      refine bodyPost_ret (v := .tuple #[.agg (ruA ru0), .int .i64 71]) ?_ rfl ⟨ru0, 71, rfl, HPX.out, below_fill B3 (Nat.le_refl _) ru0⟩
      simp [ruA, ru0] at Y0 Y1 Y2 Y3 Y4 Y5 Y6
      simp [results, Tryz.results17, go_sem, Y0, Y1, Y2, Y3, Y4, Y5, Y6, ruA, ru0]
    | true =>
      go_wp2_with fail
      refine (hrt _).mono ?_
      rintro e w2 ⟨rfl, b2⟩
      have Z2 := Z1.belows b2
      have R2 := R1.belows b2
      have B3 := B2.trans (b2.mono B2.size)
      have T2 := T1.below b2
      have x0 := (R2.cell 0).trans rfl; have x1 := (R2.cell 1).trans rfl; have x2 := (R2.cell 2).trans rfl; have x3 := (R2.cell 3).trans rfl; have x4 := (R2.cell 4).trans rfl; have x5 := (R2.cell 5).trans rfl; have x6 := (R2.cell 6).trans rfl
      have ht := Ht.out (by trivial) w2 T2
      clear Z1 R1 B2 T1 hrt V1 B1
      go_wp2_with fail
      refine ht.mono ?_
      rintro e w3 ⟨rfl, b3⟩
      have Z3 := Z2.belows b3
      have R3 := R2.belows b3
      have B4 := B3.trans (b3.mono B3.size)
      clear x0 x1 x2 x3 x4 x5 x6 Z2 R2 B3 T2 ht Ht
      have y0 := (Z3.cell 0).trans rfl; have q0 := Z3.frozen 0; have y1 := (Z3.cell 1).trans rfl; have q1 := Z3.frozen 1; have y2 := (Z3.cell 2).trans rfl; have q2 := Z3.frozen 2; have y3 := (Z3.cell 3).trans rfl; have q3 := Z3.frozen 3; have y4 := (Z3.cell 4).trans rfl; have q4 := Z3.frozen 4; have y5 := (Z3.cell 5).trans rfl; have q5 := Z3.frozen 5; have y6 := (Z3.cell 6).trans rfl; have q6 := Z3.frozen 6
      have x0 := (R3.cell 0).trans rfl; have x1 := (R3.cell 1).trans rfl; have x2 := (R3.cell 2).trans rfl; have x3 := (R3.cell 3).trans rfl; have x4 := (R3.cell 4).trans rfl; have x5 := (R3.cell 5).trans rfl; have x6 := (R3.cell 6).trans rfl
      by_cases he : tl = s.data.toList
      · have hd : ((⟨tl.toArray⟩ : ByteArray).toList == s.toList) = true := by rw [beqS]; exact decide_eq_true (str_eq (by simpa using he))
        have HPX := Lib.hid (Hyes.out (by trivial) he)
        have hss : (⟨tl.toArray⟩ : ByteArray) = s := str_eq (by simpa using he)
        have HS := Lib.hid hss
        clear Hno Hyes he hss
        generalize (⟨tl.toArray⟩ : ByteArray) = TS at hd HS
        go_wp2_with fail
        have Z := At.fill (y := ru0) (by rw [rd0]; exact Z3) ⟨id, dv, pr, kd, f, t, pt⟩
        have Y0 := Z.cell 0; have Y1 := Z.cell 1; have Y2 := Z.cell 2; have Y3 := Z.cell 3; have Y4 := Z.cell 4; have Y5 := Z.cell 5; have Y6 := Z.cell 6
        unfold fillW at Y0 Y1 Y2 Y3 Y4 Y5 Y6
        refine bodyPost_ret (v := .tuple #[.agg (ruA ⟨id, dv, pr, kd, f, t, pt⟩), .int .i64 0]) ?_ rfl ⟨⟨id, dv, pr, kd, f, t, pt⟩, 0, rfl, HPX.out, below_fill B4 (Nat.le_refl _) ⟨id, dv, pr, kd, f, t, pt⟩⟩
        simp [ruA, ru0] at Y0 Y1 Y2 Y3 Y4 Y5 Y6
        simp [results, Tryz.results17, go_sem, Y0, Y1, Y2, Y3, Y4, Y5, Y6, ruA, ru0]
      · have hd : ((⟨tl.toArray⟩ : ByteArray).toList == s.toList) = false := by rw [beqS]; exact decide_eq_false (fun h => he (by rw [← h]))
        have HPX := Lib.hid (Hno.out (.inr (.inr he)))
        clear Hno Hyes he
        generalize (⟨tl.toArray⟩ : ByteArray) = TS at hd
        go_wp2_with fail
        have Z := At.fill (y := ru0) (by rw [rd0]; exact Z3) ru0
        have Y0 := Z.cell 0; have Y1 := Z.cell 1; have Y2 := Z.cell 2; have Y3 := Z.cell 3; have Y4 := Z.cell 4; have Y5 := Z.cell 5; have Y6 := Z.cell 6
        unfold fillW at Y0 Y1 Y2 Y3 Y4 Y5 Y6
        refine bodyPost_ret (v := .tuple #[.agg (ruA ru0), .int .i64 71]) ?_ rfl ⟨ru0, 71, rfl, HPX.out, below_fill B4 (Nat.le_refl _) ru0⟩
        simp [ruA, ru0] at Y0 Y1 Y2 Y3 Y4 Y5 Y6
        simp [results, Tryz.results17, go_sem, Y0, Y1, Y2, Y3, Y4, Y5, Y6, ruA, ru0]
end Go.Proofs.YtmpgfmedldnhjaaGreatDoor
