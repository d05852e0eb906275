/- RuleBack, walked. -/
import Derived.Test.YtmpgfmedldnhjaaDoorA1
namespace Go.Proofs.YtmpgfmedldnhjaaDoor
open Go.RowKit Go.Shelf

set_option maxRecDepth 100000 in
set_option maxHeartbeats 4000000 in
theorem back_walk (x y : Ru) (w : World) (hwx : x.wf) (hwy : y.wf) (hT : Tb w) : Calls Tryd.prog 5 #[.agg (ruA x), .agg (ruA y)] w fun e w' => e = .returned (.bool true) ∧ Below w.heap.size w w' := by
  have HT : Hid (∀ u, Below w.heap.size w u → Tb u) := Lib.hid fun u hu => hT.below hu
  have hrx := fun u : World => ruright_any x u
  have hry := fun u : World => ruright_any y u
  have X0 := (At.new w (ruA x) 30).alloc (.cells (ruA y) 30)
  have Y0 := At.new1 w (.cells (ruA x) 30) (ruA y) 30
  have b0 : Below w.heap.size w ((w.alloc (.cells (ruA x) 30)).alloc (.cells (ruA y) 30)) := ((Below.refl _ w).alloc (Nat.le_refl _) _).alloc (by simp) _
  have HE : Hid (ruB x = true → ruB y = true → ((⟨(textL x).toArray⟩ : ByteArray).toList == (⟨(textL y).toArray⟩ : ByteArray).toList) = decide (x = y)) := Lib.hid fun h1 h2 => by
    rw [beqS]
    by_cases h : x = y
    · subst h; simp
    · rw [decide_eq_false h]; apply decide_eq_false
      intro he
      exact h (text_inj h1 h2 hwx hwy (by have := congrArg (fun b : ByteArray => b.data.toList) he; simpa using this))
  have HXT : Hid (ruB x = true → ∀ u, Tb u → Calls Tryd.prog 17 #[.agg (ruA x)] u fun e w' => e = .returned (.string ⟨(textL x).toArray⟩) ∧ Below u.heap.size u w') := Lib.hid fun h u hu => text_right x u hu h hwx
  have HYT : Hid (ruB y = true → ∀ u, Tb u → Calls Tryd.prog 17 #[.agg (ruA y)] u fun e w' => e = .returned (.string ⟨(textL y).toArray⟩) ∧ Below u.heap.size u w') := Lib.hid fun h u hu => text_right y u hu h hwy
  have HP : Hid (ruB x = true → ∀ u, Tb u → Calls Tryd.prog 16 #[.string ⟨(textL x).toArray⟩] u fun e w' => e = .returned (.tuple #[.agg (ruA x), .int .i64 0]) ∧ Below u.heap.size u w') := Lib.hid fun h u hu => by
    refine (parse7_any _ u hu (by rw [str_len]; have := text_len h; omega)).mono ?_
    rintro e w' ⟨r, er, rfl, hp, hb⟩
    obtain ⟨rfl, rfl⟩ := hp.back h hwx rfl
    exact ⟨rfl, hb⟩
  have hexy := eql_ru x y
  have hexx := eql_ru x x
  rw [show decide (x = x) = true from decide_eq_true rfl] at hexx
  generalize decide (x = y) = q at HE hexy
  obtain ⟨rx, hx⟩ : ∃ rx, rx = ruB x := ⟨_, rfl⟩
  obtain ⟨ry, hy⟩ : ∃ ry, ry = ruB y := ⟨_, rfl⟩
  rw [← hx] at hrx HE HXT HP
  rw [← hy] at hry HE HYT
  generalize (⟨(textL x).toArray⟩ : ByteArray) = SX at HE HXT HP
  generalize (⟨(textL y).toArray⟩ : ByteArray) = SY at HE HYT
  clear hx hy hwx hwy hT
  obtain ⟨id, dv, pr, kd, f, t, pt⟩ := x
  obtain ⟨id', dv', pr', kd', f', t', pt'⟩ := y
  rw [ruA_mk] at X0 Y0 b0 hrx hry HXT HYT HP hexy hexx ⊢
  simp only [ruA_mk] at X0 Y0 b0 hrx hry HXT HYT HP hexy hexx ⊢
  cases rx with
  | false =>
    go_enter Tryd.func5, Tryd.ntmps5
    go_wp2_with fail
    refine (hrx _).mono ?_
    rintro e w1 ⟨rfl, b1⟩
    have bb1 := b0.trans (b1.mono b0.size)
    have ha := alive_any w1 (HT.out _ bb1)
    go_wp2_with fail
    refine ha.mono ?_
    rintro e w2 ⟨rfl, b2⟩
    go_wp2
    go_ret
    exact ⟨rfl, bb1.trans (b2.mono bb1.size)⟩
  | true =>
    cases ry with
    | false =>
      go_enter Tryd.func5, Tryd.ntmps5
      go_wp2_with fail
      refine (hrx _).mono ?_
      rintro e w1 ⟨rfl, b1⟩
      have bb1 := b0.trans (b1.mono b0.size)
      have Y1 := Y0.belows b1
      have y0 := (Y1.cell 0).trans rfl; have y1 := (Y1.cell 1).trans rfl; have y2 := (Y1.cell 2).trans rfl; have y3 := (Y1.cell 3).trans rfl; have y4 := (Y1.cell 4).trans rfl; have y5 := (Y1.cell 5).trans rfl; have y6 := (Y1.cell 6).trans rfl
      go_wp2_with fail
      refine (hry _).mono ?_
      rintro e w2 ⟨rfl, b2⟩
      have bb2 := bb1.trans (b2.mono bb1.size)
      have ha := alive_any w2 (HT.out _ bb2)
      go_wp2_with fail
      refine ha.mono ?_
      rintro e w3 ⟨rfl, b3⟩
      go_wp2
      go_ret
      exact ⟨rfl, bb2.trans (b3.mono bb2.size)⟩
    | true =>
      have heq := HE.out rfl rfl
      have hxt := HXT.out rfl
      have hyt := HYT.out rfl
      have hp := HP.out rfl
      clear HE HXT HYT HP
      go_enter Tryd.func5, Tryd.ntmps5
      go_wp2_with fail
      refine (hrx _).mono ?_
      rintro e w1 ⟨rfl, b1⟩
      have bb1 := b0.trans (b1.mono b0.size)
      have Y1 := Y0.belows b1
      have X1 := X0.belows b1
      have y0 := (Y1.cell 0).trans rfl; have y1 := (Y1.cell 1).trans rfl; have y2 := (Y1.cell 2).trans rfl; have y3 := (Y1.cell 3).trans rfl; have y4 := (Y1.cell 4).trans rfl; have y5 := (Y1.cell 5).trans rfl; have y6 := (Y1.cell 6).trans rfl
      clear X0 Y0 b0 b1
      go_wp2_with fail
      refine (hry _).mono ?_
      rintro e w2 ⟨rfl, b2⟩
      have bb2 := bb1.trans (b2.mono bb1.size)
      have Y2 := Y1.belows b2
      have X2 := X1.belows b2
      clear y0 y1 y2 y3 y4 y5 y6 X1 Y1 bb1 b2
      have y0 := (X2.cell 0).trans rfl; have y1 := (X2.cell 1).trans rfl; have y2 := (X2.cell 2).trans rfl; have y3 := (X2.cell 3).trans rfl; have y4 := (X2.cell 4).trans rfl; have y5 := (X2.cell 5).trans rfl; have y6 := (X2.cell 6).trans rfl
      have ht := hxt w2 (HT.out _ bb2)
      go_wp2_with fail
      refine ht.mono ?_
      rintro e w3 ⟨rfl, b3⟩
      have bb3 := bb2.trans (b3.mono bb2.size)
      have hpp := hp w3 (HT.out _ bb3)
      have Y3 := Y2.belows b3
      have X3 := X2.belows b3
      clear y0 y1 y2 y3 y4 y5 y6 X2 Y2 bb2 b3 ht
      go_wp2_with fail
      refine hpp.mono ?_
      rintro e w4 ⟨rfl, b4⟩
      have bb4 := bb3.trans (b4.mono bb3.size)
      have Y4 := (Y3.belows b4).alloc (.cells #[.int .i64 id, .int .i64 dv, .int .i64 pr, .int .i64 kd, .int .u32 f, .int .u32 t, .int .i64 pt] 30)
      have X4 := (X3.belows b4).alloc (.cells #[.int .i64 id, .int .i64 dv, .int .i64 pr, .int .i64 kd, .int .u32 f, .int .u32 t, .int .i64 pt] 30)
      have P4 := At.new w4 #[.int .i64 id, .int .i64 dv, .int .i64 pr, .int .i64 kd, .int .u32 f, .int .u32 t, .int .i64 pt] 30
      have bb5 := bb4.alloc bb4.size (.cells #[.int .i64 id, .int .i64 dv, .int .i64 pr, .int .i64 kd, .int .u32 f, .int .u32 t, .int .i64 pt] 30)
      have hsz : w.heap.size + 1 < w4.heap.size := (Y3.belows b4).lt
      have hsz0 : w.heap.size < w4.heap.size := by omega
      clear X3 Y3 bb3 b4 hpp bb4
      go_wp2_with fail
      obtain ⟨w5, hw5⟩ : ∃ w5, w5 = w4.alloc (.cells #[.int .i64 id, .int .i64 dv, .int .i64 pr, .int .i64 kd, .int .u32 f, .int .u32 t, .int .i64 pt] 30) := ⟨_, rfl⟩
      rw [← hw5] at X4 Y4 P4 bb5 ⊢
      clear hw5
      have ka : ∀ x : Sub w5, Calls Tryd.prog 7 #[] x.u fun e w' => e = .returned (.bool true) ∧ Below x.u.heap.size x.u w' := fun x => alive_any x.u (HT.out _ (bb5.trans (x.h.mono bb5.size)))
      have kt : ∀ (v : Value) (s : ByteArray), (v = .agg #[.int .i64 id, .int .i64 dv, .int .i64 pr, .int .i64 kd, .int .u32 f, .int .u32 t, .int .i64 pt] ∧ s = SX) ∨ (v = .agg #[.int .i64 id', .int .i64 dv', .int .i64 pr', .int .i64 kd', .int .u32 f', .int .u32 t', .int .i64 pt'] ∧ s = SY) → ∀ x : Sub w5, Calls Tryd.prog 17 #[v] x.u fun e w' => e = .returned (.string s) ∧ Below x.u.heap.size x.u w' := by
        rintro v s (⟨rfl, rfl⟩ | ⟨rfl, rfl⟩) x
        · exact hxt x.u (HT.out _ (bb5.trans (x.h.mono bb5.size)))
        · exact hyt x.u (HT.out _ (bb5.trans (x.h.mono bb5.size)))
      have x0 : ∀ x : Sub w5, x.u.cell? ⟨w.heap.size, 0, none⟩ = some (.int .i64 id) := fun x => ((X4.belows x.h).cell 0).trans rfl
      have x1 : ∀ x : Sub w5, x.u.cell? ⟨w.heap.size, 1, none⟩ = some (.int .i64 dv) := fun x => ((X4.belows x.h).cell 1).trans rfl
      have x2 : ∀ x : Sub w5, x.u.cell? ⟨w.heap.size, 2, none⟩ = some (.int .i64 pr) := fun x => ((X4.belows x.h).cell 2).trans rfl
      have x3 : ∀ x : Sub w5, x.u.cell? ⟨w.heap.size, 3, none⟩ = some (.int .i64 kd) := fun x => ((X4.belows x.h).cell 3).trans rfl
      have x4 : ∀ x : Sub w5, x.u.cell? ⟨w.heap.size, 4, none⟩ = some (.int .u32 f) := fun x => ((X4.belows x.h).cell 4).trans rfl
      have x5 : ∀ x : Sub w5, x.u.cell? ⟨w.heap.size, 5, none⟩ = some (.int .u32 t) := fun x => ((X4.belows x.h).cell 5).trans rfl
      have x6 : ∀ x : Sub w5, x.u.cell? ⟨w.heap.size, 6, none⟩ = some (.int .i64 pt) := fun x => ((X4.belows x.h).cell 6).trans rfl
      have y0 : ∀ x : Sub w5, x.u.cell? ⟨w.heap.size + 1, 0, none⟩ = some (.int .i64 id') := fun x => ((Y4.belows x.h).cell 0).trans rfl
      have y1 : ∀ x : Sub w5, x.u.cell? ⟨w.heap.size + 1, 1, none⟩ = some (.int .i64 dv') := fun x => ((Y4.belows x.h).cell 1).trans rfl
      have y2 : ∀ x : Sub w5, x.u.cell? ⟨w.heap.size + 1, 2, none⟩ = some (.int .i64 pr') := fun x => ((Y4.belows x.h).cell 2).trans rfl
      have y3 : ∀ x : Sub w5, x.u.cell? ⟨w.heap.size + 1, 3, none⟩ = some (.int .i64 kd') := fun x => ((Y4.belows x.h).cell 3).trans rfl
      have y4 : ∀ x : Sub w5, x.u.cell? ⟨w.heap.size + 1, 4, none⟩ = some (.int .u32 f') := fun x => ((Y4.belows x.h).cell 4).trans rfl
      have y5 : ∀ x : Sub w5, x.u.cell? ⟨w.heap.size + 1, 5, none⟩ = some (.int .u32 t') := fun x => ((Y4.belows x.h).cell 5).trans rfl
      have y6 : ∀ x : Sub w5, x.u.cell? ⟨w.heap.size + 1, 6, none⟩ = some (.int .i64 pt') := fun x => ((Y4.belows x.h).cell 6).trans rfl
      have p0 : ∀ x : Sub w5, x.u.cell? ⟨w4.heap.size, 0, none⟩ = some (.int .i64 id) := fun x => ((P4.belows x.h).cell 0).trans rfl
      have p1 : ∀ x : Sub w5, x.u.cell? ⟨w4.heap.size, 1, none⟩ = some (.int .i64 dv) := fun x => ((P4.belows x.h).cell 1).trans rfl
      have p2 : ∀ x : Sub w5, x.u.cell? ⟨w4.heap.size, 2, none⟩ = some (.int .i64 pr) := fun x => ((P4.belows x.h).cell 2).trans rfl
      have p3 : ∀ x : Sub w5, x.u.cell? ⟨w4.heap.size, 3, none⟩ = some (.int .i64 kd) := fun x => ((P4.belows x.h).cell 3).trans rfl
      have p4 : ∀ x : Sub w5, x.u.cell? ⟨w4.heap.size, 4, none⟩ = some (.int .u32 f) := fun x => ((P4.belows x.h).cell 4).trans rfl
      have p5 : ∀ x : Sub w5, x.u.cell? ⟨w4.heap.size, 5, none⟩ = some (.int .u32 t) := fun x => ((P4.belows x.h).cell 5).trans rfl
      have p6 : ∀ x : Sub w5, x.u.cell? ⟨w4.heap.size, 6, none⟩ = some (.int .i64 pt) := fun x => ((P4.belows x.h).cell 6).trans rfl
      have HBB := Lib.hid bb5
      have dq : (q == q) = true := by simp
      clear X4 Y4 P4 bb5 hxt hyt hp HT hrx hry hsz hsz0
      refine wp_region_cls (by kernel_rfl) (by kernel_rfl) ?_
      repeat (go_big_quiet_step ((first | (go_at_call 7; exact Calls.cls_of (ka _)) | (go_at_call 17; exact Calls.cls_of (kt _ _ (by first | exact .inl ⟨rfl, rfl⟩ | exact .inr ⟨rfl, rfl⟩) _)))))
      refine wpQuiet_nil ?_
      rintro w6 ⟨x6', hx⟩
      have b6 := x6'.h
      rw [← hx] at b6
      clear hx x6'
      go_wp2
      go_ret
      exact ⟨rfl, HBB.out.trans (b6.mono HBB.out.size)⟩
end Go.Proofs.YtmpgfmedldnhjaaDoor
