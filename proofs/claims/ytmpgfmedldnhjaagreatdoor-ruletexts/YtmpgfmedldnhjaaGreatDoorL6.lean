/- RuleTexts, walked. -/
import Derived.Test.YtmpgfmedldnhjaaGreatDoorA1
import Derived.Test.YtmpgfmedldnhjaaGreatDoorR9
namespace Go.Proofs.YtmpgfmedldnhjaaGreatDoor
open Go.RowKit Go.Shelf

set_option maxRecDepth 100000 in
set_option maxHeartbeats 4000000 in
theorem texts_walk (r : Ru) (s : ByteArray) (w : World) (hwf : r.wf) (hT : Tb w) : Calls Tryz.prog 4 #[.agg (ruA r), .string s] w fun e w' => e = .returned (.bool true) ∧ Below w.heap.size w w' := by
  have HT : Hid (∀ u, Below w.heap.size w u → Tb u) := Lib.hid fun u hu => hT.below hu
  have O0 := At.new w (ruA r) 31
  have b0 : Below w.heap.size w (w.alloc (.cells (ruA r) 31)) := (Below.refl _ _).alloc (Nat.le_refl _) _
  have hr := fun u : World => drright_any r u hwf
  have H1 : Hid (ruB r = true → ∀ u, Tb u → Calls Tryz.prog 15 #[.agg (ruA r)] u fun e w' => e = .returned (.string ⟨(textL r).toArray⟩) ∧ Below u.heap.size u w') := Lib.hid fun h u hu => text_right r u hu h hwf
  have H2 : Hid (ruB r = true → ∀ u, Calls Tryz.prog 16 #[.agg (ruA r)] u fun e w' => e = .returned (.string ⟨(textL r).toArray⟩) ∧ Below u.heap.size u w') := Lib.hid fun h u => rtext7_any r u h hwf
  generalize (⟨(textL r).toArray⟩ : ByteArray) = T at H1 H2
  generalize ruB r = rb at hr H1 H2
  obtain ⟨id, dv, pr, kd, f, t, pt⟩ := r
  simp only [ruA_mk] at O0 b0 hr H1 H2 ⊢
  clear hT hwf
  go_enter Tryz.func4, Tryz.ntmps4
  go_wp2_with fail
  refine (hr _).mono ?_
  rintro e w1 ⟨rfl, b1⟩
  have O1 := O0.belows b1
  have bb1 := b0.trans (b1.mono b0.size)
  clear hr O0 b0 b1
  have x0 : ∀ x : Sub w1, x.u.cell? ⟨w.heap.size, 0, none⟩ = some (.int .i64 id) := fun x => ((O1.belows x.h).cell 0).trans rfl
  have x1 : ∀ x : Sub w1, x.u.cell? ⟨w.heap.size, 1, none⟩ = some (.int .i64 dv) := fun x => ((O1.belows x.h).cell 1).trans rfl
  have x2 : ∀ x : Sub w1, x.u.cell? ⟨w.heap.size, 2, none⟩ = some (.int .i64 pr) := fun x => ((O1.belows x.h).cell 2).trans rfl
  have x3 : ∀ x : Sub w1, x.u.cell? ⟨w.heap.size, 3, none⟩ = some (.int .i64 kd) := fun x => ((O1.belows x.h).cell 3).trans rfl
  have x4 : ∀ x : Sub w1, x.u.cell? ⟨w.heap.size, 4, none⟩ = some (.int .u32 f) := fun x => ((O1.belows x.h).cell 4).trans rfl
  have x5 : ∀ x : Sub w1, x.u.cell? ⟨w.heap.size, 5, none⟩ = some (.int .u32 t) := fun x => ((O1.belows x.h).cell 5).trans rfl
  have x6 : ∀ x : Sub w1, x.u.cell? ⟨w.heap.size, 6, none⟩ = some (.int .i64 pt) := fun x => ((O1.belows x.h).cell 6).trans rfl
  have HB1 := Lib.hid bb1
  cases rb with
  | false =>
    clear H1 H2 x0 x1 x2 x3 x4 x5 x6 O1 bb1
    go_upto_region 2 with (fail)
    refine wp_region_cls (by kernel_rfl) (by kernel_rfl) ?_
    repeat (go_big_quiet_step (fail))
    refine wpQuiet_nil ?_
    rintro w2 ⟨x2', hx⟩
    have b2 := x2'.h
    rw [← hx] at b2
    clear hx x2'
    have bb2 := HB1.out.trans (b2.mono HB1.out.size)
    clear b2 HB1
    by_cases hlong : 80 < s.size
    · have dl : decide ((80 : Int) < (s.size : Int)) = true := by simp; omega
      have dln : decide (80 < s.size) = true := by simp; omega
      have ha := alive_any w2 (HT.out _ bb2)
      go_wp2_with fail
      refine ha.mono ?_
      rintro e w3 ⟨rfl, b3⟩
      go_wp2
      go_ret
      exact ⟨rfl, bb2.trans (b3.mono bb2.size)⟩
    · have dl : decide ((80 : Int) < (s.size : Int)) = false := by simp; omega
      have dln : decide (80 < s.size) = false := by simp; omega
      have hp := parse7_any s w2 (HT.out _ bb2) (by omega)
      have hq := fun u : World => rparse7_any s u (by omega)
      go_wp2_with fail
      refine hp.mono ?_
      rintro e w3 ⟨x, ex, rfl, px, b3⟩
      have bb3 := bb2.trans (b3.mono bb2.size)
      have bb4 := bb3.alloc bb3.size (.cells (ruA x) 31)
      have X4 := At.new w3 (ruA x) 31
      have PX := Lib.hid px
      clear px hp b3
      obtain ⟨id', dv', pr', kd', f', t', pt'⟩ := x
      rw [ruA_mk] at X4 bb4 ⊢
      go_wp2_with fail
      refine (hq _).mono ?_
      rintro e w5 ⟨y, ey, rfl, py, b5⟩
      obtain ⟨rfl, rfl⟩ := PX.out.one py
      have X5 := (X4.belows b5).alloc (.cells #[.int .i64 id', .int .i64 dv', .int .i64 pr', .int .i64 kd', .int .u32 f', .int .u32 t', .int .i64 pt'] 31)
      have Y5 := At.new w5 #[.int .i64 id', .int .i64 dv', .int .i64 pr', .int .i64 kd', .int .u32 f', .int .u32 t', .int .i64 pt'] 31
      have bb5 := (bb4.trans (b5.mono bb4.size)).alloc (bb4.trans (b5.mono bb4.size)).size (.cells #[.int .i64 id', .int .i64 dv', .int .i64 pr', .int .i64 kd', .int .u32 f', .int .u32 t', .int .i64 pt'] 31)
      have heq := eql_ru ⟨id', dv', pr', kd', f', t', pt'⟩ ⟨id', dv', pr', kd', f', t', pt'⟩
      rw [show decide ((⟨id', dv', pr', kd', f', t', pt'⟩ : Ru) = ⟨id', dv', pr', kd', f', t', pt'⟩) = true from decide_eq_true rfl, ruA_mk] at heq
      rw [ruA_mk]
      have dq : (ex == ex) = true := by simp
      have ha := alive_any _ (HT.out _ bb5)
      clear hq py PX X4 b5 bb4 bb3
      go_wp2_with fail
      refine ha.mono ?_
      rintro e w6 ⟨rfl, b6⟩
      have X6 := X5.belows b6
      have Y6 := Y5.belows b6
      have x0 := (X6.cell 0).trans rfl; have x1 := (X6.cell 1).trans rfl; have x2 := (X6.cell 2).trans rfl; have x3 := (X6.cell 3).trans rfl; have x4 := (X6.cell 4).trans rfl; have x5 := (X6.cell 5).trans rfl; have x6 := (X6.cell 6).trans rfl
      have y0 := (Y6.cell 0).trans rfl; have y1 := (Y6.cell 1).trans rfl; have y2 := (Y6.cell 2).trans rfl; have y3 := (Y6.cell 3).trans rfl; have y4 := (Y6.cell 4).trans rfl; have y5 := (Y6.cell 5).trans rfl; have y6 := (Y6.cell 6).trans rfl
      have HBB := Lib.hid (bb5.trans (b6.mono bb5.size))
      clear ha X5 Y5 X6 Y6 b6 bb5
      go_wp2
      go_ret
      exact ⟨rfl, HBB.out⟩
  | true =>
    have kt : ∀ x : Sub w1, Calls Tryz.prog 15 #[.agg #[.int .i64 id, .int .i64 dv, .int .i64 pr, .int .i64 kd, .int .u32 f, .int .u32 t, .int .i64 pt]] x.u fun e w' => e = .returned (.string T) ∧ Below x.u.heap.size x.u w' := fun x => H1.out rfl x.u (HT.out _ (HB1.out.trans (x.h.mono HB1.out.size)))
    have kr : ∀ x : Sub w1, Calls Tryz.prog 16 #[.agg #[.int .i64 id, .int .i64 dv, .int .i64 pr, .int .i64 kd, .int .u32 f, .int .u32 t, .int .i64 pt]] x.u fun e w' => e = .returned (.string T) ∧ Below x.u.heap.size x.u w' := fun x => H2.out rfl x.u
    have dn : (T.toList != T.toList) = false := by simp
    clear H1 H2 O1 bb1
    go_upto_region 2 with (fail)
    refine wp_region_cls (by kernel_rfl) (by kernel_rfl) ?_
    repeat (go_big_quiet_step ((first | (go_at_call 15; exact Calls.cls_of (kt _)) | (go_at_call 16; exact Calls.cls_of (kr _)))))
    refine wpQuiet_nil ?_
    rintro w2 ⟨x2', hx⟩
    have b2 := x2'.h
    rw [← hx] at b2
    clear hx x2' x0 x1 x2 x3 x4 x5 x6 kt kr
    have bb2 := HB1.out.trans (b2.mono HB1.out.size)
    clear b2 HB1
    by_cases hlong : 80 < s.size
    · have dl : decide ((80 : Int) < (s.size : Int)) = true := by simp; omega
      have dln : decide (80 < s.size) = true := by simp; omega
      have ha := alive_any w2 (HT.out _ bb2)
      go_wp2_with fail
      refine ha.mono ?_
      rintro e w3 ⟨rfl, b3⟩
      go_wp2
      go_ret
      exact ⟨rfl, bb2.trans (b3.mono bb2.size)⟩
    · have dl : decide ((80 : Int) < (s.size : Int)) = false := by simp; omega
      have dln : decide (80 < s.size) = false := by simp; omega
      have hp := parse7_any s w2 (HT.out _ bb2) (by omega)
      have hq := fun u : World => rparse7_any s u (by omega)
      go_wp2_with fail
      refine hp.mono ?_
      rintro e w3 ⟨x, ex, rfl, px, b3⟩
      have bb3 := bb2.trans (b3.mono bb2.size)
      have bb4 := bb3.alloc bb3.size (.cells (ruA x) 31)
      have X4 := At.new w3 (ruA x) 31
      have PX := Lib.hid px
      clear px hp b3
      obtain ⟨id', dv', pr', kd', f', t', pt'⟩ := x
      rw [ruA_mk] at X4 bb4 ⊢
      go_wp2_with fail
      refine (hq _).mono ?_
      rintro e w5 ⟨y, ey, rfl, py, b5⟩
      obtain ⟨rfl, rfl⟩ := PX.out.one py
      have X5 := (X4.belows b5).alloc (.cells #[.int .i64 id', .int .i64 dv', .int .i64 pr', .int .i64 kd', .int .u32 f', .int .u32 t', .int .i64 pt'] 31)
      have Y5 := At.new w5 #[.int .i64 id', .int .i64 dv', .int .i64 pr', .int .i64 kd', .int .u32 f', .int .u32 t', .int .i64 pt'] 31
      have bb5 := (bb4.trans (b5.mono bb4.size)).alloc (bb4.trans (b5.mono bb4.size)).size (.cells #[.int .i64 id', .int .i64 dv', .int .i64 pr', .int .i64 kd', .int .u32 f', .int .u32 t', .int .i64 pt'] 31)
      have heq := eql_ru ⟨id', dv', pr', kd', f', t', pt'⟩ ⟨id', dv', pr', kd', f', t', pt'⟩
      rw [show decide ((⟨id', dv', pr', kd', f', t', pt'⟩ : Ru) = ⟨id', dv', pr', kd', f', t', pt'⟩) = true from decide_eq_true rfl, ruA_mk] at heq
      rw [ruA_mk]
      have dq : (ex == ex) = true := by simp
      have ha := alive_any _ (HT.out _ bb5)
      clear hq py PX X4 b5 bb4 bb3
      go_wp2_with fail
      refine ha.mono ?_
      rintro e w6 ⟨rfl, b6⟩
      have X6 := X5.belows b6
      have Y6 := Y5.belows b6
      have x0 := (X6.cell 0).trans rfl; have x1 := (X6.cell 1).trans rfl; have x2 := (X6.cell 2).trans rfl; have x3 := (X6.cell 3).trans rfl; have x4 := (X6.cell 4).trans rfl; have x5 := (X6.cell 5).trans rfl; have x6 := (X6.cell 6).trans rfl
      have y0 := (Y6.cell 0).trans rfl; have y1 := (Y6.cell 1).trans rfl; have y2 := (Y6.cell 2).trans rfl; have y3 := (Y6.cell 3).trans rfl; have y4 := (Y6.cell 4).trans rfl; have y5 := (Y6.cell 5).trans rfl; have y6 := (Y6.cell 6).trans rfl
      have HBB := Lib.hid (bb5.trans (b6.mono bb5.size))
      clear ha X5 Y5 X6 Y6 b6 bb5
      go_wp2
      go_ret
      exact ⟨rfl, HBB.out⟩
end Go.Proofs.YtmpgfmedldnhjaaGreatDoor
