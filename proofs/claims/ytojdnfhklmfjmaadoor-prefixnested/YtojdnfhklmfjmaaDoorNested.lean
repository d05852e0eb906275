/- PrefixNested's walk. -/
import Derived.Test.YtojdnfhklmfjmaaDoorA1
namespace Go.Proofs.YtojdnfhklmfjmaaDoor
open Go.RowKit

theorem two_boxes (w : World) (c1 c2 : Array Value) (t1 t2 : TypeId) : Below w.heap.size w ((w.alloc (.cells c1 t1)).alloc (.cells c2 t2)) := ((Below.refl _ w).alloc (Nat.le_refl _) _).alloc (by simp) _

set_option maxRecDepth 100000 in
set_option maxHeartbeats 1000000 in
theorem nested_a (a b : Nat) (n m : Int) (w : World) (hT : Tb w) (ha : a < 4294967296) (hr : rightB a n = false) :
    Calls Tryd.prog 8 #[.agg #[.int .u32 a, .int .i64 n], .agg #[.int .u32 b, .int .i64 m]] w fun e w' => e = .returned (.bool true) ∧ Below w.heap.size w w' := by
  have HT := Lib.hid hT
  clear hT
  go_enter Tryd.func8, Tryd.ntmps8
  go_wp2_with fail
  refine (right_any a n _ ha).mono ?_
  rw [hr]
  rintro e w1 ⟨rfl, b1⟩
  have hB1 : Below w.heap.size w w1 := (two_boxes w _ _ _ _).trans (b1.mono (by simp; omega))
  clear b1
  go_wp2_with fail
  refine (alive_any _ (HT.out.below hB1)).mono ?_
  rintro e w2 ⟨rfl, b2⟩
  go_wp2
  go_ret
  exact ⟨rfl, hB1.trans (b2.mono hB1.size)⟩
set_option maxRecDepth 100000 in
set_option maxHeartbeats 1000000 in
theorem nested_b (a b : Nat) (n m : Int) (w : World) (hT : Tb w) (ha : a < 4294967296) (hb : b < 4294967296) (hr : rightB a n = true) (hr2 : rightB b m = false) :
    Calls Tryd.prog 8 #[.agg #[.int .u32 a, .int .i64 n], .agg #[.int .u32 b, .int .i64 m]] w fun e w' => e = .returned (.bool true) ∧ Below w.heap.size w w' := by
  have HT := Lib.hid hT
  clear hT
  go_enter Tryd.func8, Tryd.ntmps8
  go_wp2_with fail
  refine (right_any a n _ ha).mono ?_
  rw [hr]
  rintro e w1 ⟨rfl, b1⟩
  have hB1 : Below w.heap.size w w1 := (two_boxes w _ _ _ _).trans (b1.mono (by simp; omega))
  have y1 := (At.new1 w (.cells #[.int .u32 a, .int .i64 n] 24) #[.int .u32 b, .int .i64 m] 24).belows b1
  have c0 : w1.cell? ⟨w.heap.size + 1, 0, none⟩ = some (.int .u32 b) := (y1.cell 0).trans rfl
  have c1 : w1.cell? ⟨w.heap.size + 1, 1, none⟩ = some (.int .i64 m) := (y1.cell 1).trans rfl
  clear b1 y1
  go_wp2_with fail
  refine (right_any b m _ hb).mono ?_
  rw [hr2]
  rintro e w2 ⟨rfl, b2⟩
  have hB2 : Below w.heap.size w w2 := hB1.trans (b2.mono hB1.size)
  clear b2
  go_wp2_with fail
  refine (alive_any _ (HT.out.below hB2)).mono ?_
  rintro e w3 ⟨rfl, b3⟩
  go_wp2
  go_ret
  exact ⟨rfl, hB2.trans (b3.mono hB2.size)⟩
set_option maxRecDepth 100000 in
set_option maxHeartbeats 1000000 in
theorem nested_c (a b : Nat) (n m : Int) (w : World) (hT : Tb w) (ha : a < 4294967296) (hb : b < 4294967296) (hr : rightB a n = true) (hr2 : rightB b m = true) (hlt : m < n) :
    Calls Tryd.prog 8 #[.agg #[.int .u32 a, .int .i64 n], .agg #[.int .u32 b, .int .i64 m]] w fun e w' => e = .returned (.bool true) ∧ Below w.heap.size w w' := by
  have HT := Lib.hid hT
  clear hT
  have d : decide (m < n) = true := by simpa using hlt
  go_enter Tryd.func8, Tryd.ntmps8
  go_wp2_with fail
  refine (right_any a n _ ha).mono ?_
  rw [hr]
  rintro e w1 ⟨rfl, b1⟩
  have hB1 : Below w.heap.size w w1 := (two_boxes w _ _ _ _).trans (b1.mono (by simp; omega))
  have x1 := ((At.new w #[.int .u32 a, .int .i64 n] 24).alloc (.cells #[.int .u32 b, .int .i64 m] 24)).belows b1
  have y1 := (At.new1 w (.cells #[.int .u32 a, .int .i64 n] 24) #[.int .u32 b, .int .i64 m] 24).belows b1
  have c0 : w1.cell? ⟨w.heap.size + 1, 0, none⟩ = some (.int .u32 b) := (y1.cell 0).trans rfl
  have c1 : w1.cell? ⟨w.heap.size + 1, 1, none⟩ = some (.int .i64 m) := (y1.cell 1).trans rfl
  clear b1
  go_wp2_with fail
  refine (right_any b m _ hb).mono ?_
  rw [hr2]
  rintro e w2 ⟨rfl, b2⟩
  have hB2 : Below w.heap.size w w2 := hB1.trans (b2.mono hB1.size)
  have g1 : w2.cell? ⟨w.heap.size, 1, none⟩ = some (.int .i64 n) := ((x1.belows b2).cell 1).trans rfl
  have g2 : w2.cell? ⟨w.heap.size + 1, 1, none⟩ = some (.int .i64 m) := ((y1.belows b2).cell 1).trans rfl
  clear b2 x1 y1 c0 c1
  go_wp2_with fail
  refine (alive_any _ (HT.out.below hB2)).mono ?_
  rintro e w3 ⟨rfl, b3⟩
  go_wp2
  go_ret
  exact ⟨rfl, hB2.trans (b3.mono hB2.size)⟩
/-- The two ranges behind the law's tests. -/
def RngIs (a k X : Nat) : Prop := ∀ u : World, Calls Tryd.prog 9 #[.agg #[.int .u32 a, .int .i64 k]] u fun e w' => e = .returned (.tuple #[.agg #[.int .u32 a, .int .u32 X], .int .i64 0]) ∧ Below u.heap.size u w'
set_option maxRecDepth 100000 in
set_option maxHeartbeats 2000000 in
theorem nested_d (a b k j X Y : Nat) (w : World) (hT : Tb w) (ha : a < 4294967296) (hb : b < 4294967296) (hr : rightB a k = true) (hr2 : rightB b j = true) (hkj : k ≤ j) (hX : RngIs a k X) (hY : RngIs b j Y)
    (h : (Y < a ∧ b < a) ∨ (X < b ∧ a < b ∧ X < Y ∧ a ≤ Y) ∨ (a ≤ b ∧ Y ≤ X ∧ a ≤ Y ∧ b ≤ X ∧ (k = j → a = b))) :
    Calls Tryd.prog 8 #[.agg #[.int .u32 a, .int .i64 k], .agg #[.int .u32 b, .int .i64 j]] w fun e w' => e = .returned (.bool true) ∧ Below w.heap.size w w' := by
  have HT := Lib.hid hT
  clear hT
  have d : ¬ (j < k) := by omega
  have d' : decide (j < k) = false := by simpa using hkj
  go_enter Tryd.func8, Tryd.ntmps8
  go_wp2_with fail
  refine (right_any a k _ ha).mono ?_
  rw [hr]
  rintro e w1 ⟨rfl, b1⟩
  have hB1 : Below w.heap.size w w1 := (two_boxes w _ _ _ _).trans (b1.mono (by simp; omega))
  have x1 := ((At.new w #[.int .u32 a, .int .i64 k] 24).alloc (.cells #[.int .u32 b, .int .i64 j] 24)).belows b1
  have y1 := (At.new1 w (.cells #[.int .u32 a, .int .i64 k] 24) #[.int .u32 b, .int .i64 j] 24).belows b1
  have c0 : w1.cell? ⟨w.heap.size + 1, 0, none⟩ = some (.int .u32 b) := (y1.cell 0).trans rfl
  have c1 : w1.cell? ⟨w.heap.size + 1, 1, none⟩ = some (.int .i64 j) := (y1.cell 1).trans rfl
  clear b1
  go_wp2_with fail
  refine (right_any b j _ hb).mono ?_
  rw [hr2]
  rintro e w2 ⟨rfl, b2⟩
  have hB2 : Below w.heap.size w w2 := hB1.trans (b2.mono hB1.size)
  have x2 := x1.belows b2
  have y2 := y1.belows b2
  have f0 : w2.cell? ⟨w.heap.size, 0, none⟩ = some (.int .u32 a) := (x2.cell 0).trans rfl
  have f1 : w2.cell? ⟨w.heap.size, 1, none⟩ = some (.int .i64 k) := (x2.cell 1).trans rfl
  have f2 : w2.cell? ⟨w.heap.size + 1, 1, none⟩ = some (.int .i64 j) := (y2.cell 1).trans rfl
  clear b2 x1 y1 c0 c1
  go_wp2_with fail
  refine (hX _).mono ?_
  rintro e w3 ⟨rfl, b3⟩
  have x3 := x2.belows b3
  have y3 := y2.belows b3
  have hB3 : Below w.heap.size w w3 := hB2.trans (b3.mono hB2.size)
  have hz3 : w.heap.size + 1 < w3.heap.size := y3.lt
  have c0 : w3.cell? ⟨w.heap.size + 1, 0, none⟩ = some (.int .u32 b) := (y3.cell 0).trans rfl
  have c1 : w3.cell? ⟨w.heap.size + 1, 1, none⟩ = some (.int .i64 j) := (y3.cell 1).trans rfl
  clear b3 x2 y2 f0 f1 f2
  go_wp2_with fail
  refine (hY _).mono ?_
  rintro e w4 ⟨rfl, b4⟩
  have x4 := (x3.alloc (.cells #[.int .u32 a, .int .u32 X] 26)).belows b4
  have y4 := (y3.alloc (.cells #[.int .u32 a, .int .u32 X] 26)).belows b4
  have z4 := (At.new w3 #[.int .u32 a, .int .u32 X] 26).belows b4
  have hB4 : Below w.heap.size w w4 := (hB3.alloc hB3.size _).trans (b4.mono (by simp; omega))
  have k0 : w4.cell? ⟨w3.heap.size, 0, none⟩ = some (.int .u32 a) := (z4.cell 0).trans rfl
  have k1 : w4.cell? ⟨w3.heap.size, 1, none⟩ = some (.int .u32 X) := (z4.cell 1).trans rfl
  have hz4 : w3.heap.size < w4.heap.size := z4.lt
  have X4 := Lib.hid x4
  have Y4 := Lib.hid y4
  clear b4 x3 y3 c0 c1 x4 y4 z4
  rcases h with ⟨h1, h2⟩ | ⟨h1, h2, h3, h4⟩ | ⟨h1, h2, h3, h4, h5⟩
  · have e0 : decide (a ≤ b) = false := by simp; omega
    have e1 : decide (Y < a) = true := by simp; omega
    by_cases hk : k < j
    · have g0 : decide (k < j) = true := by simpa using hk
      go_wp2_with (go_at_call 16; refine (alive_any _ (HT.out.below (hB4.alloc hB4.size _))).mono ?_; rintro e w5 ⟨rfl, b5⟩; have x5 := (X4.out.alloc _).belows b5; have y5 := (Y4.out.alloc _).belows b5; have m0 : w5.cell? ⟨w.heap.size, 0, none⟩ = some (.int .u32 a) := ((x5.cell 0).trans rfl); have m1 : w5.cell? ⟨w.heap.size, 1, none⟩ = some (.int .i64 k) := ((x5.cell 1).trans rfl); have m2 : w5.cell? ⟨w.heap.size + 1, 0, none⟩ = some (.int .u32 b) := ((y5.cell 0).trans rfl); have m3 : w5.cell? ⟨w.heap.size + 1, 1, none⟩ = some (.int .i64 j) := ((y5.cell 1).trans rfl); have hB5 := hB4.alloc hB4.size (.cells #[.int .u32 b, .int .u32 Y] 26) |>.trans (b5.mono (by simp; have := hB4.size; omega)); clear x5 y5 b5)
      go_ret
      exact ⟨rfl, hB5⟩
    · obtain rfl : k = j := by omega
      have g1 : ((a : Int) == (b : Int)) = false := by rw [beq_eq_false_iff_ne]; omega
      have g2 : (a == b) = false := by rw [beq_eq_false_iff_ne]; omega
      have g0 : decide (k < k) = false := by simp
      go_wp2_with (go_at_call 16; refine (alive_any _ (HT.out.below (hB4.alloc hB4.size _))).mono ?_; rintro e w5 ⟨rfl, b5⟩; have x5 := (X4.out.alloc _).belows b5; have y5 := (Y4.out.alloc _).belows b5; have m0 : w5.cell? ⟨w.heap.size, 0, none⟩ = some (.int .u32 a) := ((x5.cell 0).trans rfl); have m1 : w5.cell? ⟨w.heap.size, 1, none⟩ = some (.int .i64 k) := ((x5.cell 1).trans rfl); have m2 : w5.cell? ⟨w.heap.size + 1, 0, none⟩ = some (.int .u32 b) := ((y5.cell 0).trans rfl); have m3 : w5.cell? ⟨w.heap.size + 1, 1, none⟩ = some (.int .i64 k) := ((y5.cell 1).trans rfl); have hB5 := hB4.alloc hB4.size (.cells #[.int .u32 b, .int .u32 Y] 26) |>.trans (b5.mono (by simp; have := hB4.size; omega)); clear x5 y5 b5)
      go_ret
      exact ⟨rfl, hB5⟩
  · have e0 : decide (a ≤ b) = true := by simp; omega
    have e1 : decide (Y ≤ X) = false := by simp; omega
    have e2 : decide (Y < a) = false := by simp; omega
    have e3 : decide (X < b) = true := by simp; omega
    by_cases hk : k < j
    · have g0 : decide (k < j) = true := by simpa using hk
      go_wp2_with (go_at_call 16; refine (alive_any _ (HT.out.below (hB4.alloc hB4.size _))).mono ?_; rintro e w5 ⟨rfl, b5⟩; have x5 := (X4.out.alloc _).belows b5; have y5 := (Y4.out.alloc _).belows b5; have m0 : w5.cell? ⟨w.heap.size, 0, none⟩ = some (.int .u32 a) := ((x5.cell 0).trans rfl); have m1 : w5.cell? ⟨w.heap.size, 1, none⟩ = some (.int .i64 k) := ((x5.cell 1).trans rfl); have m2 : w5.cell? ⟨w.heap.size + 1, 0, none⟩ = some (.int .u32 b) := ((y5.cell 0).trans rfl); have m3 : w5.cell? ⟨w.heap.size + 1, 1, none⟩ = some (.int .i64 j) := ((y5.cell 1).trans rfl); have hB5 := hB4.alloc hB4.size (.cells #[.int .u32 b, .int .u32 Y] 26) |>.trans (b5.mono (by simp; have := hB4.size; omega)); clear x5 y5 b5)
      go_ret
      exact ⟨rfl, hB5⟩
    · obtain rfl : k = j := by omega
      have g1 : ((a : Int) == (b : Int)) = false := by rw [beq_eq_false_iff_ne]; omega
      have g2 : (a == b) = false := by rw [beq_eq_false_iff_ne]; omega
      have g0 : decide (k < k) = false := by simp
      go_wp2_with (go_at_call 16; refine (alive_any _ (HT.out.below (hB4.alloc hB4.size _))).mono ?_; rintro e w5 ⟨rfl, b5⟩; have x5 := (X4.out.alloc _).belows b5; have y5 := (Y4.out.alloc _).belows b5; have m0 : w5.cell? ⟨w.heap.size, 0, none⟩ = some (.int .u32 a) := ((x5.cell 0).trans rfl); have m1 : w5.cell? ⟨w.heap.size, 1, none⟩ = some (.int .i64 k) := ((x5.cell 1).trans rfl); have m2 : w5.cell? ⟨w.heap.size + 1, 0, none⟩ = some (.int .u32 b) := ((y5.cell 0).trans rfl); have m3 : w5.cell? ⟨w.heap.size + 1, 1, none⟩ = some (.int .i64 k) := ((y5.cell 1).trans rfl); have hB5 := hB4.alloc hB4.size (.cells #[.int .u32 b, .int .u32 Y] 26) |>.trans (b5.mono (by simp; have := hB4.size; omega)); clear x5 y5 b5)
      go_ret
      exact ⟨rfl, hB5⟩
  · have e0 : decide (a ≤ b) = true := by simp; omega
    have e1 : decide (Y ≤ X) = true := by simp; omega
    have e2 : decide (Y < a) = false := by simp; omega
    have e3 : decide (X < b) = false := by simp; omega
    by_cases hk : k < j
    · have g0 : decide (k < j) = true := by simpa using hk
      go_wp2_with (go_at_call 16; refine (alive_any _ (HT.out.below (hB4.alloc hB4.size _))).mono ?_; rintro e w5 ⟨rfl, b5⟩; have x5 := (X4.out.alloc _).belows b5; have y5 := (Y4.out.alloc _).belows b5; have m0 : w5.cell? ⟨w.heap.size, 0, none⟩ = some (.int .u32 a) := ((x5.cell 0).trans rfl); have m1 : w5.cell? ⟨w.heap.size, 1, none⟩ = some (.int .i64 k) := ((x5.cell 1).trans rfl); have m2 : w5.cell? ⟨w.heap.size + 1, 0, none⟩ = some (.int .u32 b) := ((y5.cell 0).trans rfl); have m3 : w5.cell? ⟨w.heap.size + 1, 1, none⟩ = some (.int .i64 j) := ((y5.cell 1).trans rfl); have hB5 := hB4.alloc hB4.size (.cells #[.int .u32 b, .int .u32 Y] 26) |>.trans (b5.mono (by simp; have := hB4.size; omega)); clear x5 y5 b5)
      go_ret
      exact ⟨rfl, hB5⟩
    · obtain rfl : k = j := by omega
      obtain rfl : a = b := h5 rfl
      have g0 : decide (k < k) = false := by simp
      go_wp2_with (go_at_call 16; refine (alive_any _ (HT.out.below (hB4.alloc hB4.size _))).mono ?_; rintro e w5 ⟨rfl, b5⟩; have x5 := (X4.out.alloc _).belows b5; have y5 := (Y4.out.alloc _).belows b5; have m0 : w5.cell? ⟨w.heap.size, 0, none⟩ = some (.int .u32 a) := ((x5.cell 0).trans rfl); have m1 : w5.cell? ⟨w.heap.size, 1, none⟩ = some (.int .i64 k) := ((x5.cell 1).trans rfl); have m2 : w5.cell? ⟨w.heap.size + 1, 0, none⟩ = some (.int .u32 a) := ((y5.cell 0).trans rfl); have m3 : w5.cell? ⟨w.heap.size + 1, 1, none⟩ = some (.int .i64 k) := ((y5.cell 1).trans rfl); have hB5 := hB4.alloc hB4.size (.cells #[.int .u32 a, .int .u32 Y] 26) |>.trans (b5.mono (by simp; have := hB4.size; omega)); clear x5 y5 b5)
      go_ret
      exact ⟨rfl, hB5⟩
theorem nested_walk (a b : Nat) (n m : Int) (w : World) (hT : Tb w) (ha : a < 4294967296) (hb : b < 4294967296) :
    Calls Tryd.prog 8 #[.agg #[.int .u32 a, .int .i64 n], .agg #[.int .u32 b, .int .i64 m]] w fun e w' => e = .returned (.bool true) ∧ Below w.heap.size w w' := by
  by_cases hr : rightB a n = true
  · by_cases hr2 : rightB b m = true
    · by_cases hlt : m < n
      · exact nested_c a b n m w hT ha hb hr hr2 hlt
      · obtain ⟨k, rfl, hk, hm⟩ := rightB_yes hr
        obtain ⟨j, rfl, hj, hm2⟩ := rightB_yes hr2
        have hp := sz_pos k
        have hp2 := sz_pos j
        refine nested_d a b k j (a + (sz k - 1)) (b + (sz j - 1)) w hT ha hb hr hr2 (by omega) (fun u => range_yes a k u ha hk hm) (fun u => range_yes b j u hb hj hm2) ?_
        rcases nested hm hm2 (show k ≤ j by omega) with h | h | ⟨h1, h2⟩
        · left; omega
        · right; left; omega
        · right; right
          refine ⟨h1, by omega, by omega, by omega, fun e => ?_⟩
          subst e; omega
    · exact nested_b a b n m w hT ha hb hr (by simpa using hr2)
  · exact nested_a a b n m w hT ha (by simpa using hr)
end Go.Proofs.YtojdnfhklmfjmaaDoor
