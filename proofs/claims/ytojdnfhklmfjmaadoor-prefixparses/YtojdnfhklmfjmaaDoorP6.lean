/- Contracts: prefix.Of, the law's 'same'. -/
import Derived.Test.YtojdnfhklmfjmaaDoorP5
namespace Go.Proofs.YtojdnfhklmfjmaaDoor
open Go.RowKit

/-- The only length that can do. -/
def ofL (f t : Nat) : Nat := 32 - Lib.bitLen (f ^^^ t)
theorem bl32 (f t : Nat) (hf : f < 4294967296) (ht : t < 4294967296) : Lib.bitLen (f ^^^ t) ≤ 32 := Lib.bitLen_le _ 32 (by omega) (Nat.xor_lt_two_pow (n := 32) (by omega) (by omega))
theorem isP_ofL {f t n : Nat} (h : isP f t n) : ofL f t = n := by
  obtain ⟨h1, h2, h3⟩ := h
  have hp := sz_pos n
  have ht : t = f + (sz n - 1) := by omega
  unfold ofL
  rw [ht, xor_mask h2]
  by_cases h0 : sz n - 1 = 0
  · have hn : n = 32 := by
      apply Nat.le_antisymm h1
      apply Nat.le_of_not_lt; intro hl
      have := sz_lt hl (Nat.le_refl 32)
      rw [sz_32] at this; omega
    rw [h0, hn]; simp [Lib.bitLen, Lib.bitLenAux]
  · have hs := sz_le n
    obtain ⟨b1, b2, b3⟩ := Lib.bitLenAux_bounds 64 (sz n - 1) (by omega) h0
    change 2 ^ (Lib.bitLen (sz n - 1) - 1) ≤ sz n - 1 at b2
    change sz n - 1 < 2 ^ Lib.bitLen (sz n - 1) at b3
    change 1 ≤ Lib.bitLen (sz n - 1) at b1
    generalize Lib.bitLen (sz n - 1) = bl at *
    unfold sz at b2 b3
    have hq := Nat.two_pow_pos (32 - n)
    have l1 : bl - 1 < 32 - n := (Nat.pow_lt_pow_iff_right (a := 2) (by decide)).1 (by omega)
    have l2 : 32 - n ≤ bl := (Nat.pow_le_pow_iff_right (a := 2) (by decide)).1 (by omega)
    omega

set_option maxHeartbeats 1000000 in
set_option maxRecDepth 100000 in
theorem of_yes0 (f t : Nat)  (w : World) (hf : f < 4294967296) (ht : t < 4294967296) (hr : rngV f (ofL f t) = .tuple #[.agg #[.int .u32 f, .int .u32 t], .int .i64 0]) : Calls Tryd.prog 13 #[.agg #[.int .u32 f, .int .u32 t]] w fun e w' => e = .returned (.tuple #[.agg #[.int .u32 f, .int .i64 (ofL f t : Nat)], .bool true]) ∧ Below w.heap.size w w' := by
  have hb := bits_xor_u32_nat f t hf ht
  have hbl := bl32 f t hf ht
  have hx : f ^^^ t < 4294967296 := Nat.xor_lt_two_pow (n := 32) (by omega) (by omega)
  obtain ⟨k, hk⟩ : ∃ k, ofL f t = k := ⟨_, rfl⟩
  rw [hk] at hr
  have hLi : (32 : Int) - (Lib.bitLen (f ^^^ t) : Int) = ((k : Nat) : Int) := by unfold ofL at hk; omega
  have HK := Lib.hid hk
  have HR := Lib.hid hr
  clear hk hr

  go_enter Tryd.func13, Tryd.ntmps13
  go_wp2_with fail
  go_region_held3 (fun w' => w'.cell? ⟨w.heap.size, 0, none⟩ = some (.int .u32 f) ∧ w'.cell? ⟨w.heap.size, 1, none⟩ = some (.int .u32 t)) (first | go_keep) ((go_at_call 34; refine (lz32 _ _ (by omega) (by omega)).mono ?_; rintro e w2 ⟨rfl, rfl⟩))
  all_goals
    clear hb hbl hx hLi
    go_wp2_with fail
    refine (range_any f k _ hf).mono ?_
    rw [HR.out]
    rintro e w1 ⟨rfl, b1⟩
    have hz : w.heap.size + 1 + 1 < w1.heap.size := by have := b1.size; simp at this; omega
    have hz0 : w.heap.size < w1.heap.size := by omega
    have hz1 : w.heap.size + 1 < w1.heap.size := by omega
    have a0 : At w1 w.heap.size #[.int .u32 f, .int .u32 t] 26 := ((((At.new w _ _).alloc _).alloc _).drew).belows b1
    have a1 : At w1 (w.heap.size + 1) #[.int .u32 0, .int .i64 0] 24 := (((At.new1 w _ _ _).alloc _).drew).belows b1
    have a2 : At w1 (w.heap.size + 1 + 1) #[.int .u32 f, .int .i64 k] 24 := ((At.new2 w _ _ _ _).drew).belows b1
    have c00 : w1.cell? ⟨w.heap.size, 0, none⟩ = some (.int .u32 f) := (a0.cell 0).trans rfl
    have c01 : w1.cell? ⟨w.heap.size, 1, none⟩ = some (.int .u32 t) := (a0.cell 1).trans rfl
    have c10 : w1.cell? ⟨w.heap.size + 1, 0, none⟩ = some (.int .u32 0) := (a1.cell 0).trans rfl
    have c11 : w1.cell? ⟨w.heap.size + 1, 1, none⟩ = some (.int .i64 0) := (a1.cell 1).trans rfl
    have c20 : w1.cell? ⟨w.heap.size + 1 + 1, 0, none⟩ = some (.int .u32 f) := (a2.cell 0).trans rfl
    have c21 : w1.cell? ⟨w.heap.size + 1 + 1, 1, none⟩ = some (.int .i64 k) := (a2.cell 1).trans rfl
    have g10 := a1.frozen 0
    have g11 := a1.frozen 1
    have hB1 : Below w.heap.size w w1 := ((((Below.refl _ w).alloc (Nat.le_refl _) _).alloc (by simp) _).alloc (by simp; omega) _).drew.trans (b1.mono (by simp; omega))
    have HA1 := Lib.hid a1
    clear b1 a0 a1 a2
    go_wp2
    have A1 := ((HA1.out.set0 0 (.int .u32 f)).set0 1 (.int .i64 k)).alloc (.cells #[.int .u32 f, .int .u32 t] 26)
    refine bodyPost_ret (v := .tuple #[.agg #[.int .u32 f, .int .i64 k], .bool true]) (by simp [results, Tryd.results13, go_sem, A1.cell 0, A1.cell 1]) rfl ⟨by rw [HK.out], ?_⟩
    exact ((hB1.setCell (by simp) _).setCell (by simp) _).alloc (by simp [World.setCell]; omega) _
set_option maxHeartbeats 1000000 in
set_option maxRecDepth 100000 in
theorem of_noA (f t : Nat)  (w : World) (hf : f < 4294967296) (ht : t < 4294967296) (hr : rngV f (ofL f t) = .tuple #[.agg #[.int .u32 0, .int .u32 0], .int .i64 21]) : Calls Tryd.prog 13 #[.agg #[.int .u32 f, .int .u32 t]] w fun e w' => e = .returned (.tuple #[.agg #[.int .u32 0, .int .i64 0], .bool false]) ∧ Below w.heap.size w w' := by
  have hb := bits_xor_u32_nat f t hf ht
  have hbl := bl32 f t hf ht
  have hx : f ^^^ t < 4294967296 := Nat.xor_lt_two_pow (n := 32) (by omega) (by omega)
  obtain ⟨k, hk⟩ : ∃ k, ofL f t = k := ⟨_, rfl⟩
  rw [hk] at hr
  have hLi : (32 : Int) - (Lib.bitLen (f ^^^ t) : Int) = ((k : Nat) : Int) := by unfold ofL at hk; omega
  have HK := Lib.hid hk
  have HR := Lib.hid hr
  clear hk hr

  go_enter Tryd.func13, Tryd.ntmps13
  go_wp2_with fail
  go_region_held3 (fun w' => w'.cell? ⟨w.heap.size, 0, none⟩ = some (.int .u32 f) ∧ w'.cell? ⟨w.heap.size, 1, none⟩ = some (.int .u32 t)) (first | go_keep) ((go_at_call 34; refine (lz32 _ _ (by omega) (by omega)).mono ?_; rintro e w2 ⟨rfl, rfl⟩))
  all_goals
    clear hb hbl hx hLi
    go_wp2_with fail
    refine (range_any f k _ hf).mono ?_
    rw [HR.out]
    rintro e w1 ⟨rfl, b1⟩
    have hz : w.heap.size + 1 + 1 < w1.heap.size := by have := b1.size; simp at this; omega
    have hz0 : w.heap.size < w1.heap.size := by omega
    have hz1 : w.heap.size + 1 < w1.heap.size := by omega
    have a0 : At w1 w.heap.size #[.int .u32 f, .int .u32 t] 26 := ((((At.new w _ _).alloc _).alloc _).drew).belows b1
    have a1 : At w1 (w.heap.size + 1) #[.int .u32 0, .int .i64 0] 24 := (((At.new1 w _ _ _).alloc _).drew).belows b1
    have a2 : At w1 (w.heap.size + 1 + 1) #[.int .u32 f, .int .i64 k] 24 := ((At.new2 w _ _ _ _).drew).belows b1
    have c00 : w1.cell? ⟨w.heap.size, 0, none⟩ = some (.int .u32 f) := (a0.cell 0).trans rfl
    have c01 : w1.cell? ⟨w.heap.size, 1, none⟩ = some (.int .u32 t) := (a0.cell 1).trans rfl
    have c10 : w1.cell? ⟨w.heap.size + 1, 0, none⟩ = some (.int .u32 0) := (a1.cell 0).trans rfl
    have c11 : w1.cell? ⟨w.heap.size + 1, 1, none⟩ = some (.int .i64 0) := (a1.cell 1).trans rfl
    have c20 : w1.cell? ⟨w.heap.size + 1 + 1, 0, none⟩ = some (.int .u32 f) := (a2.cell 0).trans rfl
    have c21 : w1.cell? ⟨w.heap.size + 1 + 1, 1, none⟩ = some (.int .i64 k) := (a2.cell 1).trans rfl
    have g10 := a1.frozen 0
    have g11 := a1.frozen 1
    have hB1 : Below w.heap.size w w1 := ((((Below.refl _ w).alloc (Nat.le_refl _) _).alloc (by simp) _).alloc (by simp; omega) _).drew.trans (b1.mono (by simp; omega))
    have HA1 := Lib.hid a1
    clear b1 a0 a1 a2
    go_wp2
    have A1 := ((HA1.out.set0 0 (.int .u32 0)).set0 1 (.int .i64 0)).alloc (.cells #[.int .u32 0, .int .u32 0] 26)
    refine bodyPost_ret (v := .tuple #[.agg #[.int .u32 0, .int .i64 0], .bool false]) (by simp [results, Tryd.results13, go_sem, A1.cell 0, A1.cell 1]) rfl ⟨rfl, ?_⟩
    exact ((hB1.setCell (by simp) _).setCell (by simp) _).alloc (by simp [World.setCell]; omega) _
set_option maxHeartbeats 1000000 in
set_option maxRecDepth 100000 in
theorem of_noB (f t m : Nat)  (w : World) (hf : f < 4294967296) (ht : t < 4294967296) (hr : rngV f (ofL f t) = .tuple #[.agg #[.int .u32 f, .int .u32 m], .int .i64 0]) (hm : m ≠ t) : Calls Tryd.prog 13 #[.agg #[.int .u32 f, .int .u32 t]] w fun e w' => e = .returned (.tuple #[.agg #[.int .u32 0, .int .i64 0], .bool false]) ∧ Below w.heap.size w w' := by
  have hb := bits_xor_u32_nat f t hf ht
  have hbl := bl32 f t hf ht
  have hx : f ^^^ t < 4294967296 := Nat.xor_lt_two_pow (n := 32) (by omega) (by omega)
  obtain ⟨k, hk⟩ : ∃ k, ofL f t = k := ⟨_, rfl⟩
  rw [hk] at hr
  have hLi : (32 : Int) - (Lib.bitLen (f ^^^ t) : Int) = ((k : Nat) : Int) := by unfold ofL at hk; omega
  have HK := Lib.hid hk
  have HR := Lib.hid hr
  clear hk hr
  have e1 : ((m : Int) == (t : Int)) = false := by rw [beq_eq_false_iff_ne]; omega
  have e2 : (m == t) = false := by rw [beq_eq_false_iff_ne]; exact hm

  go_enter Tryd.func13, Tryd.ntmps13
  go_wp2_with fail
  go_region_held3 (fun w' => w'.cell? ⟨w.heap.size, 0, none⟩ = some (.int .u32 f) ∧ w'.cell? ⟨w.heap.size, 1, none⟩ = some (.int .u32 t)) (first | go_keep) ((go_at_call 34; refine (lz32 _ _ (by omega) (by omega)).mono ?_; rintro e w2 ⟨rfl, rfl⟩))
  all_goals
    clear hb hbl hx hLi
    go_wp2_with fail
    refine (range_any f k _ hf).mono ?_
    rw [HR.out]
    rintro e w1 ⟨rfl, b1⟩
    have hz : w.heap.size + 1 + 1 < w1.heap.size := by have := b1.size; simp at this; omega
    have hz0 : w.heap.size < w1.heap.size := by omega
    have hz1 : w.heap.size + 1 < w1.heap.size := by omega
    have a0 : At w1 w.heap.size #[.int .u32 f, .int .u32 t] 26 := ((((At.new w _ _).alloc _).alloc _).drew).belows b1
    have a1 : At w1 (w.heap.size + 1) #[.int .u32 0, .int .i64 0] 24 := (((At.new1 w _ _ _).alloc _).drew).belows b1
    have a2 : At w1 (w.heap.size + 1 + 1) #[.int .u32 f, .int .i64 k] 24 := ((At.new2 w _ _ _ _).drew).belows b1
    have c00 : w1.cell? ⟨w.heap.size, 0, none⟩ = some (.int .u32 f) := (a0.cell 0).trans rfl
    have c01 : w1.cell? ⟨w.heap.size, 1, none⟩ = some (.int .u32 t) := (a0.cell 1).trans rfl
    have c10 : w1.cell? ⟨w.heap.size + 1, 0, none⟩ = some (.int .u32 0) := (a1.cell 0).trans rfl
    have c11 : w1.cell? ⟨w.heap.size + 1, 1, none⟩ = some (.int .i64 0) := (a1.cell 1).trans rfl
    have c20 : w1.cell? ⟨w.heap.size + 1 + 1, 0, none⟩ = some (.int .u32 f) := (a2.cell 0).trans rfl
    have c21 : w1.cell? ⟨w.heap.size + 1 + 1, 1, none⟩ = some (.int .i64 k) := (a2.cell 1).trans rfl
    have g10 := a1.frozen 0
    have g11 := a1.frozen 1
    have hB1 : Below w.heap.size w w1 := ((((Below.refl _ w).alloc (Nat.le_refl _) _).alloc (by simp) _).alloc (by simp; omega) _).drew.trans (b1.mono (by simp; omega))
    have HA1 := Lib.hid a1
    clear b1 a0 a1 a2
    go_wp2
    have A1 := ((HA1.out.set0 0 (.int .u32 0)).set0 1 (.int .i64 0)).alloc (.cells #[.int .u32 f, .int .u32 m] 26)
    refine bodyPost_ret (v := .tuple #[.agg #[.int .u32 0, .int .i64 0], .bool false]) (by simp [results, Tryd.results13, go_sem, A1.cell 0, A1.cell 1]) rfl ⟨rfl, ?_⟩
    exact ((hB1.setCell (by simp) _).setCell (by simp) _).alloc (by simp [World.setCell]; omega) _
/-- prefix.Of, of a prefix's range. -/
theorem of_yes (f t n : Nat) (w : World) (hf : f < 4294967296) (ht : t < 4294967296) (h : isP f t n) : Calls Tryd.prog 13 #[.agg #[.int .u32 f, .int .u32 t]] w fun e w' => e = .returned (.tuple #[.agg #[.int .u32 f, .int .i64 n], .bool true]) ∧ Below w.heap.size w w' := by
  have hL := isP_ofL h
  have hr : rngV f (ofL f t) = .tuple #[.agg #[.int .u32 f, .int .u32 t], .int .i64 0] := by
    have hp := sz_pos n
    obtain ⟨h1, h2, h3⟩ := h
    rw [hL]; unfold rngV
    rw [if_pos (rightB_mk h1 h2), Int.toNat_natCast, show f + (sz n - 1) = t by omega]
  have := of_yes0 f t w hf ht hr
  rwa [hL] at this
/-- prefix.Of, of any other range. -/
theorem of_no (f t : Nat) (w : World) (hf : f < 4294967296) (ht : t < 4294967296) (h : ∀ n, ¬ isP f t n) : Calls Tryd.prog 13 #[.agg #[.int .u32 f, .int .u32 t]] w fun e w' => e = .returned (.tuple #[.agg #[.int .u32 0, .int .i64 0], .bool false]) ∧ Below w.heap.size w w' := by
  by_cases hr : rightB f (ofL f t) = true
  · obtain ⟨k, hk, h1, h2⟩ := rightB_yes hr
    have hk' : ofL f t = k := by omega
    have hp := sz_pos k
    refine of_noB f t (f + (sz k - 1)) w hf ht ?_ (fun e => h k ⟨h1, h2, by omega⟩)
    unfold rngV
    rw [if_pos hr, Int.toNat_natCast, hk']
  · refine of_noA f t w hf ht ?_
    unfold rngV
    rw [if_neg hr]
end Go.Proofs.YtojdnfhklmfjmaaDoor
