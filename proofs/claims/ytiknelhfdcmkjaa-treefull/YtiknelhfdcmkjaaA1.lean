/- Contracts: the document's bound of heights, the live question; TreeNil, walked. -/
import Derived.Test.YtiknelhfdcmkjaaP4
namespace Go.Proofs.Ytiknelhfdcmkjaa
open Go.RowKit

set_option maxRecDepth 100000 in
theorem rhigh_any (n : Nat) (w : World) (hn : n ≤ 100000) : Calls Try.prog 13 #[.int .i64 (n : Int)] w fun e w' => e = .returned (.int .i64 (highN n : Int)) ∧ w = w' := by
  have hbl := blen_le (n + 1)
  go_enter Try.func13, Try.ntmps13
  go_wp2
  go_loop [3, 4] (fun b m => ∃ i j : Nat, b = .int .i64 i ∧ m = .int .i64 j ∧ j ≤ n + 1 ∧ Hid (i + blen j = blen (n + 1))) (fun _ m => (intOf m).toNat)
  case atStart => exact ⟨0, n + 1, rfl, by go_num, Nat.le_refl _, Lib.hid (by omega)⟩
  case round =>
    obtain ⟨i, j, rfl, rfl, hj, HE⟩ := hrel
    by_cases h0 : 0 < j
    · have hs := blen_step h0
      have hlt : i < blen (n + 1) := by have := HE.out; omega
      have HS := Lib.hid hs
      clear hs
      go_wp2
      go_round
      case rel => exact ⟨i + 1, j / 2, by go_num, by go_num, by omega, Lib.hid (by have := HE.out; have := HS.out; omega)⟩
      case measure => simp [intOf]; omega
    · obtain rfl : j = 0 := by omega
      have hi : i = blen (n + 1) := by have := HE.out; rw [blen_zero] at this; omega
      have hi2 : i ≤ n + 1 := by omega
      have HI := Lib.hid hi
      clear hi
      go_wp2
      go_ret
      exact ⟨ret_int (by unfold highN; rw [← HI.out]; omega), rfl⟩

theorem high2 : highN 2 = 4 := by
  unfold highN
  rw [blen_step (by omega), show (2 + 1) / 2 = 1 from rfl, blen_step (by omega), show 1 / 2 = 0 from rfl, blen_zero]
set_option maxRecDepth 100000 in
set_option maxHeartbeats 2000000 in
theorem alive_any (w : World) : Calls Try.prog 14 #[] w fun e w' => e = .returned (.bool true) ∧ Below w.heap.size w w' := by
  go_enter Try.func14, Try.ntmps14
  go_wp2_with fail
  refine (new_any w).mono ?_
  rintro e w1 ⟨v1, rfl, t1, b1⟩
  obtain ⟨B1, rfl⟩ := t1.ptr
  go_wp2_with fail
  refine (put_ok [] 5 50 w1 t1.any (.inr (by decide))).mono ?_
  rintro e w2 ⟨v2, rfl, t2, b2⟩
  obtain ⟨B2, rfl⟩ := t2.ptr
  change IsTree1 w2 _ [(5, 50)] at t2
  have bb2 := b1.trans (b2.mono b1.size)
  go_wp2_with fail
  refine (put_ok [(5, 50)] 3 30 w2 t2.any (.inr (by decide))).mono ?_
  rintro e w3 ⟨v3, rfl, t3, b3⟩
  obtain ⟨B3, rfl⟩ := t3.ptr
  change IsTree1 w3 _ [(3, 30), (5, 50)] at t3
  have bb3 := bb2.trans (b3.mono bb2.size)
  have t2 := t2.belows b3
  go_wp2_with fail
  refine (drop_ok [(3, 30), (5, 50)] 5 w3 t3.any (by decide)).mono ?_
  rintro e w4 ⟨v4, rfl, t4, b4⟩
  obtain ⟨B4, rfl⟩ := t4.ptr
  change IsTree1 w4 _ [(3, 30)] at t4
  have bb4 := bb3.trans (b4.mono bb3.size)
  have t2 := t2.belows b4
  have t3 := t3.belows b4
  go_wp2_with fail
  refine (show Calls Try.prog 17 #[.pointer (some ⟨B3, 0, none⟩), .int .u64 4] w4 fun e w' => e = .returned (.tuple #[.agg #[.int .u64 3, .int .i64 30], .bool true]) ∧ Below w4.heap.size w4 w' from Floor_any [(3, 30), (5, 50)] 4 w4 t3.any).mono ?_
  rintro e w5 ⟨rfl, b5⟩
  have b5' : Below w4.heap.size w4 (w5.alloc (.cells #[.int .u64 3, .int .i64 30] 42)) := b5.alloc b5.size _
  have A5 := At.new w5 #[.int .u64 3, .int .i64 30] 42
  have t2 := t2.belows b5'
  have t3 := t3.belows b5'
  have t4 := t4.belows b5'
  have bb5 := bb4.trans (b5'.mono bb4.size)
  go_wp2_with fail
  generalize w5.alloc (.cells #[.int .u64 3, .int .i64 30] 42) = w6 at b5' A5 t2 t3 t4 bb5 ⊢
  refine (show Calls Try.prog 18 #[.pointer (some ⟨B3, 0, none⟩), .int .u64 4] w6 fun e w' => e = .returned (.tuple #[.agg #[.int .u64 5, .int .i64 50], .bool true]) ∧ Below w6.heap.size w6 w' from Ceil_any [(3, 30), (5, 50)] 4 w6 t3.any).mono ?_
  rintro e w7 ⟨rfl, b7⟩
  have b7' : Below w6.heap.size w6 (w7.alloc (.cells #[.int .u64 5, .int .i64 50] 42)) := b7.alloc b7.size _
  have A7 := At.new w7 #[.int .u64 5, .int .i64 50] 42
  have A5 := A5.belows b7'
  have t2 := t2.belows b7'
  have t3 := t3.belows b7'
  have t4 := t4.belows b7'
  have bb7 := bb5.trans (b7'.mono bb5.size)
  have k5 := (A5.cell 1).trans rfl
  have k7 := (A7.cell 0).trans rfl
  go_wp2_with fail
  generalize w7.alloc (.cells #[.int .u64 5, .int .i64 50] 42) = w8 at b7' A5 A7 t2 t3 t4 bb7 k5 k7 ⊢
  refine (len_any _ w8 t2.any).mono ?_
  rintro e w9 ⟨rfl, rfl⟩
  simp only [List.length_cons, List.length_nil]
  go_wp2_with fail
  refine (len_any _ w8 t3.any).mono ?_
  rintro e w9 ⟨rfl, rfl⟩
  simp only [List.length_cons, List.length_nil]
  go_wp2_with fail
  refine (len_any _ w8 t4.any).mono ?_
  rintro e w9 ⟨rfl, rfl⟩
  simp only [List.length_cons, List.length_nil]
  go_wp2_with fail
  refine (height_any _ w8 t3.any).mono ?_
  rintro e w9 ⟨h, rfl, h1, h2, rfl⟩
  simp only [List.length_cons, List.length_nil] at h1
  rw [high2] at h1
  have h3 : 0 < h := Nat.pos_of_ne_zero fun e => by simpa using h2.1 e
  clear h2
  go_wp2_with fail
  refine (height_any _ w8 t3.any).mono ?_
  rintro e w9 ⟨g, rfl, g1, g2, rfl⟩
  simp only [List.length_cons, List.length_nil] at g1
  rw [high2] at g1
  have g3 : decide ((g : Int) ≤ 4) = true := by simp; omega
  clear g2
  go_wp2
  go_ret
  exact ⟨rfl, bb7⟩

theorem high0 : highN 0 = 2 := by
  unfold highN
  rw [blen_step (by omega), show (0 + 1) / 2 = 0 from rfl, blen_zero]
set_option maxRecDepth 100000 in
set_option maxHeartbeats 2000000 in
theorem treeNil_walk (k : Int) (w : World) : Calls Try.prog 8 #[.int .u64 k] w fun e w' => e = .returned (.bool true) ∧ Below w.heap.size w w' := by
  have tn : ∀ W : World, IsTree W (.pointer none) [] := fun W => .inl ⟨rfl, rfl⟩
  have HN := Lib.hid tn
  clear tn
  go_enter Try.func8, Try.ntmps8
  go_wp2_with fail
  refine (show Calls Try.prog 15 #[.pointer none, .int .u64 k] w fun e w' => e = .returned (.tuple #[.int .i64 0, .bool false]) ∧ Below w.heap.size w w' from get_any [] k w (HN.out w)).mono ?_
  rintro e w1 ⟨rfl, b1⟩
  go_wp2_with fail
  refine (show Calls Try.prog 17 #[.pointer none, .int .u64 k] w1 fun e w' => e = .returned (.tuple #[.agg #[.int .u64 0, .int .i64 0], .bool false]) ∧ Below w1.heap.size w1 w' from Floor_any [] k w1 (HN.out w1)).mono ?_
  rintro e w2 ⟨rfl, b2⟩
  have bb2 := (b1.trans (b2.mono b1.size)).alloc (b1.trans (b2.mono b1.size)).size (.cells #[.int .u64 0, .int .i64 0] 42)
  go_wp2_with fail
  generalize w2.alloc (.cells #[.int .u64 0, .int .i64 0] 42) = w3 at bb2 ⊢
  refine (show Calls Try.prog 18 #[.pointer none, .int .u64 k] w3 fun e w' => e = .returned (.tuple #[.agg #[.int .u64 0, .int .i64 0], .bool false]) ∧ Below w3.heap.size w3 w' from Ceil_any [] k w3 (HN.out w3)).mono ?_
  rintro e w4 ⟨rfl, b4⟩
  have bb4 := (bb2.trans (b4.mono bb2.size)).alloc (bb2.trans (b4.mono bb2.size)).size (.cells #[.int .u64 0, .int .i64 0] 42)
  go_wp2_with fail
  generalize w4.alloc (.cells #[.int .u64 0, .int .i64 0] 42) = w5 at bb4 ⊢
  refine (show Calls Try.prog 19 #[.pointer none, .int .i64 0] w5 fun e w' => e = .returned (.tuple #[.agg #[.int .u64 0, .int .i64 0], .bool false]) ∧ Below w5.heap.size w5 w' from At_any [] 0 w5 (HN.out w5) (by omega) (by omega)).mono ?_
  rintro e w6 ⟨rfl, b6⟩
  have bb6 := (bb4.trans (b6.mono bb4.size)).alloc (bb4.trans (b6.mono bb4.size)).size (.cells #[.int .u64 0, .int .i64 0] 42)
  go_wp2_with fail
  generalize w6.alloc (.cells #[.int .u64 0, .int .i64 0] 42) = w7 at bb6 ⊢
  refine (drop_no [] k w7 (HN.out w7) rfl).mono ?_
  rintro e w8 ⟨rfl, b8⟩
  have bb8 := bb6.trans (b8.mono bb6.size)
  go_wp2_with fail
  refine (put_ok [] k 3 w8 (HN.out w8) (.inr (by decide))).mono ?_
  rintro e w9 ⟨v9, rfl, t9, b9⟩
  obtain ⟨B9, rfl⟩ := t9.ptr
  change IsTree1 w9 _ [(k, 3)] at t9
  have bb9 := bb8.trans (b9.mono bb8.size)
  go_wp2_with fail
  refine (split_any [] k w9 (HN.out w9)).mono ?_
  rintro e w10 ⟨v10, v11, rfl, t10, t11, b10⟩
  obtain ⟨B10, rfl⟩ := t10.ptr
  obtain ⟨B11, rfl⟩ := t11.ptr
  change IsTree1 w10 _ [] at t10
  change IsTree1 w10 _ [] at t11
  have t9 := t9.belows b10
  have bb10 := bb9.trans (b10.mono bb9.size)
  go_wp2_with fail
  refine (alive_any w10).mono ?_
  rintro e w12 ⟨rfl, b12⟩
  have t9 := t9.belows b12
  have t10 := t10.belows b12
  have t11 := t11.belows b12
  have bb12 := bb10.trans (b12.mono bb10.size)
  go_wp2_with fail
  refine (len_any _ w12 t9.any).mono ?_
  rintro e w13 ⟨rfl, rfl⟩
  simp only [List.length_cons, List.length_nil]
  go_wp2_with fail
  refine (len_any _ w12 (HN.out w12)).mono ?_
  rintro e w13 ⟨rfl, rfl⟩
  simp only [List.length_cons, List.length_nil]
  go_wp2_with fail
  refine (height_any _ w12 (HN.out w12)).mono ?_
  rintro e w13 ⟨h, rfl, h1, h2, rfl⟩
  obtain rfl : h = 0 := h2.2 rfl
  clear h1 h2
  go_wp2_with fail
  refine (pairs_any _ w12 (HN.out w12)).mono ?_
  rintro e w13 ⟨v13, rfl, ⟨A13, c13, rfl, _⟩, b13⟩
  simp only [List.length_nil]
  have t10 := t10.belows b13
  have t11 := t11.belows b13
  go_wp2_with fail
  refine (len_any _ w13 t10.any).mono ?_
  rintro e w14 ⟨rfl, rfl⟩
  simp only [List.length_nil]
  go_wp2_with fail
  refine (len_any _ w13 t11.any).mono ?_
  rintro e w14 ⟨rfl, rfl⟩
  simp only [List.length_nil]
  go_wp2
  go_ret
  exact ⟨rfl, bb12.trans (b13.mono bb12.size)⟩
end Go.Proofs.Ytiknelhfdcmkjaa
