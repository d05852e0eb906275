/- Contracts: prefix.Right, prefix.Range, and the document's Right and Range. -/
import Derived.Test.YtmpgfmedldnhjaaGreatDoorC0
import Derived.Deep.RegionHeld3
namespace Go.Proofs.YtmpgfmedldnhjaaGreatDoor
open Go.RowKit


set_option maxHeartbeats 1000000 in
theorem right_in (a n : Nat) (w : World) (ha : a < 4294967296) (hn : n ≤ 32) : Calls Tryz.prog 100 #[.agg #[.int .u32 a, .int .i64 n]] w fun e w' => e = .returned (.bool (rightB a n)) ∧ Below w.heap.size w w' := by
  have hs := sz_le n
  have hp := sz_pos n
  have d1 : decide ((0 : Int) ≤ (n : Int)) = true := by simp
  have d2 : decide ((n : Int) ≤ 32) = true := by apply decide_eq_true; omega
  have hb := bits_and_u32_nat a (sz n - 1) ha (by omega)
  rw [and_mask] at hb
  go_enter Tryz.func100, Tryz.ntmps100
  go_wp2_with fail
  go_quiet ((go_at_call 101; exact Calls.quiet_of_same (same_of (behind_any _ _ (by omega)))))
  go_wp2
  go_ret
  refine ⟨ret_bool ?_, bdrewN ((Below.refl _ _).alloc (Nat.le_refl _) _) _⟩
  rw [rightB_nat, Bool.eq_iff_iff]
  have : ((a : Int) % ((sz n : Nat) : Int) == 0) = true ↔ a % sz n = 0 := by rw [beq_iff_eq]; omega
  simp only [hn, decide_true, Bool.true_and, decide_eq_true_eq]
  exact this
set_option maxHeartbeats 1000000 in
theorem right_low (a : Nat) (n : Int) (w : World) (hn : n < 0) : Calls Tryz.prog 100 #[.agg #[.int .u32 a, .int .i64 n]] w fun e w' => e = .returned (.bool (rightB a n)) ∧ Below w.heap.size w w' := by
  have d1 : decide ((0 : Int) ≤ n) = false := by apply decide_eq_false; omega
  have hr : rightB a n = false := by unfold rightB; rw [d1]; rfl
  rw [hr]
  clear hr
  go_enter Tryz.func100, Tryz.ntmps100
  go_wp2_with fail
  go_quiet (fail)
  go_wp2
  go_ret
  exact ⟨rfl, bdrewN ((Below.refl _ _).alloc (Nat.le_refl _) _) _⟩
set_option maxHeartbeats 1000000 in
theorem right_high (a : Nat) (n : Int) (w : World) (hn : 32 < n) : Calls Tryz.prog 100 #[.agg #[.int .u32 a, .int .i64 n]] w fun e w' => e = .returned (.bool (rightB a n)) ∧ Below w.heap.size w w' := by
  have d1 : decide ((0 : Int) ≤ n) = true := by apply decide_eq_true; omega
  have d2 : decide (n ≤ 32) = false := by apply decide_eq_false; omega
  have hr : rightB a n = false := by unfold rightB; rw [d1, d2]; rfl
  rw [hr]
  clear hr
  go_enter Tryz.func100, Tryz.ntmps100
  go_wp2_with fail
  go_quiet (fail)
  go_wp2
  go_ret
  exact ⟨rfl, bdrewN ((Below.refl _ _).alloc (Nat.le_refl _) _) _⟩
/-- prefix.Right. -/
theorem right_any (a : Nat) (n : Int) (w : World) (ha : a < 4294967296) : Calls Tryz.prog 100 #[.agg #[.int .u32 a, .int .i64 n]] w fun e w' => e = .returned (.bool (rightB a n)) ∧ Below w.heap.size w w' := by
  by_cases h1 : n < 0
  · exact right_low a n w h1
  · by_cases h2 : 32 < n
    · exact right_high a n w h2
    · obtain ⟨k, rfl⟩ : ∃ k : Nat, n = k := ⟨n.toNat, by omega⟩
      exact right_in a k w ha (by omega)

set_option maxHeartbeats 1000000 in
theorem rright_in (a n : Nat) (w : World) (ha : a < 4294967296) (hn : n ≤ 32) : Calls Tryz.prog 68 #[.agg #[.int .u32 a, .int .i64 n]] w fun e w' => e = .returned (.bool (rightB a n)) ∧ Below w.heap.size w w' := by
  have hs := sz_le n
  have hp := sz_pos n
  have d1 : decide ((0 : Int) ≤ (n : Int)) = true := by simp
  have d2 : decide ((n : Int) ≤ 32) = true := by apply decide_eq_true; omega
  have d3 : (((sz n : Nat) : Int) == 0) = false := by rw [beq_eq_false_iff_ne]; omega
  have d4 : (a : Int).tmod (sz n : Nat) = ((a % sz n : Nat) : Int) := by rw [Int.tmod_eq_emod_of_nonneg (by omega)]; omega
  have d5 : IntKind.i64.wrap ((a % sz n : Nat) : Int) = ((a % sz n : Nat) : Int) := by have := Nat.mod_lt a hp; exact IntWalk.i64_in _ (by omega)
  go_enter Tryz.func68, Tryz.ntmps68
  go_wp2_with fail
  go_quiet ((go_at_call 69; exact Calls.quiet_of_same (same_of (size_any _ _ (by omega)))))
  go_wp2
  go_ret
  refine ⟨ret_bool ?_, bdrewN ((Below.refl _ _).alloc (Nat.le_refl _) _) _⟩
  rw [rightB_nat, Bool.eq_iff_iff]
  have : ((a : Int) % ((sz n : Nat) : Int) == 0) = true ↔ a % sz n = 0 := by rw [beq_iff_eq]; omega
  simp only [hn, decide_true, Bool.true_and, decide_eq_true_eq]
  exact this
set_option maxHeartbeats 1000000 in
theorem rright_low (a : Nat) (n : Int) (w : World) (hn : n < 0) : Calls Tryz.prog 68 #[.agg #[.int .u32 a, .int .i64 n]] w fun e w' => e = .returned (.bool (rightB a n)) ∧ Below w.heap.size w w' := by
  have d1 : decide ((0 : Int) ≤ n) = false := by apply decide_eq_false; omega
  have hr : rightB a n = false := by unfold rightB; rw [d1]; rfl
  rw [hr]
  clear hr
  go_enter Tryz.func68, Tryz.ntmps68
  go_wp2_with fail
  go_quiet (fail)
  go_wp2
  go_ret
  exact ⟨rfl, bdrewN ((Below.refl _ _).alloc (Nat.le_refl _) _) _⟩
set_option maxHeartbeats 1000000 in
theorem rright_high (a : Nat) (n : Int) (w : World) (hn : 32 < n) : Calls Tryz.prog 68 #[.agg #[.int .u32 a, .int .i64 n]] w fun e w' => e = .returned (.bool (rightB a n)) ∧ Below w.heap.size w w' := by
  have d1 : decide ((0 : Int) ≤ n) = true := by apply decide_eq_true; omega
  have d2 : decide (n ≤ 32) = false := by apply decide_eq_false; omega
  have hr : rightB a n = false := by unfold rightB; rw [d1, d2]; rfl
  rw [hr]
  clear hr
  go_enter Tryz.func68, Tryz.ntmps68
  go_wp2_with fail
  go_quiet (fail)
  go_wp2
  go_ret
  exact ⟨rfl, bdrewN ((Below.refl _ _).alloc (Nat.le_refl _) _) _⟩
/-- The document's Right. -/
theorem rright_any (a : Nat) (n : Int) (w : World) (ha : a < 4294967296) : Calls Tryz.prog 68 #[.agg #[.int .u32 a, .int .i64 n]] w fun e w' => e = .returned (.bool (rightB a n)) ∧ Below w.heap.size w w' := by
  by_cases h1 : n < 0
  · exact rright_low a n w h1
  · by_cases h2 : 32 < n
    · exact rright_high a n w h2
    · obtain ⟨k, rfl⟩ : ∃ k : Nat, n = k := ⟨n.toNat, by omega⟩
      exact rright_in a k w ha (by omega)

/-- What Range answers. -/
def rngV (a : Nat) (n : Int) : Value := if rightB a n then .tuple #[.agg #[.int .u32 a, .int .u32 (a + (sz n.toNat - 1) : Nat)], .int .i64 0] else .tuple #[.agg #[.int .u32 0, .int .u32 0], .int .i64 21]

set_option maxHeartbeats 1000000 in
set_option maxRecDepth 100000 in
theorem range_yes (a n : Nat) (w : World) (ha : a < 4294967296) (hn : n ≤ 32) (hr : a % sz n = 0) : Calls Tryz.prog 83 #[.agg #[.int .u32 a, .int .i64 n]] w fun e w' => e = .returned (.tuple #[.agg #[.int .u32 a, .int .u32 (a + (sz n - 1) : Nat)], .int .i64 0]) ∧ Below w.heap.size w w' := by
  have hs := sz_le n
  have hp := sz_pos n
  have hl := last_lt ha hr
  have hb := bits_or_u32_nat a (sz n - 1) ha (by omega)
  rw [or_mask hr] at hb
  have hrt := rightB_mk hn hr
  go_enter Tryz.func83, Tryz.ntmps83
  go_wp2_with (go_at_call 100; refine (right_any a n _ ha).mono ?_; rintro e w1 ⟨rfl, b1⟩)
  have hz : w.heap.size + 1 < w1.heap.size := by have := b1.size; simp at this; omega
  obtain ⟨hc, hf⟩ := bc b1
  have hc0 : w1.cell? ⟨w.heap.size, 0, none⟩ = some (.int .u32 a) := (hc _ _ (by simp; omega)).trans (by simp)
  have hc1 : w1.cell? ⟨w.heap.size, 1, none⟩ = some (.int .i64 n) := (hc _ _ (by simp; omega)).trans (by simp)
  have hd0 : w1.cell? ⟨w.heap.size + 1, 0, none⟩ = some (.int .u32 0) := (hc _ _ (by simp)).trans (by simp)
  have hd1 : w1.cell? ⟨w.heap.size + 1, 1, none⟩ = some (.int .u32 0) := (hc _ _ (by simp)).trans (by simp)
  have hg0 : w1.frozen? ⟨w.heap.size + 1, 0, none⟩ = false := (hf _ _ (by simp)).trans (by simp)
  have hg1 : w1.frozen? ⟨w.heap.size + 1, 1, none⟩ = false := (hf _ _ (by simp)).trans (by simp)
  clear hc hf
  go_region_held3 (fun w' => w'.cell? ⟨w.heap.size, 0, none⟩ = some (.int .u32 a) ∧ w'.cell? ⟨w.heap.size, 1, none⟩ = some (.int .i64 n)) (first | go_keep) ((go_at_call 101; refine (behind_any _ _ (by omega)).mono ?_; rintro e w2 ⟨rfl, rfl⟩))
  go_wp2
  refine bodyPost_ret (v := .tuple #[.agg #[.int .u32 a, .int .u32 (a + (sz n - 1) : Nat)], .int .i64 0]) (by simp [results, Tryz.results83, go_sem, hd0, hd1, hc0, hc1]) rfl ⟨rfl, ?_⟩
  exact ((((((Below.refl _ w).alloc (Nat.le_refl _) _).alloc (by simp) _).trans (b1.mono (by simp; omega))).setCell (by simp) _).setCell (by simp) _).drew
set_option maxHeartbeats 1000000 in
theorem range_no (a : Nat) (n : Int) (w : World) (ha : a < 4294967296) (hr : rightB a n = false) : Calls Tryz.prog 83 #[.agg #[.int .u32 a, .int .i64 n]] w fun e w' => e = .returned (.tuple #[.agg #[.int .u32 0, .int .u32 0], .int .i64 21]) ∧ Below w.heap.size w w' := by
  go_enter Tryz.func83, Tryz.ntmps83
  go_wp2_with fail
  refine (right_any a n _ ha).mono ?_
  rintro e w1 ⟨rfl, b1⟩
  have hz : w.heap.size + 1 < w1.heap.size := by have := b1.size; simp at this; omega
  obtain ⟨hc, hf⟩ := bc b1
  go_wp2
  refine bodyPost_ret (v := .tuple #[.agg #[.int .u32 0, .int .u32 0], .int .i64 21]) (by simp [results, Tryz.results83, go_sem, hc, hz]) rfl ⟨rfl, ?_⟩
  exact ((((((Below.refl _ w).alloc (Nat.le_refl _) _).alloc (by simp) _).trans (b1.mono (by simp; omega))).setCell (by simp) _).setCell (by simp) _)
/-- prefix.Range. -/
theorem range_any (a : Nat) (n : Int) (w : World) (ha : a < 4294967296) : Calls Tryz.prog 83 #[.agg #[.int .u32 a, .int .i64 n]] w fun e w' => e = .returned (rngV a n) ∧ Below w.heap.size w w' := by
  unfold rngV
  by_cases h : rightB a n = true
  · obtain ⟨k, rfl, hk, hm⟩ := rightB_yes h
    rw [if_pos h]
    exact range_yes a k w ha hk hm
  · rw [if_neg h]
    exact range_no a n w ha (by simpa using h)

set_option maxHeartbeats 1000000 in
set_option maxRecDepth 100000 in
theorem rrange_yes (a n : Nat) (w : World) (ha : a < 4294967296) (hn : n ≤ 32) (hr : a % sz n = 0) : Calls Tryz.prog 55 #[.agg #[.int .u32 a, .int .i64 n]] w fun e w' => e = .returned (.tuple #[.agg #[.int .u32 a, .int .u32 (a + (sz n - 1) : Nat)], .int .i64 0]) ∧ Below w.heap.size w w' := by
  have hs := sz_le n
  have hp := sz_pos n
  have hl := last_lt ha hr
  have hrt := rightB_mk hn hr
  have e0 : IntKind.i64.wrap (a : Int) = (a : Int) := IntWalk.i64_in _ (by omega)
  have e1 : IntKind.i64.wrap ((a : Int) + (sz n : Nat)) = (a : Int) + (sz n : Nat) := IntWalk.i64_in _ (by omega)
  have e2 : IntKind.i64.wrap ((a : Int) + (sz n : Nat) - 1) = (a : Int) + (sz n : Nat) - 1 := IntWalk.i64_in _ (by omega)
  have e3 : IntKind.u32.wrap ((a : Int) + (sz n : Nat) - 1) = ((a + (sz n - 1) : Nat) : Int) := by rw [wrap_u32']; omega
  go_enter Tryz.func55, Tryz.ntmps55
  go_wp2_with (go_at_call 68; refine (rright_any a n _ ha).mono ?_; rintro e w1 ⟨rfl, b1⟩)
  have hz : w.heap.size + 1 < w1.heap.size := by have := b1.size; simp at this; omega
  obtain ⟨hc, hf⟩ := bc b1
  have hc0 : w1.cell? ⟨w.heap.size, 0, none⟩ = some (.int .u32 a) := (hc _ _ (by simp; omega)).trans (by simp)
  have hc1 : w1.cell? ⟨w.heap.size, 1, none⟩ = some (.int .i64 n) := (hc _ _ (by simp; omega)).trans (by simp)
  have hd0 : w1.cell? ⟨w.heap.size + 1, 0, none⟩ = some (.int .u32 0) := (hc _ _ (by simp)).trans (by simp)
  have hd1 : w1.cell? ⟨w.heap.size + 1, 1, none⟩ = some (.int .u32 0) := (hc _ _ (by simp)).trans (by simp)
  have hg0 : w1.frozen? ⟨w.heap.size + 1, 0, none⟩ = false := (hf _ _ (by simp)).trans (by simp)
  have hg1 : w1.frozen? ⟨w.heap.size + 1, 1, none⟩ = false := (hf _ _ (by simp)).trans (by simp)
  clear hc hf
  go_region_held3 (fun w' => w'.cell? ⟨w.heap.size, 0, none⟩ = some (.int .u32 a) ∧ w'.cell? ⟨w.heap.size, 1, none⟩ = some (.int .i64 n)) (first | go_keep) ((go_at_call 69; refine (size_any _ _ (by omega)).mono ?_; rintro e w2 ⟨rfl, rfl⟩))
  go_wp2
  refine bodyPost_ret (v := .tuple #[.agg #[.int .u32 a, .int .u32 (a + (sz n - 1) : Nat)], .int .i64 0]) (by simp [results, Tryz.results55, go_sem, hd0, hd1, hc0, hc1, e0, e1, e2, e3]) rfl ⟨rfl, ?_⟩
  exact ((((((Below.refl _ w).alloc (Nat.le_refl _) _).alloc (by simp) _).trans (b1.mono (by simp; omega))).setCell (by simp) _).setCell (by simp) _).drew
set_option maxHeartbeats 1000000 in
theorem rrange_no (a : Nat) (n : Int) (w : World) (ha : a < 4294967296) (hr : rightB a n = false) : Calls Tryz.prog 55 #[.agg #[.int .u32 a, .int .i64 n]] w fun e w' => e = .returned (.tuple #[.agg #[.int .u32 0, .int .u32 0], .int .i64 21]) ∧ Below w.heap.size w w' := by
  go_enter Tryz.func55, Tryz.ntmps55
  go_wp2_with fail
  refine (rright_any a n _ ha).mono ?_
  rintro e w1 ⟨rfl, b1⟩
  have hz : w.heap.size + 1 < w1.heap.size := by have := b1.size; simp at this; omega
  obtain ⟨hc, hf⟩ := bc b1
  go_wp2
  refine bodyPost_ret (v := .tuple #[.agg #[.int .u32 0, .int .u32 0], .int .i64 21]) (by simp [results, Tryz.results55, go_sem, hc, hz]) rfl ⟨rfl, ?_⟩
  exact ((((((Below.refl _ w).alloc (Nat.le_refl _) _).alloc (by simp) _).trans (b1.mono (by simp; omega))).setCell (by simp) _).setCell (by simp) _)
/-- The document's Range. -/
theorem rrange_any (a : Nat) (n : Int) (w : World) (ha : a < 4294967296) : Calls Tryz.prog 55 #[.agg #[.int .u32 a, .int .i64 n]] w fun e w' => e = .returned (rngV a n) ∧ Below w.heap.size w w' := by
  unfold rngV
  by_cases h : rightB a n = true
  · obtain ⟨k, rfl, hk, hm⟩ := rightB_yes h
    rw [if_pos h]
    exact rrange_yes a k w ha hk hm
  · rw [if_neg h]
    exact rrange_no a n w ha (by simpa using h)
end Go.Proofs.YtmpgfmedldnhjaaGreatDoor
