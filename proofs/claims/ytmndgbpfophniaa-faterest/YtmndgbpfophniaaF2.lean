/- Contracts: rule.within, rule.Right. -/
import Derived.Test.YtmndgbpfophniaaD7
namespace Go.Proofs.Ytmndgbpfophniaa
open Go.RowKit Go.Shelf

theorem within_any (n a b : Int) (w : World) : Calls Try.prog 53 #[.int .i64 n, .int .i64 a, .int .i64 b] w fun e w' => e = .returned (.bool (wn n a b)) ∧ w = w' := by
  by_cases h : a ≤ n
  · have d1 : decide (a ≤ n) = true := decide_eq_true h
    unfold wn; rw [d1, Bool.true_and]
    go_enter Try.func53, Try.ntmps53
    go_wp2
    go_ret
    exact ⟨rfl, rfl⟩
  · have d1 : decide (a ≤ n) = false := decide_eq_false h
    unfold wn; rw [d1, Bool.false_and]
    go_enter Try.func53, Try.ntmps53
    go_wp2
    go_ret
    exact ⟨rfl, rfl⟩

set_option maxRecDepth 100000 in
theorem ruright_fwd (id dv pr kd : Int) (f t : Nat) (pt : Int) (w : World) (h0 : kd = 0) : Calls Try.prog 42 #[.agg #[.int .i64 id, .int .i64 dv, .int .i64 pr, .int .i64 kd, .int .u32 f, .int .u32 t, .int .i64 pt]] w fun e w' => e = .returned (.bool (wn id 1 1048576 && (wn dv 0 7 && (wn pr 0 1024 && (decide (0 ≤ kd) && (decide (kd ≤ 3) && (decide (f ≤ t) && wn pt 0 3))))))) ∧ Below w.heap.size w w' := by
  have d0 : (kd == 0) = true := by simpa using h0
  clear h0
  cases h1 : wn id 1 1048576 with
  | false =>
    simp only [Bool.false_and]
    go_enter Try.func42, Try.ntmps42
    go_wp2_with (go_at_call 53; refine (within_any _ _ _ _).mono ?_; rintro e w1 ⟨rfl, rfl⟩)
    go_ret
    exact ⟨rfl, (Below.refl _ _).alloc (Nat.le_refl _) _⟩
  | true =>
    cases h2 : wn dv 0 7 with
    | false =>
      simp only [Bool.true_and, Bool.false_and]
      go_enter Try.func42, Try.ntmps42
      go_wp2_with (go_at_call 53; refine (within_any _ _ _ _).mono ?_; rintro e w1 ⟨rfl, rfl⟩)
      go_ret
      exact ⟨rfl, (Below.refl _ _).alloc (Nat.le_refl _) _⟩
    | true =>
      cases h3 : wn pr 0 1024 with
      | false =>
        simp only [Bool.true_and, Bool.false_and]
        go_enter Try.func42, Try.ntmps42
        go_wp2_with (go_at_call 53; refine (within_any _ _ _ _).mono ?_; rintro e w1 ⟨rfl, rfl⟩)
        go_ret
        exact ⟨rfl, (Below.refl _ _).alloc (Nat.le_refl _) _⟩
      | true =>
        cases h4 : decide (0 ≤ kd) with
        | false =>
          simp only [Bool.true_and, Bool.false_and]
          go_enter Try.func42, Try.ntmps42
          go_wp2_with (go_at_call 53; refine (within_any _ _ _ _).mono ?_; rintro e w1 ⟨rfl, rfl⟩)
          go_ret
          exact ⟨rfl, (Below.refl _ _).alloc (Nat.le_refl _) _⟩
        | true =>
          cases h5 : decide (kd ≤ 3) with
          | false =>
            simp only [Bool.true_and, Bool.false_and]
            go_enter Try.func42, Try.ntmps42
            go_wp2_with (go_at_call 53; refine (within_any _ _ _ _).mono ?_; rintro e w1 ⟨rfl, rfl⟩)
            go_ret
            exact ⟨rfl, (Below.refl _ _).alloc (Nat.le_refl _) _⟩
          | true =>
            cases h6 : decide (f ≤ t) with
            | false =>
              have h6i : decide ((f : Int) ≤ (t : Int)) = false := by rw [← h6]; congr 1; simp
              simp only [Bool.true_and, Bool.false_and]
              go_enter Try.func42, Try.ntmps42
              go_wp2_with (go_at_call 53; refine (within_any _ _ _ _).mono ?_; rintro e w1 ⟨rfl, rfl⟩)
              go_ret
              exact ⟨rfl, (Below.refl _ _).alloc (Nat.le_refl _) _⟩
            | true =>
              have h6i : decide ((f : Int) ≤ (t : Int)) = true := by rw [← h6]; congr 1; simp
              simp only [Bool.true_and]
              go_enter Try.func42, Try.ntmps42
              go_wp2_with (go_at_call 53; refine (within_any _ _ _ _).mono ?_; rintro e w1 ⟨rfl, rfl⟩)
              go_ret
              exact ⟨rfl, (Below.refl _ _).alloc (Nat.le_refl _) _⟩
set_option maxRecDepth 100000 in
theorem ruright_oth (id dv pr kd : Int) (f t : Nat) (pt : Int) (w : World) (h0 : ¬ kd = 0) : Calls Try.prog 42 #[.agg #[.int .i64 id, .int .i64 dv, .int .i64 pr, .int .i64 kd, .int .u32 f, .int .u32 t, .int .i64 pt]] w fun e w' => e = .returned (.bool (wn id 1 1048576 && (wn dv 0 7 && (wn pr 0 1024 && (decide (0 ≤ kd) && (decide (kd ≤ 3) && (decide (f ≤ t) && wn pt 0 0))))))) ∧ Below w.heap.size w w' := by
  have d0 : (kd == 0) = false := by simpa using h0
  clear h0
  cases h1 : wn id 1 1048576 with
  | false =>
    simp only [Bool.false_and]
    go_enter Try.func42, Try.ntmps42
    go_wp2_with (go_at_call 53; refine (within_any _ _ _ _).mono ?_; rintro e w1 ⟨rfl, rfl⟩)
    go_ret
    exact ⟨rfl, (Below.refl _ _).alloc (Nat.le_refl _) _⟩
  | true =>
    cases h2 : wn dv 0 7 with
    | false =>
      simp only [Bool.true_and, Bool.false_and]
      go_enter Try.func42, Try.ntmps42
      go_wp2_with (go_at_call 53; refine (within_any _ _ _ _).mono ?_; rintro e w1 ⟨rfl, rfl⟩)
      go_ret
      exact ⟨rfl, (Below.refl _ _).alloc (Nat.le_refl _) _⟩
    | true =>
      cases h3 : wn pr 0 1024 with
      | false =>
        simp only [Bool.true_and, Bool.false_and]
        go_enter Try.func42, Try.ntmps42
        go_wp2_with (go_at_call 53; refine (within_any _ _ _ _).mono ?_; rintro e w1 ⟨rfl, rfl⟩)
        go_ret
        exact ⟨rfl, (Below.refl _ _).alloc (Nat.le_refl _) _⟩
      | true =>
        cases h4 : decide (0 ≤ kd) with
        | false =>
          simp only [Bool.true_and, Bool.false_and]
          go_enter Try.func42, Try.ntmps42
          go_wp2_with (go_at_call 53; refine (within_any _ _ _ _).mono ?_; rintro e w1 ⟨rfl, rfl⟩)
          go_ret
          exact ⟨rfl, (Below.refl _ _).alloc (Nat.le_refl _) _⟩
        | true =>
          cases h5 : decide (kd ≤ 3) with
          | false =>
            simp only [Bool.true_and, Bool.false_and]
            go_enter Try.func42, Try.ntmps42
            go_wp2_with (go_at_call 53; refine (within_any _ _ _ _).mono ?_; rintro e w1 ⟨rfl, rfl⟩)
            go_ret
            exact ⟨rfl, (Below.refl _ _).alloc (Nat.le_refl _) _⟩
          | true =>
            cases h6 : decide (f ≤ t) with
            | false =>
              have h6i : decide ((f : Int) ≤ (t : Int)) = false := by rw [← h6]; congr 1; simp
              simp only [Bool.true_and, Bool.false_and]
              go_enter Try.func42, Try.ntmps42
              go_wp2_with (go_at_call 53; refine (within_any _ _ _ _).mono ?_; rintro e w1 ⟨rfl, rfl⟩)
              go_ret
              exact ⟨rfl, (Below.refl _ _).alloc (Nat.le_refl _) _⟩
            | true =>
              have h6i : decide ((f : Int) ≤ (t : Int)) = true := by rw [← h6]; congr 1; simp
              simp only [Bool.true_and]
              go_enter Try.func42, Try.ntmps42
              go_wp2_with (go_at_call 53; refine (within_any _ _ _ _).mono ?_; rintro e w1 ⟨rfl, rfl⟩)
              go_ret
              exact ⟨rfl, (Below.refl _ _).alloc (Nat.le_refl _) _⟩
/-- rule.Right. -/
theorem ruright_any (r : Ru) (w : World) : Calls Try.prog 42 #[.agg (ruA r)] w fun e w' => e = .returned (.bool (ruB r)) ∧ Below w.heap.size w w' := by
  obtain ⟨id, dv, pr, kd, f, t, pt⟩ := r
  by_cases h : kd = 0
  · have := ruright_fwd id dv pr kd f t pt w h
    unfold ruB lastP; simp only [h, if_true] at this ⊢; exact this
  · have := ruright_oth id dv pr kd f t pt w h
    unfold ruB lastP; simp only [h, if_false] at this ⊢; exact this
end Go.Proofs.Ytmndgbpfophniaa
