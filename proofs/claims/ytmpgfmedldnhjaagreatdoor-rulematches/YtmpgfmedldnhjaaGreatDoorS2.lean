/- Contracts: within, rule.Right, ahead, and the closures that ask. -/
import Derived.Test.YtmpgfmedldnhjaaGreatDoorS1
namespace Go.Proofs.YtmpgfmedldnhjaaGreatDoor
open Go.RowKit Go.Shelf

/-- Whether a number lies between two. -/
def wn (n a b : Int) : Bool := decide (a ≤ n) && decide (n ≤ b)
theorem within_any (n a b : Int) (w : World) : Calls Tryz.prog 41 #[.int .i64 n, .int .i64 a, .int .i64 b] w fun e w' => e = .returned (.bool (wn n a b)) ∧ w = w' := by
  by_cases h : a ≤ n
  · have d1 : decide (a ≤ n) = true := decide_eq_true h
    unfold wn; rw [d1, Bool.true_and]
    go_enter Tryz.func41, Tryz.ntmps41
    go_wp2
    go_ret
    exact ⟨rfl, rfl⟩
  · have d1 : decide (a ≤ n) = false := decide_eq_false h
    unfold wn; rw [d1, Bool.false_and]
    go_enter Tryz.func41, Tryz.ntmps41
    go_wp2
    go_ret
    exact ⟨rfl, rfl⟩

/-- The last port of a kind. -/
def lastP (kd : Int) : Int := if kd = 0 then 3 else 0
/-- Whether a rule is right. -/
def ruB (r : Ru) : Bool := wn r.id 1 1048576 && (wn r.dv 0 7 && (wn r.pr 0 1024 && (decide (0 ≤ r.kd) && (decide (r.kd ≤ 3) && (decide (r.f ≤ r.t) && wn r.pt 0 (lastP r.kd))))))
set_option maxRecDepth 100000 in
theorem right_fwd (id dv pr kd : Int) (f t : Nat) (pt : Int) (w : World) (h0 : kd = 0) : Calls Tryz.prog 26 #[.agg #[.int .i64 id, .int .i64 dv, .int .i64 pr, .int .i64 kd, .int .u32 f, .int .u32 t, .int .i64 pt]] w fun e w' => e = .returned (.bool (wn id 1 1048576 && (wn dv 0 7 && (wn pr 0 1024 && (decide (0 ≤ kd) && (decide (kd ≤ 3) && (decide (f ≤ t) && wn pt 0 3))))))) ∧ Below w.heap.size w w' := by
  have d0 : (kd == 0) = true := by simpa using h0
  clear h0
  cases h1 : wn id 1 1048576 with
  | false =>
    simp only [h1, Bool.true_and, Bool.false_and]
    go_enter Tryz.func26, Tryz.ntmps26
    go_wp2_with (go_at_call 41; refine (within_any _ _ _ _).mono ?_; rintro e w1 ⟨rfl, rfl⟩)
    go_ret
    exact ⟨rfl, (Below.refl _ _).alloc (Nat.le_refl _) _⟩
  | true =>
    cases h2 : wn dv 0 7 with
    | false =>
      simp only [h1, h2, Bool.true_and, Bool.false_and]
      go_enter Tryz.func26, Tryz.ntmps26
      go_wp2_with (go_at_call 41; refine (within_any _ _ _ _).mono ?_; rintro e w1 ⟨rfl, rfl⟩)
      go_ret
      exact ⟨rfl, (Below.refl _ _).alloc (Nat.le_refl _) _⟩
    | true =>
      cases h3 : wn pr 0 1024 with
      | false =>
        simp only [h1, h2, h3, Bool.true_and, Bool.false_and]
        go_enter Tryz.func26, Tryz.ntmps26
        go_wp2_with (go_at_call 41; refine (within_any _ _ _ _).mono ?_; rintro e w1 ⟨rfl, rfl⟩)
        go_ret
        exact ⟨rfl, (Below.refl _ _).alloc (Nat.le_refl _) _⟩
      | true =>
        cases h4 : decide (0 ≤ kd) with
        | false =>
          simp only [h1, h2, h3, h4, Bool.true_and, Bool.false_and]
          go_enter Tryz.func26, Tryz.ntmps26
          go_wp2_with (go_at_call 41; refine (within_any _ _ _ _).mono ?_; rintro e w1 ⟨rfl, rfl⟩)
          go_ret
          exact ⟨rfl, (Below.refl _ _).alloc (Nat.le_refl _) _⟩
        | true =>
          cases h5 : decide (kd ≤ 3) with
          | false =>
            simp only [h1, h2, h3, h4, h5, Bool.true_and, Bool.false_and]
            go_enter Tryz.func26, Tryz.ntmps26
            go_wp2_with (go_at_call 41; refine (within_any _ _ _ _).mono ?_; rintro e w1 ⟨rfl, rfl⟩)
            go_ret
            exact ⟨rfl, (Below.refl _ _).alloc (Nat.le_refl _) _⟩
          | true =>
            cases h6 : decide (f ≤ t) with
            | false =>
              have h6i : decide ((f : Int) ≤ (t : Int)) = false := by rw [← h6]; congr 1; simp
              simp only [h1, h2, h3, h4, h5, h6, Bool.true_and, Bool.false_and]
              go_enter Tryz.func26, Tryz.ntmps26
              go_wp2_with (go_at_call 41; refine (within_any _ _ _ _).mono ?_; rintro e w1 ⟨rfl, rfl⟩)
              go_ret
              exact ⟨rfl, (Below.refl _ _).alloc (Nat.le_refl _) _⟩
            | true =>
              have h6i : decide ((f : Int) ≤ (t : Int)) = true := by rw [← h6]; congr 1; simp
              simp only [h1, h2, h3, h4, h5, h6, Bool.true_and]
              go_enter Tryz.func26, Tryz.ntmps26
              go_wp2_with (go_at_call 41; refine (within_any _ _ _ _).mono ?_; rintro e w1 ⟨rfl, rfl⟩)
              go_ret
              exact ⟨rfl, (Below.refl _ _).alloc (Nat.le_refl _) _⟩
set_option maxRecDepth 100000 in
theorem right_oth (id dv pr kd : Int) (f t : Nat) (pt : Int) (w : World) (h0 : ¬ kd = 0) : Calls Tryz.prog 26 #[.agg #[.int .i64 id, .int .i64 dv, .int .i64 pr, .int .i64 kd, .int .u32 f, .int .u32 t, .int .i64 pt]] w fun e w' => e = .returned (.bool (wn id 1 1048576 && (wn dv 0 7 && (wn pr 0 1024 && (decide (0 ≤ kd) && (decide (kd ≤ 3) && (decide (f ≤ t) && wn pt 0 0))))))) ∧ Below w.heap.size w w' := by
  have d0 : (kd == 0) = false := by simpa using h0
  clear h0
  cases h1 : wn id 1 1048576 with
  | false =>
    simp only [h1, Bool.true_and, Bool.false_and]
    go_enter Tryz.func26, Tryz.ntmps26
    go_wp2_with (go_at_call 41; refine (within_any _ _ _ _).mono ?_; rintro e w1 ⟨rfl, rfl⟩)
    go_ret
    exact ⟨rfl, (Below.refl _ _).alloc (Nat.le_refl _) _⟩
  | true =>
    cases h2 : wn dv 0 7 with
    | false =>
      simp only [h1, h2, Bool.true_and, Bool.false_and]
      go_enter Tryz.func26, Tryz.ntmps26
      go_wp2_with (go_at_call 41; refine (within_any _ _ _ _).mono ?_; rintro e w1 ⟨rfl, rfl⟩)
      go_ret
      exact ⟨rfl, (Below.refl _ _).alloc (Nat.le_refl _) _⟩
    | true =>
      cases h3 : wn pr 0 1024 with
      | false =>
        simp only [h1, h2, h3, Bool.true_and, Bool.false_and]
        go_enter Tryz.func26, Tryz.ntmps26
        go_wp2_with (go_at_call 41; refine (within_any _ _ _ _).mono ?_; rintro e w1 ⟨rfl, rfl⟩)
        go_ret
        exact ⟨rfl, (Below.refl _ _).alloc (Nat.le_refl _) _⟩
      | true =>
        cases h4 : decide (0 ≤ kd) with
        | false =>
          simp only [h1, h2, h3, h4, Bool.true_and, Bool.false_and]
          go_enter Tryz.func26, Tryz.ntmps26
          go_wp2_with (go_at_call 41; refine (within_any _ _ _ _).mono ?_; rintro e w1 ⟨rfl, rfl⟩)
          go_ret
          exact ⟨rfl, (Below.refl _ _).alloc (Nat.le_refl _) _⟩
        | true =>
          cases h5 : decide (kd ≤ 3) with
          | false =>
            simp only [h1, h2, h3, h4, h5, Bool.true_and, Bool.false_and]
            go_enter Tryz.func26, Tryz.ntmps26
            go_wp2_with (go_at_call 41; refine (within_any _ _ _ _).mono ?_; rintro e w1 ⟨rfl, rfl⟩)
            go_ret
            exact ⟨rfl, (Below.refl _ _).alloc (Nat.le_refl _) _⟩
          | true =>
            cases h6 : decide (f ≤ t) with
            | false =>
              have h6i : decide ((f : Int) ≤ (t : Int)) = false := by rw [← h6]; congr 1; simp
              simp only [h1, h2, h3, h4, h5, h6, Bool.true_and, Bool.false_and]
              go_enter Tryz.func26, Tryz.ntmps26
              go_wp2_with (go_at_call 41; refine (within_any _ _ _ _).mono ?_; rintro e w1 ⟨rfl, rfl⟩)
              go_ret
              exact ⟨rfl, (Below.refl _ _).alloc (Nat.le_refl _) _⟩
            | true =>
              have h6i : decide ((f : Int) ≤ (t : Int)) = true := by rw [← h6]; congr 1; simp
              simp only [h1, h2, h3, h4, h5, h6, Bool.true_and]
              go_enter Tryz.func26, Tryz.ntmps26
              go_wp2_with (go_at_call 41; refine (within_any _ _ _ _).mono ?_; rintro e w1 ⟨rfl, rfl⟩)
              go_ret
              exact ⟨rfl, (Below.refl _ _).alloc (Nat.le_refl _) _⟩
/-- rule.Right. -/
theorem ruright_any (r : Ru) (w : World) : Calls Tryz.prog 26 #[.agg (ruA r)] w fun e w' => e = .returned (.bool (ruB r)) ∧ Below w.heap.size w w' := by
  obtain ⟨id, dv, pr, kd, f, t, pt⟩ := r
  by_cases h : kd = 0
  · have := right_fwd id dv pr kd f t pt w h
    unfold ruB lastP; simp only [h, if_true] at this ⊢; exact this
  · have := right_oth id dv pr kd f t pt w h
    unfold ruB lastP; simp only [h, if_false] at this ⊢; exact this
end Go.Proofs.YtmpgfmedldnhjaaGreatDoor
