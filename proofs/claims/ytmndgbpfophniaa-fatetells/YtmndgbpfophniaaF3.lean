/- Contracts: ahead, taking's closure. -/
import Derived.Test.YtmndgbpfophniaaFW
namespace Go.Proofs.Ytmndgbpfophniaa
open Go.RowKit Go.Shelf

set_option maxRecDepth 100000 in
theorem ahead_any (x y : Ru) (w : World) : Calls Try.prog 54 #[.agg (ruA x), .agg (ruA y)] w fun e w' => e = .returned (.bool (aheadB x y)) ∧ Below w.heap.size w w' := by
  obtain ⟨id, dv, pr, kd, f, t, pt⟩ := x
  obtain ⟨id', dv', pr', kd', f', t', pt'⟩ := y
  have hb : Below w.heap.size w ((w.alloc (.cells #[.int .i64 id, .int .i64 dv, .int .i64 pr, .int .i64 kd, .int .u32 f, .int .u32 t, .int .i64 pt] 63)).alloc (.cells #[.int .i64 id', .int .i64 dv', .int .i64 pr', .int .i64 kd', .int .u32 f', .int .u32 t', .int .i64 pt'] 63)) := ((Below.refl _ _).alloc (Nat.le_refl _) _).alloc (by simp) _
  rw [ruA_mk, ruA_mk]
  unfold aheadB
  dsimp only
  cases h1 : decide (pr' < pr) with
  | true =>
    rw [Bool.true_or]
    have := of_decide_eq_true h1
    go_enter Try.func54, Try.ntmps54
    go_wp2
    go_ret
    exact ⟨rfl, hb⟩
  | false =>
    rw [Bool.false_or]
    have := of_decide_eq_false h1
    cases h2 : decide (pr = pr') with
    | true =>
      have e := of_decide_eq_true h2
      have h3 : (pr == pr') = true := by simpa using e
      clear e
      rw [Bool.true_and]
      go_enter Try.func54, Try.ntmps54
      go_wp2
      go_ret
      exact ⟨rfl, hb⟩
    | false =>
      have e := of_decide_eq_false h2
      have h3 : (pr == pr') = false := by simpa using e
      clear e
      rw [Bool.false_and]
      go_enter Try.func54, Try.ntmps54
      go_wp2
      go_ret
      exact ⟨rfl, hb⟩

set_option maxRecDepth 100000 in
/-- taking's closure. -/
theorem taking1_any (x : Ru) (d one oth : Int) (a C0 C1 C2 C3 : Nat) (w : World) (hA0 : At w C0 #[.int .i64 d] 3) (hA1 : At w C1 #[.int .i64 one] 59) (hA2 : At w C2 #[.int .i64 oth] 59) (hA3 : At w C3 #[.int .u32 a] 29) :
    Calls Try.prog 55 (#[.agg (ruA x)] ++ #[.pointer (some ⟨C0, 0, none⟩), .pointer (some ⟨C1, 0, none⟩), .pointer (some ⟨C2, 0, none⟩), .pointer (some ⟨C3, 0, none⟩)]) w fun e w' => e = .returned (.bool (takesB x d one oth a)) ∧ Below w.heap.size w w' := by
  obtain ⟨id, dv, pr, kd, f, t, pt⟩ := x
  have c0 := ((hA0.alloc (.cells #[.int .i64 id, .int .i64 dv, .int .i64 pr, .int .i64 kd, .int .u32 f, .int .u32 t, .int .i64 pt] 63)).cell 0).trans rfl
  have c1 := ((hA1.alloc (.cells #[.int .i64 id, .int .i64 dv, .int .i64 pr, .int .i64 kd, .int .u32 f, .int .u32 t, .int .i64 pt] 63)).cell 0).trans rfl
  have c2 := ((hA2.alloc (.cells #[.int .i64 id, .int .i64 dv, .int .i64 pr, .int .i64 kd, .int .u32 f, .int .u32 t, .int .i64 pt] 63)).cell 0).trans rfl
  have c3 := ((hA3.alloc (.cells #[.int .i64 id, .int .i64 dv, .int .i64 pr, .int .i64 kd, .int .u32 f, .int .u32 t, .int .i64 pt] 63)).cell 0).trans rfl
  have hb : Below w.heap.size w (w.alloc (.cells #[.int .i64 id, .int .i64 dv, .int .i64 pr, .int .i64 kd, .int .u32 f, .int .u32 t, .int .i64 pt] 63)) := (Below.refl _ _).alloc (Nat.le_refl _) _
  clear hA0 hA1 hA2 hA3
  rw [ruA_mk]
  unfold takesB
  dsimp only
  show Calls Try.prog 55 #[_, _, _, _, _] w _
  cases h1 : decide (dv = d) with
  | false =>
    have h1b : (dv == d) = false := by have e := of_decide_eq_false h1; simpa using e
    simp only [Bool.false_and]
    go_enter Try.func55, Try.ntmps55
    go_wp2
    go_ret
    exact ⟨rfl, hb⟩
  | true =>
    have h1b : (dv == d) = true := by have e := of_decide_eq_true h1; simpa using e
    cases h2 : decide (kd = one) with
    | true =>
      have h2b : (kd == one) = true := by have e := of_decide_eq_true h2; simpa using e
      cases h4 : decide (f ≤ a) with
      | false =>
        have h4i : decide ((f : Int) ≤ (a : Int)) = false := by rw [← h4]; congr 1; simp
        simp only [Bool.true_and, Bool.false_and, Bool.true_or]
        go_enter Try.func55, Try.ntmps55
        go_wp2
        go_ret
        exact ⟨rfl, hb⟩
      | true =>
        have h4i : decide ((f : Int) ≤ (a : Int)) = true := by rw [← h4]; congr 1; simp
        simp only [Bool.true_and, Bool.true_or]
        go_enter Try.func55, Try.ntmps55
        go_wp2
        go_ret
        exact ⟨rfl, hb⟩
    | false =>
      have h2b : (kd == one) = false := by have e := of_decide_eq_false h2; simpa using e
      cases h3 : decide (kd = oth) with
      | false =>
        have h3b : (kd == oth) = false := by have e := of_decide_eq_false h3; simpa using e
        simp only [Bool.true_and, Bool.or_self, Bool.false_and]
        go_enter Try.func55, Try.ntmps55
        go_wp2
        go_ret
        exact ⟨rfl, hb⟩
      | true =>
        have h3b : (kd == oth) = true := by have e := of_decide_eq_true h3; simpa using e
        cases h4 : decide (f ≤ a) with
        | false =>
          have h4i : decide ((f : Int) ≤ (a : Int)) = false := by rw [← h4]; congr 1; simp
          simp only [Bool.true_and, Bool.false_and, Bool.false_or]
          go_enter Try.func55, Try.ntmps55
          go_wp2
          go_ret
          exact ⟨rfl, hb⟩
        | true =>
          have h4i : decide ((f : Int) ≤ (a : Int)) = true := by rw [← h4]; congr 1; simp
          simp only [Bool.true_and, Bool.false_or]
          go_enter Try.func55, Try.ntmps55
          go_wp2
          go_ret
          exact ⟨rfl, hb⟩
end Go.Proofs.Ytmndgbpfophniaa
