/- Contracts: ahead, and the closures that ask a rule. -/
import Derived.Test.YtmpgfmedldnhjaaGreatDoorS2
namespace Go.Proofs.YtmpgfmedldnhjaaGreatDoor
open Go.RowKit Go.Shelf

/-- Whether the one comes first. -/
def aheadB (x y : Ru) : Bool := decide (y.pr < x.pr) || (decide (x.pr = y.pr) && decide (x.id < y.id))
set_option maxRecDepth 100000 in
theorem ahead_any (x y : Ru) (w : World) : Calls Tryz.prog 39 #[.agg (ruA x), .agg (ruA y)] w fun e w' => e = .returned (.bool (aheadB x y)) ∧ Below w.heap.size w w' := by
  obtain ⟨id, dv, pr, kd, f, t, pt⟩ := x
  obtain ⟨id', dv', pr', kd', f', t', pt'⟩ := y
  have hb : Below w.heap.size w ((w.alloc (.cells #[.int .i64 id, .int .i64 dv, .int .i64 pr, .int .i64 kd, .int .u32 f, .int .u32 t, .int .i64 pt] 31)).alloc (.cells #[.int .i64 id', .int .i64 dv', .int .i64 pr', .int .i64 kd', .int .u32 f', .int .u32 t', .int .i64 pt'] 31)) := ((Below.refl _ _).alloc (Nat.le_refl _) _).alloc (by simp) _
  rw [ruA_mk, ruA_mk]
  unfold aheadB
  dsimp only
  cases h1 : decide (pr' < pr) with
  | true =>
    rw [Bool.true_or]
    have := of_decide_eq_true h1
    go_enter Tryz.func39, Tryz.ntmps39
    go_wp2
    go_ret
    exact ⟨rfl, hb⟩
  | false =>
    rw [Bool.false_or]
    have := of_decide_eq_false h1
    cases h2 : decide (pr = pr') with
    | true =>
      have e := of_decide_eq_true h2
      have h3 : (pr == pr') = true := by simpa using e
      clear e
      rw [Bool.true_and]
      go_enter Tryz.func39, Tryz.ntmps39
      go_wp2
      go_ret
      exact ⟨rfl, hb⟩
    | false =>
      have e := of_decide_eq_false h2
      have h3 : (pr == pr') = false := by simpa using e
      clear e
      rw [Bool.false_and]
      go_enter Tryz.func39, Tryz.ntmps39
      go_wp2
      go_ret
      exact ⟨rfl, hb⟩

/-- Find's closure. -/
theorem find1_any (x : Ru) (i : Int) (C : Nat) (w : World) (hA : At w C #[.int .i64 i] 3) : Calls Tryz.prog 22 (#[.agg (ruA x)] ++ #[.pointer (some ⟨C, 0, none⟩)]) w fun e w' => e = .returned (.bool (decide (x.id = i))) ∧ Below w.heap.size w w' := by
  obtain ⟨id, dv, pr, kd, f, t, pt⟩ := x
  have A1 := hA.alloc (.cells #[.int .i64 id, .int .i64 dv, .int .i64 pr, .int .i64 kd, .int .u32 f, .int .u32 t, .int .i64 pt] 31)
  have c1 := (A1.cell 0).trans rfl
  rw [ruA_mk]
  dsimp only
  show Calls Tryz.prog 22 #[_, _] w _
  go_enter Tryz.func22, Tryz.ntmps22
  go_wp2
  go_ret
  refine ⟨ret_bool ?_, (Below.refl _ _).alloc (Nat.le_refl _) _⟩
  by_cases h : id = i <;> simp [h]

/-- Whether a rule is a device's, of two kinds, and takes an address. -/
def takesB (r : Ru) (d one oth : Int) (a : Nat) : Bool := decide (r.dv = d) && ((decide (r.kd = one) || decide (r.kd = oth)) && (decide (r.f ≤ a) && decide (a ≤ r.t)))
set_option maxRecDepth 100000 in
/-- taking's closure. -/
theorem taking1_any (x : Ru) (d one oth : Int) (a C0 C1 C2 C3 : Nat) (w : World) (hA0 : At w C0 #[.int .i64 d] 3) (hA1 : At w C1 #[.int .i64 one] 27) (hA2 : At w C2 #[.int .i64 oth] 27) (hA3 : At w C3 #[.int .u32 a] 24) :
    Calls Tryz.prog 40 (#[.agg (ruA x)] ++ #[.pointer (some ⟨C0, 0, none⟩), .pointer (some ⟨C1, 0, none⟩), .pointer (some ⟨C2, 0, none⟩), .pointer (some ⟨C3, 0, none⟩)]) w fun e w' => e = .returned (.bool (takesB x d one oth a)) ∧ Below w.heap.size w w' := by
  obtain ⟨id, dv, pr, kd, f, t, pt⟩ := x
  have c0 := ((hA0.alloc (.cells #[.int .i64 id, .int .i64 dv, .int .i64 pr, .int .i64 kd, .int .u32 f, .int .u32 t, .int .i64 pt] 31)).cell 0).trans rfl
  have c1 := ((hA1.alloc (.cells #[.int .i64 id, .int .i64 dv, .int .i64 pr, .int .i64 kd, .int .u32 f, .int .u32 t, .int .i64 pt] 31)).cell 0).trans rfl
  have c2 := ((hA2.alloc (.cells #[.int .i64 id, .int .i64 dv, .int .i64 pr, .int .i64 kd, .int .u32 f, .int .u32 t, .int .i64 pt] 31)).cell 0).trans rfl
  have c3 := ((hA3.alloc (.cells #[.int .i64 id, .int .i64 dv, .int .i64 pr, .int .i64 kd, .int .u32 f, .int .u32 t, .int .i64 pt] 31)).cell 0).trans rfl
  have hb : Below w.heap.size w (w.alloc (.cells #[.int .i64 id, .int .i64 dv, .int .i64 pr, .int .i64 kd, .int .u32 f, .int .u32 t, .int .i64 pt] 31)) := (Below.refl _ _).alloc (Nat.le_refl _) _
  clear hA0 hA1 hA2 hA3
  rw [ruA_mk]
  unfold takesB
  dsimp only
  show Calls Tryz.prog 40 #[_, _, _, _, _] w _
  cases h1 : decide (dv = d) with
  | false =>
    have h1b : (dv == d) = false := by have e := of_decide_eq_false h1; simpa using e
    simp only [Bool.false_and]
    go_enter Tryz.func40, Tryz.ntmps40
    go_wp2
    go_ret
    exact ⟨rfl, hb⟩
  | true =>
    have h1b : (dv == d) = true := by have e := of_decide_eq_true h1; simpa using e
    cases h2 : decide (kd = one) with
    | true =>
      have h2b : (kd == one) = true := by have e := of_decide_eq_true h2; simpa using e
      cases h4 : decide (f ≤ a) with
      | false =>
        have h4i : decide ((f : Int) ≤ (a : Int)) = false := by rw [← h4]; congr 1; simp
        simp only [Bool.true_and, Bool.false_and, Bool.true_or, Bool.false_or]
        go_enter Tryz.func40, Tryz.ntmps40
        go_wp2
        go_ret
        exact ⟨rfl, hb⟩
      | true =>
        have h4i : decide ((f : Int) ≤ (a : Int)) = true := by rw [← h4]; congr 1; simp
        simp only [Bool.true_and, Bool.false_and, Bool.true_or, Bool.false_or]
        go_enter Tryz.func40, Tryz.ntmps40
        go_wp2
        go_ret
        exact ⟨rfl, hb⟩
    | false =>
      have h2b : (kd == one) = false := by have e := of_decide_eq_false h2; simpa using e
      cases h3 : decide (kd = oth) with
      | false =>
        have h3b : (kd == oth) = false := by have e := of_decide_eq_false h3; simpa using e
        simp only [Bool.true_and, Bool.or_self, Bool.false_and]
        go_enter Tryz.func40, Tryz.ntmps40
        go_wp2
        go_ret
        exact ⟨rfl, hb⟩
      | true =>
        have h3b : (kd == oth) = true := by have e := of_decide_eq_true h3; simpa using e
        cases h4 : decide (f ≤ a) with
        | false =>
          have h4i : decide ((f : Int) ≤ (a : Int)) = false := by rw [← h4]; congr 1; simp
          simp only [Bool.true_and, Bool.false_and, Bool.true_or, Bool.false_or]
          go_enter Tryz.func40, Tryz.ntmps40
          go_wp2
          go_ret
          exact ⟨rfl, hb⟩
        | true =>
          have h4i : decide ((f : Int) ≤ (a : Int)) = true := by rw [← h4]; congr 1; simp
          simp only [Bool.true_and, Bool.false_and, Bool.true_or, Bool.false_or]
          go_enter Tryz.func40, Tryz.ntmps40
          go_wp2
          go_ret
          exact ⟨rfl, hb⟩
end Go.Proofs.YtmpgfmedldnhjaaGreatDoor
