/- Plain mathematics: right rules, in a row. -/
import Derived.Test.YtmndgbpfophniaaS1
namespace Go.Proofs.Ytmndgbpfophniaa
open Go.RowKit Go.Shelf

/-- Whether a number lies between two. -/
def wn (n a b : Int) : Bool := decide (a ≤ n) && decide (n ≤ b)
/-- The last port of a kind. -/
def lastP (kd : Int) : Int := if kd = 0 then 3 else 0
/-- Whether a rule is right. -/
def ruB (r : Ru) : Bool := wn r.id 1 1048576 && (wn r.dv 0 7 && (wn r.pr 0 1024 && (decide (0 ≤ r.kd) && (decide (r.kd ≤ 3) && (decide (r.f ≤ r.t) && wn r.pt 0 (lastP r.kd))))))
/-- The ID ahead of a place. -/
def lastId (L : List Ru) : Nat → Int
  | 0 => 0
  | k + 1 => (L[k]?.getD ru0).id
/-- Whether a rule is wrong where it stands. -/
def wrongAt (L : List Ru) (k : Nat) : Bool := !ruB (L[k]?.getD ru0) || decide ((L[k]?.getD ru0).id ≤ lastId L k)
/-- Whether rules are right. -/
def allB (L : List Ru) : Bool := decide (L.length ≤ 40) && (List.range L.length).all fun k => !wrongAt L k
theorem allB_of {L : List Ru} {b : Bool} (h40 : L.length ≤ 40) (hb : b = true ↔ ∃ k, k < L.length ∧ wrongAt L k = true) : (!b) = allB L := by
  unfold allB
  rw [decide_eq_true h40, Bool.true_and]
  cases b with
  | true =>
    obtain ⟨k, hk, hw⟩ := hb.1 rfl
    symm
    rw [Bool.not_true, List.all_eq_false]
    exact ⟨k, List.mem_range.2 hk, by simp [hw]⟩
  | false =>
    symm
    rw [Bool.not_false, List.all_eq_true]
    intro k hk
    cases hw : wrongAt L k with
    | false => rfl
    | true => have := hb.2 ⟨k, List.mem_range.1 hk, hw⟩; cases this
/-- A right rule. -/
theorem ruB_iff (r : Ru) : ruB r = true ↔ (1 ≤ r.id ∧ r.id ≤ 1048576) ∧ (0 ≤ r.dv ∧ r.dv ≤ 7) ∧ (0 ≤ r.pr ∧ r.pr ≤ 1024) ∧ 0 ≤ r.kd ∧ r.kd ≤ 3 ∧ r.f ≤ r.t ∧ 0 ≤ r.pt ∧ r.pt ≤ 3 ∧ (r.kd = 0 ∨ r.pt = 0) := by
  unfold ruB wn lastP
  by_cases h : r.kd = 0
  · simp [h, and_assoc]
  · rw [if_neg h]
    simp only [Bool.and_eq_true, decide_eq_true_eq]
    constructor
    · rintro ⟨⟨h1, h2⟩, ⟨h3, h4⟩, ⟨h5, h6⟩, h7, h8, h9, h10, h11⟩
      omega
    · rintro ⟨⟨h1, h2⟩, ⟨h3, h4⟩, ⟨h5, h6⟩, h7, h8, h9, h10, h11, h12⟩
      have := h12.resolve_left h
      omega
/-- Right rules, at most 40, with rising IDs. -/
structure RR (L : List Ru) : Prop where
  len : L.length ≤ 40
  right : ∀ r ∈ L, ruB r = true
  up : ∀ i j (hi : i < L.length) (hj : j < L.length), i < j → L[i].id < L[j].id
theorem allB_iff (L : List Ru) : allB L = true ↔ L.length ≤ 40 ∧ ∀ k (hk : k < L.length), ruB L[k] = true ∧ lastId L k < L[k].id := by
  unfold allB
  rw [Bool.and_eq_true, decide_eq_true_eq, List.all_eq_true]
  refine and_congr Iff.rfl ⟨fun h k hk => ?_, fun h k hk => ?_⟩
  · have := h k (List.mem_range.2 hk)
    simpa [wrongAt, hk] using this
  · have hk := List.mem_range.1 hk
    have := h k hk
    simpa [wrongAt, hk] using this
theorem rr_of {L : List Ru} (h : allB L = true) : RR L := by
  obtain ⟨h1, h2⟩ := (allB_iff L).1 h
  refine ⟨h1, fun r hr => ?_, ?_⟩
  · obtain ⟨k, hk, rfl⟩ := List.getElem_of_mem hr
    exact (h2 k hk).1
  · intro i j hi hj hij
    induction j with
    | zero => omega
    | succ j ih =>
      have h3 := (h2 (j + 1) hj).2
      have e : lastId L (j + 1) = (L[j]'(by omega)).id := by simp [lastId, show j < L.length by omega]
      rw [e] at h3
      by_cases hj2 : i = j
      · subst hj2; exact h3
      · exact Int.lt_trans (ih (by omega) (by omega)) h3
theorem RR.one {L : List Ru} (h : RR L) {x y : Ru} (hx : x ∈ L) (hy : y ∈ L) (e : x.id = y.id) : x = y := by
  obtain ⟨i, hi, rfl⟩ := List.getElem_of_mem hx
  obtain ⟨j, hj, rfl⟩ := List.getElem_of_mem hy
  rcases Nat.lt_trichotomy i j with h1 | h1 | h1
  · have := h.up i j hi hj h1; omega
  · subst h1; rfl
  · have := h.up j i hj hi h1; omega
end Go.Proofs.Ytmndgbpfophniaa
