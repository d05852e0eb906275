/- Plain mathematics: the first of rules; right rules in a row. -/
import Derived.Test.YtmpgfmedldnhjaaGreatDoorS7
namespace Go.Proofs.YtmpgfmedldnhjaaGreatDoor
open Go.RowKit Go.Shelf

theorem ahead_iff (a b : Ru) : aheadB a b = true ↔ (b.pr < a.pr ∨ (a.pr = b.pr ∧ a.id < b.id)) := by
  simp [aheadB]
theorem ahead_no (a b : Ru) : aheadB a b = false ↔ ¬ (b.pr < a.pr ∨ (a.pr = b.pr ∧ a.id < b.id)) := by
  rw [← ahead_iff]; cases aheadB a b <;> simp
theorem foldF_some (p : Ru → Bool) (L : List Ru) : ∀ b : Ru, ∃ x, L.foldl (stepF p) (some b) = some x ∧ (x = b ∨ (x ∈ L ∧ p x = true)) ∧ aheadB b x = false ∧ ∀ r ∈ L, p r = true → aheadB r x = false := by
  induction L with
  | nil => intro b; exact ⟨b, rfl, Or.inl rfl, by rw [ahead_no]; omega, by simp⟩
  | cons r L ih =>
    intro b
    rw [List.foldl_cons]
    by_cases h : p r = true ∧ aheadB r b = true
    · have e : stepF p (some b) r = some r := by simp [stepF, h.1, h.2]
      rw [e]
      obtain ⟨x, e1, h1, h2, h3⟩ := ih r
      refine ⟨x, e1, ?_, ?_, ?_⟩
      · rcases h1 with rfl | ⟨h1, h1'⟩
        · exact Or.inr ⟨List.mem_cons_self, h.1⟩
        · exact Or.inr ⟨List.mem_cons_of_mem _ h1, h1'⟩
      · have := (ahead_iff _ _).1 h.2
        rw [ahead_no] at h2 ⊢
        omega
      · intro s hs hp
        rcases List.mem_cons.1 hs with rfl | hs
        · exact h2
        · exact h3 s hs hp
    · have e : stepF p (some b) r = some b := by
        cases hp : p r with
        | false => simp [stepF, hp]
        | true => have : aheadB r b = false := by cases ha : aheadB r b with
                  | false => rfl
                  | true => exact absurd ⟨hp, ha⟩ h
                  simp [stepF, hp, this]
      rw [e]
      obtain ⟨x, e1, h1, h2, h3⟩ := ih b
      refine ⟨x, e1, ?_, h2, ?_⟩
      · rcases h1 with rfl | ⟨h1, h1'⟩
        · exact Or.inl rfl
        · exact Or.inr ⟨List.mem_cons_of_mem _ h1, h1'⟩
      · intro s hs hp
        rcases List.mem_cons.1 hs with rfl | hs
        · have ha : aheadB s b = false := by cases ha : aheadB s b with
            | false => rfl
            | true => exact absurd ⟨hp, ha⟩ h
          rw [ahead_no] at h2 ha ⊢
          omega
        · exact h3 s hs hp
/-- The first is among them, and none is ahead of it; there is none just if none is asked. -/
theorem firstL_is (p : Ru → Bool) (L : List Ru) : (firstL p L = none ∧ ∀ r ∈ L, p r = false) ∨ ∃ x, firstL p L = some x ∧ x ∈ L ∧ p x = true ∧ ∀ r ∈ L, p r = true → aheadB r x = false := by
  unfold firstL
  induction L with
  | nil => exact Or.inl ⟨rfl, by simp⟩
  | cons r L ih =>
    rw [List.foldl_cons]
    cases hp : p r with
    | false =>
      have e : stepF p none r = none := by simp [stepF, hp]
      rw [e]
      rcases ih with ⟨h1, h2⟩ | ⟨x, h1, h2, h3, h4⟩
      · refine Or.inl ⟨h1, fun s hs => ?_⟩
        rcases List.mem_cons.1 hs with rfl | hs
        · exact hp
        · exact h2 s hs
      · refine Or.inr ⟨x, h1, List.mem_cons_of_mem _ h2, h3, fun s hs hps => ?_⟩
        rcases List.mem_cons.1 hs with rfl | hs
        · rw [hp] at hps; cases hps
        · exact h4 s hs hps
    | true =>
      have e : stepF p none r = some r := by simp [stepF, hp]
      rw [e]
      obtain ⟨x, e1, h1, h2, h3⟩ := foldF_some p L r
      refine Or.inr ⟨x, e1, ?_, ?_, ?_⟩
      · rcases h1 with rfl | ⟨h1, h1'⟩
        · exact List.mem_cons_self
        · exact List.mem_cons_of_mem _ h1
      · rcases h1 with rfl | ⟨h1, h1'⟩
        · exact hp
        · exact h1'
      · intro s hs hps
        rcases List.mem_cons.1 hs with rfl | hs
        · exact h2
        · exact h3 s hs hps
theorem firstL_filter (q p : Ru → Bool) (L : List Ru) (h : ∀ r, q r = true → p r = true) : firstL q (L.filter p) = firstL q L := by
  unfold firstL
  generalize (none : Option Ru) = o
  induction L generalizing o with
  | nil => rfl
  | cons r L ih =>
    rw [List.foldl_cons]
    cases hp : p r with
    | false =>
      rw [List.filter_cons_of_neg (by rw [hp]; simp)]
      have hq : q r = false := by cases hq : q r with
        | false => rfl
        | true => have := h r hq; rw [hp] at this; cases this
      have e : stepF q o r = o := by simp [stepF, hq]
      rw [e]; exact ih o
    | true => rw [List.filter_cons_of_pos hp, List.foldl_cons]; exact ih _
theorem firstL_congr (q p : Ru → Bool) (L : List Ru) (h : ∀ r ∈ L, q r = p r) : firstL q L = firstL p L := by
  unfold firstL
  generalize (none : Option Ru) = o
  induction L generalizing o with
  | nil => rfl
  | cons r L ih =>
    rw [List.foldl_cons, List.foldl_cons]
    have e : stepF q o r = stepF p o r := by unfold stepF; rw [h r List.mem_cons_self]
    rw [e]
    exact ih (fun s hs => h s (List.mem_cons_of_mem _ hs)) _

/-- A right rule. -/
theorem ruB_iff (r : Ru) : ruB r = true ↔ (1 ≤ r.id ∧ r.id ≤ 1048576) ∧ (0 ≤ r.dv ∧ r.dv ≤ 7) ∧ (0 ≤ r.pr ∧ r.pr ≤ 1024) ∧ 0 ≤ r.kd ∧ r.kd ≤ 3 ∧ r.f ≤ r.t ∧ 0 ≤ r.pt ∧ r.pt ≤ 3 ∧ (r.kd = 0 ∨ r.pt = 0) := by
  unfold ruB wn lastP
  by_cases h : r.kd = 0
  · simp [h, and_assoc]
  · rw [if_neg h]
    simp only [Bool.and_eq_true, decide_eq_true_eq]
    constructor
    · rintro ⟨⟨h1, h2⟩, ⟨h3, h4⟩, ⟨h5, h6⟩, h7, h8, h9, h10, h11⟩
      omega
    · rintro ⟨⟨h1, h2⟩, ⟨h3, h4⟩, ⟨h5, h6⟩, h7, h8, h9, h10, h11, h12⟩
      have := h12.resolve_left h
      omega
/-- Right rules, at most 40, with rising IDs. -/
structure RR (L : List Ru) : Prop where
  len : L.length ≤ 40
  right : ∀ r ∈ L, ruB r = true
  up : ∀ i j (hi : i < L.length) (hj : j < L.length), i < j → L[i].id < L[j].id
theorem allB_iff (L : List Ru) : allB L = true ↔ L.length ≤ 40 ∧ ∀ k (hk : k < L.length), ruB L[k] = true ∧ lastId L k < L[k].id := by
  unfold allB
  rw [Bool.and_eq_true, decide_eq_true_eq, List.all_eq_true]
  refine and_congr Iff.rfl ⟨fun h k hk => ?_, fun h k hk => ?_⟩
  · have := h k (List.mem_range.2 hk)
    simpa [wrongAt, hk] using this
  · have hk := List.mem_range.1 hk
    have := h k hk
    simpa [wrongAt, hk] using this
theorem rr_of {L : List Ru} (h : allB L = true) : RR L := by
  obtain ⟨h1, h2⟩ := (allB_iff L).1 h
  refine ⟨h1, fun r hr => ?_, ?_⟩
  · obtain ⟨k, hk, rfl⟩ := List.getElem_of_mem hr
    exact (h2 k hk).1
  · intro i j hi hj hij
    induction j with
    | zero => omega
    | succ j ih =>
      have h3 := (h2 (j + 1) hj).2
      have e : lastId L (j + 1) = (L[j]'(by omega)).id := by simp [lastId, show j < L.length by omega]
      rw [e] at h3
      by_cases hj2 : i = j
      · subst hj2; exact h3
      · exact Int.lt_trans (ih (by omega) (by omega)) h3
theorem RR.one {L : List Ru} (h : RR L) {x y : Ru} (hx : x ∈ L) (hy : y ∈ L) (e : x.id = y.id) : x = y := by
  obtain ⟨i, hi, rfl⟩ := List.getElem_of_mem hx
  obtain ⟨j, hj, rfl⟩ := List.getElem_of_mem hy
  rcases Nat.lt_trichotomy i j with h1 | h1 | h1
  · have := h.up i j hi hj h1; omega
  · subst h1; rfl
  · have := h.up j i hj hi h1; omega
theorem RR.find {L : List Ru} (h : RR L) {x : Ru} (hx : x ∈ L) : firstL (fun r => decide (r.id = x.id)) L = some x := by
  rcases firstL_is (fun r => decide (r.id = x.id)) L with ⟨_, h2⟩ | ⟨y, h1, h2, h3, _⟩
  · have := h2 x hx; simp at this
  · rw [h1, h.one h2 hx (by simpa using h3)]
end Go.Proofs.YtmpgfmedldnhjaaGreatDoor
