/- Plain mathematics: the first of rules. -/
import Derived.Test.YtmndgbpfophniaaD7
namespace Go.Proofs.Ytmndgbpfophniaa
open Go.RowKit Go.Shelf

/-- Whether the one comes first. -/
def aheadB (x y : Ru) : Bool := decide (y.pr < x.pr) || (decide (x.pr = y.pr) && decide (x.id < y.id))
/-- Whether a rule is a device's, of two kinds, and takes an address. -/
def takesB (r : Ru) (d one oth : Int) (a : Nat) : Bool := decide (r.dv = d) && ((decide (r.kd = one) || decide (r.kd = oth)) && (decide (r.f ≤ a) && decide (a ≤ r.t)))
/-- The first of the rules that are asked: one step. -/
def stepF (p : Ru → Bool) (o : Option Ru) (r : Ru) : Option Ru := if p r && (o.isNone || aheadB r (o.getD ru0)) then some r else o
def firstL (p : Ru → Bool) (L : List Ru) : Option Ru := L.foldl (stepF p) none
theorem firstL_snoc (p : Ru → Bool) (L : List Ru) (k : Nat) (hk : k < L.length) : firstL p (L.take (k + 1)) = stepF p (firstL p (L.take k)) L[k] := by
  unfold firstL; rw [List.take_succ_eq_append_getElem hk, List.foldl_append]; rfl
def firstV (o : Option Ru) : Value := .tuple #[.agg (ruA (o.getD ru0)), .bool o.isSome]
/-- Where a loop of first stands. -/
def FirI (p : Ru → Bool) (L : List Ru) (w : World) (i b : Value) (k : Nat) (W : World) : Prop := i = .int .i64 k ∧ b = .bool (firstL p (L.take k)).isSome ∧ k ≤ L.length ∧ Below w.heap.size w W ∧
  At W w.heap.size (ruA ru0) 63 ∧ At W (w.heap.size + 1) (ruA ((firstL p (L.take k)).getD ru0)) 63
/-- A rule is written over a block. -/
def fillW (W : World) (B : Nat) (r : Ru) : World := (((((((W.setCell ⟨B, 0, none⟩ (.int .i64 r.id)).setCell ⟨B, 1, none⟩ (.int .i64 r.dv)).setCell ⟨B, 2, none⟩ (.int .i64 r.pr)).setCell ⟨B, 3, none⟩ (.int .i64 r.kd)).setCell ⟨B, 4, none⟩ (.int .u32 r.f)).setCell ⟨B, 5, none⟩ (.int .u32 r.t)).setCell ⟨B, 6, none⟩ (.int .i64 r.pt))
theorem At.fill {W : World} {B : Nat} {y : Ru} {T : TypeId} (h : At W B (ruA y) T) (r : Ru) : At (fillW W B r) B (ruA r) T := by
  have := ((((((h.set0 0 (.int .i64 r.id)).set0 1 (.int .i64 r.dv)).set0 2 (.int .i64 r.pr)).set0 3 (.int .i64 r.kd)).set0 4 (.int .u32 r.f)).set0 5 (.int .u32 r.t)).set0 6 (.int .i64 r.pt)
  unfold fillW
  simpa [ruA] using this
theorem At.fillo {W : World} {B B' : Nat} {cs : Array Value} {T : TypeId} (h : At W B' cs T) (hne : B' ≠ B) (r : Ru) : At (fillW W B r) B' cs T :=
  ((((((h.other hne 0 _).other hne 1 _).other hne 2 _).other hne 3 _).other hne 4 _).other hne 5 _).other hne 6 _
theorem below_fill {n B : Nat} {a W : World} (h : Below n a W) (hB : n ≤ B) (r : Ru) : Below n a (fillW W B r) :=
  ((((((h.setCell (p := ⟨B, 0, none⟩) hB _).setCell (p := ⟨B, 1, none⟩) hB _).setCell (p := ⟨B, 2, none⟩) hB _).setCell (p := ⟨B, 3, none⟩) hB _).setCell (p := ⟨B, 4, none⟩) hB _).setCell (p := ⟨B, 5, none⟩) hB _).setCell (p := ⟨B, 6, none⟩) hB _
theorem rd0 : ruA ru0 = #[.int .i64 0, .int .i64 0, .int .i64 0, .int .i64 0, .int .u32 0, .int .u32 0, .int .i64 0] := rfl

/-- Two kinds of a device that take an address. -/
def tk (d one oth : Int) (a : Nat) (r : Ru) : Bool := takesB r d one oth a
theorem ahead_iff (a b : Ru) : aheadB a b = true ↔ (b.pr < a.pr ∨ (a.pr = b.pr ∧ a.id < b.id)) := by
  simp [aheadB]
theorem ahead_no (a b : Ru) : aheadB a b = false ↔ ¬ (b.pr < a.pr ∨ (a.pr = b.pr ∧ a.id < b.id)) := by
  rw [← ahead_iff]; cases aheadB a b <;> simp
theorem foldF_some (p : Ru → Bool) (L : List Ru) : ∀ b : Ru, ∃ x, L.foldl (stepF p) (some b) = some x ∧ (x = b ∨ (x ∈ L ∧ p x = true)) ∧ aheadB b x = false ∧ ∀ r ∈ L, p r = true → aheadB r x = false := by
  induction L with
  | nil => intro b; exact ⟨b, rfl, Or.inl rfl, by rw [ahead_no]; omega, by simp⟩
  | cons r L ih =>
    intro b
    rw [List.foldl_cons]
    by_cases h : p r = true ∧ aheadB r b = true
    · have e : stepF p (some b) r = some r := by simp [stepF, h.1, h.2]
      rw [e]
      obtain ⟨x, e1, h1, h2, h3⟩ := ih r
      refine ⟨x, e1, ?_, ?_, ?_⟩
      · rcases h1 with rfl | ⟨h1, h1'⟩
        · exact Or.inr ⟨List.mem_cons_self, h.1⟩
        · exact Or.inr ⟨List.mem_cons_of_mem _ h1, h1'⟩
      · have := (ahead_iff _ _).1 h.2
        rw [ahead_no] at h2 ⊢
        omega
      · intro s hs hp
        rcases List.mem_cons.1 hs with rfl | hs
        · exact h2
        · exact h3 s hs hp
    · have e : stepF p (some b) r = some b := by
        cases hp : p r with
        | false => simp [stepF, hp]
        | true => have : aheadB r b = false := by cases ha : aheadB r b with
                  | false => rfl
                  | true => exact absurd ⟨hp, ha⟩ h
                  simp [stepF, hp, this]
      rw [e]
      obtain ⟨x, e1, h1, h2, h3⟩ := ih b
      refine ⟨x, e1, ?_, h2, ?_⟩
      · rcases h1 with rfl | ⟨h1, h1'⟩
        · exact Or.inl rfl
        · exact Or.inr ⟨List.mem_cons_of_mem _ h1, h1'⟩
      · intro s hs hp
        rcases List.mem_cons.1 hs with rfl | hs
        · have ha : aheadB s b = false := by cases ha : aheadB s b with
            | false => rfl
            | true => exact absurd ⟨hp, ha⟩ h
          rw [ahead_no] at h2 ha ⊢
          omega
        · exact h3 s hs hp
/-- The first is among them, and none is ahead of it; there is none just if none is asked. -/
theorem firstL_is (p : Ru → Bool) (L : List Ru) : (firstL p L = none ∧ ∀ r ∈ L, p r = false) ∨ ∃ x, firstL p L = some x ∧ x ∈ L ∧ p x = true ∧ ∀ r ∈ L, p r = true → aheadB r x = false := by
  unfold firstL
  induction L with
  | nil => exact Or.inl ⟨rfl, by simp⟩
  | cons r L ih =>
    rw [List.foldl_cons]
    cases hp : p r with
    | false =>
      have e : stepF p none r = none := by simp [stepF, hp]
      rw [e]
      rcases ih with ⟨h1, h2⟩ | ⟨x, h1, h2, h3, h4⟩
      · refine Or.inl ⟨h1, fun s hs => ?_⟩
        rcases List.mem_cons.1 hs with rfl | hs
        · exact hp
        · exact h2 s hs
      · refine Or.inr ⟨x, h1, List.mem_cons_of_mem _ h2, h3, fun s hs hps => ?_⟩
        rcases List.mem_cons.1 hs with rfl | hs
        · rw [hp] at hps; cases hps
        · exact h4 s hs hps
    | true =>
      have e : stepF p none r = some r := by simp [stepF, hp]
      rw [e]
      obtain ⟨x, e1, h1, h2, h3⟩ := foldF_some p L r
      refine Or.inr ⟨x, e1, ?_, ?_, ?_⟩
      · rcases h1 with rfl | ⟨h1, h1'⟩
        · exact List.mem_cons_self
        · exact List.mem_cons_of_mem _ h1
      · rcases h1 with rfl | ⟨h1, h1'⟩
        · exact hp
        · exact h1'
      · intro s hs hps
        rcases List.mem_cons.1 hs with rfl | hs
        · exact h2
        · exact h3 s hs hps
theorem firstL_filter (q p : Ru → Bool) (L : List Ru) (h : ∀ r, q r = true → p r = true) : firstL q (L.filter p) = firstL q L := by
  unfold firstL
  generalize (none : Option Ru) = o
  induction L generalizing o with
  | nil => rfl
  | cons r L ih =>
    rw [List.foldl_cons]
    cases hp : p r with
    | false =>
      rw [List.filter_cons_of_neg (by rw [hp]; simp)]
      have hq : q r = false := by cases hq : q r with
        | false => rfl
        | true => have := h r hq; rw [hp] at this; cases this
      have e : stepF q o r = o := by simp [stepF, hq]
      rw [e]; exact ih o
    | true => rw [List.filter_cons_of_pos hp, List.foldl_cons]; exact ih _
theorem firstL_congr (q p : Ru → Bool) (L : List Ru) (h : ∀ r ∈ L, q r = p r) : firstL q L = firstL p L := by
  unfold firstL
  generalize (none : Option Ru) = o
  induction L generalizing o with
  | nil => rfl
  | cons r L ih =>
    rw [List.foldl_cons, List.foldl_cons]
    have e : stepF q o r = stepF p o r := by unfold stepF; rw [h r List.mem_cons_self]
    rw [e]
    exact ih (fun s hs => h s (List.mem_cons_of_mem _ hs)) _

theorem firstL_none (p : Ru → Bool) (L : List Ru) (h : ∀ r ∈ L, p r = false) : firstL p L = none := by
  rcases firstL_is p L with ⟨h1, _⟩ | ⟨x, h1, h2, h3, _⟩
  · exact h1
  · rw [h x h2] at h3; cases h3
theorem RR.find {L : List Ru} (h : RR L) {x : Ru} (hx : x ∈ L) : firstL (fun r => decide (r.id = x.id)) L = some x := by
  rcases firstL_is (fun r => decide (r.id = x.id)) L with ⟨_, h2⟩ | ⟨y, h1, h2, h3, _⟩
  · have := h2 x hx; simp at this
  · rw [h1, h.one h2 hx (by simpa using h3)]
end Go.Proofs.Ytmndgbpfophniaa
