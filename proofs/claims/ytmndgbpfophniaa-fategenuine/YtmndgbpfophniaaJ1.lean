/- Plain mathematics: who is joined, by a map that is filled link by link; how many ports stand in it. -/
import Derived.Test.YtmndgbpfophniaaPl
namespace Go.Proofs.Ytmndgbpfophniaa

/-- A map with one more. -/
def setM (M : Pt → Option Pt) (x v : Pt) : Pt → Option Pt := fun y => if y = x then some v else M y
def stepM (M : Pt → Option Pt) (l : Lk) : Pt → Option Pt := setM (setM M l.a l.b) l.b l.a
/-- The map of links. -/
def mapL (ls : List Lk) : Pt → Option Pt := ls.foldl stepM fun _ => none
theorem mapL_snoc (ls : List Lk) (k : Nat) (hk : k < ls.length) : mapL (ls.take (k + 1)) = setM (setM (mapL (ls.take k)) ls[k].a ls[k].b) ls[k].b ls[k].a := by
  unfold mapL; rw [List.take_succ_eq_append_getElem hk, List.foldl_append]; rfl
theorem mapL_app (ls : List Lk) (l : Lk) : mapL (ls ++ [l]) = stepM (mapL ls) l := by
  unfold mapL; rw [List.foldl_append]; rfl
theorem mapL_some : ∀ (ls : List Lk) (p : Pt), ((mapL ls p).isSome = true ↔ p ∈ ends ls) ∧ ∀ q, mapL ls p = some q → ∃ l ∈ ls, (l.a = p ∧ l.b = q) ∨ (l.b = p ∧ l.a = q) := by
  intro ls
  induction hn : ls.length generalizing ls with
  | zero =>
    obtain rfl := List.eq_nil_of_length_eq_zero hn
    intro p
    simp [mapL, ends]
  | succ n ih =>
    obtain ⟨r, l, rfl⟩ : ∃ r l, ls = r ++ [l] := ⟨ls.dropLast, ls.getLast (by intro e; rw [e] at hn; simp at hn), (List.dropLast_concat_getLast _).symm⟩
    intro p
    obtain ⟨h1, h2⟩ := ih r (by simpa using hn) p
    rw [mapL_app, ends_append]
    have e2 : ends [l] = [l.a, l.b] := rfl
    rw [e2]
    unfold stepM setM
    by_cases hb : p = l.b
    · rw [if_pos hb]
      refine ⟨by simp [hb], fun q hq => ?_⟩
      injection hq with hq
      exact ⟨l, by simp, .inr ⟨hb.symm, hq⟩⟩
    · rw [if_neg hb]
      by_cases ha : p = l.a
      · rw [if_pos ha]
        refine ⟨by simp [ha], fun q hq => ?_⟩
        injection hq with hq
        exact ⟨l, by simp, .inl ⟨ha.symm, hq⟩⟩
      · rw [if_neg ha]
        refine ⟨by rw [h1]; simp [ha, hb], fun q hq => ?_⟩
        obtain ⟨m, hm, hh⟩ := h2 q hq
        exact ⟨m, by simp [hm], hh⟩
/-- Where no port is in two links, the map tells who is joined. -/
theorem mapL_next {ls : List Lk} (hn : (ends ls).Nodup) (p : Pt) : mapL ls p = nextT ls p := by
  obtain ⟨h1, h2⟩ := mapL_some ls p
  cases h : mapL ls p with
  | none =>
    rw [h] at h1
    symm
    rw [nextT_none]
    intro hm
    have := h1.2 hm
    cases this
  | some q => exact (nextT_of hn (h2 q h)).symm
/-- How many there are, each once: of the last one first. -/
def dcnt : List Pt → Nat
  | [] => 0
  | x :: r => if x ∈ r then dcnt r else dcnt r + 1
theorem dcnt_cons (x : Pt) (r : List Pt) : dcnt (x :: r) = if x ∈ r then dcnt r else dcnt r + 1 := rfl
theorem dcnt_le : ∀ l : List Pt, dcnt l ≤ l.length
  | [] => Nat.le_refl _
  | x :: r => by
    have := dcnt_le r
    rw [dcnt_cons, List.length_cons]
    split <;> omega
theorem dcnt_nodup : ∀ l : List Pt, dcnt l = l.length ↔ l.Nodup
  | [] => by simp [dcnt]
  | x :: r => by
    have h1 := dcnt_le r
    have h2 := dcnt_nodup r
    rw [List.nodup_cons, ← h2]
    rw [dcnt_cons, List.length_cons]
    by_cases h : x ∈ r
    · rw [if_pos h]
      constructor
      · intro e; omega
      · intro e; exact absurd h e.1
    · rw [if_neg h]
      constructor
      · intro e; exact ⟨h, by omega⟩
      · intro e; omega
/-- How many ports stand in the links, each once. -/
def cntL (ls : List Lk) : Nat := dcnt (ends ls).reverse
theorem cntL_zero : cntL [] = 0 := rfl
theorem cntL_snoc (ls : List Lk) (k : Nat) (hk : k < ls.length) :
    cntL (ls.take (k + 1)) = if (setM (mapL (ls.take k)) ls[k].a ls[k].b ls[k].b).isSome then (if (mapL (ls.take k) ls[k].a).isSome then cntL (ls.take k) else cntL (ls.take k) + 1) else (if (mapL (ls.take k) ls[k].a).isSome then cntL (ls.take k) else cntL (ls.take k) + 1) + 1 := by
  have e : (ends (ls.take (k + 1))).reverse = ls[k].b :: ls[k].a :: (ends (ls.take k)).reverse := by
    rw [List.take_succ_eq_append_getElem hk, ends_append]
    simp [ends]
  unfold cntL
  rw [e]
  have h1 := (mapL_some (ls.take k) ls[k].a).1
  have h2 := (mapL_some (ls.take k) ls[k].b).1
  have e1 : dcnt (ls[k].a :: (ends (ls.take k)).reverse) = if (mapL (ls.take k) ls[k].a).isSome then dcnt (ends (ls.take k)).reverse else dcnt (ends (ls.take k)).reverse + 1 := by
    show (if ls[k].a ∈ (ends (ls.take k)).reverse then _ else _) = _
    by_cases h : ls[k].a ∈ ends (ls.take k)
    · rw [if_pos (List.mem_reverse.2 h), if_pos (h1.2 h)]
    · rw [if_neg (fun hh => h (List.mem_reverse.1 hh)), if_neg (fun hh => h (h1.1 hh))]
  have e2 : (setM (mapL (ls.take k)) ls[k].a ls[k].b ls[k].b).isSome = true ↔ ls[k].b ∈ ls[k].a :: (ends (ls.take k)).reverse := by
    unfold setM
    by_cases h : ls[k].b = ls[k].a
    · rw [if_pos h]; simp [h]
    · rw [if_neg h, h2]; simp [h]
  show (if ls[k].b ∈ ls[k].a :: (ends (ls.take k)).reverse then _ else _) = _
  rw [e1]
  by_cases h : ls[k].b ∈ ls[k].a :: (ends (ls.take k)).reverse
  · rw [if_pos h, if_pos (e2.2 h)]
  · rw [if_neg h, if_neg (fun hh => h (e2.1 hh))]
theorem cntL_le (ls : List Lk) : cntL ls ≤ 2 * ls.length := by
  have := dcnt_le (ends ls).reverse
  rw [List.length_reverse, ends_length] at this
  exact this
theorem cntL_nodup (ls : List Lk) : cntL ls = 2 * ls.length ↔ (ends ls).Nodup := by
  have := dcnt_nodup (ends ls).reverse
  rw [List.length_reverse, ends_length] at this
  unfold cntL
  rw [this, List.nodup_iff_pairwise_ne, List.nodup_iff_pairwise_ne, List.pairwise_reverse]
  constructor <;> intro h <;> exact h.imp fun hab => Ne.symm hab
end Go.Proofs.Ytmndgbpfophniaa
