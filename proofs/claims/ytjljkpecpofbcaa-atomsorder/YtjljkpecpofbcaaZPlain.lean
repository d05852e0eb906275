/- Plain mathematics: the cuts of ranges, rising, each once. No program. -/
namespace Go.Proofs.Ytjljkpecpofbcaa

/-- Rising cuts, from 'lo' on, below m. -/
def Rising : Nat → Nat → List Nat → Prop
  | _, _, [] => True
  | lo, m, c :: l => lo ≤ c ∧ c < m ∧ Rising (c + 1) m l
/-- The end of the stretch that begins at c, the next cuts being l. -/
def endOf (m : Nat) : List Nat → Nat
  | [] => m - 1
  | d :: _ => d - 1
theorem rising_mem : ∀ {l : List Nat} {lo m : Nat}, Rising lo m l → ∀ x ∈ l, lo ≤ x ∧ x < m
  | [], _, _, _, x, hx => by simp at hx
  | c :: l, lo, m, h, x, hx => by
    rcases List.mem_cons.1 hx with e | hx
    · subst e; exact ⟨h.1, h.2.1⟩
    · have := rising_mem h.2.2 x hx; have := h.1; omega
theorem rising_gap : ∀ {l : List Nat} {lo m i c x : Nat}, Rising lo m l → l[i]? = some c → x ∈ l → c < x → endOf m (l.drop (i + 1)) < x
  | [], _, _, _, _, _, _, _, hx, _ => by simp at hx
  | d :: l, lo, m, 0, c, x, h, hc, hx, hlt => by
    have e : d = c := by simpa using hc
    subst e
    rcases List.mem_cons.1 hx with e | hx
    · omega
    · cases l with
      | nil => simp at hx
      | cons e l =>
        have h1 : e ≤ x := by
          rcases List.mem_cons.1 hx with e1 | hx
          · omega
          · have := (rising_mem h.2.2.2.2 x hx).1; omega
        have := h.2.2.1
        show e - 1 < x; omega
  | d :: l, lo, m, i + 1, c, x, h, hc, hx, hlt => by
    have hc' : l[i]? = some c := by simpa using hc
    have hdc := (rising_mem h.2.2 c (List.mem_of_getElem? hc')).1
    rcases List.mem_cons.1 hx with e | hx
    · omega
    · have := rising_gap h.2.2 hc' hx hlt
      simpa using this
/-- All numbers fit in 32 bits. -/
def U32 (L : List (Nat × Nat)) : Prop := ∀ r ∈ L, r.1 < 4294967296 ∧ r.2 < 4294967296
theorem U32.at {z : List (Nat × Nat)} (h : U32 z) (k : Nat) (hk : k < z.length) : z[k].1 < 4294967296 ∧ z[k].2 < 4294967296 := h _ (List.getElem_mem hk)
/-- The least cut from lo on; m, if there is none. -/
def nx (m lo : Nat) (all : List Nat) : Nat := all.foldl (fun n x => if lo ≤ x ∧ x < n then x else n) m
theorem nx_fold (lo : Nat) : ∀ (all : List Nat) (m : Nat), (all.foldl (fun n x => if lo ≤ x ∧ x < n then x else n) m) ≤ m ∧ ((all.foldl (fun n x => if lo ≤ x ∧ x < n then x else n) m) = m ∨ ((all.foldl (fun n x => if lo ≤ x ∧ x < n then x else n) m) ∈ all ∧ lo ≤ (all.foldl (fun n x => if lo ≤ x ∧ x < n then x else n) m))) ∧ ∀ x ∈ all, lo ≤ x → (all.foldl (fun n x => if lo ≤ x ∧ x < n then x else n) m) ≤ x
  | [], m => ⟨Nat.le_refl _, .inl rfl, fun x hx => by simp at hx⟩
  | y :: all, m => by
    obtain ⟨h1, h2, h3⟩ := nx_fold lo all (if lo ≤ y ∧ y < m then y else m)
    rw [List.foldl_cons]
    refine ⟨?_, ?_, ?_⟩
    · have : (if lo ≤ y ∧ y < m then y else m) ≤ m := by split <;> omega
      omega
    · rcases h2 with h2 | h2
      · by_cases hy : lo ≤ y ∧ y < m
        · rw [if_pos hy] at h2
          simp only [if_pos hy]
          right; rw [h2]; exact ⟨by simp, hy.1⟩
        · rw [if_neg hy] at h2
          simp only [if_neg hy]
          left; exact h2
      · right; exact ⟨by simp [h2.1], h2.2⟩
    · intro x hx hlo
      rcases List.mem_cons.1 hx with e | hx
      · subst e
        by_cases hy : lo ≤ x ∧ x < m
        · rw [if_pos hy] at h1 ⊢; exact h1
        · rw [if_neg hy] at h1 ⊢; omega
      · exact h3 x hx hlo
theorem nx_snoc (m lo : Nat) (all : List Nat) (x : Nat) : nx m lo (all ++ [x]) = if lo ≤ x ∧ x < nx m lo all then x else nx m lo all := by unfold nx; rw [List.foldl_append]; rfl
/-- The cuts from lo on, rising, each once. -/
def cutsL (m lo : Nat) (all : List Nat) : List Nat := if h : lo ≤ nx m lo all ∧ nx m lo all < m then nx m lo all :: cutsL m (nx m lo all + 1) all else []
termination_by m - lo
decreasing_by omega
theorem nx_lo {m lo : Nat} {all : List Nat} (h : nx m lo all < m) : lo ≤ nx m lo all ∧ nx m lo all ∈ all := by
  obtain ⟨h1, h2, h3⟩ := nx_fold lo all m
  rcases h2 with h2 | h2
  · have : nx m lo all = m := h2
    omega
  · exact ⟨h2.2, h2.1⟩
theorem cutsL_cons {m lo : Nat} {all : List Nat} (h : nx m lo all < m) : cutsL m lo all = nx m lo all :: cutsL m (nx m lo all + 1) all := by
  rw [cutsL, dif_pos ⟨(nx_lo h).1, h⟩]
theorem cutsL_nil {m lo : Nat} {all : List Nat} (h : ¬ nx m lo all < m) : cutsL m lo all = [] := by
  rw [cutsL, dif_neg (by omega)]
theorem cutsL_spec (m : Nat) (all : List Nat) : ∀ (d lo : Nat), m - lo ≤ d → Rising lo m (cutsL m lo all) ∧ (∀ x ∈ all, lo ≤ x → x < m → x ∈ cutsL m lo all) := by
  intro d
  induction d with
  | zero =>
    intro lo hd
    by_cases h : nx m lo all < m
    · have := nx_lo h; omega
    · rw [cutsL_nil h]; exact ⟨trivial, fun x hx h1 h2 => by omega⟩
  | succ d ih =>
    intro lo hd
    by_cases h : nx m lo all < m
    · have h0 := nx_lo h
      obtain ⟨i1, i2⟩ := ih (nx m lo all + 1) (by omega)
      rw [cutsL_cons h]
      refine ⟨⟨h0.1, h, i1⟩, fun x hx h1 h2 => ?_⟩
      have h3 : nx m lo all ≤ x := (nx_fold lo all m).2.2 x hx h1
      by_cases e : x = nx m lo all
      · simp [e]
      · exact List.mem_cons_of_mem _ (i2 x hx (by omega) h2)
    · rw [cutsL_nil h]
      refine ⟨trivial, fun x hx h1 h2 => ?_⟩
      have h3 : nx m lo all ≤ x := (nx_fold lo all m).2.2 x hx h1
      omega
theorem cutsL_head {m : Nat} {all : List Nat} (h0 : 0 ∈ all) (hm : 0 < m) : (cutsL m 0 all).head? = some 0 := by
  have h3 : nx m 0 all ≤ 0 := (nx_fold 0 all m).2.2 0 h0 (Nat.le_refl _)
  have e : nx m 0 all = 0 := by omega
  rw [cutsL_cons (by omega), e]; rfl
theorem rising_len : ∀ {l : List Nat} {lo m : Nat}, Rising lo m l → lo + l.length ≤ m ∨ l = []
  | [], _, _, _ => .inr rfl
  | c :: l, lo, m, h => by
    left
    have h1 := h.1
    have h2 := h.2.1
    rcases rising_len h.2.2 with h3 | h3
    · simp only [List.length_cons]; omega
    · subst h3; simp; omega
/-- Where something may begin, of ranges. -/
def ends (l : List (Nat × Nat)) : List Nat := 0 :: l.flatMap fun r => [r.1, r.2 + 1]
theorem ends_snoc (l : List (Nat × Nat)) (r : Nat × Nat) : ends (l ++ [r]) = ends l ++ [r.1, r.2 + 1] := by simp [ends]
theorem ends_mem {l : List (Nat × Nat)} {r : Nat × Nat} (h : r ∈ l) : r.1 ∈ ends l ∧ r.2 + 1 ∈ ends l := by
  constructor <;> (unfold ends; refine List.mem_cons_of_mem _ (List.mem_flatMap.2 ⟨r, h, by simp⟩))
end Go.Proofs.Ytjljkpecpofbcaa
