/- Plain mathematics of maps as lists of pairs by rising keys: what lies below a key and from it on, what it has, putting and dropping, floor and ceiling; and what these are of 'left ++ pair :: right'. No program. -/
namespace Go.Proofs.Ytjljkpecpofbcaa

/-- Keys rise. -/
def Up (l : List (Int × Int)) : Prop := l.Pairwise fun a b => a.1 < b.1
def lowL (l : List (Int × Int)) (k : Int) : List (Int × Int) := l.filter fun p => decide (p.1 < k)
def highL (l : List (Int × Int)) (k : Int) : List (Int × Int) := l.filter fun p => decide (k ≤ p.1)
def gtL (l : List (Int × Int)) (k : Int) : List (Int × Int) := l.filter fun p => decide (k < p.1)
def getL (l : List (Int × Int)) (k : Int) : Option (Int × Int) := l.find? fun p => p.1 == k
def putL (l : List (Int × Int)) (k : Int) (v : Int) : List (Int × Int) := lowL l k ++ (k, v) :: gtL l k
def dropL (l : List (Int × Int)) (k : Int) : List (Int × Int) := lowL l k ++ gtL l k
def floorL (l : List (Int × Int)) (k : Int) : Option (Int × Int) := (l.filter fun p => decide (p.1 ≤ k)).getLast?
def ceilL (l : List (Int × Int)) (k : Int) : Option (Int × Int) := (highL l k).head?

theorem Up.nil : Up [] := List.Pairwise.nil
theorem Up.node {A B : List (Int × Int)} {x : Int × Int} (h : Up (A ++ x :: B)) : Up A ∧ Up B ∧ (∀ p ∈ A, p.1 < x.1) ∧ (∀ p ∈ B, x.1 < p.1) := by
  obtain ⟨h1, h2, h3⟩ := List.pairwise_append.1 h
  obtain ⟨h4, h5⟩ := List.pairwise_cons.1 h2
  exact ⟨h1, h5, fun p hp => h3 p hp x (by simp), fun p hp => h4 p hp⟩
theorem Up.mk {A B : List (Int × Int)} {x : Int × Int} (hA : Up A) (hB : Up B) (h1 : ∀ p ∈ A, p.1 < x.1) (h2 : ∀ p ∈ B, x.1 < p.1) : Up (A ++ x :: B) :=
  List.pairwise_append.2 ⟨hA, List.pairwise_cons.2 ⟨fun p hp => h2 p hp, hB⟩, fun p hp q hq => by
    rcases List.mem_cons.1 hq with e | hq
    · subst e; exact h1 p hp
    · have := h1 p hp; have := h2 q hq; omega⟩
theorem filter_all {l : List (Int × Int)} {f : Int × Int → Bool} (h : ∀ p ∈ l, f p = true) : l.filter f = l := List.filter_eq_self.2 h
theorem filter_no {l : List (Int × Int)} {f : Int × Int → Bool} (h : ∀ p ∈ l, f p = false) : l.filter f = [] := List.filter_eq_nil_iff.2 fun p hp => by rw [h p hp]; simp

section
variable {A B : List (Int × Int)} {x : Int × Int} {k : Int}
/-- The key lies below the pair, or at it. -/
theorem low_left (h : Up (A ++ x :: B)) (hk : k ≤ x.1) : lowL (A ++ x :: B) k = lowL A k := by
  obtain ⟨_, _, _, h4⟩ := h.node
  unfold lowL
  rw [List.filter_append, filter_no (l := x :: B), List.append_nil]
  intro p hp
  rcases List.mem_cons.1 hp with e | hp
  · subst e; simp; omega
  · have := h4 p hp; simp; omega
theorem high_left (h : Up (A ++ x :: B)) (hk : k ≤ x.1) : highL (A ++ x :: B) k = highL A k ++ x :: B := by
  obtain ⟨_, _, _, h4⟩ := h.node
  unfold highL
  rw [List.filter_append, filter_all (l := x :: B)]
  intro p hp
  rcases List.mem_cons.1 hp with e | hp
  · subst e; simpa using hk
  · have := h4 p hp; simp; omega
theorem gt_left (h : Up (A ++ x :: B)) (hk : k < x.1) : gtL (A ++ x :: B) k = gtL A k ++ x :: B := by
  obtain ⟨_, _, _, h4⟩ := h.node
  unfold gtL
  rw [List.filter_append, filter_all (l := x :: B)]
  intro p hp
  rcases List.mem_cons.1 hp with e | hp
  · subst e; simpa using hk
  · have := h4 p hp; simp; omega
/-- The key lies above the pair. -/
theorem low_right (h : Up (A ++ x :: B)) (hk : x.1 < k) : lowL (A ++ x :: B) k = A ++ x :: lowL B k := by
  obtain ⟨_, _, h3, _⟩ := h.node
  unfold lowL
  rw [List.filter_append, filter_all (l := A), List.filter_cons_of_pos (by simpa using hk)]
  intro p hp; have := h3 p hp; simp; omega
theorem high_right (h : Up (A ++ x :: B)) (hk : x.1 < k) : highL (A ++ x :: B) k = highL B k := by
  obtain ⟨_, _, h3, _⟩ := h.node
  unfold highL
  rw [List.filter_append, filter_no (l := A), List.filter_cons_of_neg (by simp; omega), List.nil_append]
  intro p hp; have := h3 p hp; simp; omega
theorem gt_right (h : Up (A ++ x :: B)) (hk : x.1 ≤ k) : gtL (A ++ x :: B) k = gtL B k := by
  obtain ⟨_, _, h3, _⟩ := h.node
  unfold gtL
  rw [List.filter_append, filter_no (l := A), List.filter_cons_of_neg (by simp; omega), List.nil_append]
  intro p hp; have := h3 p hp; simp; omega
theorem low_at (h : Up (A ++ x :: B)) : lowL (A ++ x :: B) x.1 = A := by
  obtain ⟨_, _, h3, _⟩ := h.node
  rw [low_left h (Int.le_refl _)]
  exact filter_all fun p hp => by simpa using h3 p hp
theorem gt_at (h : Up (A ++ x :: B)) : gtL (A ++ x :: B) x.1 = B := by
  obtain ⟨_, _, _, h4⟩ := h.node
  rw [gt_right h (Int.le_refl _)]
  exact filter_all fun p hp => by simpa using h4 p hp
theorem put_left (h : Up (A ++ x :: B)) (hk : k < x.1) (v : Int) : putL (A ++ x :: B) k v = putL A k v ++ x :: B := by
  unfold putL; rw [low_left h (by omega), gt_left h hk]; simp
theorem put_right (h : Up (A ++ x :: B)) (hk : x.1 < k) (v : Int) : putL (A ++ x :: B) k v = A ++ x :: putL B k v := by
  unfold putL; rw [low_right h hk, gt_right h (by omega)]; simp
theorem put_at (h : Up (A ++ x :: B)) (v : Int) : putL (A ++ x :: B) x.1 v = A ++ (x.1, v) :: B := by
  unfold putL; rw [low_at h, gt_at h]
theorem drop_left (h : Up (A ++ x :: B)) (hk : k < x.1) : dropL (A ++ x :: B) k = dropL A k ++ x :: B := by
  unfold dropL; rw [low_left h (by omega), gt_left h hk]; simp
theorem drop_right (h : Up (A ++ x :: B)) (hk : x.1 < k) : dropL (A ++ x :: B) k = A ++ x :: dropL B k := by
  unfold dropL; rw [low_right h hk, gt_right h (by omega)]; simp
theorem drop_at (h : Up (A ++ x :: B)) : dropL (A ++ x :: B) x.1 = A ++ B := by
  unfold dropL; rw [low_at h, gt_at h]
theorem get_left (h : Up (A ++ x :: B)) (hk : k < x.1) : getL (A ++ x :: B) k = getL A k := by
  obtain ⟨_, _, _, h4⟩ := h.node
  unfold getL
  rw [List.find?_append]
  have : (x :: B).find? (fun p => p.1 == k) = none := List.find?_eq_none.2 fun p hp => by
    rcases List.mem_cons.1 hp with e | hp
    · subst e; simp; omega
    · have := h4 p hp; simp; omega
  rw [this]; simp
theorem get_right (h : Up (A ++ x :: B)) (hk : x.1 < k) : getL (A ++ x :: B) k = getL B k := by
  obtain ⟨_, _, h3, _⟩ := h.node
  unfold getL
  have h1 : A.find? (fun p => p.1 == k) = none := List.find?_eq_none.2 fun p hp => by have := h3 p hp; simp; omega
  rw [List.find?_append, h1, List.find?_cons_of_neg (by simp; omega)]; rfl
theorem get_at (h : Up (A ++ x :: B)) : getL (A ++ x :: B) x.1 = some x := by
  obtain ⟨_, _, h3, _⟩ := h.node
  unfold getL
  have h1 : A.find? (fun p => p.1 == x.1) = none := List.find?_eq_none.2 fun p hp => by have := h3 p hp; simp; omega
  rw [List.find?_append, h1, List.find?_cons_of_pos (by simp)]; rfl
end
section
variable {l : List (Int × Int)} {k : Int}
theorem Up.low (h : Up l) (k : Int) : Up (lowL l k) := List.Pairwise.filter _ h
theorem Up.high (h : Up l) (k : Int) : Up (highL l k) := List.Pairwise.filter _ h
theorem Up.gt (h : Up l) (k : Int) : Up (gtL l k) := List.Pairwise.filter _ h
theorem Up.put (h : Up l) (k : Int) (v : Int) : Up (putL l k v) :=
  Up.mk (x := (k, v)) (h.low k) (h.gt k) (fun p hp => by simpa using (List.mem_filter.1 hp).2) (fun p hp => by simpa using (List.mem_filter.1 hp).2)
theorem Up.drop (h : Up l) (k : Int) : Up (dropL l k) :=
  List.pairwise_append.2 ⟨h.low k, h.gt k, fun p hp q hq => by
    have h1 := (List.mem_filter.1 hp).2
    have h2 := (List.mem_filter.1 hq).2
    simp at h1 h2; omega⟩
/-- What lies below, and what does not, are the whole. -/
theorem low_high (h : Up l) : lowL l k ++ highL l k = l := by
  induction l with
  | nil => rfl
  | cons x l ih =>
    obtain ⟨h1, h2⟩ := List.pairwise_cons.1 h
    by_cases hx : x.1 < k
    · have : lowL (x :: l) k = x :: lowL l k := List.filter_cons_of_pos (by simpa using hx)
      have : highL (x :: l) k = highL l k := List.filter_cons_of_neg (by simp; omega)
      simp [*, ih h2]
    · have e1 : lowL (x :: l) k = [] := filter_no fun p hp => by
        rcases List.mem_cons.1 hp with e | hp
        · subst e; simpa using hx
        · have := h1 p hp; simp; omega
      have e2 : highL (x :: l) k = x :: l := filter_all fun p hp => by
        rcases List.mem_cons.1 hp with e | hp
        · subst e; simp; omega
        · have := h1 p hp; simp; omega
      rw [e1, e2]; rfl
/-- The place of a key: how many lie below it. -/
theorem take_low (h : Up l) : l.take (lowL l k).length = lowL l k := by
  have e := List.take_left (l₁ := lowL l k) (l₂ := highL l k)
  rwa [low_high h] at e
theorem drop_low (h : Up l) : l.drop (lowL l k).length = highL l k := by
  have e := List.drop_left (l₁ := lowL l k) (l₂ := highL l k)
  rwa [low_high h] at e
/-- Whether the key is there: the first one that is not below. -/
theorem high_is (h : Up l) : (∃ v, highL l k = (k, v) :: gtL l k ∧ getL l k = some (k, v)) ∨ (highL l k = gtL l k ∧ getL l k = none) := by
  induction l with
  | nil => exact .inr ⟨rfl, rfl⟩
  | cons x l ih =>
    obtain ⟨h1, h2⟩ := List.pairwise_cons.1 h
    have h' : Up ([] ++ x :: l) := h
    rcases Int.lt_trichotomy x.1 k with hx | hx | hx
    · have e1 := high_right h' hx
      have e2 := gt_right h' (Int.le_of_lt hx)
      have e3 := get_right h' hx
      simp only [List.nil_append] at e1 e2 e3
      rw [e1, e2, e3]; exact ih h2
    · left
      subst hx
      have e1 := high_left h' (Int.le_refl _)
      have e2 := gt_at h'
      have e3 := get_at h'
      simp only [List.nil_append] at e1 e2 e3
      exact ⟨x.2, by rw [e1, e2]; rfl, e3⟩
    · right
      have e1 := high_left h' (Int.le_of_lt hx)
      have e2 := gt_left h' hx
      have e3 := get_left h' hx
      simp only [List.nil_append] at e1 e2 e3
      exact ⟨by rw [e1, e2]; rfl, by rw [e3]; rfl⟩
theorem put_len (h : Up l) (v : Int) : (putL l k v).length = if getL l k = none then l.length + 1 else l.length := by
  have e := congrArg List.length (low_high (k := k) h)
  rw [List.length_append] at e
  unfold putL
  rw [List.length_append, List.length_cons]
  rcases high_is (k := k) h with ⟨u, h1, h2⟩ | ⟨h1, h2⟩
  · rw [h2, if_neg (by simp)]; rw [h1, List.length_cons] at e; omega
  · rw [h2, if_pos rfl]; rw [h1] at e; omega
theorem drop_len (h : Up l) (hk : getL l k ≠ none) : (dropL l k).length + 1 = l.length := by
  have e := congrArg List.length (low_high (k := k) h)
  rw [List.length_append] at e
  unfold dropL
  rw [List.length_append]
  rcases high_is (k := k) h with ⟨u, h1, h2⟩ | ⟨h1, h2⟩
  · rw [h1, List.length_cons] at e; omega
  · exact absurd h2 hk
end
/-- A tree of pairs. -/
inductive Bt where
  | nil : Bt
  | node : Bt → Int × Int → Bt → Bt
def Bt.flat : Bt → List (Int × Int)
  | .nil => []
  | .node l x r => l.flat ++ x :: r.flat
def Bt.size : Bt → Nat
  | .nil => 0
  | .node l _ r => l.size + 1 + r.size
def Bt.ht : Bt → Nat
  | .nil => 0
  | .node l _ r => max l.ht r.ht + 1
theorem Bt.flat_len : ∀ t : Bt, t.flat.length = t.size
  | .nil => rfl
  | .node l x r => by simp [Bt.flat, Bt.size, l.flat_len, r.flat_len]; omega
/-- The two parts' heights differ by one at most, everywhere. -/
def Bt.even : Bt → Prop
  | .nil => True
  | .node l _ r => l.even ∧ r.even ∧ l.ht ≤ r.ht + 1 ∧ r.ht ≤ l.ht + 1
/-- How many keys, and one, an even tree has at least. -/
def least1 : Nat → Nat
  | 0 => 1
  | 1 => 2
  | h + 2 => least1 (h + 1) + least1 h
theorem least1_mono : ∀ h, least1 h ≤ least1 (h + 1)
  | 0 => by decide
  | h + 1 => by simp only [least1]; omega
theorem least1_le {a b : Nat} (h : a ≤ b) : least1 a ≤ least1 b := by
  induction h with
  | refl => exact Nat.le_refl _
  | step _ ih => exact Nat.le_trans ih (least1_mono _)
theorem least1_grow : ∀ h, 3 * least1 h ≤ 2 * least1 (h + 1)
  | 0 => by decide
  | 1 => by decide
  | h + 2 => by
    have h1 := least1_grow h
    have h2 := least1_grow (h + 1)
    have h3 : least1 (h + 2) = least1 (h + 1) + least1 h := rfl
    have h4 : least1 (h + 3) = least1 (h + 2) + least1 (h + 1) := rfl
    show 3 * least1 (h + 2) ≤ 2 * least1 (h + 3)
    omega
theorem least1_three (h : Nat) : 4 * least1 h ≤ least1 (h + 3) := by
  have h1 := least1_grow h
  have h3 : least1 (h + 2) = least1 (h + 1) + least1 h := rfl
  have h4 : least1 (h + 3) = least1 (h + 2) + least1 (h + 1) := rfl
  omega
theorem least1_pow : ∀ j r, 4 ^ j * least1 r ≤ least1 (3 * j + r)
  | 0, r => by simp
  | j + 1, r => by
    have h1 := least1_pow j r
    have h2 := least1_three (3 * j + r)
    have e : 3 * (j + 1) + r = 3 * j + r + 3 := by omega
    rw [e, Nat.pow_succ]
    have : 4 ^ j * 4 * least1 r = 4 * (4 ^ j * least1 r) := by rw [Nat.mul_comm (4 ^ j) 4, Nat.mul_assoc]
    omega
theorem Bt.even_size : ∀ t : Bt, t.even → least1 t.ht ≤ t.size + 1
  | .nil, _ => by decide
  | .node l x r, h => by
    obtain ⟨h1, h2, h3, h4⟩ := h
    have e1 := l.even_size h1
    have e2 := r.even_size h2
    simp only [Bt.ht, Bt.size]
    rcases Nat.le_total l.ht r.ht with hlr | hlr
    · rw [Nat.max_eq_right hlr]
      cases hr : r.ht with
      | zero => have : l.ht = 0 := by omega
                rw [hr] at e2; rw [this] at e1; simp only [least1] at *; omega
      | succ n =>
        rw [hr] at e2 h4
        have : least1 n ≤ least1 l.ht := least1_le (by omega)
        simp only [least1]; omega
    · rw [Nat.max_eq_left hlr]
      cases hl : l.ht with
      | zero => have : r.ht = 0 := by omega
                rw [hl] at e1; rw [this] at e2; simp only [least1] at *; omega
      | succ n =>
        rw [hl] at e1 h3
        have : least1 n ≤ least1 r.ht := least1_le (by omega)
        simp only [least1]; omega
/-- An even tree is low: of fewer than 2 ^ b keys and one, at most 3 b / 2 and 1. -/
theorem Bt.low {t : Bt} (h : t.even) {b : Nat} (hb : t.size + 1 < 2 ^ b) : t.ht ≤ 3 * b / 2 + 1 := by
  have h1 := t.even_size h
  rcases Nat.lt_or_ge (3 * b / 2 + 1) t.ht with hlt | hge
  · exfalso
    have h2 : 4 ^ (b / 2 + 0) * least1 (3 * b / 2 + 2 - 3 * (b / 2)) ≤ least1 (3 * (b / 2) + (3 * b / 2 + 2 - 3 * (b / 2))) := least1_pow _ _
    have e : 3 * (b / 2) + (3 * b / 2 + 2 - 3 * (b / 2)) = 3 * b / 2 + 2 := by omega
    rw [e] at h2
    have h3 : least1 (3 * b / 2 + 2) ≤ least1 t.ht := least1_le (by omega)
    have h4 : 2 ≤ 3 * b / 2 + 2 - 3 * (b / 2) := by omega
    have h5 : least1 2 ≤ least1 (3 * b / 2 + 2 - 3 * (b / 2)) := least1_le h4
    have h6 : least1 2 = 3 := rfl
    have h7 : 2 ^ b ≤ 4 ^ (b / 2 + 0) * 2 := by
      rw [Nat.add_zero, show (4 : Nat) = 2 ^ 2 from rfl, ← Nat.pow_mul, ← Nat.pow_succ]
      exact Nat.pow_le_pow_right (by omega) (by omega)
    have h8 : 4 ^ (b / 2 + 0) * 3 ≤ 4 ^ (b / 2 + 0) * least1 (3 * b / 2 + 2 - 3 * (b / 2)) := Nat.mul_le_mul_left _ (by omega)
    omega
  · exact hge

/-! What is asked of a tree, part by part. -/
def atL (l : List (Int × Int)) (i : Int) : Option (Int × Int) := if 0 ≤ i then l[i.toNat]? else none
section
variable {A B : List (Int × Int)} {x : Int × Int} {k : Int}
theorem floor_left (h : Up (A ++ x :: B)) (hk : k < x.1) : floorL (A ++ x :: B) k = floorL A k := by
  obtain ⟨_, _, _, h4⟩ := h.node
  unfold floorL
  rw [List.filter_append, filter_no (l := x :: B), List.append_nil]
  intro p hp
  rcases List.mem_cons.1 hp with e | hp
  · subst e; simp; omega
  · have := h4 p hp; simp; omega
theorem floor_right (h : Up (A ++ x :: B)) (hk : x.1 ≤ k) : floorL (A ++ x :: B) k = (floorL B k).or (some x) := by
  unfold floorL
  rw [List.filter_append, List.filter_cons_of_pos (by simpa using hk), List.getLast?_append, List.getLast?_cons]
  cases h : (B.filter fun p => decide (p.1 ≤ k)).getLast? <;> simp
theorem ceil_left (h : Up (A ++ x :: B)) (hk : k ≤ x.1) : ceilL (A ++ x :: B) k = (ceilL A k).or (some x) := by
  unfold ceilL
  rw [high_left h hk, List.head?_append]; rfl
theorem ceil_right (h : Up (A ++ x :: B)) (hk : x.1 < k) : ceilL (A ++ x :: B) k = ceilL B k := by
  unfold ceilL
  rw [high_right h hk]
theorem at_left {i : Int} (hi : i < A.length) : atL (A ++ x :: B) i = atL A i := by
  unfold atL
  split
  · rw [List.getElem?_append_left (by omega)]
  · rfl
theorem at_mid : atL (A ++ x :: B) (A.length : Int) = some x := by
  unfold atL
  rw [if_pos (by omega), Int.toNat_natCast]
  simp
theorem at_right {i : Int} (hi : (A.length : Int) < i) : atL (A ++ x :: B) i = atL B (i - (A.length + 1)) := by
  unfold atL
  rw [if_pos (by omega), if_pos (by omega), List.getElem?_append_right (by omega), show i.toNat - A.length = (i - (A.length + 1)).toNat + 1 by omega]
  simp
end
theorem at_nil (i : Int) : atL [] i = none := by unfold atL; split <;> simp
theorem at_zero (l : List (Int × Int)) : atL l 0 = l.head? := by simp [atL]; cases l <;> simp
theorem get_nil (k : Int) : getL [] k = none := rfl
theorem get_key {l : List (Int × Int)} {k : Int} {x : Int × Int} (h : getL l k = some x) : x.1 = k := by
  have := List.find?_some h
  simpa using this

/-- A tree of two others and a pair between them: even, and at most one higher. -/
def Fit (l : Bt) (x : Int × Int) (r t : Bt) : Prop := t.flat = l.flat ++ x :: r.flat ∧ t.even ∧ l.ht ≤ t.ht ∧ r.ht ≤ t.ht ∧ t.ht ≤ max l.ht r.ht + 1
/-- The same, where the parts' heights differ by two at most. -/
def Lev (l : Bt) (x : Int × Int) (r t : Bt) : Prop := Fit l x r t ∧ (l.ht ≤ r.ht + 1 → r.ht ≤ l.ht + 1 → t.ht = max l.ht r.ht + 1)
theorem lev_bare {l r : Bt} {x : Int × Int} (hl : l.even) (hr : r.even) (h1 : l.ht ≤ r.ht + 1) (h2 : r.ht ≤ l.ht + 1) : Lev l x r (.node l x r) :=
  ⟨⟨rfl, ⟨hl, hr, h1, h2⟩, by simp only [Bt.ht]; omega, by simp only [Bt.ht]; omega, by simp only [Bt.ht]; omega⟩, fun _ _ => rfl⟩
/-- turnRight, its inner part parted. -/
theorem lev_right1 {ll il ir r : Bt} {lx ix x : Int × Int} (hl : (Bt.node ll lx (.node il ix ir)).even) (hr : r.even) (h2 : (Bt.node ll lx (.node il ix ir)).ht = r.ht + 2) (hin : ll.ht < (Bt.node il ix ir).ht) :
    Lev (.node ll lx (.node il ix ir)) x r (.node (.node ll lx il) ix (.node ir x r)) := by
  obtain ⟨e1, ⟨e2, e3, e4, e5⟩, e6, e7⟩ := hl
  simp only [Bt.ht] at *
  refine ⟨⟨by simp [Bt.flat], ⟨⟨e1, e2, by omega, by omega⟩, ⟨e3, hr, by omega, by omega⟩, ?_, ?_⟩, ?_, ?_, ?_⟩, ?_⟩ <;> simp only [Bt.ht] <;> omega
theorem lev_right2 {ll lr r : Bt} {lx x : Int × Int} (hl : (Bt.node ll lx lr).even) (hr : r.even) (h2 : (Bt.node ll lx lr).ht = r.ht + 2) (hin : lr.ht ≤ ll.ht) :
    Lev (.node ll lx lr) x r (.node ll lx (.node lr x r)) := by
  obtain ⟨e1, e2, e6, e7⟩ := hl
  simp only [Bt.ht] at *
  refine ⟨⟨by simp [Bt.flat], ⟨e1, ⟨e2, hr, by omega, by omega⟩, ?_, ?_⟩, ?_, ?_, ?_⟩, ?_⟩ <;> simp only [Bt.ht] <;> omega
theorem lev_left1 {l il ir rr : Bt} {x ix rx : Int × Int} (hl : l.even) (hr : (Bt.node (.node il ix ir) rx rr).even) (h2 : (Bt.node (.node il ix ir) rx rr).ht = l.ht + 2) (hin : rr.ht < (Bt.node il ix ir).ht) :
    Lev l x (.node (.node il ix ir) rx rr) (.node (.node l x il) ix (.node ir rx rr)) := by
  obtain ⟨⟨e2, e3, e4, e5⟩, e1, e6, e7⟩ := hr
  simp only [Bt.ht] at *
  refine ⟨⟨by simp [Bt.flat], ⟨⟨hl, e2, by omega, by omega⟩, ⟨e3, e1, by omega, by omega⟩, ?_, ?_⟩, ?_, ?_, ?_⟩, ?_⟩ <;> simp only [Bt.ht] <;> omega
theorem lev_left2 {l rl rr : Bt} {x rx : Int × Int} (hl : l.even) (hr : (Bt.node rl rx rr).even) (h2 : (Bt.node rl rx rr).ht = l.ht + 2) (hin : rl.ht ≤ rr.ht) :
    Lev l x (.node rl rx rr) (.node (.node l x rl) rx rr) := by
  obtain ⟨e1, e2, e6, e7⟩ := hr
  simp only [Bt.ht] at *
  refine ⟨⟨by simp [Bt.flat], ⟨⟨hl, e1, by omega, by omega⟩, e2, ?_, ?_⟩, ?_, ?_, ?_⟩, ?_⟩ <;> simp only [Bt.ht] <;> omega
/-- Going down the left part, which is higher. -/
theorem fit_down_left {ll lr r j t : Bt} {lx x : Int × Int} (hl : (Bt.node ll lx lr).even) (hgt : r.ht + 1 < (Bt.node ll lx lr).ht) (hj : Fit lr x r j) (ht : Lev ll lx j t) : Fit (.node ll lx lr) x r t := by
  obtain ⟨e1, e2, e6, e7⟩ := hl
  obtain ⟨j1, j2, j3, j4, j5⟩ := hj
  obtain ⟨⟨t1, t2, t3, t4, t5⟩, t6⟩ := ht
  simp only [Bt.ht] at *
  refine ⟨by rw [t1, j1]; simp [Bt.flat], t2, ?_, ?_, ?_⟩ <;> (try simp only [Bt.ht]) <;> omega
theorem fit_down_right {l rl rr j t : Bt} {x rx : Int × Int} (hr : (Bt.node rl rx rr).even) (hgt : l.ht + 1 < (Bt.node rl rx rr).ht) (hj : Fit l x rl j) (ht : Lev j rx rr t) : Fit l x (.node rl rx rr) t := by
  obtain ⟨e1, e2, e6, e7⟩ := hr
  obtain ⟨j1, j2, j3, j4, j5⟩ := hj
  obtain ⟨⟨t1, t2, t3, t4, t5⟩, t6⟩ := ht
  simp only [Bt.ht] at *
  refine ⟨by rw [t1, j1]; simp [Bt.flat], t2, ?_, ?_, ?_⟩ <;> (try simp only [Bt.ht]) <;> omega
/-- Then the heights differ by two at most. -/
theorem down_left_two {ll lr r j : Bt} {lx x : Int × Int} (hl : (Bt.node ll lx lr).even) (hgt : r.ht + 1 < (Bt.node ll lx lr).ht) (hj : Fit lr x r j) : ll.ht ≤ j.ht + 2 ∧ j.ht ≤ ll.ht + 2 := by
  obtain ⟨e1, e2, e6, e7⟩ := hl
  obtain ⟨j1, j2, j3, j4, j5⟩ := hj
  simp only [Bt.ht] at *
  omega
theorem down_right_two {l rl rr j : Bt} {x rx : Int × Int} (hr : (Bt.node rl rx rr).even) (hgt : l.ht + 1 < (Bt.node rl rx rr).ht) (hj : Fit l x rl j) : rr.ht ≤ j.ht + 2 ∧ j.ht ≤ rr.ht + 2 := by
  obtain ⟨e1, e2, e6, e7⟩ := hr
  obtain ⟨j1, j2, j3, j4, j5⟩ := hj
  simp only [Bt.ht] at *
  omega
theorem Fit.size {l r t : Bt} {x : Int × Int} (h : Fit l x r t) : t.size = l.size + 1 + r.size := by
  rw [← t.flat_len, ← l.flat_len, ← r.flat_len, h.1]; simp; omega
theorem Bt.ht_size : ∀ t : Bt, t.ht ≤ t.size
  | .nil => Nat.le_refl _
  | .node l _ r => by have := l.ht_size; have := r.ht_size; simp only [Bt.ht, Bt.size]; omega
theorem Bt.ht_zero (t : Bt) : t.ht = 0 ↔ t.flat = [] := by
  cases t with
  | nil => simp [Bt.ht, Bt.flat]
  | node l x r => simp [Bt.ht, Bt.flat]

/-- How many bits. -/
def blen (m : Nat) : Nat := if h : m = 0 then 0 else blen (m / 2) + 1
termination_by m
decreasing_by omega
theorem blen_zero : blen 0 = 0 := by unfold blen; simp
theorem blen_step {m : Nat} (h : 0 < m) : blen m = blen (m / 2) + 1 := by rw [blen]; rw [dif_neg (by omega)]
theorem blen_lt (m : Nat) : m < 2 ^ blen m := by
  induction m using Nat.strongRecOn with
  | _ m ih =>
    rcases Nat.eq_zero_or_pos m with rfl | h
    · rw [blen_zero]; decide
    · rw [blen_step h, Nat.pow_succ]
      have := ih (m / 2) (by omega)
      omega
theorem blen_le (m : Nat) : blen m ≤ m := by
  induction m using Nat.strongRecOn with
  | _ m ih =>
    rcases Nat.eq_zero_or_pos m with rfl | h
    · rw [blen_zero]; decide
    · rw [blen_step h]
      have := ih (m / 2) (by omega)
      omega
/-- T3's bound. -/
def highN (n : Nat) : Nat := 3 * blen (n + 1) / 2 + 1
theorem Bt.low_high {t : Bt} (h : t.even) : t.ht ≤ highN t.size := Bt.low h (blen_lt _)

/-! The document's place of a key. -/
section
variable {l : List (Int × Int)} {k : Int}
def posL (l : List (Int × Int)) (k : Int) : Nat := (lowL l k).length
theorem pos_le (h : Up l) : posL l k ≤ l.length := by
  have := congrArg List.length (low_high (k := k) h)
  rw [List.length_append] at this
  unfold posL; omega
theorem pos_before (h : Up l) {i : Nat} (hi : i < posL l k) (hl : i < l.length) : (l[i]).1 < k := by
  have e : l[i]? = (lowL l k)[i]? := by
    rw [← take_low (k := k) h, List.getElem?_take, if_pos (show i < (lowL l k).length from hi)]
  have hi' : i < (lowL l k).length := hi
  rw [List.getElem?_eq_getElem hl, List.getElem?_eq_getElem hi'] at e
  injection e with e
  rw [e]
  have := (List.mem_filter.1 (List.getElem_mem hi')).2
  simpa using this
theorem pos_at (h : Up l) (hl : posL l k < l.length) : k ≤ (l[posL l k]).1 ∧ l.drop (posL l k) = highL l k ∧ (highL l k).head? = some l[posL l k] := by
  have hd := drop_low (k := k) h
  have e1 : l.drop (posL l k) = l[posL l k] :: l.drop (posL l k + 1) := List.drop_eq_getElem_cons hl
  have hd' : l.drop (posL l k) = highL l k := hd
  have hm : l[posL l k] ∈ highL l k := by rw [← hd', e1]; exact List.mem_cons_self
  have := (List.mem_filter.1 hm).2
  exact ⟨by simpa using this, hd', by rw [← hd', e1]; rfl⟩
theorem pos_take (h : Up l) : l.take (posL l k) = lowL l k := take_low h
theorem pos_drop (h : Up l) : l.drop (posL l k) = highL l k := drop_low h
/-- The key is there: at its place. -/
theorem pos_is (h : Up l) : (∃ v, ∃ hl : posL l k < l.length, l[posL l k] = (k, v) ∧ getL l k = some (k, v) ∧ l.drop (posL l k + 1) = gtL l k) ∨ (getL l k = none ∧ l.drop (posL l k) = gtL l k ∧ (∀ hl : posL l k < l.length, k < (l[posL l k]).1)) := by
  have hd := pos_drop (k := k) h
  rcases high_is (k := k) h with ⟨v, h1, h2⟩ | ⟨h1, h2⟩
  · left
    rw [h1] at hd
    have hl : posL l k < l.length := by
      rcases Nat.lt_or_ge (posL l k) l.length with h | h
      · exact h
      · rw [List.drop_eq_nil_of_le h] at hd; cases hd
    rw [List.drop_eq_getElem_cons hl] at hd
    injection hd with e1 e2
    exact ⟨v, hl, e1, h2, e2⟩
  · right
    refine ⟨h2, by rw [hd, h1], fun hl => ?_⟩
    rw [h1, List.drop_eq_getElem_cons hl] at hd
    have : l[posL l k] ∈ gtL l k := by rw [← hd]; exact List.mem_cons_self
    have := (List.mem_filter.1 this).2
    simpa using this
theorem floor_none (h : Up l) (hg : getL l k = none) : floorL l k = (lowL l k).getLast? := by
  unfold floorL lowL
  congr 1
  refine List.filter_congr fun p hp => ?_
  have : p.1 ≠ k := by
    intro e
    have := List.find?_eq_none.1 hg p hp
    simp [e] at this
  simp; omega
end
end Go.Proofs.Ytjljkpecpofbcaa
