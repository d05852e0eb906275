/- Texts of this seat, put together: RtPlain, RtZPlain, RtAPlain, LQ, RtC0, RtZ1, RtZ2, RtZ3, RtD3, LR, F9, F10, GN, G1, G2, GP, ZoPlain, Fl1. -/
import Derived.Test.YteboadppighplaaGreatZ1
import Derived.WalkKit
import Derived.Outline
import Derived.Deep.CutRange
import Derived.Deep.DeepCutAuto
import Derived.Deep.RegionWith
import Derived.Deep.LoopGhost
import Derived.Deep.QuietTactic
import Derived.BigQuiet
import Derived.Deep.DeepMust
import Derived.Deep.DeepFit
import Derived.Deep.Light
import Derived.Deep.RegionHeld3
import Derived.Deep.AppendLies
import Derived.IntWalk
import Derived.Lib.Hide
import Derived.Shelf.Abstract
import Derived.Deep.AppendSrc
import Derived.StillTailTactics
import Derived.Shelf.RegionOpen
import Derived.Maps.AppendAt
import Derived.Deep.RegionLaw
import Derived.Laws.OwnMore
/- Plain mathematics of maps as lists of pairs by rising keys: what lies below a key and from it on, what it has, putting and dropping, floor and ceiling; and what these are of 'left ++ pair :: right'. No program. -/
namespace Go.Proofs.YteboadppighplaaGreat.Tr

/-- Keys rise. -/
def Up (l : List (Int × Int)) : Prop := l.Pairwise fun a b => a.1 < b.1
def lowL (l : List (Int × Int)) (k : Int) : List (Int × Int) := l.filter fun p => decide (p.1 < k)
def highL (l : List (Int × Int)) (k : Int) : List (Int × Int) := l.filter fun p => decide (k ≤ p.1)
def gtL (l : List (Int × Int)) (k : Int) : List (Int × Int) := l.filter fun p => decide (k < p.1)
def getL (l : List (Int × Int)) (k : Int) : Option (Int × Int) := l.find? fun p => p.1 == k
def putL (l : List (Int × Int)) (k : Int) (v : Int) : List (Int × Int) := lowL l k ++ (k, v) :: gtL l k
def dropL (l : List (Int × Int)) (k : Int) : List (Int × Int) := lowL l k ++ gtL l k
def floorL (l : List (Int × Int)) (k : Int) : Option (Int × Int) := (l.filter fun p => decide (p.1 ≤ k)).getLast?
def ceilL (l : List (Int × Int)) (k : Int) : Option (Int × Int) := (highL l k).head?

theorem Up.nil : Up [] := List.Pairwise.nil
theorem Up.node {A B : List (Int × Int)} {x : Int × Int} (h : Up (A ++ x :: B)) : Up A ∧ Up B ∧ (∀ p ∈ A, p.1 < x.1) ∧ (∀ p ∈ B, x.1 < p.1) := by
  obtain ⟨h1, h2, h3⟩ := List.pairwise_append.1 h
  obtain ⟨h4, h5⟩ := List.pairwise_cons.1 h2
  exact ⟨h1, h5, fun p hp => h3 p hp x (by simp), fun p hp => h4 p hp⟩
theorem Up.mk {A B : List (Int × Int)} {x : Int × Int} (hA : Up A) (hB : Up B) (h1 : ∀ p ∈ A, p.1 < x.1) (h2 : ∀ p ∈ B, x.1 < p.1) : Up (A ++ x :: B) :=
  List.pairwise_append.2 ⟨hA, List.pairwise_cons.2 ⟨fun p hp => h2 p hp, hB⟩, fun p hp q hq => by
    rcases List.mem_cons.1 hq with e | hq
    · subst e; exact h1 p hp
    · have := h1 p hp; have := h2 q hq; omega⟩
theorem filter_all {l : List (Int × Int)} {f : Int × Int → Bool} (h : ∀ p ∈ l, f p = true) : l.filter f = l := List.filter_eq_self.2 h
theorem filter_no {l : List (Int × Int)} {f : Int × Int → Bool} (h : ∀ p ∈ l, f p = false) : l.filter f = [] := List.filter_eq_nil_iff.2 fun p hp => by rw [h p hp]; simp

section
variable {A B : List (Int × Int)} {x : Int × Int} {k : Int}
/-- The key lies below the pair, or at it. -/
theorem low_left (h : Up (A ++ x :: B)) (hk : k ≤ x.1) : lowL (A ++ x :: B) k = lowL A k := by
  obtain ⟨_, _, _, h4⟩ := h.node
  unfold lowL
  rw [List.filter_append, filter_no (l := x :: B), List.append_nil]
  intro p hp
  rcases List.mem_cons.1 hp with e | hp
  · subst e; simp; omega
  · have := h4 p hp; simp; omega
theorem high_left (h : Up (A ++ x :: B)) (hk : k ≤ x.1) : highL (A ++ x :: B) k = highL A k ++ x :: B := by
  obtain ⟨_, _, _, h4⟩ := h.node
  unfold highL
  rw [List.filter_append, filter_all (l := x :: B)]
  intro p hp
  rcases List.mem_cons.1 hp with e | hp
  · subst e; simpa using hk
  · have := h4 p hp; simp; omega
theorem gt_left (h : Up (A ++ x :: B)) (hk : k < x.1) : gtL (A ++ x :: B) k = gtL A k ++ x :: B := by
  obtain ⟨_, _, _, h4⟩ := h.node
  unfold gtL
  rw [List.filter_append, filter_all (l := x :: B)]
  intro p hp
  rcases List.mem_cons.1 hp with e | hp
  · subst e; simpa using hk
  · have := h4 p hp; simp; omega
/-- The key lies above the pair. -/
theorem low_right (h : Up (A ++ x :: B)) (hk : x.1 < k) : lowL (A ++ x :: B) k = A ++ x :: lowL B k := by
  obtain ⟨_, _, h3, _⟩ := h.node
  unfold lowL
  rw [List.filter_append, filter_all (l := A), List.filter_cons_of_pos (by simpa using hk)]
  intro p hp; have := h3 p hp; simp; omega
theorem high_right (h : Up (A ++ x :: B)) (hk : x.1 < k) : highL (A ++ x :: B) k = highL B k := by
  obtain ⟨_, _, h3, _⟩ := h.node
  unfold highL
  rw [List.filter_append, filter_no (l := A), List.filter_cons_of_neg (by simp; omega), List.nil_append]
  intro p hp; have := h3 p hp; simp; omega
theorem gt_right (h : Up (A ++ x :: B)) (hk : x.1 ≤ k) : gtL (A ++ x :: B) k = gtL B k := by
  obtain ⟨_, _, h3, _⟩ := h.node
  unfold gtL
  rw [List.filter_append, filter_no (l := A), List.filter_cons_of_neg (by simp; omega), List.nil_append]
  intro p hp; have := h3 p hp; simp; omega
theorem low_at (h : Up (A ++ x :: B)) : lowL (A ++ x :: B) x.1 = A := by
  obtain ⟨_, _, h3, _⟩ := h.node
  rw [low_left h (Int.le_refl _)]
  exact filter_all fun p hp => by simpa using h3 p hp
theorem gt_at (h : Up (A ++ x :: B)) : gtL (A ++ x :: B) x.1 = B := by
  obtain ⟨_, _, _, h4⟩ := h.node
  rw [gt_right h (Int.le_refl _)]
  exact filter_all fun p hp => by simpa using h4 p hp
theorem put_left (h : Up (A ++ x :: B)) (hk : k < x.1) (v : Int) : putL (A ++ x :: B) k v = putL A k v ++ x :: B := by
  unfold putL; rw [low_left h (by omega), gt_left h hk]; simp
theorem put_right (h : Up (A ++ x :: B)) (hk : x.1 < k) (v : Int) : putL (A ++ x :: B) k v = A ++ x :: putL B k v := by
  unfold putL; rw [low_right h hk, gt_right h (by omega)]; simp
theorem put_at (h : Up (A ++ x :: B)) (v : Int) : putL (A ++ x :: B) x.1 v = A ++ (x.1, v) :: B := by
  unfold putL; rw [low_at h, gt_at h]
theorem drop_left (h : Up (A ++ x :: B)) (hk : k < x.1) : dropL (A ++ x :: B) k = dropL A k ++ x :: B := by
  unfold dropL; rw [low_left h (by omega), gt_left h hk]; simp
theorem drop_right (h : Up (A ++ x :: B)) (hk : x.1 < k) : dropL (A ++ x :: B) k = A ++ x :: dropL B k := by
  unfold dropL; rw [low_right h hk, gt_right h (by omega)]; simp
theorem drop_at (h : Up (A ++ x :: B)) : dropL (A ++ x :: B) x.1 = A ++ B := by
  unfold dropL; rw [low_at h, gt_at h]
theorem get_left (h : Up (A ++ x :: B)) (hk : k < x.1) : getL (A ++ x :: B) k = getL A k := by
  obtain ⟨_, _, _, h4⟩ := h.node
  unfold getL
  rw [List.find?_append]
  have : (x :: B).find? (fun p => p.1 == k) = none := List.find?_eq_none.2 fun p hp => by
    rcases List.mem_cons.1 hp with e | hp
    · subst e; simp; omega
    · have := h4 p hp; simp; omega
  rw [this]; simp
theorem get_right (h : Up (A ++ x :: B)) (hk : x.1 < k) : getL (A ++ x :: B) k = getL B k := by
  obtain ⟨_, _, h3, _⟩ := h.node
  unfold getL
  have h1 : A.find? (fun p => p.1 == k) = none := List.find?_eq_none.2 fun p hp => by have := h3 p hp; simp; omega
  rw [List.find?_append, h1, List.find?_cons_of_neg (by simp; omega)]; rfl
theorem get_at (h : Up (A ++ x :: B)) : getL (A ++ x :: B) x.1 = some x := by
  obtain ⟨_, _, h3, _⟩ := h.node
  unfold getL
  have h1 : A.find? (fun p => p.1 == x.1) = none := List.find?_eq_none.2 fun p hp => by have := h3 p hp; simp; omega
  rw [List.find?_append, h1, List.find?_cons_of_pos (by simp)]; rfl
end
section
variable {l : List (Int × Int)} {k : Int}
theorem Up.low (h : Up l) (k : Int) : Up (lowL l k) := List.Pairwise.filter _ h
theorem Up.high (h : Up l) (k : Int) : Up (highL l k) := List.Pairwise.filter _ h
theorem Up.gt (h : Up l) (k : Int) : Up (gtL l k) := List.Pairwise.filter _ h
theorem Up.put (h : Up l) (k : Int) (v : Int) : Up (putL l k v) :=
  Up.mk (x := (k, v)) (h.low k) (h.gt k) (fun p hp => by simpa using (List.mem_filter.1 hp).2) (fun p hp => by simpa using (List.mem_filter.1 hp).2)
theorem Up.drop (h : Up l) (k : Int) : Up (dropL l k) :=
  List.pairwise_append.2 ⟨h.low k, h.gt k, fun p hp q hq => by
    have h1 := (List.mem_filter.1 hp).2
    have h2 := (List.mem_filter.1 hq).2
    simp at h1 h2; omega⟩
/-- What lies below, and what does not, are the whole. -/
theorem low_high (h : Up l) : lowL l k ++ highL l k = l := by
  induction l with
  | nil => rfl
  | cons x l ih =>
    obtain ⟨h1, h2⟩ := List.pairwise_cons.1 h
    by_cases hx : x.1 < k
    · have : lowL (x :: l) k = x :: lowL l k := List.filter_cons_of_pos (by simpa using hx)
      have : highL (x :: l) k = highL l k := List.filter_cons_of_neg (by simp; omega)
      simp [*, ih h2]
    · have e1 : lowL (x :: l) k = [] := filter_no fun p hp => by
        rcases List.mem_cons.1 hp with e | hp
        · subst e; simpa using hx
        · have := h1 p hp; simp; omega
      have e2 : highL (x :: l) k = x :: l := filter_all fun p hp => by
        rcases List.mem_cons.1 hp with e | hp
        · subst e; simp; omega
        · have := h1 p hp; simp; omega
      rw [e1, e2]; rfl
/-- The place of a key: how many lie below it. -/
theorem take_low (h : Up l) : l.take (lowL l k).length = lowL l k := by
  have e := List.take_left (l₁ := lowL l k) (l₂ := highL l k)
  rwa [low_high h] at e
theorem drop_low (h : Up l) : l.drop (lowL l k).length = highL l k := by
  have e := List.drop_left (l₁ := lowL l k) (l₂ := highL l k)
  rwa [low_high h] at e
/-- Whether the key is there: the first one that is not below. -/
theorem high_is (h : Up l) : (∃ v, highL l k = (k, v) :: gtL l k ∧ getL l k = some (k, v)) ∨ (highL l k = gtL l k ∧ getL l k = none) := by
  induction l with
  | nil => exact .inr ⟨rfl, rfl⟩
  | cons x l ih =>
    obtain ⟨h1, h2⟩ := List.pairwise_cons.1 h
    have h' : Up ([] ++ x :: l) := h
    rcases Int.lt_trichotomy x.1 k with hx | hx | hx
    · have e1 := high_right h' hx
      have e2 := gt_right h' (Int.le_of_lt hx)
      have e3 := get_right h' hx
      simp only [List.nil_append] at e1 e2 e3
      rw [e1, e2, e3]; exact ih h2
    · left
      subst hx
      have e1 := high_left h' (Int.le_refl _)
      have e2 := gt_at h'
      have e3 := get_at h'
      simp only [List.nil_append] at e1 e2 e3
      exact ⟨x.2, by rw [e1, e2]; rfl, e3⟩
    · right
      have e1 := high_left h' (Int.le_of_lt hx)
      have e2 := gt_left h' hx
      have e3 := get_left h' hx
      simp only [List.nil_append] at e1 e2 e3
      exact ⟨by rw [e1, e2]; rfl, by rw [e3]; rfl⟩
theorem put_len (h : Up l) (v : Int) : (putL l k v).length = if getL l k = none then l.length + 1 else l.length := by
  have e := congrArg List.length (low_high (k := k) h)
  rw [List.length_append] at e
  unfold putL
  rw [List.length_append, List.length_cons]
  rcases high_is (k := k) h with ⟨u, h1, h2⟩ | ⟨h1, h2⟩
  · rw [h2, if_neg (by simp)]; rw [h1, List.length_cons] at e; omega
  · rw [h2, if_pos rfl]; rw [h1] at e; omega
theorem drop_len (h : Up l) (hk : getL l k ≠ none) : (dropL l k).length + 1 = l.length := by
  have e := congrArg List.length (low_high (k := k) h)
  rw [List.length_append] at e
  unfold dropL
  rw [List.length_append]
  rcases high_is (k := k) h with ⟨u, h1, h2⟩ | ⟨h1, h2⟩
  · rw [h1, List.length_cons] at e; omega
  · exact absurd h2 hk
end
/-- A tree of pairs. -/
inductive Bt where
  | nil : Bt
  | node : Bt → Int × Int → Bt → Bt
def Bt.flat : Bt → List (Int × Int)
  | .nil => []
  | .node l x r => l.flat ++ x :: r.flat
def Bt.size : Bt → Nat
  | .nil => 0
  | .node l _ r => l.size + 1 + r.size
def Bt.ht : Bt → Nat
  | .nil => 0
  | .node l _ r => max l.ht r.ht + 1
theorem Bt.flat_len : ∀ t : Bt, t.flat.length = t.size
  | .nil => rfl
  | .node l x r => by simp [Bt.flat, Bt.size, l.flat_len, r.flat_len]; omega
/-- The two parts' heights differ by one at most, everywhere. -/
def Bt.even : Bt → Prop
  | .nil => True
  | .node l _ r => l.even ∧ r.even ∧ l.ht ≤ r.ht + 1 ∧ r.ht ≤ l.ht + 1
/-- How many keys, and one, an even tree has at least. -/
def least1 : Nat → Nat
  | 0 => 1
  | 1 => 2
  | h + 2 => least1 (h + 1) + least1 h
theorem least1_mono : ∀ h, least1 h ≤ least1 (h + 1)
  | 0 => by decide
  | h + 1 => by simp only [least1]; omega
theorem least1_le {a b : Nat} (h : a ≤ b) : least1 a ≤ least1 b := by
  induction h with
  | refl => exact Nat.le_refl _
  | step _ ih => exact Nat.le_trans ih (least1_mono _)
theorem least1_grow : ∀ h, 3 * least1 h ≤ 2 * least1 (h + 1)
  | 0 => by decide
  | 1 => by decide
  | h + 2 => by
    have h1 := least1_grow h
    have h2 := least1_grow (h + 1)
    have h3 : least1 (h + 2) = least1 (h + 1) + least1 h := rfl
    have h4 : least1 (h + 3) = least1 (h + 2) + least1 (h + 1) := rfl
    show 3 * least1 (h + 2) ≤ 2 * least1 (h + 3)
    omega
theorem least1_three (h : Nat) : 4 * least1 h ≤ least1 (h + 3) := by
  have h1 := least1_grow h
  have h3 : least1 (h + 2) = least1 (h + 1) + least1 h := rfl
  have h4 : least1 (h + 3) = least1 (h + 2) + least1 (h + 1) := rfl
  omega
theorem least1_pow : ∀ j r, 4 ^ j * least1 r ≤ least1 (3 * j + r)
  | 0, r => by simp
  | j + 1, r => by
    have h1 := least1_pow j r
    have h2 := least1_three (3 * j + r)
    have e : 3 * (j + 1) + r = 3 * j + r + 3 := by omega
    rw [e, Nat.pow_succ]
    have : 4 ^ j * 4 * least1 r = 4 * (4 ^ j * least1 r) := by rw [Nat.mul_comm (4 ^ j) 4, Nat.mul_assoc]
    omega
theorem Bt.even_size : ∀ t : Bt, t.even → least1 t.ht ≤ t.size + 1
  | .nil, _ => by decide
  | .node l x r, h => by
    obtain ⟨h1, h2, h3, h4⟩ := h
    have e1 := l.even_size h1
    have e2 := r.even_size h2
    simp only [Bt.ht, Bt.size]
    rcases Nat.le_total l.ht r.ht with hlr | hlr
    · rw [Nat.max_eq_right hlr]
      cases hr : r.ht with
      | zero => have : l.ht = 0 := by omega
                rw [hr] at e2; rw [this] at e1; simp only [least1] at *; omega
      | succ n =>
        rw [hr] at e2 h4
        have : least1 n ≤ least1 l.ht := least1_le (by omega)
        simp only [least1]; omega
    · rw [Nat.max_eq_left hlr]
      cases hl : l.ht with
      | zero => have : r.ht = 0 := by omega
                rw [hl] at e1; rw [this] at e2; simp only [least1] at *; omega
      | succ n =>
        rw [hl] at e1 h3
        have : least1 n ≤ least1 r.ht := least1_le (by omega)
        simp only [least1]; omega
/-- An even tree is low: of fewer than 2 ^ b keys and one, at most 3 b / 2 and 1. -/
theorem Bt.low {t : Bt} (h : t.even) {b : Nat} (hb : t.size + 1 < 2 ^ b) : t.ht ≤ 3 * b / 2 + 1 := by
  have h1 := t.even_size h
  rcases Nat.lt_or_ge (3 * b / 2 + 1) t.ht with hlt | hge
  · exfalso
    have h2 : 4 ^ (b / 2 + 0) * least1 (3 * b / 2 + 2 - 3 * (b / 2)) ≤ least1 (3 * (b / 2) + (3 * b / 2 + 2 - 3 * (b / 2))) := least1_pow _ _
    have e : 3 * (b / 2) + (3 * b / 2 + 2 - 3 * (b / 2)) = 3 * b / 2 + 2 := by omega
    rw [e] at h2
    have h3 : least1 (3 * b / 2 + 2) ≤ least1 t.ht := least1_le (by omega)
    have h4 : 2 ≤ 3 * b / 2 + 2 - 3 * (b / 2) := by omega
    have h5 : least1 2 ≤ least1 (3 * b / 2 + 2 - 3 * (b / 2)) := least1_le h4
    have h6 : least1 2 = 3 := rfl
    have h7 : 2 ^ b ≤ 4 ^ (b / 2 + 0) * 2 := by
      rw [Nat.add_zero, show (4 : Nat) = 2 ^ 2 from rfl, ← Nat.pow_mul, ← Nat.pow_succ]
      exact Nat.pow_le_pow_right (by omega) (by omega)
    have h8 : 4 ^ (b / 2 + 0) * 3 ≤ 4 ^ (b / 2 + 0) * least1 (3 * b / 2 + 2 - 3 * (b / 2)) := Nat.mul_le_mul_left _ (by omega)
    omega
  · exact hge

/-! What is asked of a tree, part by part. -/
def atL (l : List (Int × Int)) (i : Int) : Option (Int × Int) := if 0 ≤ i then l[i.toNat]? else none
section
variable {A B : List (Int × Int)} {x : Int × Int} {k : Int}
theorem floor_left (h : Up (A ++ x :: B)) (hk : k < x.1) : floorL (A ++ x :: B) k = floorL A k := by
  obtain ⟨_, _, _, h4⟩ := h.node
  unfold floorL
  rw [List.filter_append, filter_no (l := x :: B), List.append_nil]
  intro p hp
  rcases List.mem_cons.1 hp with e | hp
  · subst e; simp; omega
  · have := h4 p hp; simp; omega
theorem floor_right (_h : Up (A ++ x :: B)) (hk : x.1 ≤ k) : floorL (A ++ x :: B) k = (floorL B k).or (some x) := by
  unfold floorL
  rw [List.filter_append, List.filter_cons_of_pos (by simpa using hk), List.getLast?_append, List.getLast?_cons]
  cases h : (B.filter fun p => decide (p.1 ≤ k)).getLast? <;> simp
theorem ceil_left (h : Up (A ++ x :: B)) (hk : k ≤ x.1) : ceilL (A ++ x :: B) k = (ceilL A k).or (some x) := by
  unfold ceilL
  rw [high_left h hk, List.head?_append]; rfl
theorem ceil_right (h : Up (A ++ x :: B)) (hk : x.1 < k) : ceilL (A ++ x :: B) k = ceilL B k := by
  unfold ceilL
  rw [high_right h hk]
theorem at_left {i : Int} (hi : i < A.length) : atL (A ++ x :: B) i = atL A i := by
  unfold atL
  split
  · rw [List.getElem?_append_left (by omega)]
  · rfl
theorem at_mid : atL (A ++ x :: B) (A.length : Int) = some x := by
  unfold atL
  rw [if_pos (by omega), Int.toNat_natCast]
  simp
theorem at_right {i : Int} (hi : (A.length : Int) < i) : atL (A ++ x :: B) i = atL B (i - (A.length + 1)) := by
  unfold atL
  rw [if_pos (by omega), if_pos (by omega), List.getElem?_append_right (by omega), show i.toNat - A.length = (i - (A.length + 1)).toNat + 1 by omega]
  simp
end
theorem at_nil (i : Int) : atL [] i = none := by unfold atL; split <;> simp
theorem at_zero (l : List (Int × Int)) : atL l 0 = l.head? := by simp [atL]; cases l <;> simp
theorem get_nil (k : Int) : getL [] k = none := rfl
theorem get_key {l : List (Int × Int)} {k : Int} {x : Int × Int} (h : getL l k = some x) : x.1 = k := by
  have := List.find?_some h
  simpa using this

/-- A tree of two others and a pair between them: even, and at most one higher. -/
def Fit (l : Bt) (x : Int × Int) (r t : Bt) : Prop := t.flat = l.flat ++ x :: r.flat ∧ t.even ∧ l.ht ≤ t.ht ∧ r.ht ≤ t.ht ∧ t.ht ≤ max l.ht r.ht + 1
/-- The same, where the parts' heights differ by two at most. -/
def Lev (l : Bt) (x : Int × Int) (r t : Bt) : Prop := Fit l x r t ∧ (l.ht ≤ r.ht + 1 → r.ht ≤ l.ht + 1 → t.ht = max l.ht r.ht + 1)
theorem lev_bare {l r : Bt} {x : Int × Int} (hl : l.even) (hr : r.even) (h1 : l.ht ≤ r.ht + 1) (h2 : r.ht ≤ l.ht + 1) : Lev l x r (.node l x r) :=
  ⟨⟨rfl, ⟨hl, hr, h1, h2⟩, by simp only [Bt.ht]; omega, by simp only [Bt.ht]; omega, by simp only [Bt.ht]; omega⟩, fun _ _ => rfl⟩
/-- turnRight, its inner part parted. -/
theorem lev_right1 {ll il ir r : Bt} {lx ix x : Int × Int} (hl : (Bt.node ll lx (.node il ix ir)).even) (hr : r.even) (h2 : (Bt.node ll lx (.node il ix ir)).ht = r.ht + 2) (hin : ll.ht < (Bt.node il ix ir).ht) :
    Lev (.node ll lx (.node il ix ir)) x r (.node (.node ll lx il) ix (.node ir x r)) := by
  obtain ⟨e1, ⟨e2, e3, e4, e5⟩, e6, e7⟩ := hl
  simp only [Bt.ht] at *
  refine ⟨⟨by simp [Bt.flat], ⟨⟨e1, e2, by omega, by omega⟩, ⟨e3, hr, by omega, by omega⟩, ?_, ?_⟩, ?_, ?_, ?_⟩, ?_⟩ <;> simp only [Bt.ht] <;> omega
theorem lev_right2 {ll lr r : Bt} {lx x : Int × Int} (hl : (Bt.node ll lx lr).even) (hr : r.even) (h2 : (Bt.node ll lx lr).ht = r.ht + 2) (hin : lr.ht ≤ ll.ht) :
    Lev (.node ll lx lr) x r (.node ll lx (.node lr x r)) := by
  obtain ⟨e1, e2, e6, e7⟩ := hl
  simp only [Bt.ht] at *
  refine ⟨⟨by simp [Bt.flat], ⟨e1, ⟨e2, hr, by omega, by omega⟩, ?_, ?_⟩, ?_, ?_, ?_⟩, ?_⟩ <;> simp only [Bt.ht] <;> omega
theorem lev_left1 {l il ir rr : Bt} {x ix rx : Int × Int} (hl : l.even) (hr : (Bt.node (.node il ix ir) rx rr).even) (h2 : (Bt.node (.node il ix ir) rx rr).ht = l.ht + 2) (hin : rr.ht < (Bt.node il ix ir).ht) :
    Lev l x (.node (.node il ix ir) rx rr) (.node (.node l x il) ix (.node ir rx rr)) := by
  obtain ⟨⟨e2, e3, e4, e5⟩, e1, e6, e7⟩ := hr
  simp only [Bt.ht] at *
  refine ⟨⟨by simp [Bt.flat], ⟨⟨hl, e2, by omega, by omega⟩, ⟨e3, e1, by omega, by omega⟩, ?_, ?_⟩, ?_, ?_, ?_⟩, ?_⟩ <;> simp only [Bt.ht] <;> omega
theorem lev_left2 {l rl rr : Bt} {x rx : Int × Int} (hl : l.even) (hr : (Bt.node rl rx rr).even) (h2 : (Bt.node rl rx rr).ht = l.ht + 2) (hin : rl.ht ≤ rr.ht) :
    Lev l x (.node rl rx rr) (.node (.node l x rl) rx rr) := by
  obtain ⟨e1, e2, e6, e7⟩ := hr
  simp only [Bt.ht] at *
  refine ⟨⟨by simp [Bt.flat], ⟨⟨hl, e1, by omega, by omega⟩, e2, ?_, ?_⟩, ?_, ?_, ?_⟩, ?_⟩ <;> simp only [Bt.ht] <;> omega
/-- Going down the left part, which is higher. -/
theorem fit_down_left {ll lr r j t : Bt} {lx x : Int × Int} (hl : (Bt.node ll lx lr).even) (hgt : r.ht + 1 < (Bt.node ll lx lr).ht) (hj : Fit lr x r j) (ht : Lev ll lx j t) : Fit (.node ll lx lr) x r t := by
  obtain ⟨e1, e2, e6, e7⟩ := hl
  obtain ⟨j1, j2, j3, j4, j5⟩ := hj
  obtain ⟨⟨t1, t2, t3, t4, t5⟩, t6⟩ := ht
  simp only [Bt.ht] at *
  refine ⟨by rw [t1, j1]; simp [Bt.flat], t2, ?_, ?_, ?_⟩ <;> (try simp only [Bt.ht]) <;> omega
theorem fit_down_right {l rl rr j t : Bt} {x rx : Int × Int} (hr : (Bt.node rl rx rr).even) (hgt : l.ht + 1 < (Bt.node rl rx rr).ht) (hj : Fit l x rl j) (ht : Lev j rx rr t) : Fit l x (.node rl rx rr) t := by
  obtain ⟨e1, e2, e6, e7⟩ := hr
  obtain ⟨j1, j2, j3, j4, j5⟩ := hj
  obtain ⟨⟨t1, t2, t3, t4, t5⟩, t6⟩ := ht
  simp only [Bt.ht] at *
  refine ⟨by rw [t1, j1]; simp [Bt.flat], t2, ?_, ?_, ?_⟩ <;> (try simp only [Bt.ht]) <;> omega
/-- Then the heights differ by two at most. -/
theorem down_left_two {ll lr r j : Bt} {lx x : Int × Int} (hl : (Bt.node ll lx lr).even) (hgt : r.ht + 1 < (Bt.node ll lx lr).ht) (hj : Fit lr x r j) : ll.ht ≤ j.ht + 2 ∧ j.ht ≤ ll.ht + 2 := by
  obtain ⟨e1, e2, e6, e7⟩ := hl
  obtain ⟨j1, j2, j3, j4, j5⟩ := hj
  simp only [Bt.ht] at *
  omega
theorem down_right_two {l rl rr j : Bt} {x rx : Int × Int} (hr : (Bt.node rl rx rr).even) (hgt : l.ht + 1 < (Bt.node rl rx rr).ht) (hj : Fit l x rl j) : rr.ht ≤ j.ht + 2 ∧ j.ht ≤ rr.ht + 2 := by
  obtain ⟨e1, e2, e6, e7⟩ := hr
  obtain ⟨j1, j2, j3, j4, j5⟩ := hj
  simp only [Bt.ht] at *
  omega
theorem Fit.size {l r t : Bt} {x : Int × Int} (h : Fit l x r t) : t.size = l.size + 1 + r.size := by
  rw [← t.flat_len, ← l.flat_len, ← r.flat_len, h.1]; simp; omega
theorem Bt.ht_size : ∀ t : Bt, t.ht ≤ t.size
  | .nil => Nat.le_refl _
  | .node l _ r => by have := l.ht_size; have := r.ht_size; simp only [Bt.ht, Bt.size]; omega
theorem Bt.ht_zero (t : Bt) : t.ht = 0 ↔ t.flat = [] := by
  cases t with
  | nil => simp [Bt.ht, Bt.flat]
  | node l x r => simp [Bt.ht, Bt.flat]

/-- How many bits. -/
def blen (m : Nat) : Nat := if h : m = 0 then 0 else blen (m / 2) + 1
termination_by m
decreasing_by omega
theorem blen_zero : blen 0 = 0 := by unfold blen; simp
theorem blen_step {m : Nat} (h : 0 < m) : blen m = blen (m / 2) + 1 := by rw [blen]; rw [dif_neg (by omega)]
theorem blen_lt (m : Nat) : m < 2 ^ blen m := by
  induction m using Nat.strongRecOn with
  | _ m ih =>
    rcases Nat.eq_zero_or_pos m with rfl | h
    · rw [blen_zero]; decide
    · rw [blen_step h, Nat.pow_succ]
      have := ih (m / 2) (by omega)
      omega
theorem blen_le (m : Nat) : blen m ≤ m := by
  induction m using Nat.strongRecOn with
  | _ m ih =>
    rcases Nat.eq_zero_or_pos m with rfl | h
    · rw [blen_zero]; decide
    · rw [blen_step h]
      have := ih (m / 2) (by omega)
      omega
/-- T3's bound. -/
def highN (n : Nat) : Nat := 3 * blen (n + 1) / 2 + 1
theorem Bt.low_high {t : Bt} (h : t.even) : t.ht ≤ highN t.size := Bt.low h (blen_lt _)

/-! The document's place of a key. -/
section
variable {l : List (Int × Int)} {k : Int}
def posL (l : List (Int × Int)) (k : Int) : Nat := (lowL l k).length
theorem pos_le (h : Up l) : posL l k ≤ l.length := by
  have := congrArg List.length (low_high (k := k) h)
  rw [List.length_append] at this
  unfold posL; omega
theorem pos_before (h : Up l) {i : Nat} (hi : i < posL l k) (hl : i < l.length) : (l[i]).1 < k := by
  have e : l[i]? = (lowL l k)[i]? := by
    rw [← take_low (k := k) h, List.getElem?_take, if_pos (show i < (lowL l k).length from hi)]
  have hi' : i < (lowL l k).length := hi
  rw [List.getElem?_eq_getElem hl, List.getElem?_eq_getElem hi'] at e
  injection e with e
  rw [e]
  have := (List.mem_filter.1 (List.getElem_mem hi')).2
  simpa using this
theorem pos_at (h : Up l) (hl : posL l k < l.length) : k ≤ (l[posL l k]).1 ∧ l.drop (posL l k) = highL l k ∧ (highL l k).head? = some l[posL l k] := by
  have hd := drop_low (k := k) h
  have e1 : l.drop (posL l k) = l[posL l k] :: l.drop (posL l k + 1) := List.drop_eq_getElem_cons hl
  have hd' : l.drop (posL l k) = highL l k := hd
  have hm : l[posL l k] ∈ highL l k := by rw [← hd', e1]; exact List.mem_cons_self
  have := (List.mem_filter.1 hm).2
  exact ⟨by simpa using this, hd', by rw [← hd', e1]; rfl⟩
theorem pos_take (h : Up l) : l.take (posL l k) = lowL l k := take_low h
theorem pos_drop (h : Up l) : l.drop (posL l k) = highL l k := drop_low h
/-- The key is there: at its place. -/
theorem pos_is (h : Up l) : (∃ v, ∃ hl : posL l k < l.length, l[posL l k] = (k, v) ∧ getL l k = some (k, v) ∧ l.drop (posL l k + 1) = gtL l k) ∨ (getL l k = none ∧ l.drop (posL l k) = gtL l k ∧ (∀ hl : posL l k < l.length, k < (l[posL l k]).1)) := by
  have hd := pos_drop (k := k) h
  rcases high_is (k := k) h with ⟨v, h1, h2⟩ | ⟨h1, h2⟩
  · left
    rw [h1] at hd
    have hl : posL l k < l.length := by
      rcases Nat.lt_or_ge (posL l k) l.length with h | h
      · exact h
      · rw [List.drop_eq_nil_of_le h] at hd; cases hd
    rw [List.drop_eq_getElem_cons hl] at hd
    injection hd with e1 e2
    exact ⟨v, hl, e1, h2, e2⟩
  · right
    refine ⟨h2, by rw [hd, h1], fun hl => ?_⟩
    rw [h1, List.drop_eq_getElem_cons hl] at hd
    have : l[posL l k] ∈ gtL l k := by rw [← hd]; exact List.mem_cons_self
    have := (List.mem_filter.1 this).2
    simpa using this
theorem floor_none (_h : Up l) (hg : getL l k = none) : floorL l k = (lowL l k).getLast? := by
  unfold floorL lowL
  congr 1
  refine List.filter_congr fun p hp => ?_
  have : p.1 ≠ k := by
    intro e
    have := List.find?_eq_none.1 hg p hp
    simp [e] at this
  simp; omega
end
end Go.Proofs.YteboadppighplaaGreat.Tr
/- Plain mathematics: the cuts of ranges, rising, each once. No program. -/
namespace Go.Proofs.YteboadppighplaaGreat.Tr

/-- Rising cuts, from 'lo' on, below m. -/
def Rising : Nat → Nat → List Nat → Prop
  | _, _, [] => True
  | lo, m, c :: l => lo ≤ c ∧ c < m ∧ Rising (c + 1) m l
/-- The end of the stretch that begins at c, the next cuts being l. -/
def endOf (m : Nat) : List Nat → Nat
  | [] => m - 1
  | d :: _ => d - 1
theorem rising_mem : ∀ {l : List Nat} {lo m : Nat}, Rising lo m l → ∀ x ∈ l, lo ≤ x ∧ x < m
  | [], _, _, _, x, hx => by simp at hx
  | c :: l, lo, m, h, x, hx => by
    rcases List.mem_cons.1 hx with e | hx
    · subst e; exact ⟨h.1, h.2.1⟩
    · have := rising_mem h.2.2 x hx; have := h.1; omega
theorem rising_gap : ∀ {l : List Nat} {lo m i c x : Nat}, Rising lo m l → l[i]? = some c → x ∈ l → c < x → endOf m (l.drop (i + 1)) < x
  | [], _, _, _, _, _, _, _, hx, _ => by simp at hx
  | d :: l, lo, m, 0, c, x, h, hc, hx, hlt => by
    have e : d = c := by simpa using hc
    subst e
    rcases List.mem_cons.1 hx with e | hx
    · omega
    · cases l with
      | nil => simp at hx
      | cons e l =>
        have h1 : e ≤ x := by
          rcases List.mem_cons.1 hx with e1 | hx
          · omega
          · have := (rising_mem h.2.2.2.2 x hx).1; omega
        have := h.2.2.1
        show e - 1 < x; omega
  | d :: l, lo, m, i + 1, c, x, h, hc, hx, hlt => by
    have hc' : l[i]? = some c := by simpa using hc
    have hdc := (rising_mem h.2.2 c (List.mem_of_getElem? hc')).1
    rcases List.mem_cons.1 hx with e | hx
    · omega
    · have := rising_gap h.2.2 hc' hx hlt
      simpa using this
/-- All numbers fit in 43 bits. -/
def U32 (L : List (Nat × Nat)) : Prop := ∀ r ∈ L, r.1 < 4294967296 ∧ r.2 < 4294967296
theorem U32.at {z : List (Nat × Nat)} (h : U32 z) (k : Nat) (hk : k < z.length) : z[k].1 < 4294967296 ∧ z[k].2 < 4294967296 := h _ (List.getElem_mem hk)
/-- The least cut from lo on; m, if there is none. -/
def nx (m lo : Nat) (all : List Nat) : Nat := all.foldl (fun n x => if lo ≤ x ∧ x < n then x else n) m
theorem nx_fold (lo : Nat) : ∀ (all : List Nat) (m : Nat), (all.foldl (fun n x => if lo ≤ x ∧ x < n then x else n) m) ≤ m ∧ ((all.foldl (fun n x => if lo ≤ x ∧ x < n then x else n) m) = m ∨ ((all.foldl (fun n x => if lo ≤ x ∧ x < n then x else n) m) ∈ all ∧ lo ≤ (all.foldl (fun n x => if lo ≤ x ∧ x < n then x else n) m))) ∧ ∀ x ∈ all, lo ≤ x → (all.foldl (fun n x => if lo ≤ x ∧ x < n then x else n) m) ≤ x
  | [], m => ⟨Nat.le_refl _, .inl rfl, fun x hx => by simp at hx⟩
  | y :: all, m => by
    obtain ⟨h1, h2, h3⟩ := nx_fold lo all (if lo ≤ y ∧ y < m then y else m)
    rw [List.foldl_cons]
    refine ⟨?_, ?_, ?_⟩
    · have : (if lo ≤ y ∧ y < m then y else m) ≤ m := by split <;> omega
      omega
    · rcases h2 with h2 | h2
      · by_cases hy : lo ≤ y ∧ y < m
        · rw [if_pos hy] at h2
          simp only [if_pos hy]
          right; rw [h2]; exact ⟨by simp, hy.1⟩
        · rw [if_neg hy] at h2
          simp only [if_neg hy]
          left; exact h2
      · right; exact ⟨by simp [h2.1], h2.2⟩
    · intro x hx hlo
      rcases List.mem_cons.1 hx with e | hx
      · subst e
        by_cases hy : lo ≤ x ∧ x < m
        · rw [if_pos hy] at h1 ⊢; exact h1
        · rw [if_neg hy] at h1 ⊢; omega
      · exact h3 x hx hlo
theorem nx_snoc (m lo : Nat) (all : List Nat) (x : Nat) : nx m lo (all ++ [x]) = if lo ≤ x ∧ x < nx m lo all then x else nx m lo all := by unfold nx; rw [List.foldl_append]; rfl
/-- The cuts from lo on, rising, each once. -/
def cutsL (m lo : Nat) (all : List Nat) : List Nat := if h : lo ≤ nx m lo all ∧ nx m lo all < m then nx m lo all :: cutsL m (nx m lo all + 1) all else []
termination_by m - lo
decreasing_by omega
theorem nx_lo {m lo : Nat} {all : List Nat} (h : nx m lo all < m) : lo ≤ nx m lo all ∧ nx m lo all ∈ all := by
  obtain ⟨h1, h2, h3⟩ := nx_fold lo all m
  rcases h2 with h2 | h2
  · have : nx m lo all = m := h2
    omega
  · exact ⟨h2.2, h2.1⟩
theorem cutsL_cons {m lo : Nat} {all : List Nat} (h : nx m lo all < m) : cutsL m lo all = nx m lo all :: cutsL m (nx m lo all + 1) all := by
  rw [cutsL, dif_pos ⟨(nx_lo h).1, h⟩]
theorem cutsL_nil {m lo : Nat} {all : List Nat} (h : ¬ nx m lo all < m) : cutsL m lo all = [] := by
  rw [cutsL, dif_neg (by omega)]
theorem cutsL_spec (m : Nat) (all : List Nat) : ∀ (d lo : Nat), m - lo ≤ d → Rising lo m (cutsL m lo all) ∧ (∀ x ∈ all, lo ≤ x → x < m → x ∈ cutsL m lo all) := by
  intro d
  induction d with
  | zero =>
    intro lo hd
    by_cases h : nx m lo all < m
    · have := nx_lo h; omega
    · rw [cutsL_nil h]; exact ⟨trivial, fun x hx h1 h2 => by omega⟩
  | succ d ih =>
    intro lo hd
    by_cases h : nx m lo all < m
    · have h0 := nx_lo h
      obtain ⟨i1, i2⟩ := ih (nx m lo all + 1) (by omega)
      rw [cutsL_cons h]
      refine ⟨⟨h0.1, h, i1⟩, fun x hx h1 h2 => ?_⟩
      have h3 : nx m lo all ≤ x := (nx_fold lo all m).2.2 x hx h1
      by_cases e : x = nx m lo all
      · simp [e]
      · exact List.mem_cons_of_mem _ (i2 x hx (by omega) h2)
    · rw [cutsL_nil h]
      refine ⟨trivial, fun x hx h1 h2 => ?_⟩
      have h3 : nx m lo all ≤ x := (nx_fold lo all m).2.2 x hx h1
      omega
theorem cutsL_head {m : Nat} {all : List Nat} (h0 : 0 ∈ all) (hm : 0 < m) : (cutsL m 0 all).head? = some 0 := by
  have h3 : nx m 0 all ≤ 0 := (nx_fold 0 all m).2.2 0 h0 (Nat.le_refl _)
  have e : nx m 0 all = 0 := by omega
  rw [cutsL_cons (by omega), e]; rfl
theorem rising_len : ∀ {l : List Nat} {lo m : Nat}, Rising lo m l → lo + l.length ≤ m ∨ l = []
  | [], _, _, _ => .inr rfl
  | c :: l, lo, m, h => by
    left
    have h1 := h.1
    have h2 := h.2.1
    rcases rising_len h.2.2 with h3 | h3
    · simp only [List.length_cons]; omega
    · subst h3; simp; omega
/-- Where something may begin, of ranges. -/
def ends (l : List (Nat × Nat)) : List Nat := 0 :: l.flatMap fun r => [r.1, r.2 + 1]
theorem ends_snoc (l : List (Nat × Nat)) (r : Nat × Nat) : ends (l ++ [r]) = ends l ++ [r.1, r.2 + 1] := by simp [ends]
theorem ends_mem {l : List (Nat × Nat)} {r : Nat × Nat} (h : r ∈ l) : r.1 ∈ ends l ∧ r.2 + 1 ∈ ends l := by
  constructor <;> (unfold ends; refine List.mem_cons_of_mem _ (List.mem_flatMap.2 ⟨r, h, by simp⟩))
end Go.Proofs.YteboadppighplaaGreat.Tr
/- Plain mathematics of atoms: how often keys stand, kept as pairs; boundaries; the atoms between them; which atom has an address. No program. -/
namespace Go.Proofs.YteboadppighplaaGreat.Tr

/-- Two rising lists with the same members are one. -/
theorem rise_eq : ∀ {x y : List Int}, x.Pairwise (· < ·) → y.Pairwise (· < ·) → (∀ a, a ∈ x ↔ a ∈ y) → x = y
  | [], [], _, _, _ => rfl
  | [], b :: y, _, _, h => absurd ((h b).2 (by simp)) (by simp)
  | a :: x, [], _, _, h => absurd ((h a).1 (by simp)) (by simp)
  | a :: x, b :: y, hx, hy, h => by
    obtain ⟨hx1, hx2⟩ := List.pairwise_cons.1 hx
    obtain ⟨hy1, hy2⟩ := List.pairwise_cons.1 hy
    have e : a = b := by
      have h1 := (h a).1 (by simp)
      have h2 := (h b).2 (by simp)
      rcases List.mem_cons.1 h1 with e | h1
      · exact e
      · rcases List.mem_cons.1 h2 with e | h2
        · exact e.symm
        · have := hx1 b h2; have := hy1 a h1; omega
    subst e
    rw [rise_eq hx2 hy2 fun c => ?_]
    constructor
    · intro hc
      rcases List.mem_cons.1 ((h c).1 (by simp [hc])) with e | h1
      · have := hx1 c hc; omega
      · exact h1
    · intro hc
      rcases List.mem_cons.1 ((h c).2 (by simp [hc])) with e | h1
      · have := hy1 c hc; omega
      · exact h1

theorem get_mem {l : List (Int × Int)} {k : Int} : getL l k ≠ none ↔ k ∈ l.map (·.1) := by
  unfold getL
  rw [Ne, List.find?_eq_none]
  simp only [beq_iff_eq, List.mem_map]
  constructor
  · intro h
    apply Classical.byContradiction
    intro hn
    exact h fun x hx e => hn ⟨x, hx, e⟩
  · rintro ⟨x, hx, e⟩ h
    exact h x hx e
theorem low_mem {l : List (Int × Int)} {k : Int} {p : Int × Int} : p ∈ lowL l k ↔ p ∈ l ∧ p.1 < k := by unfold lowL; simp
theorem gt_mem {l : List (Int × Int)} {k : Int} {p : Int × Int} : p ∈ gtL l k ↔ p ∈ l ∧ k < p.1 := by unfold gtL; simp
theorem get_iff {l : List (Int × Int)} (hu : Up l) {k : Int} {p : Int × Int} : getL l k = some p ↔ p ∈ l ∧ p.1 = k := by
  constructor
  · intro h
    exact ⟨List.mem_of_find?_eq_some h, get_key h⟩
  · rintro ⟨h1, rfl⟩
    obtain ⟨A, B, rfl⟩ := List.append_of_mem h1
    exact get_at hu
theorem get_put {l : List (Int × Int)} (hu : Up l) (k v j : Int) : getL (putL l k v) j = if j = k then some (k, v) else getL l j := by
  have hp := hu.put k v
  by_cases h : j = k
  · subst h
    rw [if_pos rfl, get_iff hp]
    exact ⟨by unfold putL; simp, rfl⟩
  · rw [if_neg h]
    cases hg : getL l j with
    | some p =>
      rw [get_iff hu] at hg
      rw [get_iff hp]
      refine ⟨?_, hg.2⟩
      unfold putL
      rw [List.mem_append, List.mem_cons, low_mem, gt_mem]
      have := hg.2
      rcases Int.lt_trichotomy p.1 k with h1 | h1 | h1
      · exact .inl ⟨hg.1, h1⟩
      · omega
      · exact .inr (.inr ⟨hg.1, h1⟩)
    | none =>
      cases hq : getL (putL l k v) j with
      | none => rfl
      | some p =>
        rw [get_iff hp] at hq
        exfalso
        have h1 := hq.1
        unfold putL at h1
        rw [List.mem_append, List.mem_cons, low_mem, gt_mem] at h1
        have hm : p ∈ l := by
          rcases h1 with h1 | h1 | h1
          · exact h1.1
          · exact absurd (hq.2.symm.trans (by rw [h1])) h
          · exact h1.1
        have := (get_iff hu).2 ⟨hm, hq.2⟩
        rw [hg] at this
        cases this
theorem get_drop {l : List (Int × Int)} (hu : Up l) (k j : Int) : getL (dropL l k) j = if j = k then none else getL l j := by
  have hp := hu.drop k
  cases hq : getL (dropL l k) j with
  | some p =>
    rw [get_iff hp] at hq
    have h1 := hq.1
    unfold dropL at h1
    rw [List.mem_append, low_mem, gt_mem] at h1
    have hjk : ¬ j = k := by have := hq.2; rcases h1 with h1 | h1 <;> omega
    rw [if_neg hjk]
    exact ((get_iff hu).2 ⟨by rcases h1 with h1 | h1 <;> exact h1.1, hq.2⟩).symm
  | none =>
    by_cases h : j = k
    · rw [if_pos h]
    · rw [if_neg h]
      cases hg : getL l j with
      | none => rfl
      | some p =>
        rw [get_iff hu] at hg
        have : getL (dropL l k) j = some p := by
          rw [get_iff hp]
          refine ⟨?_, hg.2⟩
          unfold dropL
          rw [List.mem_append, low_mem, gt_mem]
          have := hg.2
          rcases Int.lt_trichotomy p.1 k with h1 | h1 | h1
          · exact .inl ⟨hg.1, h1⟩
          · omega
          · exact .inr ⟨hg.1, h1⟩
        rw [hq] at this
        cases this

/-- Pairs that tell how often each key stands. -/
def Tal (P : List (Int × Int)) (f : Int → Nat) : Prop := Up P ∧ ∀ k, getL P k = if f k = 0 then none else some (k, (f k : Int))
theorem Tal.nil : Tal [] (fun _ => 0) := ⟨Up.nil, fun _ => rfl⟩
theorem Tal.more {P : List (Int × Int)} {f : Int → Nat} (h : Tal P f) (k : Int) {n : Int} (hn : n = (f k : Int) + 1) : Tal (putL P k n) (fun j => f j + if j = k then 1 else 0) := by
  refine ⟨h.1.put k n, fun j => ?_⟩
  rw [get_put h.1]
  by_cases e : j = k
  · subst e; simp [hn]
  · simp only [if_neg e, h.2 j, Nat.add_zero]
theorem Tal.less {P : List (Int × Int)} {f g : Int → Nat} (h : Tal P f) (k : Int) {n : Int} (hn : n = (f k : Int) - 1) (h2 : 1 < f k) (hg : ∀ j, f j = g j + if j = k then 1 else 0) : Tal (putL P k n) g := by
  refine ⟨h.1.put k n, fun j => ?_⟩
  rw [get_put h.1]
  have hj := hg j
  by_cases e : j = k
  · subst e
    rw [if_pos rfl] at hj ⊢
    rw [if_neg (by omega), hn, show ((f j : Nat) : Int) - 1 = (g j : Int) by omega]
  · rw [if_neg e] at hj ⊢
    rw [h.2 j, hj]; rfl
theorem Tal.gone {P : List (Int × Int)} {f g : Int → Nat} (h : Tal P f) (k : Int) (h2 : f k = 1) (hg : ∀ j, f j = g j + if j = k then 1 else 0) : Tal (dropL P k) g := by
  refine ⟨h.1.drop k, fun j => ?_⟩
  rw [get_drop h.1]
  have hj := hg j
  by_cases e : j = k
  · subst e
    rw [if_pos rfl] at hj ⊢
    rw [if_pos (by omega)]
  · rw [if_neg e] at hj ⊢
    rw [h.2 j, hj]; rfl
theorem Tal.mem {P : List (Int × Int)} {f : Int → Nat} (h : Tal P f) (k : Int) : k ∈ P.map (·.1) ↔ 0 < f k := by
  rw [← get_mem, h.2 k]
  by_cases e : f k = 0
  · simp [e]
  · simp [e]; omega
theorem Tal.rise {P : List (Int × Int)} {f : Int → Nat} (h : Tal P f) : (P.map (·.1)).Pairwise (· < ·) := by
  rw [List.pairwise_map]; exact h.1
theorem rise_len : ∀ {x ks : List Int}, x.Pairwise (· < ·) → (∀ a ∈ x, a ∈ ks) → x.length ≤ ks.length
  | [], _, _, _ => Nat.zero_le _
  | a :: x, ks, hx, h => by
    obtain ⟨h1, h2⟩ := List.pairwise_cons.1 hx
    have hm := h a (by simp)
    have := rise_len (ks := ks.erase a) h2 fun b hb => (List.mem_erase_of_ne (by have := h1 b hb; omega)).2 (h b (by simp [hb]))
    rw [List.length_erase_of_mem hm] at this
    have : 0 < ks.length := List.length_pos_of_mem hm
    simp only [List.length_cons]; omega

/-- A range's boundaries above 0. -/
def cutsR (r : Nat × Nat) : List Int := (if 0 < r.1 then [(r.1 : Int)] else []) ++ (if r.2 < 4294967295 then [(r.2 : Int) + 1] else [])
/-- A range's key. -/
def keyI (r : Nat × Nat) : Int := (r.1 : Int) * 4294967296 + (r.2 : Int)
def nC (L : List (Nat × Nat)) (k : Int) : Nat := (L.flatMap cutsR).count k
def nR (L : List (Nat × Nat)) (k : Int) : Nat := (L.map keyI).count k
theorem nC_nil : nC [] = fun _ => 0 := rfl
theorem nR_nil : nR [] = fun _ => 0 := rfl
theorem nC_perm {L M : List (Nat × Nat)} (h : L.Perm M) : nC L = nC M := funext fun k => (h.flatMap_right cutsR).count_eq k
theorem nR_perm {L M : List (Nat × Nat)} (h : L.Perm M) : nR L = nR M := funext fun k => (h.map keyI).count_eq k
theorem nC_cons (r : Nat × Nat) (L : List (Nat × Nat)) (k : Int) : nC (r :: L) k = (cutsR r).count k + nC L k := by unfold nC; rw [List.flatMap_cons, List.count_append]
theorem nR_cons (r : Nat × Nat) (L : List (Nat × Nat)) (k : Int) : nR (r :: L) k = nR L k + if k = keyI r then 1 else 0 := by
  unfold nR
  rw [List.map_cons, List.count_cons]
  by_cases h : k = keyI r
  · subst h; simp
  · rw [if_neg h, if_neg (by simpa using fun e => h e.symm)]
theorem snoc_perm (L : List (Nat × Nat)) (r : Nat × Nat) : (L ++ [r]).Perm (r :: L) := List.perm_append_singleton r L
theorem nC_snoc (r : Nat × Nat) (L : List (Nat × Nat)) (k : Int) : nC (L ++ [r]) k = nC L k + (cutsR r).count k := by rw [nC_perm (snoc_perm L r), nC_cons]; omega
theorem nR_snoc (r : Nat × Nat) (L : List (Nat × Nat)) (k : Int) : nR (L ++ [r]) k = nR L k + if k = keyI r then 1 else 0 := by rw [nR_perm (snoc_perm L r), nR_cons]
theorem nC_erase {r : Nat × Nat} {L : List (Nat × Nat)} (h : r ∈ L) (k : Int) : nC L k = nC (L.erase r) k + (cutsR r).count k := by rw [nC_perm (List.perm_cons_erase h), nC_cons]; omega
theorem nR_erase {r : Nat × Nat} {L : List (Nat × Nat)} (h : r ∈ L) (k : Int) : nR L k = nR (L.erase r) k + if k = keyI r then 1 else 0 := by rw [nR_perm (List.perm_cons_erase h), nR_cons]

/-- Right ranges, no more than may be. -/
def RL (L : List (Nat × Nat)) : Prop := (∀ r ∈ L, r.1 ≤ r.2 ∧ r.2 < 4294967296) ∧ L.length ≤ 500
theorem RL.nil : RL [] := ⟨fun r h => by simp at h, by simp⟩
theorem RL.perm {L M : List (Nat × Nat)} (h : RL L) (hp : L.Perm M) : RL M := ⟨fun r hr => h.1 r (hp.mem_iff.2 hr), hp.length_eq ▸ h.2⟩
theorem RL.u32 {L : List (Nat × Nat)} (h : RL L) : U32 L := fun r hr => by have := h.1 r hr; omega
theorem RL.snoc {L : List (Nat × Nat)} {r : Nat × Nat} (h : RL L) (h1 : r.1 ≤ r.2) (h2 : r.2 < 4294967296) (h3 : L.length < 500) : RL (L ++ [r]) := by
  refine ⟨fun q hq => ?_, by simp; omega⟩
  rcases List.mem_append.1 hq with hq | hq
  · exact h.1 q hq
  · simp at hq; subst hq; exact ⟨h1, h2⟩
theorem RL.erase {L : List (Nat × Nat)} (h : RL L) (r : Nat × Nat) : RL (L.erase r) :=
  ⟨fun q hq => h.1 q (List.mem_of_mem_erase hq), Nat.le_trans List.length_erase_le h.2⟩
theorem keyI_inj {r s : Nat × Nat} (hr : r.2 < 4294967296) (hs : s.2 < 4294967296) (h : keyI r = keyI s) : r = s := by
  unfold keyI at h
  have h1 : r.1 = s.1 := by omega
  exact Prod.ext h1 (by omega)
theorem nR_count {L : List (Nat × Nat)} (h : RL L) {r : Nat × Nat} (hr : r.2 < 4294967296) : nR L (keyI r) = L.count r := by
  have h1 := h.1
  clear h
  induction L with
  | nil => rfl
  | cons q L ih =>
    rw [nR_cons, ih fun s hs => h1 s (by simp [hs]), List.count_cons]
    by_cases e : q = r
    · subst e; simp
    · have e3 : ¬ keyI r = keyI q := fun e2 => e (keyI_inj (h1 q (by simp)).2 hr e2.symm)
      rw [if_neg e3, if_neg (by simpa using e)]
theorem cutsR_pos {r : Nat × Nat} {k : Int} (h : k ∈ cutsR r) : 0 < k := by
  unfold cutsR at h
  rcases List.mem_append.1 h with h | h <;> (split at h <;> simp at h <;> omega)
theorem cutsR_mem {r : Nat × Nat} (h2 : r.2 < 4294967296) (h1 : r.1 ≤ r.2) {k : Int} : k ∈ cutsR r ↔ 0 < k ∧ k < 4294967296 ∧ (k = r.1 ∨ k = (r.2 : Int) + 1) := by
  unfold cutsR
  rw [List.mem_append]
  constructor
  · rintro (h | h) <;> (split at h <;> simp at h <;> omega)
  · rintro ⟨h3, h4, h | h⟩
    · left; rw [if_pos (by omega)]; simp [h]
    · right; rw [if_pos (by omega)]; simp [h]
theorem nC_pos {L : List (Nat × Nat)} (h : RL L) {k : Int} : 0 < nC L k ↔ 0 < k ∧ k < 4294967296 ∧ ∃ r ∈ L, k = r.1 ∨ k = (r.2 : Int) + 1 := by
  unfold nC
  rw [List.count_pos_iff, List.mem_flatMap]
  constructor
  · rintro ⟨r, hr, hk⟩
    obtain ⟨h1, h2, h3⟩ := (cutsR_mem (h.1 r hr).2 (h.1 r hr).1).1 hk
    exact ⟨h1, h2, r, hr, h3⟩
  · rintro ⟨h1, h2, r, hr, h3⟩
    exact ⟨r, hr, (cutsR_mem (h.1 r hr).2 (h.1 r hr).1).2 ⟨h1, h2, h3⟩⟩
theorem cutsR_len (r : Nat × Nat) : (cutsR r).length ≤ 2 := by unfold cutsR; rw [List.length_append]; split <;> split <;> simp
theorem flat_len (L : List (Nat × Nat)) : (L.flatMap cutsR).length ≤ 2 * L.length := by
  induction L with
  | nil => simp
  | cons r L ih => rw [List.flatMap_cons, List.length_append]; have := cutsR_len r; simp only [List.length_cons]; omega
theorem tal_len {P : List (Int × Int)} {L : List (Nat × Nat)} (h : Tal P (nC L)) : P.length ≤ 2 * L.length := by
  have := rise_len (ks := L.flatMap cutsR) h.rise fun a ha => List.count_pos_iff.1 ((h.mem a).1 ha)
  have := flat_len L
  simp at *; omega
theorem talR_len {P : List (Int × Int)} {L : List (Nat × Nat)} (h : Tal P (nR L)) : P.length ≤ L.length := by
  have := rise_len (ks := L.map keyI) h.rise fun a ha => List.count_pos_iff.1 ((h.mem a).1 ha)
  simp at *; omega

/-- The boundaries of ranges. -/
def bnds (L : List (Nat × Nat)) : List Nat := cutsL 4294967296 0 (ends L)
theorem cutsL_in (m : Nat) (all : List Nat) : ∀ (d lo : Nat), m - lo ≤ d → ∀ x ∈ cutsL m lo all, x ∈ all := by
  intro d
  induction d with
  | zero =>
    intro lo hd x hx
    by_cases h : nx m lo all < m
    · have := nx_lo h; omega
    · rw [cutsL_nil h] at hx; simp at hx
  | succ d ih =>
    intro lo hd x hx
    by_cases h : nx m lo all < m
    · rw [cutsL_cons h] at hx
      have h0 := nx_lo h
      rcases List.mem_cons.1 hx with e | hx
      · rw [e]; exact h0.2
      · exact ih _ (by omega) x hx
    · rw [cutsL_nil h] at hx; simp at hx
theorem bnds_rise (L : List (Nat × Nat)) : Rising 0 4294967296 (bnds L) := (cutsL_spec 4294967296 (ends L) 4294967296 0 (by omega)).1
theorem bnds_mem (L : List (Nat × Nat)) (x : Nat) : x ∈ bnds L ↔ x ∈ ends L ∧ x < 4294967296 := by
  constructor
  · intro h; exact ⟨cutsL_in _ _ 4294967296 0 (by omega) x h, (rising_mem (bnds_rise L) x h).2⟩
  · rintro ⟨h1, h2⟩
    exact (cutsL_spec 4294967296 (ends L) 4294967296 0 (by omega)).2 x h1 (by omega) h2
theorem mem_ends {L : List (Nat × Nat)} {x : Nat} : x ∈ ends L ↔ x = 0 ∨ ∃ r ∈ L, x = r.1 ∨ x = r.2 + 1 := by
  unfold ends
  rw [List.mem_cons, List.mem_flatMap]
  simp
theorem bnds_cons (L : List (Nat × Nat)) : ∃ T, bnds L = 0 :: T := by
  have h := cutsL_head (m := 4294967296) (all := ends L) (by simp [ends]) (by omega)
  change (bnds L).head? = some 0 at h
  cases hb : bnds L with
  | nil => rw [hb] at h; cases h
  | cons c T => rw [hb] at h; simp at h; exact ⟨T, by rw [h]⟩
theorem rising_pw : ∀ {l : List Nat} {lo m : Nat}, Rising lo m l → (l.map (fun c : Nat => (c : Int))).Pairwise (· < ·)
  | [], _, _, _ => List.Pairwise.nil
  | c :: l, lo, m, h => by
    rw [List.map_cons, List.pairwise_cons]
    refine ⟨fun a ha => ?_, rising_pw h.2.2⟩
    obtain ⟨x, hx, rfl⟩ := List.mem_map.1 ha
    have := (rising_mem h.2.2 x hx).1
    omega
theorem bnds_perm {L M : List (Nat × Nat)} (h : ∀ r, r ∈ L ↔ r ∈ M) : bnds L = bnds M := by
  have e : (bnds L).map (fun c : Nat => (c : Int)) = (bnds M).map (fun c : Nat => (c : Int)) := by
    refine rise_eq (rising_pw (bnds_rise L)) (rising_pw (bnds_rise M)) fun a => ?_
    rw [List.mem_map, List.mem_map]
    have key : ∀ x, x ∈ bnds L ↔ x ∈ bnds M := fun x => by
      rw [bnds_mem, bnds_mem, mem_ends, mem_ends]
      simp only [h]
    simp only [key]
  have := congrArg (List.map Int.toNat) e
  rw [List.map_map, List.map_map] at this
  have hid : (Int.toNat ∘ fun c : Nat => (c : Int)) = id := funext fun c => by simp
  rw [hid, List.map_id, List.map_id] at this
  exact this
/-- The boundaries above 0 are the keys of the pairs that tell how often they stand. -/
theorem bnds_keys {P : List (Int × Int)} {L : List (Nat × Nat)} (hL : RL L) (h : Tal P (nC L)) : bnds L = 0 :: P.map (fun p => p.1.toNat) ∧ ∀ p ∈ P, 0 < p.1 ∧ p.1 < 4294967296 := by
  obtain ⟨T, hT⟩ := bnds_cons L
  have hr := bnds_rise L
  rw [hT] at hr
  have hrT : Rising 1 4294967296 T := hr.2.2
  have hp : ∀ p ∈ P, 0 < p.1 ∧ p.1 < 4294967296 := fun p hp => by
    have := (nC_pos hL).1 ((h.mem p.1).1 (List.mem_map.2 ⟨p, hp, rfl⟩))
    exact ⟨this.1, this.2.1⟩
  refine ⟨?_, hp⟩
  have e : P.map (·.1) = T.map (fun c : Nat => (c : Int)) := by
    refine rise_eq h.rise (rising_pw hrT) fun a => ?_
    rw [h.mem, nC_pos hL]
    constructor
    · rintro ⟨h1, h2, r, hr', h3⟩
      have hm : a.toNat ∈ bnds L := by
        rw [bnds_mem, mem_ends]
        exact ⟨.inr ⟨r, hr', by omega⟩, by omega⟩
      rw [hT] at hm
      rcases List.mem_cons.1 hm with e | hm
      · omega
      · exact List.mem_map.2 ⟨_, hm, by omega⟩
    · intro ha
      obtain ⟨x, hx, rfl⟩ := List.mem_map.1 ha
      have h1 := rising_mem hrT x hx
      have hm : x ∈ bnds L := by rw [hT]; simp [hx]
      rw [bnds_mem, mem_ends] at hm
      refine ⟨by omega, by omega, ?_⟩
      rcases hm.1 with e | ⟨r, hr', h3⟩
      · omega
      · exact ⟨r, hr', by omega⟩
  have := congrArg (List.map Int.toNat) e
  rw [List.map_map, List.map_map] at this
  have hid : (Int.toNat ∘ fun c : Nat => (c : Int)) = id := funext fun c => by simp
  rw [hid, List.map_id] at this
  rw [hT, ← this]
  rfl
theorem bnds_len {P : List (Int × Int)} {L : List (Nat × Nat)} (hL : RL L) (h : Tal P (nC L)) : (bnds L).length = P.length + 1 := by
  rw [(bnds_keys hL h).1]; simp

/-- The i-th atom. -/
def frm (C : List Nat) (i : Nat) : Nat := C.getD i 0
def too (C : List Nat) (i : Nat) : Nat := endOf 4294967296 (C.drop (i + 1))
/-- How many boundaries lie not above an address; but the first one. -/
def ofL (C : List Nat) (a : Nat) : Nat := (C.tail.filter fun c => decide (c ≤ a)).length
theorem too_in {C : List Nat} {i : Nat} (h : i + 1 < C.length) : too C i = C[i + 1] - 1 := by unfold too; rw [List.drop_eq_getElem_cons h]; rfl
theorem too_last {C : List Nat} {i : Nat} (h : C.length ≤ i + 1) : too C i = 4294967295 := by unfold too; rw [List.drop_eq_nil_of_le h]; rfl
theorem frm_in {C : List Nat} {i : Nat} (h : i < C.length) : frm C i = C[i] := by unfold frm; simp [h]
theorem rising_at : ∀ {l : List Nat} {lo m : Nat}, Rising lo m l → ∀ i j (hi : i < l.length) (hj : j < l.length), i < j → l[i] < l[j]
  | [], _, _, _, i, _, hi, _, _ => by simp at hi
  | c :: l, lo, m, h, i, 0, _, _, hij => by omega
  | c :: l, lo, m, h, 0, j + 1, _, hj, _ => by
    have hj' : j < l.length := by simpa using hj
    have := (rising_mem h.2.2 l[j] (List.getElem_mem hj')).1
    simp only [List.getElem_cons_zero, List.getElem_cons_succ]; omega
  | c :: l, lo, m, h, i + 1, j + 1, hi, hj, hij => by
    have := rising_at h.2.2 i j (by simpa using hi) (by simpa using hj) (by omega)
    simpa using this
theorem filter_le : ∀ {l : List Nat} {lo m : Nat} (a : Nat), Rising lo m l → (l.filter fun c => decide (c ≤ a)).length ≤ l.length ∧ ∀ i (h : i < l.length), (i < (l.filter fun c => decide (c ≤ a)).length ↔ l[i] ≤ a)
  | [], _, _, a, _ => ⟨by simp, fun i h => by simp at h⟩
  | c :: l, lo, m, a, hr => by
    refine ⟨List.length_filter_le _ _, fun i h => ?_⟩
    obtain ⟨_, h2⟩ := filter_le a hr.2.2
    by_cases hc : c ≤ a
    · rw [List.filter_cons_of_pos (by simpa using hc)]
      match i with
      | 0 => simp; exact hc
      | i + 1 =>
        have := h2 i (by simpa using h)
        simp only [List.length_cons, List.getElem_cons_succ]
        rw [← this]; omega
    · rw [List.filter_cons_of_neg (by simpa using hc)]
      have hz : (l.filter fun c => decide (c ≤ a)) = [] := by
        rw [List.filter_eq_nil_iff]
        intro x hx
        have := (rising_mem hr.2.2 x hx).1
        simp; omega
      rw [hz]
      have h3 : c ≤ (c :: l)[i] := by
        match i with
        | 0 => simp
        | i + 1 =>
          have h' : i < l.length := by simpa using h
          have := (rising_mem hr.2.2 l[i] (List.getElem_mem h')).1
          simp only [List.getElem_cons_succ]; omega
      simp only [List.length_nil]; omega
/-- Boundaries: rising, from 0 on. -/
def Bd (C : List Nat) : Prop := Rising 0 4294967296 C ∧ ∃ T, C = 0 :: T
theorem bd_of (L : List (Nat × Nat)) : Bd (bnds L) := ⟨bnds_rise L, bnds_cons L⟩
theorem Bd.pos {C : List Nat} (h : Bd C) : 0 < C.length := by obtain ⟨_, T, rfl⟩ := h; simp
theorem Bd.zero {C : List Nat} (h : Bd C) : C[0]'h.pos = 0 := by obtain ⟨_, T, rfl⟩ := h; rfl
theorem Bd.lt {C : List Nat} (h : Bd C) {i : Nat} (hi : i < C.length) : C[i] < 4294967296 := (rising_mem h.1 _ (List.getElem_mem hi)).2
theorem Bd.frm_le {C : List Nat} (h : Bd C) {i : Nat} (hi : i < C.length) : frm C i ≤ too C i ∧ too C i < 4294967296 := by
  rw [frm_in hi]
  have := h.lt hi
  by_cases h1 : i + 1 < C.length
  · have := rising_at h.1 i (i + 1) hi h1 (by omega); have := h.lt h1; rw [too_in h1]; omega
  · rw [too_last (by omega)]; omega
theorem Bd.next {C : List Nat} (h : Bd C) {i : Nat} (hi : i + 1 < C.length) : frm C (i + 1) = too C i + 1 := by
  have := rising_at h.1 i (i + 1) (by omega) hi (by omega)
  rw [frm_in hi, too_in hi]; omega
theorem Bd.of_le {C : List Nat} (h : Bd C) (a : Nat) : ofL C a < C.length := by
  obtain ⟨h1, T, rfl⟩ := h
  have := (filter_le a h1.2.2).1
  unfold ofL; simp only [List.tail_cons, List.length_cons]; omega
theorem Bd.of_iff {C : List Nat} (h : Bd C) (a i : Nat) (hi : i < C.length) : i ≤ ofL C a ↔ frm C i ≤ a := by
  rw [frm_in hi]
  obtain ⟨h1, T, rfl⟩ := h
  match i with
  | 0 => simp
  | i + 1 =>
    have := (filter_le a h1.2.2).2 i (by simpa using hi)
    unfold ofL; simp only [List.tail_cons, List.getElem_cons_succ]
    rw [← this]; omega
/-- The atom that has an address. -/
theorem Bd.of_in {C : List Nat} (h : Bd C) {a : Nat} (ha : a < 4294967296) : frm C (ofL C a) ≤ a ∧ a ≤ too C (ofL C a) := by
  have hl := h.of_le a
  refine ⟨(h.of_iff a _ hl).1 (Nat.le_refl _), ?_⟩
  by_cases h1 : ofL C a + 1 < C.length
  · have h2 := h.of_iff a _ h1
    have : ¬ frm C (ofL C a + 1) ≤ a := fun e => by have := h2.2 e; omega
    rw [h.next h1] at this
    omega
  · rw [too_last (by omega)]; omega
theorem Bd.of_eq {C : List Nat} (h : Bd C) {a i : Nat} (hi : i < C.length) (h1 : frm C i ≤ a) (h2 : a ≤ too C i) : ofL C a = i := by
  have h3 := (h.of_iff a i hi).2 h1
  have h4 := h.of_le a
  apply Classical.byContradiction
  intro hne
  have h5 : i + 1 < C.length := by omega
  have h6 := (h.of_iff a (i + 1) h5).1 (by omega)
  rw [h.next h5] at h6
  omega
theorem Bd.frm_of {C : List Nat} (h : Bd C) {a : Nat} (ha : a ∈ C) : frm C (ofL C a) = a := by
  obtain ⟨i, hi, rfl⟩ := List.getElem_of_mem ha
  have e := frm_in hi
  have h2 := h.frm_le hi
  rw [h.of_eq hi (by omega) (by omega), e]
theorem Bd.too_of {C : List Nat} (h : Bd C) {a : Nat} (h0 : a < 4294967296) (ha : a + 1 ∈ C ∨ a = 4294967295) : too C (ofL C a) = a := by
  have h1 := h.of_in h0
  have h2 := h.of_le a
  have h3 := h.frm_le h2
  rcases ha with ha | ha
  · obtain ⟨i, hi, e⟩ := List.getElem_of_mem ha
    have e2 := frm_in hi
    by_cases hc : ofL C a + 1 < C.length
    · have h4 : ¬ i ≤ ofL C a := fun e3 => by have := (h.of_iff a i hi).1 e3; omega
      have h5 : frm C (ofL C a + 1) ≤ C[i] := by
        rw [frm_in hc]
        by_cases e3 : ofL C a + 1 = i
        · subst e3; exact Nat.le_refl _
        · exact Nat.le_of_lt (rising_at h.1 _ i hc hi (by omega))
      rw [h.next hc] at h5
      omega
    · exfalso
      have : ¬ i ≤ ofL C a := fun e3 => by have := (h.of_iff a i hi).1 e3; omega
      omega
  · omega
theorem Bd.last {C : List Nat} (_h : Bd C) {i : Nat} (hi : i + 1 = C.length) : too C i = 4294967295 := too_last (by omega)

/-- The atoms, as the document lists them. -/
def atomsL (C : List Nat) : List (Nat × Nat) := (List.range C.length).map fun i => (frm C i, too C i)
theorem atomsL_len (C : List Nat) : (atomsL C).length = C.length := by simp [atomsL]
theorem atomsL_at (C : List Nat) (i : Nat) (h : i < (atomsL C).length) : (atomsL C)[i] = (frm C i, too C i) := by simp [atomsL]
theorem mem_bnds {L : List (Nat × Nat)} (hL : RL L) {r : Nat × Nat} (hr : r ∈ L) : r.1 ∈ bnds L ∧ (r.2 + 1 ∈ bnds L ∨ r.2 = 4294967295) := by
  have h := hL.1 r hr
  obtain ⟨h1, h2⟩ := ends_mem hr
  refine ⟨(bnds_mem L _).2 ⟨h1, by omega⟩, ?_⟩
  by_cases e : r.2 = 4294967295
  · exact .inr e
  · exact .inl ((bnds_mem L _).2 ⟨h2, by omega⟩)
/-- Of the pairs: how many keys lie below. -/
theorem low_of {P : List (Int × Int)} {L : List (Nat × Nat)} (hL : RL L) (h : Tal P (nC L)) (a : Nat) : (lowL P ((a : Int) + 1)).length = ofL (bnds L) a := by
  obtain ⟨e, hp⟩ := bnds_keys hL h
  unfold ofL lowL
  rw [e, List.tail_cons, List.filter_map, List.length_map]
  congr 1
  refine List.filter_congr fun p hp' => ?_
  have := hp p hp'
  simp only [Function.comp]
  rw [decide_eq_decide]
  omega
/-- Of the pairs: the i-th one. -/
theorem at_of {P : List (Int × Int)} {L : List (Nat × Nat)} (hL : RL L) (h : Tal P (nC L)) (i : Nat) (hi : i < P.length) : ∃ n : Int, P[i] = (((frm (bnds L) (i + 1) : Nat) : Int), n) ∧ 0 < frm (bnds L) (i + 1) := by
  obtain ⟨e, hp⟩ := bnds_keys hL h
  have := hp P[i] (List.getElem_mem hi)
  have e2 : frm (bnds L) (i + 1) = P[i].1.toNat := by rw [e]; simp [frm, hi]
  refine ⟨P[i].2, Prod.ext ?_ rfl, by omega⟩
  show P[i].1 = ((frm (bnds L) (i + 1) : Nat) : Int)
  omega
end Go.Proofs.YteboadppighplaaGreat.Tr
/- Plain mathematics: labels: atoms of rules; rules that come and go. -/
namespace Go.Proofs.YteboadppighplaaGreat
open Go.RowKit Go.Shelf

/-- Rules' ranges; their atoms. -/
def rgL (L : List Ru) : List (Nat × Nat) := L.map fun r => (r.f, r.t)
def atmL (L : List Ru) : List (Nat × Nat) := Tr.atomsL (Tr.bnds (rgL L))
theorem allB_pw (L : List Ru) : allB L = true ↔ L.length ≤ 40 ∧ (∀ r ∈ L, ruB r = true) ∧ L.Pairwise (fun a b => a.id < b.id) := by
  constructor
  · intro h
    have hr := rr_of h
    exact ⟨hr.len, hr.right, List.pairwise_iff_getElem.2 fun i j hi hj hij => hr.up i j hi hj hij⟩
  · rintro ⟨h1, h2, h3⟩
    refine (allB_iff L).2 ⟨h1, fun k hk => ⟨h2 _ (List.getElem_mem hk), ?_⟩⟩
    match k with
    | 0 =>
      have := ((ruB_iff _).1 (h2 _ (List.getElem_mem hk))).1.1
      show (0 : Int) < _
      omega
    | k + 1 =>
      have hk' : k < L.length := by omega
      have e : lastId L (k + 1) = L[k].id := by simp [lastId, hk']
      rw [e]
      exact List.pairwise_iff_getElem.1 h3 k (k + 1) hk' hk (by omega)
theorem rgL_RL {L : List Ru} (h : allB L = true) (hw : ∀ r ∈ L, r.wf) : Tr.RL (rgL L) := by
  obtain ⟨h1, h2, _⟩ := (allB_pw L).1 h
  refine ⟨fun r hr => ?_, by unfold rgL; rw [List.length_map]; omega⟩
  obtain ⟨x, hx, rfl⟩ := List.mem_map.1 hr
  obtain ⟨_, _, _, _, _, hft, _⟩ := (ruB_iff x).1 (h2 x hx)
  exact ⟨hft, (hw x hx).2.2.2.2.2.1⟩
/-! An atom's addresses fare alike. -/
theorem atm_side {L : List (Nat × Nat)} {i : Nat} (hi : i < (Tr.bnds L).length) {a b : Nat} (h1 : Tr.frm (Tr.bnds L) i ≤ a) (h2 : a ≤ Tr.too (Tr.bnds L) i) (hb : b ∈ Tr.bnds L) : b ≤ a ↔ b ≤ Tr.frm (Tr.bnds L) i := by
  refine ⟨fun h => ?_, fun h => Nat.le_trans h h1⟩
  obtain ⟨j, hj, rfl⟩ := List.getElem_of_mem hb
  have hbd := Tr.bd_of L
  rw [Tr.frm_in hi] at h1 ⊢
  by_cases hij : j ≤ i
  · by_cases e : j = i
    · subst e; exact Nat.le_refl _
    · exact Nat.le_of_lt (Tr.rising_at hbd.1 j i hj hi (by omega))
  · have hi1 : i + 1 < (Tr.bnds L).length := by omega
    rw [Tr.too_in hi1] at h2
    have hpos : 0 < (Tr.bnds L)[i + 1] := Nat.lt_of_le_of_lt (Nat.zero_le _) (Tr.rising_at hbd.1 i (i + 1) hi hi1 (by omega))
    have hle : (Tr.bnds L)[i + 1] ≤ (Tr.bnds L)[j] := by
      by_cases e : i + 1 = j
      · subst e; exact Nat.le_refl _
      · exact Nat.le_of_lt (Tr.rising_at hbd.1 (i + 1) j hi1 hj (by omega))
    omega
theorem atm_in {L : List (Nat × Nat)} (hL : Tr.RL L) {i : Nat} (hi : i < (Tr.bnds L).length) {a : Nat} (h1 : Tr.frm (Tr.bnds L) i ≤ a) (h2 : a ≤ Tr.too (Tr.bnds L) i) {r : Nat × Nat} (hr : r ∈ L) :
    (r.1 ≤ a ↔ r.1 ≤ Tr.frm (Tr.bnds L) i) ∧ (a ≤ r.2 ↔ Tr.frm (Tr.bnds L) i ≤ r.2) := by
  obtain ⟨m1, m2⟩ := Tr.mem_bnds hL hr
  refine ⟨atm_side hi h1 h2 m1, ?_⟩
  have hlt := ((Tr.bd_of L).frm_le hi).2
  rcases m2 with m2 | m2
  · have := atm_side hi h1 h2 m2
    omega
  · omega
theorem labN_atom {L : List Ru} (hL : Tr.RL (rgL L)) (ls : List Lk) (d : Int) {i : Nat} (hi : i < (atmL L).length) {a : Nat} (h1 : (atmL L)[i].1 ≤ a) (h2 : a ≤ (atmL L)[i].2) : labN ls L d a = labN ls L d (atmL L)[i].1 := by
  have hi' : i < (Tr.bnds (rgL L)).length := by unfold atmL at hi; rwa [Tr.atomsL_len] at hi
  have e : (atmL L)[i] = (Tr.frm (Tr.bnds (rgL L)) i, Tr.too (Tr.bnds (rgL L)) i) := Tr.atomsL_at _ _ hi
  rw [e] at h1 h2 ⊢
  dsimp only at h1 h2 ⊢
  have key : ∀ one oth, ∀ r ∈ L, tk d one oth a r = tk d one oth (Tr.frm (Tr.bnds (rgL L)) i) r := fun one oth r hr => by
    obtain ⟨k1, k2⟩ := atm_in hL hi' h1 h2 (List.mem_map.2 ⟨r, hr, rfl⟩ : ((fun r : Ru => (r.f, r.t)) r) ∈ rgL L)
    dsimp only at k1 k2
    simp only [tk, takesB, k1, k2]
  unfold labN stepN denB
  rw [firstL_congr _ _ L (key 2 3), firstL_congr _ _ L (key 0 1)]
/-! Rules that come and go. -/
def insL (r : Ru) : List Ru → List Ru
  | [] => [r]
  | x :: L => if r.id < x.id then r :: x :: L else x :: insL r L
def delL (i : Int) (L : List Ru) : List Ru := L.filter fun x => decide (x.id ≠ i)
def hasId (i : Int) (L : List Ru) : Bool := L.any fun x => decide (x.id = i)
theorem ins_mem {r : Ru} {L : List Ru} {x : Ru} : x ∈ insL r L ↔ x = r ∨ x ∈ L := by
  induction L with
  | nil => simp [insL]
  | cons y L ih =>
    unfold insL
    split
    · simp
    · simp only [List.mem_cons, ih]
      constructor
      · rintro (h | h | h) <;> simp [h]
      · rintro (h | h | h) <;> simp [h]
theorem ins_len (r : Ru) (L : List Ru) : (insL r L).length = L.length + 1 := by
  induction L with
  | nil => rfl
  | cons y L ih =>
    unfold insL
    split
    · rfl
    · simp [ih]
theorem hasId_no {i : Int} {L : List Ru} : hasId i L = false ↔ ∀ x ∈ L, x.id ≠ i := by
  unfold hasId
  rw [List.any_eq_false]
  simp
theorem del_ins {r : Ru} {L : List Ru} (h : ∀ x ∈ L, x.id ≠ r.id) : delL r.id (insL r L) = L := by
  have hf : ∀ M : List Ru, (∀ x ∈ M, x.id ≠ r.id) → delL r.id M = M := fun M hm => List.filter_eq_self.2 fun x hx => by simp [hm x hx]
  induction L with
  | nil => simp [insL, delL]
  | cons y L ih =>
    have hy := h y (List.mem_cons_self ..)
    have hL : ∀ x ∈ L, x.id ≠ r.id := fun x hx => h x (List.mem_cons_of_mem _ hx)
    unfold insL
    split
    · have := hf (y :: L) h
      unfold delL at this ⊢
      rw [List.filter_cons_of_neg (by simp), this]
    · have := ih hL
      unfold delL at this ⊢
      rw [List.filter_cons_of_pos (by simp [hy]), this]
theorem ins_del {L : List Ru} (hp : L.Pairwise (fun a b => a.id < b.id)) {x : Ru} (hx : x ∈ L) : insL x (delL x.id L) = L := by
  induction L with
  | nil => simp at hx
  | cons y L ih =>
    obtain ⟨h1, h2⟩ := List.pairwise_cons.1 hp
    rcases List.mem_cons.1 hx with rfl | hx
    · have e : delL x.id L = L := List.filter_eq_self.2 fun z hz => by have := h1 z hz; simp; omega
      unfold delL at e ⊢
      rw [List.filter_cons_of_neg (by simp), e]
      cases L with
      | nil => rfl
      | cons z L => unfold insL; rw [if_pos (h1 z (List.mem_cons_self ..))]
    · have hy := h1 x hx
      have e := ih h2 hx
      unfold delL at e ⊢
      rw [List.filter_cons_of_pos (by simp; omega)]
      unfold insL
      rw [if_neg (by omega), e]
theorem del_right {ps : List Int} {ls : List Lk} {L : List Ru} (h : RN ps ls L) (i : Int) : RN ps ls (delL i L) := by
  obtain ⟨h1, h2, h3⟩ := (allB_pw L).1 h.rules
  refine ⟨h.topo, (allB_pw _).2 ⟨Nat.le_trans (List.length_filter_le _ _) h1, fun r hr => h2 r (List.mem_filter.1 hr).1, h3.filter _⟩, ?_⟩
  have := h.fits
  unfold fitsT at this ⊢
  rw [List.all_eq_true] at this ⊢
  exact fun r hr => this r (List.mem_filter.1 hr).1
theorem del_w {ps : List Int} {ls : List Lk} {L : List Ru} (h : NW ps ls L) (i : Int) : NW ps ls (delL i L) :=
  ⟨h.topo, fun r hr => h.rules r (List.mem_filter.1 hr).1, Nat.le_trans (List.length_filter_le _ _) h.room⟩
theorem ins_w {ps : List Int} {ls : List Lk} {L : List Ru} (h : NW ps ls L) {r : Ru} (hr : r.wf) (hl : L.length < 4000000000000) : NW ps ls (insL r L) :=
  ⟨h.topo, fun x hx => (ins_mem.1 hx).elim (fun e => e ▸ hr) (h.rules x), by rw [ins_len]; exact hl⟩
/-- What Insert, Delete tell: an error, or the rules. -/
def insE (ps : List Int) (ls : List Lk) (L : List Ru) (r : Ru) : Int := if hasId r.id L then 142 else if rightN ps ls (insL r L) then 0 else 71
def delE (L : List Ru) (i : Int) : Int := if hasId i L then 0 else 143
end Go.Proofs.YteboadppighplaaGreat
/- Words of this seat's walks: a block that holds just these cells; a tree in memory; a slice that reads as pairs. -/
namespace Go.Proofs.YteboadppighplaaGreat.Tr
open Go.RowKit

theorem grown_none {W W' : World} (h : Below W.heap.size W W') : W.grownBy W' none := ⟨h.os, h.tape, h.output, h.size, fun k hk _ => h.block k hk⟩

/-- A tree in memory: a node is a block of six cells; none is written once it is made. -/
def IsT (w : World) : Value → Bt → Prop
  | v, .nil => v = .pointer none
  | v, .node l x r => ∃ (B : Nat) (vl vr : Value), v = .pointer (some ⟨B, 0, none⟩) ∧ At w B #[.int .u64 x.1, .int .i64 x.2, vl, vr, .int .i64 ((l.size + 1 + r.size : Nat) : Int), .int .i64 ((max l.ht r.ht + 1 : Nat) : Int)] 170 ∧ IsT w vl l ∧ IsT w vr r
theorem IsT.ptr {w : World} {v : Value} {t : Bt} (h : IsT w v t) : ∃ p, v = .pointer p := by
  cases t with
  | nil => exact ⟨_, h⟩
  | node l x r => obtain ⟨B, vl, vr, e, _⟩ := h; exact ⟨_, e⟩
theorem IsT.below {w w' : World} {n : Nat} (hn : w.heap.size ≤ n) (hb : Below n w w') : ∀ {v : Value} {t : Bt}, IsT w v t → IsT w' v t
  | _, .nil, h => h
  | _, .node _ _ _, ⟨B, vl, vr, e, ha, hl, hr⟩ => ⟨B, vl, vr, e, ha.below hb (Nat.lt_of_lt_of_le ha.lt hn), IsT.below hn hb hl, IsT.below hn hb hr⟩
theorem IsT.belows {w w' : World} (hb : Below w.heap.size w w') {v : Value} {t : Bt} (h : IsT w v t) : IsT w' v t := h.below (Nat.le_refl _) hb
/-- A node with this pair, or none. -/
def AtN (w : World) (v : Value) : Option (Int × Int) → Prop
  | none => v = .pointer none
  | some x => ∃ (B : Nat) (a b c d : Value), v = .pointer (some ⟨B, 0, none⟩) ∧ At w B #[.int .u64 x.1, .int .i64 x.2, a, b, c, d] 170
theorem AtN.belows {w w' : World} (hb : Below w.heap.size w w') {v : Value} {o : Option (Int × Int)} (h : AtN w v o) : AtN w' v o := by
  cases o with
  | none => exact h
  | some x => obtain ⟨B, a, b, c, d, e, ha⟩ := h; exact ⟨B, a, b, c, d, e, ha.belows hb⟩
theorem AtN.ptr {w : World} {v : Value} {o : Option (Int × Int)} (h : AtN w v o) : ∃ p, v = .pointer p := by
  cases o with
  | none => exact ⟨_, h⟩
  | some x => obtain ⟨B, a, b, c, d, e, _⟩ := h; exact ⟨_, e⟩

/-- Pairs as cells. -/
def pcells (l : List (Int × Int)) : List Value := l.flatMap fun x => [.int .u64 x.1, .int .i64 x.2]
theorem pcells_snoc (l : List (Int × Int)) (x : Int × Int) : pcells (l ++ [x]) = pcells l ++ [.int .u64 x.1, .int .i64 x.2] := by simp [pcells]
theorem pcells_append (l m : List (Int × Int)) : pcells (l ++ m) = pcells l ++ pcells m := by simp [pcells]
theorem pcells_nil : pcells [] = [] := rfl
theorem pcells_length (l : List (Int × Int)) : (pcells l).length = l.length * 2 := by induction l with
  | nil => rfl
  | cons x l ih => simp [pcells] at *; omega
theorem pcells_one (l : List (Int × Int)) : ∀ u ∈ pcells l, u.oneCell' = true := by
  intro u hu
  obtain ⟨x, _, h⟩ := List.mem_flatMap.1 hu
  simp at h
  rcases h with rfl | rfl <;> rfl
theorem pcells_at (L : List (Int × Int)) (k : Nat) (hk : k < L.length) : (pcells L)[2 * k]? = some (.int .u64 L[k].1) ∧ (pcells L)[2 * k + 1]? = some (.int .i64 L[k].2) := by
  induction L generalizing k with
  | nil => simp at hk
  | cons x L ih =>
    have e : pcells (x :: L) = .int .u64 x.1 :: .int .i64 x.2 :: pcells L := by simp [pcells]
    rw [e]
    match k with
    | 0 => simp
    | k + 1 =>
      have := ih k (by simpa using hk)
      rw [show 2 * (k + 1) = 2 * k + 1 + 1 by omega]
      simpa using this
theorem info68 : (Tryz.prog.info? 119).map (fun i => (i.zero, i.size, i.bytes)) = some (some (.agg #[.int .u64 0, .int .i64 0]), 2, 16) := by kernel_rfl
theorem add_off (g o j : Nat) : (⟨g, o, none⟩ : Addr).add j = ⟨g, o + j, none⟩ := by unfold Addr.add; split <;> simp_all

/-- The address of a slice that reads as these pairs. -/
def Ps (w : World) (A : Option Addr) (L : List (Int × Int)) : Prop := 0 < L.length → ∃ g o, A = some ⟨g, o, none⟩ ∧ (∃ cur t, w.heap[g]? = some (.cells cur t (0, 0)) ∧ t ≠ 999999) ∧
  ∀ k (hk : k < L.length), w.cell? ⟨g, o + k * 2, none⟩ = some (.int .u64 L[k].1) ∧ w.cell? ⟨g, o + k * 2 + 1, none⟩ = some (.int .i64 L[k].2)
/-- A value that is a slice of these pairs. -/
def IsP (w : World) (v : Value) (L : List (Int × Int)) : Prop := ∃ A c, v = .slice A L.length c ∧ L.length ≤ c ∧ c ≤ maxLen ∧ Ps w A L
theorem Ps.nil (w : World) (A : Option Addr) : Ps w A [] := fun h => absurd h (by simp)
theorem Ps.kept {w w' : World} {A : Option Addr} {L : List (Int × Int)} (h : Ps w A L) (hk : ∀ (g : Nat) (cur : Array Value) (t : TypeId), w.heap[g]? = some (.cells cur t (0, 0)) → t ≠ 999999 → w'.heap[g]? = w.heap[g]?) : Ps w' A L := fun hn => by
  obtain ⟨g, o, e, ⟨cur, t, hg, ht⟩, hc⟩ := h hn
  have hb := hk g cur t hg ht
  have hcell : ∀ j, w'.cell? ⟨g, j, none⟩ = w.cell? ⟨g, j, none⟩ := fun j => by unfold World.cell?; rw [hb]
  exact ⟨g, o, e, ⟨cur, t, hb.trans hg, ht⟩, fun k hk => ⟨(hcell _).trans (hc k hk).1, (hcell _).trans (hc k hk).2⟩⟩
theorem Ps.below {w w' : World} {A : Option Addr} {L : List (Int × Int)} {B : Nat} (h : Ps w A L) (hB : w.heap.size ≤ B) (hb : Below B w w') : Ps w' A L := h.kept fun g _cur _t hg _ => hb.block g (Nat.lt_of_lt_of_le (Array.getElem?_eq_some_iff.1 hg).1 hB)
theorem Ps.belows {w w' : World} {A : Option Addr} {L : List (Int × Int)} (h : Ps w A L) (hb : Below w.heap.size w w') : Ps w' A L := h.below (Nat.le_refl _) hb
theorem IsP.belows {w w' : World} {v : Value} {L : List (Int × Int)} (h : IsP w v L) (hb : Below w.heap.size w w') : IsP w' v L := by
  obtain ⟨A, c, e, h1, h2, h3⟩ := h
  exact ⟨A, c, e, h1, h2, h3.belows hb⟩
theorem Ps.drop {w : World} {A : Option Addr} {L : List (Int × Int)} (h : Ps w A L) {k cap : Nat} (hc : L.length ≤ cap) : Ps w (if cap = k then A else A.map (·.add (k * 2))) (L.drop k) := by
  intro hn
  have hl : k < L.length := by simp at hn; omega
  obtain ⟨g, o, rfl, hg, hcell⟩ := h (by omega)
  rw [if_neg (by omega)]
  refine ⟨g, o + k * 2, by rw [Option.map_some, add_off], hg, fun j hj => ?_⟩
  have hj' : k + j < L.length := by simp at hj; omega
  have := hcell (k + j) hj'
  simp only [List.getElem_drop]
  rw [show o + k * 2 + j * 2 = o + (k + j) * 2 by omega]
  exact this
/-- What is owned reads. -/
theorem isP_of_row {w : World} {base : Nat} {e : TypeId} (he : e ≠ 999999) {v : Value} {L : List (Int × Int)} (h : w.ownsRow base e 2 v L.length (pcells L)) : IsP w v L := by
  rcases h.2 with ⟨rfl, h0⟩ | ⟨g, cap, cur, rfl, hb, hg, hnc, hm, _⟩
  · obtain rfl := List.eq_nil_of_length_eq_zero h0
    exact ⟨none, 0, rfl, Nat.le_refl _, by simp, Ps.nil _ _⟩
  · refine ⟨_, cap, rfl, hnc, hm, fun _ => ⟨g, 0, rfl, ⟨cur, e, hg, he⟩, fun k hk => ?_⟩⟩
    obtain ⟨h1, h2⟩ := pcells_at L k hk
    have e1 := World.ownsRow.cells h (g := g) rfl _ _ h1
    have e2 := World.ownsRow.cells h (g := g) rfl _ _ h2
    rw [add_none, Nat.mul_comm] at e1 e2
    rw [Nat.zero_add]
    exact ⟨e1, e2⟩
end Go.Proofs.YteboadppighplaaGreat.Tr
/- Words: a slice that reads as ranges; append of ranges onto a row of one's own; the document's Same. -/
namespace Go.Proofs.YteboadppighplaaGreat.Tr
open Go.RowKit Go.Shelf

/-- Ranges as cells. -/
def zcells (l : List (Nat × Nat)) : List Value := l.flatMap fun x => [.int .u32 x.1, .int .u32 x.2]
theorem zcells_snoc (l : List (Nat × Nat)) (x : Nat × Nat) : zcells (l ++ [x]) = zcells l ++ [.int .u32 x.1, .int .u32 x.2] := by simp [zcells]
theorem zcells_append (l m : List (Nat × Nat)) : zcells (l ++ m) = zcells l ++ zcells m := by simp [zcells]
theorem zcells_nil : zcells [] = [] := rfl
theorem zcells_length (l : List (Nat × Nat)) : (zcells l).length = l.length * 2 := by induction l with
  | nil => rfl
  | cons x l ih => simp [zcells] at *; omega
theorem zcells_one (l : List (Nat × Nat)) : ∀ u ∈ zcells l, u.oneCell' = true := by
  intro u hu
  obtain ⟨x, _, h⟩ := List.mem_flatMap.1 hu
  simp at h
  rcases h with rfl | rfl <;> rfl
theorem zcells_at (L : List (Nat × Nat)) (k : Nat) (hk : k < L.length) : (zcells L)[2 * k]? = some (.int .u32 L[k].1) ∧ (zcells L)[2 * k + 1]? = some (.int .u32 L[k].2) := by
  induction L generalizing k with
  | nil => simp at hk
  | cons x L ih =>
    have e : zcells (x :: L) = .int .u32 x.1 :: .int .u32 x.2 :: zcells L := by simp [zcells]
    rw [e]
    match k with
    | 0 => simp
    | k + 1 =>
      have := ih k (by simpa using hk)
      rw [show 2 * (k + 1) = 2 * k + 1 + 1 by omega]
      simpa using this
theorem info32 : (Tryz.prog.info? 43).map (fun i => (i.zero, i.size, i.bytes)) = some (some (.agg #[.int .u32 0, .int .u32 0]), 2, 8) := by kernel_rfl
/-- The address of a slice that reads as these ranges. -/
def Zs (w : World) (A : Option Addr) (L : List (Nat × Nat)) : Prop := 0 < L.length → ∃ g o, A = some ⟨g, o, none⟩ ∧ g < w.heap.size ∧
  ∀ k (hk : k < L.length), w.cell? ⟨g, o + k * 2, none⟩ = some (.int .u32 L[k].1) ∧ w.cell? ⟨g, o + k * 2 + 1, none⟩ = some (.int .u32 L[k].2)
/-- A value that is a slice of these ranges. -/
def IsZ (w : World) (v : Value) (L : List (Nat × Nat)) : Prop := ∃ A c, v = .slice A L.length c ∧ L.length ≤ c ∧ c ≤ maxLen ∧ Zs w A L
theorem Zs.nil (w : World) (A : Option Addr) : Zs w A [] := fun h => absurd h (by simp)
theorem Zs.below {w w' : World} {A : Option Addr} {L : List (Nat × Nat)} {B : Nat} (h : Zs w A L) (hB : w.heap.size ≤ B) (hb : Below B w w') : Zs w' A L := fun hn => by
  obtain ⟨g, o, e, hg, hc⟩ := h hn
  exact ⟨g, o, e, Nat.lt_of_lt_of_le hg (hb.size), fun k hk => ⟨(hb.cell (p := ⟨g, _, none⟩) (by show g < B; omega)).trans (hc k hk).1, (hb.cell (p := ⟨g, _, none⟩) (by show g < B; omega)).trans (hc k hk).2⟩⟩
theorem Zs.belows {w w' : World} {A : Option Addr} {L : List (Nat × Nat)} (h : Zs w A L) (hb : Below w.heap.size w w') : Zs w' A L := h.below (Nat.le_refl _) hb
theorem IsZ.belows {w w' : World} {v : Value} {L : List (Nat × Nat)} (h : IsZ w v L) (hb : Below w.heap.size w w') : IsZ w' v L := by
  obtain ⟨A, c, e, h1, h2, h3⟩ := h
  exact ⟨A, c, e, h1, h2, h3.belows hb⟩
theorem Zs.drop {w : World} {A : Option Addr} {L : List (Nat × Nat)} (h : Zs w A L) {k cap : Nat} (hc : L.length ≤ cap) : Zs w (if cap = k then A else A.map (·.add (k * 2))) (L.drop k) := by
  intro hn
  have hl : k < L.length := by simp at hn; omega
  obtain ⟨g, o, rfl, hg, hcell⟩ := h (by omega)
  rw [if_neg (by omega)]
  refine ⟨g, o + k * 2, by rw [Option.map_some, add_off], hg, fun j hj => ?_⟩
  have hj' : k + j < L.length := by simp at hj; omega
  have := hcell (k + j) hj'
  simp only [List.getElem_drop]
  rw [show o + k * 2 + j * 2 = o + (k + j) * 2 by omega]
  exact this
/-- What is owned reads. -/
theorem isZ_of_row {w : World} {base : Nat} {v : Value} {L : List (Nat × Nat)} (h : w.ownsRow base 43 2 v L.length (zcells L)) : IsZ w v L := by
  rcases h.2 with ⟨rfl, h0⟩ | ⟨g, cap, cur, rfl, hb, hg, hnc, hm, _⟩
  · obtain rfl := List.eq_nil_of_length_eq_zero h0
    exact ⟨none, 0, rfl, Nat.le_refl _, by simp, Zs.nil _ _⟩
  · refine ⟨_, cap, rfl, hnc, hm, fun _ => ⟨g, 0, rfl, (Array.getElem?_eq_some_iff.1 hg).1, fun k hk => ?_⟩⟩
    obtain ⟨h1, h2⟩ := zcells_at L k hk
    have e1 := World.ownsRow.cells h (g := g) rfl _ _ h1
    have e2 := World.ownsRow.cells h (g := g) rfl _ _ h2
    rw [add_none, Nat.mul_comm] at e1 e2
    rw [Nat.zero_add]
    exact ⟨e1, e2⟩
theorem Zs.news {w : World} {ad : Addr} {L : List (Nat × Nat)} (h : Zs w (some ad) L) : ∀ j u, (zcells L)[j]? = some u → w.cell? (ad.add j) = some u := by
  intro j u hj
  have hlt : j < L.length * 2 := by
    rw [← zcells_length]
    exact (List.getElem?_eq_some_iff.1 hj).1
  obtain ⟨g, o, e, _, hc⟩ := h (by omega)
  cases e
  have hk : j / 2 < L.length := by omega
  obtain ⟨p1, p2⟩ := zcells_at L (j / 2) hk
  obtain ⟨q1, q2⟩ := hc (j / 2) hk
  rw [add_off]
  rcases Nat.mod_two_eq_zero_or_one j with hm | hm
  · rw [show 2 * (j / 2) = j by omega, hj] at p1
    rw [show o + j / 2 * 2 = o + j by omega] at q1
    rw [q1, ← p1]
  · rw [show 2 * (j / 2) + 1 = j by omega, hj] at p2
    rw [show o + j / 2 * 2 + 1 = o + j by omega] at q2
    rw [q2, ← p2]

/-- A row of one's own that is not nil. -/
def Row (w : World) (base : Nat) (v : Value) (L : List (Nat × Nat)) : Prop := w.ownsRow base 43 2 v L.length (zcells L) ∧ ∃ g cap, v = .slice (some ⟨g, 0, none⟩) L.length cap
theorem Row.isZ {w : World} {base : Nat} {v : Value} {L : List (Nat × Nat)} (h : Row w base v L) : IsZ w v L := isZ_of_row h.1
theorem Row.empty (w : World) : Row (w.alloc (.cells #[] 43)) w.heap.size (.slice (some ⟨w.heap.size, 0, none⟩) 0 0) [] :=
  ⟨World.ownsRow_made w #[] 0 (Nat.le_refl _) (Nat.zero_le _) (by simp), _, _, rfl⟩

theorem wpList_app_z {ops : Array Oper} {rest : List Oper} {o : Oper} {a : Act} {Q : Exit → Act → World → Prop} {w : World} (hgd : o.guard = none) (s x : Operand)
    (ho : o.op = .call { callee := .builtin .append, args := #[s, x], argTypes := #[31, 31] })
    (base : Nat) (v : Value) (L : List (Nat × Nat)) (hs : a.eval s = v) (hrow : Row w base v L) (A : Option Addr) (c : Nat) (M : List (Nat × Nat)) (hx : a.eval x = .slice A M.length c) (hM : Zs w A M)
    (hA : A = none → M = []) (hlen : L.length + M.length ≤ 4294967300) (hbase : base ≤ w.heap.size)
    (h : ∀ g cap w', Row w' base (.slice (some ⟨g, 0, none⟩) (L.length + M.length) cap) (L ++ M) → Below base w w' → wpList Tryz.prog ops Q rest (a.put o.dst (.slice (some ⟨g, 0, none⟩) (L.length + M.length) cap)) w') : wpList Tryz.prog ops Q (o :: rest) a w := by
  obtain ⟨i0, hi, hz0, hz1, hz2⟩ := info_parts info32
  obtain ⟨hown, g, cap, rfl⟩ := hrow
  cases A with
  | some ad =>
    refine wpList_append_own w hgd s x 31 ho base 43 i0 (.agg #[.int .u32 0, .int .u32 0]) 2 8 Tryz.underlying31 hi hz0 hz1 hz2 rfl (by decide) _ _ _ hs hown ad M.length c (zcells M) hx (zcells_length M) hM.news (zcells_one M) (by simp only [maxLen]; omega) (by omega) hbase ?_
    intro v' w' h1 h2 h3
    have hnn : v' ≠ .slice none 0 0 := fun e => by have := (h3.1 e).1; cases this
    rcases h1.2 with ⟨e, _⟩ | ⟨g', cap', cur, rfl, _⟩
    · exact absurd e hnn
    · refine h g' cap' w' ⟨?_, g', cap', by simp⟩ ((Below.refl _ _).grown h2 hbase (fun k hk => (hown.lt k hk).1))
      rw [zcells_append]
      simpa using h1
  | none =>
    obtain rfl := hA rfl
    refine wpList_plain hgd fun K hK => ?_
    have hr := run_append_room_src (P := Tryz.prog) w 31 31 o.type 43 i0 Tryz.underlying31 hi g 0 L.length cap (.slice none 0 c) 0 [] (by rw [hz1]; exact Src.ofNil w Tryz.underlying31 c) (by
      rcases hown.2 with ⟨e, _⟩ | ⟨g', cap', cur, e, _, _, hnc, _⟩
      · cases e
      · cases e; exact hnc) (by simp) (by simp)
    unfold Oper.wp execOp
    simp only [ho, resolve, invoke, builtin, Sem.run_bind, Sem.run_pure, Result.andThen_ok, List.map_toArray, List.map_cons, List.map_nil, hs, hx, List.length_nil, hr]
    exact hK _ _ (h g cap w ⟨by simpa using hown, g, cap, by simp⟩ (Below.refl _ _))

set_option maxRecDepth 100000 in
set_option maxHeartbeats 1000000 in
/-- Same, of one list twice. -/
theorem rsame_any {v1 v2 : Value} (L : List (Nat × Nat)) (w : World) (h1 : IsZ w v1 L) (h2 : IsZ w v2 L) : Calls Tryz.prog 12 #[v1, v2] w fun e w' => e = .returned (.bool true) ∧ Below w.heap.size w w' := by
  obtain ⟨A1, c1, rfl, n1, m1, z1⟩ := h1
  obtain ⟨A2, c2, rfl, n2, m2, z2⟩ := h2
  have hL : L.length ≤ 9223372036854775807 := Nat.le_trans n1 m1
  have H1 := Lib.hid z1
  have H2 := Lib.hid z2
  clear z1 z2
  go_enter Tryz.func12, Tryz.ntmps12
  go_wp2
  go_loopw [5] (fun i wr => ∃ k : Nat, i = .int .i64 k ∧ k ≤ L.length ∧ ∃ q, wr = w.drewN q) (fun i _ => L.length - (intOf i).toNat)
  case atStart => exact ⟨0, rfl, by omega, 0, rfl⟩
  case round =>
    obtain ⟨k, rfl, hk, q, rfl⟩ := hrel
    by_cases hlt : k < L.length
    · obtain ⟨g1, o1, e1, _, r1⟩ := H1.out (by omega)
      obtain ⟨g2, o2, e2, _, r2⟩ := H2.out (by omega)
      subst e1 e2
      obtain ⟨c10, c11⟩ := r1 k hlt
      obtain ⟨c20, c21⟩ := r2 k hlt
      clear r1 r2
      generalize L[k] = x at c10 c11 c20 c21
      have i0 : (0 : Int) ≤ (k : Int) := by omega
      have i1 : (k : Int) < (L.length : Int) := by omega
      go_wp2_with fail
      go_quiet (fail)
      go_wp2
      go_roundw
      case rel => exact ⟨k + 1, by go_num, by omega, q + nq, rfl⟩
      case measure => simp [intOf]; omega
    · go_wp2
      go_ret
      exact ⟨rfl, bdrewN (Below.refl _ _) _⟩
end Go.Proofs.YteboadppighplaaGreat.Tr
/- Contracts: the document's End, Cuts. -/
namespace Go.Proofs.YteboadppighplaaGreat.Tr
open Go.RowKit Go.Shelf

/-- Cuts as cells. -/
def icells (C : List Nat) : List Value := C.map fun (c : Nat) => .int .i64 c
theorem icells_append (C D : List Nat) : icells (C ++ D) = icells C ++ icells D := by simp [icells]
theorem icells_length (C : List Nat) : (icells C).length = C.length := by simp [icells]
theorem icells_get (C : List Nat) (k : Nat) (hk : k < C.length) : (icells C)[k]? = some (.int .i64 C[k]) := by simp [icells, hk]
/-- A slice that reads as these cuts. -/
def IsI (w : World) (v : Value) (C : List Nat) : Prop := ∃ A c, v = .slice A C.length c ∧ C.length ≤ c ∧ c ≤ maxLen ∧ (0 < C.length → ∃ g, A = some ⟨g, 0, none⟩ ∧ g < w.heap.size ∧ ∀ k (hk : k < C.length), w.cell? ⟨g, k, none⟩ = some (.int .i64 C[k]))
theorem IsI.belows {w w' : World} {v : Value} {C : List Nat} (h : IsI w v C) (hb : Below w.heap.size w w') : IsI w' v C := by
  obtain ⟨A, c, e, h1, h2, h3⟩ := h
  refine ⟨A, c, e, h1, h2, fun hn => ?_⟩
  obtain ⟨g, e, hg, hc⟩ := h3 hn
  exact ⟨g, e, Nat.lt_of_lt_of_le hg hb.size, fun k hk => (hb.cell (p := ⟨g, k, none⟩) hg).trans (hc k hk)⟩
theorem isI_of_row {w : World} {base : Nat} {v : Value} {C : List Nat} (h : w.ownsRow base 3 1 v C.length (icells C)) : IsI w v C := by
  rcases h.2 with ⟨rfl, h0⟩ | ⟨g, cap, cur, rfl, hb, hg, hnc, hm, _⟩
  · obtain rfl := List.eq_nil_of_length_eq_zero h0
    exact ⟨none, 0, rfl, Nat.le_refl _, by simp, fun h => absurd h (by simp)⟩
  · refine ⟨_, cap, rfl, hnc, hm, fun _ => ⟨g, rfl, (Array.getElem?_eq_some_iff.1 hg).1, fun k hk => ?_⟩⟩
    rw [World.ownsRow.cellAt h k (by omega)]
    exact icells_get C k hk
/-- The document's End. -/
theorem end_any {v : Value} (C : List Nat) (i : Nat) (w : World) (hi : i < C.length) (hpos : ∀ k (hk : k < C.length), 0 < k → 0 < C[k]) (hb : ∀ k (hk : k < C.length), C[k] < 4294967296) (h : IsI w v C) : Calls Tryz.prog 51 #[v, .int .i64 i] w fun e w' => e = .returned (.int .i64 (endOf 4294967296 (C.drop (i + 1)) : Nat)) ∧ w' = w := by
  obtain ⟨A, c, rfl, h1, h2, h3⟩ := h
  obtain ⟨g, rfl, hg, hc⟩ := h3 (by omega)
  simp only [maxLen] at h2
  by_cases hlt : i + 1 < C.length
  · have c1 := hc (i + 1) hlt
    have p1 := hpos (i + 1) hlt (by omega)
    have p2 := hb (i + 1) hlt
    have e0 : endOf 4294967296 (C.drop (i + 1)) = C[i + 1] - 1 := by rw [List.drop_eq_getElem_cons hlt]; rfl
    rw [e0]
    generalize C[i + 1] = y at c1 p1 p2
    clear e0 hc h3 hpos hb
    have i0 : (0 : Int) ≤ (i : Int) + 1 := by omega
    have i1 : (i : Int) + 1 < (C.length : Int) := by omega
    go_enter Tryz.func51, Tryz.ntmps51
    go_wp2
    go_ret
    exact ⟨ret_int (by omega), rfl⟩
  · have e0 : endOf 4294967296 (C.drop (i + 1)) = 4294967295 := by rw [List.drop_eq_nil_of_le (by omega)]; rfl
    rw [e0]
    have i1 : ¬ (i : Int) + 1 < (C.length : Int) := by omega
    clear hc h3 hpos hb
    go_enter Tryz.func51, Tryz.ntmps51
    go_wp2
    go_ret
    exact ⟨rfl, rfl⟩
theorem step_append_own {P : Program} {ops : Array Oper} {o : Oper} {a : Act} {w : World} {K : Act → World → Prop} {Q : Exit → Act → World → Prop} {E : Prop} (hg : o.guard = none) (s x : Operand) (t : TypeId)
    (ho : o.op = .call { callee := .builtin .append, args := #[s, x], argTypes := #[t, t] })
    (base : Nat) (e : TypeId) (i : TypeInfo) (z : Value) (size bytes : Nat) (ht : P.underlying t = some (.slice e)) (hi : P.info? e = some i) (hz : i.zero = some z)
    (hsize : i.size = size) (hby : i.bytes = bytes) (hzs : z.cells.size = size) (hsz : 0 < size)
    (v : Value) (n : Nat) (xs : List Value) (hs : a.eval s = v) (hown : w.ownsRow base e size v n xs)
    (ad : Addr) (m c : Nat) (news : List Value) (hx : a.eval x = .slice (some ad) m c) (hl : news.length = m * size) (hnews : ∀ j u, news[j]? = some u → w.cell? (ad.add j) = some u) (h1 : ∀ u ∈ news, u.oneCell' = true)
    (h63 : n + m ≤ maxLen) (hbytes : (n + m) * bytes ≤ 140737488355328) (hbase : base ≤ w.heap.size)
    (h : ∀ v' w', w'.ownsRow base e size v' (n + m) (xs ++ news) → w.grownBy w' v.ownBlock → K (a.put o.dst v') w') : if Region.wanted o (yielded ops a.tmps) = true then Oper.wp P o a w K Q else E := by
  rw [if_pos (by simp [Region.wanted, hg])]
  exact wp_append_own w s x t ho base e i z size bytes ht hi hz hsize hby hzs hsz v n xs hs hown ad m c news hx hl hnews h1 h63 hbytes hbase fun v' w' q1 q2 _ => h v' w' q1 q2
theorem info3 : (Tryz.prog.info? 3).map (fun i => (i.zero, i.size, i.bytes)) = some (some (.int .i64 0), 1, 8) := by kernel_rfl
theorem ends_take {L : List (Nat × Nat)} {k : Nat} (hk : k < L.length) : ends (L.take (k + 1)) = ends (L.take k) ++ [L[k].1, L[k].2 + 1] := by
  rw [List.take_succ_eq_append_getElem hk, ends_snoc]
theorem ends_len (L : List (Nat × Nat)) : (ends L).length = 1 + 2 * L.length := by
  unfold ends
  induction L with
  | nil => rfl
  | cons r L ih => simp at *; omega
/-- The row of all ends. -/
def EI (w : World) (L : List (Nat × Nat)) (k : Nat) (v : Value) (W : World) : Prop := W.ownsRow w.heap.size 3 1 v (ends (L.take k)).length (icells (ends (L.take k))) ∧ Below w.heap.size w W

/-- Where the search for cuts stands. -/
def CS (all C : List Nat) (lo : Nat) (more : Bool) : Prop := (more = true ∧ C ++ cutsL 4294967296 lo all = cutsL 4294967296 0 all) ∨ (more = false ∧ C = cutsL 4294967296 0 all)
theorem CS.len {all C : List Nat} {lo : Nat} {more : Bool} (h : CS all C lo more) : C.length ≤ 4294967296 := by
  have h1 : (cutsL 4294967296 0 all).length ≤ 4294967296 := by
    rcases rising_len (cutsL_spec 4294967296 all 4294967296 0 (by omega)).1 with h | h
    · omega
    · rw [h]; simp
  rcases h with ⟨_, h⟩ | ⟨_, h⟩
  · rw [← h] at h1; simp at h1; omega
  · rw [h]; exact h1
theorem CS.next {all C : List Nat} {lo : Nat} (h : CS all C lo true) (hn : nx 4294967296 lo all < 4294967296) : CS all (C ++ [nx 4294967296 lo all]) (nx 4294967296 lo all + 1) true := by
  rcases h with ⟨_, h⟩ | ⟨h, _⟩
  · refine .inl ⟨rfl, ?_⟩
    rw [← h, cutsL_cons hn]; simp
  · cases h
theorem CS.stop {all C : List Nat} {lo : Nat} (h : CS all C lo true) (hn : ¬ nx 4294967296 lo all < 4294967296) : CS all C lo false := by
  rcases h with ⟨_, h⟩ | ⟨h, _⟩
  · refine .inr ⟨rfl, ?_⟩
    rw [← h, cutsL_nil hn]; simp
  · cases h
theorem CS.fin {all C : List Nat} {lo : Nat} (h : CS all C lo false) : C = cutsL 4294967296 0 all := by
  rcases h with ⟨h, _⟩ | ⟨_, h⟩
  · cases h
  · exact h
theorem nx_take {m lo : Nat} {all : List Nat} {k : Nat} (hk : k < all.length) : nx m lo (all.take (k + 1)) = if lo ≤ all[k] ∧ all[k] < nx m lo (all.take k) then all[k] else nx m lo (all.take k) := by
  rw [List.take_succ_eq_append_getElem hk, nx_snoc]
theorem nx_le (m lo : Nat) (all : List Nat) : nx m lo all ≤ m := (nx_fold lo all m).1
theorem ends_bound {L : List (Nat × Nat)} (hu : U32 L) : ∀ k (hk : k < (ends L).length), (ends L)[k] ≤ 4294967296 := by
  intro k hk
  have hm := List.getElem_mem hk
  unfold ends at hm
  rcases List.mem_cons.1 hm with e | hm
  · show (ends L)[k] ≤ _; unfold ends; omega
  · obtain ⟨r, hr, h⟩ := List.mem_flatMap.1 hm
    have := hu r hr
    show (ends L)[k] ≤ _
    unfold ends
    simp at h
    rcases h with h | h <;> omega
def moreOf : Value → Nat
  | .bool true => 1
  | _ => 0

set_option maxRecDepth 100000 in
set_option maxHeartbeats 4000000 in
theorem cuts_any {v : Value} (L : List (Nat × Nat)) (w : World) (hu : U32 L) (hlen : L.length ≤ 1000000) (hz : IsZ w v L) :
    Calls Tryz.prog 50 #[v] w fun e w' => ∃ v', e = .returned v' ∧ IsI w' v' (cutsL 4294967296 0 (ends L)) ∧ Below w.heap.size w w' := by
  obtain ⟨A1, c1, rfl, n1, m1, z1⟩ := hz
  obtain ⟨i0, hi, hz0, hz1, hz2⟩ := info_parts info3
  have H1 := Lib.hid z1
  have HU := Lib.hid hu
  clear z1 hu
  go_enter Tryz.func50, Tryz.ntmps50
  go_wp2
  go_loopw [3, 4] (fun s i wr => ∃ (k g cap : Nat), i = .int .i64 k ∧ s = .slice (some ⟨g, 0, none⟩) (1 + 2 * k) cap ∧ k ≤ L.length ∧ Hid (EI w L k s wr)) (fun _ i _ => L.length - (intOf i).toNat)
  case atStart =>
    refine ⟨0, w.heap.size, 1, rfl, rfl, by omega, Lib.hid ⟨?_, (Below.refl _ w).alloc (Nat.le_refl _) _⟩⟩
    exact World.ownsRow_lit w #[.int .i64 0] 1 (Nat.le_refl _) (by simp [maxLen]) rfl
  case round =>
    obtain ⟨k, g, cap, rfl, rfl, hk, HE⟩ := hrel
    have hlk : (ends (L.take k)).length = 1 + 2 * k := by rw [ends_len, List.length_take]; omega
    by_cases hlt : k < L.length
    · have hb := HE.out.2
      have hrow := HE.out.1
      rw [hlk] at hrow
      obtain ⟨g1, o1, e1, hg1, r1⟩ := H1.out (by omega)
      subst e1
      have c10 := (hb.cell (p := ⟨g1, o1 + k * 2, none⟩) hg1).trans (r1 k hlt).1
      have c11 := (hb.cell (p := ⟨g1, o1 + k * 2 + 1, none⟩) hg1).trans (r1 k hlt).2
      have b1 := HU.out.at k hlt
      have het := ends_take hlt
      clear r1
      generalize L[k] = x at c10 c11 b1 het
      have HET := Lib.hid het
      clear het
      have j1 : IntKind.i64.wrap (x.1 : Int) = (x.1 : Int) := IntWalk.i64_in _ (by omega)
      have j2 : IntKind.i64.wrap (x.2 : Int) = (x.2 : Int) := IntWalk.i64_in _ (by omega)
      have j3 : IntKind.i64.wrap ((x.2 : Int) + 1) = (x.2 : Int) + 1 := IntWalk.i64_in _ (by omega)
      have k0 : (0 : Int) ≤ (k : Int) := by omega
      have k1 : (k : Int) < (L.length : Int) := by omega
      go_wp2_with fail
      go_region_held3 (fun w' => w'.cell? ⟨g1, o1 + k * 2, none⟩ = some (.int .u32 x.1) ∧ w'.cell? ⟨g1, o1 + k * 2 + 1, none⟩ = some (.int .u32 x.2)) (first | go_keep) ((refine step_append_own rfl (.tmp 17) (.tmp 31) 22 rfl w.heap.size 3 i0 (.int .i64 0) 1 8 Tryz.underlying22 hi hz0 hz1 hz2 rfl (by decide) (.slice (some ⟨g, 0, none⟩) (1 + 2 * k) cap) (1 + 2 * k) (icells (ends (L.take k))) (by simp [Act.eval]) (hrow.alloc _) ⟨wr.heap.size, 0, none⟩ 2 2 [.int .i64 x.1, .int .i64 ((x.2 : Int) + 1)] (by simp [Act.eval]) rfl (World.news_of_block (cs := #[.int .i64 x.1, .int .i64 ((x.2 : Int) + 1)]) (t := 3) (fr := (0, 0)) (heap_alloc_new wr _)) (by simp [Value.oneCell']) (by simp only [maxLen]; omega) (by omega) (by have := hb.size; simp; omega) ?_; intro v' w3 hown' hgrow; obtain ⟨g', cap', rfl⟩ := ownsRow_succ hown'; have hb3 : Below w.heap.size wr w3 := Below.grown (by first | exact ((Below.refl w.heap.size wr).alloc hb.size _).drew | exact (Below.refl w.heap.size wr).drew.alloc hb.size _ | exact (Below.refl w.heap.size wr).alloc hb.size _) hgrow (by have := hb.size; simp; omega) (fun k hk => (hrow.lt k hk).1); have d10 := (hb3.cell (p := ⟨g1, o1 + k * 2, none⟩) hg1).trans c10; have d11 := (hb3.cell (p := ⟨g1, o1 + k * 2 + 1, none⟩) hg1).trans c11))
      go_wp2
      go_roundw
      case rel =>
        refine ⟨k + 1, g', cap', by go_num, rfl, by omega, Lib.hid ⟨?_, hb.trans hb3⟩⟩
        rw [HET.out, icells_append]
        simpa [hlk, icells] using hown'
      case measure => simp [intOf]; omega
    · obtain rfl : k = L.length := by omega
      obtain ⟨w1, rfl⟩ : ∃ w1, w1 = wr := ⟨_, rfl⟩
      have hall : IsI w1 (.slice (some ⟨g, 0, none⟩) (1 + 2 * L.length) cap) (ends L) := by
        have := isI_of_row HE.out.1
        rwa [List.take_length] at this
      have hb := HE.out.2
      obtain ⟨P2, c2, e2, n2, m2, z2⟩ := hall
      have hlk' : (ends L).length = 1 + 2 * L.length := ends_len L
      have hg : ∀ W, Below w1.heap.size w1 W → ∀ (j x : Nat), (ends L)[j]? = some x → W.cell? ⟨g, j, none⟩ = some (.int .i64 x) := fun W hW j x hx => by
        obtain ⟨hj, rfl⟩ := List.getElem?_eq_some_iff.1 hx
        obtain ⟨g', e', hg', hc'⟩ := z2 (by omega)
        rw [e'] at e2
        simp only [Value.slice.injEq, Option.some.injEq, Addr.mk.injEq] at e2
        obtain ⟨⟨rfl, _⟩, _⟩ := e2
        exact (hW.cell (p := ⟨g, j, none⟩) hg').trans (hc' j hj)
      have hbd : ∀ (j x : Nat), (ends L)[j]? = some x → x ≤ 4294967296 := fun j x hx => by
        obtain ⟨hj, rfl⟩ := List.getElem?_eq_some_iff.1 hx
        exact ends_bound HU.out j hj
      obtain ⟨all, hall⟩ : ∃ all, all = ends L := ⟨_, rfl⟩
      rw [← hall] at hlk'
      rw [← hall] at hg hbd
      have HALL := Lib.hid hall
      have HG := Lib.hid hg
      have HBD := Lib.hid hbd
      clear hg hbd z2 e2 hall HE H1 HU hlk n2 m2
      go_wp2
      go_loopw [5, 6, 7] (fun o l m wq => ∃ (lo : Nat) (C : List Nat) (b : Bool), l = .int .i64 ((lo : Int) - 1) ∧ m = .bool b ∧ lo ≤ 4294967296 ∧ Hid (CS all C lo b) ∧ Hid (wq.ownsRow w1.heap.size 3 1 o C.length (icells C)) ∧ Below w1.heap.size w1 wq) (fun _ l m _ => 2 * (4294967297 - (intOf l + 1).toNat) + moreOf m)
      case atStart => exact ⟨0, [], true, rfl, rfl, by omega, Lib.hid (.inl ⟨rfl, rfl⟩), Lib.hid (World.ownsRow_nil _ _ _ _), Below.refl _ _⟩
      case round =>
        obtain ⟨lo, C, b, rfl, rfl, hlo, HC, HO, hbq⟩ := hrel
        cases b with
        | false =>
          go_wp2
          go_ret
          have hfin := HC.out.fin
          rw [HALL.out] at hfin
          subst hfin
          exact ⟨_, rfl, isI_of_row HO.out, hb.trans (hbq.mono hb.size)⟩
        | true =>
          obtain ⟨wq, rfl⟩ : ∃ wq, wq = wr := ⟨_, rfl⟩
          go_wp2
          go_loopw [8, 9] (fun nv iv wx => ∃ k : Nat, iv = .int .i64 k ∧ nv = .int .i64 (nx 4294967296 lo (all.take k) : Nat) ∧ k ≤ all.length ∧ wx = wq) (fun _ iv _ => all.length - (intOf iv).toNat)
          case atStart => exact ⟨0, rfl, rfl, by omega, rfl⟩
          case round =>
            obtain ⟨k, rfl, rfl, hk, rfl⟩ := hrel
            by_cases hlt : k < all.length
            · have c0 := HG.out wr hbq k _ (List.getElem?_eq_getElem hlt)
              have hx := HBD.out k _ (List.getElem?_eq_getElem hlt)
              have hnx := nx_take (m := 4294967296) (lo := lo) hlt
              have hnl := nx_le 4294967296 lo (all.take k)
              generalize all[k] = x at c0 hx hnx
              generalize nx 4294967296 lo (all.take k) = n at hnx hnl ⊢
              have k0 : (0 : Int) ≤ (k : Int) := by omega
              have k1 : (k : Int) < 1 + 2 * (L.length : Int) := by omega
              have k2 : (k : Int) < ((1 + 2 * L.length : Nat) : Int) := by omega
              by_cases h1 : lo ≤ x
              · by_cases h2 : x < n
                · rw [if_pos ⟨h1, h2⟩] at hnx
                  have HN := Lib.hid hnx
                  have h1' : (lo : Int) - 1 < (x : Int) := by omega
                  clear hnx h1
                  go_wp2
                  go_roundw
                  case rel => exact ⟨k + 1, by go_num, by rw [HN.out], by omega, trivial⟩
                  case measure => simp [intOf]; omega
                · rw [if_neg (by omega)] at hnx
                  have HN := Lib.hid hnx
                  have h1' : (lo : Int) - 1 < (x : Int) := by omega
                  clear hnx h1
                  go_wp2
                  go_roundw
                  case rel => exact ⟨k + 1, by go_num, by rw [HN.out], by omega, trivial⟩
                  case measure => simp [intOf]; omega
              · rw [if_neg (by omega)] at hnx
                have HN := Lib.hid hnx
                have h1' : ¬ (lo : Int) - 1 < (x : Int) := by omega
                clear hnx h1
                go_wp2
                go_roundw
                case rel => exact ⟨k + 1, by go_num, by rw [HN.out], by omega, trivial⟩
                case measure => simp [intOf]; omega
            · obtain rfl : k = all.length := by omega
              rw [List.take_length]
              have hnl := nx_le 4294967296 lo all
              have hcl := HC.out.len
              by_cases hn : nx 4294967296 lo all < 4294967296
              · have hnlo := (nx_lo hn).1
                have HC2 := Lib.hid (HC.out.next hn)
                generalize nx 4294967296 lo all = n at hn hnl hnlo HC2 ⊢
                have k1 : ¬ (all.length : Int) < (all.length : Int) := by omega
                have k3 : ¬ (all.length : Int) < 1 + 2 * (L.length : Int) := by omega
                have k4 : ¬ (all.length : Int) < ((1 + 2 * L.length : Nat) : Int) := by omega
                go_wp2_with (at_builtin; refine wpList_append_own _ rfl _ _ 22 rfl w1.heap.size 3 i0 (.int .i64 0) 1 8 Tryz.underlying22 hi hz0 hz1 hz2 rfl (by decide) _ _ _ rfl (HO.out.alloc _) ⟨wr.heap.size, 0, none⟩ 1 1 [.int .i64 n] rfl rfl (cell_one_new _ _ _) (by simp [Value.oneCell']) (by simp only [maxLen]; omega) (by omega) (by have := hbq.size; simp; omega) ?_; intro v' w3 hown' hgrow _)
                go_roundw
                case rel =>
                  refine ⟨n + 1, C ++ [n], true, by go_num, rfl, by omega, HC2, Lib.hid ?_, (hbq.alloc hbq.size _).grown hgrow (by have := hbq.size; simp; omega) (fun k hk => (HO.out.lt k hk).1)⟩
                  rw [icells_append]
                  simpa [icells] using hown'
                case measure => simp [intOf, moreOf]; omega
              · have HC2 := Lib.hid (HC.out.stop hn)
                generalize nx 4294967296 lo all = n at hn hnl HC2 ⊢
                have k1 : ¬ (all.length : Int) < (all.length : Int) := by omega
                have k3 : ¬ (all.length : Int) < 1 + 2 * (L.length : Int) := by omega
                have k4 : ¬ (all.length : Int) < ((1 + 2 * L.length : Nat) : Int) := by omega
                have dn : decide ((n : Int) ≤ 4294967295) = false := by simp; omega
                go_wp2
                go_roundw
                case rel => exact ⟨lo, C, false, rfl, rfl, hlo, HC2, HO, hbq⟩
                case measure => simp only [moreOf]; omega
end Go.Proofs.YteboadppighplaaGreat.Tr
/- Words: pieces of a slice of ranges, appended to a row of one's own. -/
namespace Go.Proofs.YteboadppighplaaGreat.Tr
open Go.RowKit Go.Shelf

theorem size26 (u : World) : (sizeOf (Tryz.prog.elem 31)).run Tryz.prog u = .ok 2 u := by kernel_rfl
theorem und26 : Tryz.prog.underlying 31 = some (.slice (Tryz.prog.elem 31)) := by kernel_rfl
theorem Zs.none {w : World} {A : Option Addr} {L : List (Nat × Nat)} (h : Zs w A L) (hA : A = none) : L = [] := by
  cases L with
  | nil => rfl
  | cons r L => obtain ⟨g, o, e, _⟩ := h (by simp); rw [hA] at e; cases e
theorem Zs.take {w : World} {A : Option Addr} {L : List (Nat × Nat)} (h : Zs w A L) (q : Nat) : Zs w A (L.take q) := fun hn => by
  have hn' : 0 < L.length := by have := List.length_take_le q L; rw [List.length_take] at hn; omega
  obtain ⟨g, o, e, hg, hc⟩ := h hn'
  refine ⟨g, o, e, hg, fun k hk => ?_⟩
  have hk' : k < L.length := by rw [List.length_take] at hk; omega
  simp only [List.getElem_take]
  exact hc k hk'
/-- l[q:]. -/
theorem slice_from (A : Option Addr) (c : Nat) (L : List (Nat × Nat)) (q : Nat) (hq : q ≤ L.length) (hc : L.length ≤ c) (hm : c ≤ maxLen) : ∃ A2 c2, (∀ u : World, (Instr.slice 31 (.slice A L.length c) (some (.int .i64 (q : Int))) none none).run Tryz.prog u = .ok (.slice A2 (L.length - q) c2) u) ∧
    L.length - q ≤ c2 ∧ c2 ≤ maxLen ∧ ∀ W, Zs W A L → Zs W A2 (L.drop q) := by
  refine ⟨if c = q then A else A.map (·.add (q * 2)), c - q, fun u => ?_, by omega, by omega, fun W h => h.drop hc⟩
  rw [run_slice_l u 31 A L.length c und26 .i64 q (by omega) (by omega), size26]
  simp [Result.andThen, sliced]
/-- l[:q]. -/
theorem slice_to (A : Option Addr) (c : Nat) (L : List (Nat × Nat)) (q : Nat) (hq : q ≤ L.length) (hc : L.length ≤ c) (_hm : c ≤ maxLen) : ∀ u : World, (Instr.slice 31 (.slice A L.length c) none (some (.int .i64 (q : Int))) none).run Tryz.prog u = .ok (.slice A q c) u := by
  intro u
  rw [run_slice_h u 31 A L.length c und26 .i64 q (by omega) (by omega), size26]
  simp [Result.andThen, sliced]
  intro h; cases A <;> simp [Addr.add]

theorem Row.alloc {w : World} {base : Nat} {v : Value} {L : List (Nat × Nat)} (h : Row w base v L) (o : Obj) : Row (w.alloc o) base v L := ⟨h.1.alloc o, h.2⟩

theorem wpList_app_y {ops : Array Oper} {rest : List Oper} {o : Oper} {a : Act} {Q : Exit → Act → World → Prop} {w : World} (hgd : o.guard = none) (s x : Operand)
    (ho : o.op = .call { callee := .builtin .append, args := #[s, x], argTypes := #[31, 31] })
    (base : Nat) (v : Value) (L : List (Nat × Nat)) (hs : a.eval s = v) (hrow : Row w base v L) (A : Option Addr) (n c : Nat) (M : List (Nat × Nat)) (hx : a.eval x = .slice A n c) (hn : n = M.length) (hM : Zs w A M)
    (hlen : L.length + M.length ≤ 4294967300) (hbase : base ≤ w.heap.size)
    (h : ∀ g cap w', Row w' base (.slice (some ⟨g, 0, none⟩) (L.length + M.length) cap) (L ++ M) → Below base w w' → wpList Tryz.prog ops Q rest (a.put o.dst (.slice (some ⟨g, 0, none⟩) (L.length + M.length) cap)) w') : wpList Tryz.prog ops Q (o :: rest) a w := by
  subst hn
  obtain ⟨i0, hi, hz0, hz1, hz2⟩ := info_parts info32
  obtain ⟨hown, g, cap, rfl⟩ := hrow
  have hA : A = .none → M = [] := hM.none
  cases A with
  | some ad =>
    refine wpList_append_own w hgd s x 31 ho base 43 i0 (.agg #[.int .u32 0, .int .u32 0]) 2 8 Tryz.underlying31 hi hz0 hz1 hz2 rfl (by decide) _ _ _ hs hown ad M.length c (zcells M) hx (zcells_length M) hM.news (zcells_one M) (by simp only [maxLen]; omega) (by omega) hbase ?_
    intro v' w' h1 h2 h3
    have hnn : v' ≠ .slice .none 0 0 := fun e => by have := (h3.1 e).1; cases this
    rcases h1.2 with ⟨e, _⟩ | ⟨g', cap', cur, rfl, _⟩
    · exact absurd e hnn
    · refine h g' cap' w' ⟨?_, g', cap', by simp⟩ ((Below.refl _ _).grown h2 hbase (fun k hk => (hown.lt k hk).1))
      rw [zcells_append]
      simpa using h1
  | none =>
    obtain rfl := hA rfl
    refine wpList_plain hgd fun K hK => ?_
    have hr := run_append_room_src (P := Tryz.prog) w 31 31 o.type 43 i0 Tryz.underlying31 hi g 0 L.length cap (.slice .none 0 c) 0 [] (by rw [hz1]; exact Src.ofNil w Tryz.underlying31 c) (by
      rcases hown.2 with ⟨e, _⟩ | ⟨g', cap', cur, e, _, _, hnc, _⟩
      · cases e
      · cases e; exact hnc) (by simp) (by simp)
    unfold Oper.wp execOp
    simp only [ho, resolve, invoke, builtin, Sem.run_bind, Sem.run_pure, Result.andThen_ok, List.map_toArray, List.map_cons, List.map_nil, hs, hx, List.length_nil, hr]
    exact hK _ _ (h g cap w ⟨by simpa using hown, g, cap, by simp⟩ (Below.refl _ _))

theorem zs_one (w : World) (x : Nat × Nat) : Zs (w.alloc (.cells #[.int .u32 x.1, .int .u32 x.2] 43)) (some ⟨w.heap.size, 0, none⟩) [x] := fun _ =>
  ⟨w.heap.size, 0, rfl, (At.new w #[.int .u32 x.1, .int .u32 x.2] 43).lt, fun k hk => by
    have hA := At.new w #[.int .u32 x.1, .int .u32 x.2] 43
    obtain rfl : k = 0 := by simpa using hk
    exact ⟨(hA.cell 0).trans rfl, (hA.cell 1).trans rfl⟩⟩
end Go.Proofs.YteboadppighplaaGreat.Tr
/- Contracts of the document: Atoms, Of. -/
namespace Go.Proofs.YteboadppighplaaGreat.Tr
open Go.RowKit Go.Shelf

theorem atomsL_take {C : List Nat} {k : Nat} (hk : k < C.length) : (atomsL C).take (k + 1) = (atomsL C).take k ++ [(frm C k, too C k)] := by
  have h : k < (atomsL C).length := by rw [atomsL_len]; exact hk
  rw [List.take_succ_eq_append_getElem h, atomsL_at]
/-- Where the loop over the boundaries stands. -/
def AI (W0 : World) (C : List Nat) (k : Nat) (v : Value) (W : World) : Prop := W.ownsRow W0.heap.size 43 2 v k (zcells ((atomsL C).take k)) ∧ Below W0.heap.size W0 W
/-- What Atoms answers. -/
def AtOut (w : World) (L : List (Nat × Nat)) (e : Ending) (w' : World) : Prop := ∃ v', e = .returned v' ∧ IsZ w' v' (atomsL (bnds L)) ∧ Below w.heap.size w w'
/-- The document's Of, of atoms. -/
def ofDoc (m : List (Nat × Nat)) (a : Nat) : Nat := (m.takeWhile fun r => decide (r.2 < a)).length
theorem ofDoc_at {m : List (Nat × Nat)} {a k : Nat} (hk : k ≤ m.length) (h1 : ∀ j (hj : j < m.length), j < k → m[j].2 < a) (h2 : ∀ hj : k < m.length, ¬ m[k].2 < a) : ofDoc m a = k := by
  unfold ofDoc
  induction m generalizing k with
  | nil => simp at hk; simp [hk]
  | cons r m ih =>
    cases k with
    | zero =>
      have := h2 (by simp)
      rw [List.takeWhile_cons_of_neg (by simpa using this)]; rfl
    | succ k =>
      have := h1 0 (by simp) (by omega)
      rw [List.takeWhile_cons_of_pos (by simpa using this), List.length_cons, ih (by simpa using hk) (fun j hj hjk => by have := h1 (j + 1) (by simpa using hj) (by omega); simpa using this) (fun hj => by have := h2 (by simpa using hj); simpa using this)]
theorem ofDoc_atoms {C : List Nat} (h : Bd C) {a : Nat} (ha : a < 4294967296) : ofDoc (atomsL C) a = ofL C a := by
  have hl := h.of_le a
  have hi := h.of_in ha
  refine ofDoc_at (by rw [atomsL_len]; omega) (fun j hj hjk => ?_) (fun hj => ?_)
  · rw [atomsL_at]
    show too C j < a
    have h1 : j + 1 < C.length := by omega
    have h2 := (h.of_iff a (j + 1) h1).1 (by omega)
    rw [h.next h1] at h2
    omega
  · rw [atomsL_at]
    show ¬ too C _ < a
    omega
end Go.Proofs.YteboadppighplaaGreat.Tr
/- Contracts: the document's Ranges, Atoms of a network. -/
namespace Go.Proofs.YteboadppighplaaGreat
open Go.RowKit Go.Shelf

/-- A range as cells. -/
def rgA (x : Nat × Nat) : Array Value := #[.int .u32 x.1, .int .u32 x.2]
theorem rgA_size (x : Nat × Nat) : (rgA x).size = 2 := rfl
theorem rgA_one (x : Nat × Nat) : ∀ u ∈ (rgA x).toList, u.oneCell' = true := by
  intro u hu
  simp [rgA] at hu
  rcases hu with rfl | rfl <;> rfl
theorem infoRange : (Tryz.prog.info? 43).map (fun i => (i.zero, i.size, i.bytes)) = some (some (.agg #[.int .u32 0, .int .u32 0]), 2, 8) := by kernel_rfl
theorem rg_take {L : List Ru} {k : Nat} (hk : k < L.length) : rgL (L.take (k + 1)) = rgL (L.take k) ++ [(L[k].f, L[k].t)] := by
  unfold rgL
  rw [List.take_succ_eq_append_getElem hk, List.map_append]
  rfl
set_option maxRecDepth 100000 in
set_option maxHeartbeats 2000000 in
/-- The document's Ranges. -/
theorem rranges_any {vp vl vr : Value} (ps : List Int) (ls : List Lk) (L : List Ru) (w : World) (hl : L.length ≤ 1000) (h : IsN w vp vl vr ps ls L) : Calls Tryz.prog 49 #[.agg #[vp, vl, vr]] w fun e w' => ∃ v, e = .returned v ∧ Tr.IsZ w' v (rgL L) ∧ Below w.heap.size w w' := by
  obtain ⟨⟨⟨A1, c1, rfl, _⟩, ⟨A2, c2, rfl, _⟩⟩, ⟨A3, c3, rfl, n3, m3, z3⟩⟩ := h
  have HZ : Hid (∀ u, Below w.heap.size w u → Rs u A3 L) := Lib.hid fun u hu => z3.belows hu
  have D0 := At.new w #[.slice A1 ps.length c1, .slice A2 ls.length c2, .slice A3 L.length c3] 28
  have b0 : Below w.heap.size w (w.alloc (.cells #[.slice A1 ps.length c1, .slice A2 ls.length c2, .slice A3 L.length c3] 28)) := (Below.refl _ w).alloc (Nat.le_refl _) _
  have hs0 : (w.alloc (.cells #[.slice A1 ps.length c1, .slice A2 ls.length c2, .slice A3 L.length c3] 28)).heap.size = w.heap.size + 1 := by simp
  have hL : L.length ≤ 9223372036854775807 := by omega
  clear z3
  go_enter Tryz.func49, Tryz.ntmps49
  go_upto_region 1 with (fail)
  obtain ⟨w0, hw0⟩ : ∃ w0, w0 = w.alloc (.cells #[.slice A1 ps.length c1, .slice A2 ls.length c2, .slice A3 L.length c3] 28) := ⟨_, rfl⟩
  rw [← hw0] at D0 b0 hs0 ⊢
  clear hw0
  have HS0 := Lib.hid hs0
  have HI0 : Hid (w0.ownsRow (w.heap.size + 1) 43 2 (.slice none 0 0) 0 (fcs rgA (rgL (L.take 0))) ∧ Below (w.heap.size + 1) w0 w0) := Lib.hid ⟨World.ownsRow_nil _ _ _ _, Below.refl _ _⟩
  clear hs0
  go_wp2
  go_loopw [3, 4] (fun o i wr => ∃ k : Nat, i = .int .i64 k ∧ k ≤ L.length ∧ Hid (wr.ownsRow (w.heap.size + 1) 43 2 o k (fcs rgA (rgL (L.take k))) ∧ Below (w.heap.size + 1) w0 wr)) (fun _ i _ => L.length - (intOf i).toNat)
  case atStart => exact ⟨0, rfl, by omega, HI0⟩
  case round =>
    obtain ⟨k, rfl, hk, HI⟩ := hrel
    have hb := HI.out.2
    have D1 := D0.below hb (by omega)
    have bw := b0.trans (hb.mono (by omega))
    have x2 := (D1.cell 2).trans rfl
    have hsz : w.heap.size + 1 ≤ wr.heap.size := by have := hb.size; have := HS0.out; omega
    have HROW := Lib.hid HI.out.1
    by_cases hlt : k < L.length
    · obtain ⟨g, o, e, hg, r0, r1, r2, r3, r4, r5, r6⟩ := (HZ.out wr bw).at k hlt
      subst e
      have i0 : (0 : Int) ≤ (k : Int) := by omega
      have i1 : (k : Int) < (L.length : Int) := by omega
      have HT : Hid (fcs rgA (rgL (L.take k) ++ [(L[k].f, L[k].t)]) = fcs rgA (rgL (L.take (k + 1))) ∧ (rgL (L.take k)).length = k) := Lib.hid ⟨by rw [rg_take hlt], by unfold rgL; rw [List.length_map, List.length_take]; omega⟩
      generalize L[k] = x at r0 r1 r2 r3 r4 r5 r6 HT
      obtain ⟨id, dv, pr, kd, f, t, pt⟩ := x
      dsimp only at r0 r1 r2 r3 r4 r5 r6 HT
      have HB := Lib.hid hb
      clear D1 hb r0 r1 r2 r3 r6
      go_wp2_with (at_builtin; refine wpList_app_new rgA_size rgA_one Tryz.underlying31 infoRange rfl (by decide) rfl (.tmp 12) (.tmp 19) rfl (w.heap.size + 1) _ (rgL (L.take k)) rfl (by rw [HT.out.2]; exact HROW.out.alloc _) ⟨wr.heap.size, 0, none⟩ 1 [(f, t)] rfl (f_new rgA_size wr [(f, t)] #[.int .u32 f, .int .u32 t] 43 rfl) (by simp only [maxLen, List.length_singleton]; have := HT.out.2; omega) (by simp only [List.length_singleton]; have := HT.out.2; omega) (by simp; omega) ?_; intro v' w5 ho hb5)
      have HF : Hid (w5.ownsRow (w.heap.size + 1) 43 2 v' (k + 1) (fcs rgA (rgL (L.take (k + 1)))) ∧ Below (w.heap.size + 1) w0 w5) := Lib.hid (by
        rw [List.length_append, HT.out.2, HT.out.1] at ho
        exact ⟨ho, (HB.out.alloc (by omega) _).trans hb5⟩)
      clear ho hb5
      go_roundw
      case rel => exact ⟨k + 1, by go_num, by omega, HF⟩
      case measure => simp [intOf]; omega
    · have hki : ¬ (k : Int) < (L.length : Int) := by omega
      have hkl : k = L.length := by omega
      have HF : Hid (Tr.IsZ wr u3 (rgL L)) := Lib.hid (by
        have := HROW.out
        rw [hkl, List.take_length] at this
        refine Tr.isZ_of_row (base := w.heap.size + 1) ?_
        rw [show (rgL L).length = L.length by unfold rgL; rw [List.length_map]]
        exact this)
      clear hkl
      go_wp2
      go_ret
      exact ⟨_, rfl, HF.out, bw⟩
end Go.Proofs.YteboadppighplaaGreat
/- Words: traces in memory. The document's Has, Ints, Same. -/
namespace Go.Proofs.YteboadppighplaaGreat
open Go.RowKit Go.Shelf

set_option maxRecDepth 100000 in
set_option maxHeartbeats 1000000 in
/-- The document's Ints. -/
theorem rints_any {v1 v2 : Value} (L M : List Int) (w : World) (h1 : IsF 1 intA w v1 L) (h2 : IsF 1 intA w v2 M) : Calls Tryz.prog 67 #[v1, v2] w fun e w' => e = .returned (.bool (decide (L = M))) ∧ Below w.heap.size w w' := by
  obtain ⟨A1, c1, rfl, n1, m1, z1⟩ := h1
  obtain ⟨A2, c2, rfl, n2, m2, z2⟩ := h2
  have hL : L.length ≤ 9223372036854775807 := Nat.le_trans n1 m1
  have hM : M.length ≤ 9223372036854775807 := Nat.le_trans n2 m2
  have H1 := Lib.hid z1
  have H2 := Lib.hid z2
  obtain ⟨q, hq⟩ : ∃ q, q = decide (L = M) := ⟨_, rfl⟩
  rw [← hq]
  have HQ := Lib.hid hq
  clear z1 z2 hq
  by_cases hlen : L.length = M.length
  · have hln : ((L.length : Int) == (M.length : Int)) = true := by simp [hlen]
    have hlm : decide ((L.length : Int) = (M.length : Int)) = true := by simp [hlen]
    have HE := Lib.hid hlen
    clear hlen
    go_enter Tryz.func67, Tryz.ntmps67
    go_wp2
    go_loopw [5] (fun i wr => ∃ k : Nat, i = .int .i64 k ∧ k ≤ L.length ∧ Hid (∀ j (h1 : j < L.length) (h2 : j < M.length), j < k → L[j] = M[j]) ∧ ∃ q, wr = w.drewN q) (fun i _ => L.length - (intOf i).toNat)
    case atStart => exact ⟨0, rfl, by omega, Lib.hid (fun j _ _ hj => by omega), 0, rfl⟩
    case round =>
      obtain ⟨k, rfl, hk, HK, nd, rfl⟩ := hrel
      by_cases hlt : k < L.length
      · have hlt2 : k < M.length := by have := HE.out; omega
        obtain ⟨g1, o1, e1, _, r⟩ := H1.out.at k hlt
        obtain ⟨g2, o2, e2, _, s⟩ := H2.out.at k hlt2
        subst e1 e2
        have r0 : w.cell? ⟨g1, o1 + k, none⟩ = some (.int .i64 L[k]) := by have := r 0 (by decide); simpa [intA] using this
        have s0 : w.cell? ⟨g2, o2 + k, none⟩ = some (.int .i64 M[k]) := by have := s 0 (by decide); simpa [intA] using this
        have HX : Hid (L[k] = M[k] → ∀ j (h1 : j < L.length) (h2 : j < M.length), j < k + 1 → L[j] = M[j]) := Lib.hid fun e j h1 h2 hj => by
          by_cases hjk : j = k
          · subst hjk; exact e
          · exact HK.out j h1 h2 (by omega)
        have HY : Hid (L[k] ≠ M[k] → q = false) := Lib.hid fun e => by
          rw [HQ.out]; apply decide_eq_false; intro h; subst h; exact e rfl
        clear r s
        generalize L[k] = x at r0 HX HY
        generalize M[k] = y at s0 HX HY
        have i0 : (0 : Int) ≤ (k : Int) := by omega
        have i1 : (k : Int) < (L.length : Int) := by omega
        have i2 : (k : Int) < (M.length : Int) := by omega
        clear hlt2
        by_cases hxy : x = y
        · have HZ := Lib.hid (HX.out hxy)
          clear HX HY
          subst hxy
          have s0' := s0
          clear s0
          go_wp2_with fail
          go_quiet (fail)
          go_wp2
          go_roundw
          case rel => exact ⟨k + 1, by go_num, by omega, HZ, nd + nq, rfl⟩
          case measure => simp [intOf]; omega
        · have hqf := HY.out hxy
          have hb1 : (x == y) = false := by simp [hxy]
          have hb2 : decide (x = y) = false := by simp [hxy]
          clear HX HY hxy
          subst hqf
          go_wp2_with fail
          go_quiet (fail)
          go_wp2
          go_ret
          exact ⟨rfl, bdrewN (bdrewN (Below.refl _ _) _) _⟩
      · have hqt : q = true := by
          rw [HQ.out]; apply decide_eq_true
          exact List.ext_getElem HE.out fun j h1 h2 => HK.out j h1 h2 (by omega)
        have hki : ¬ (k : Int) < (L.length : Int) := by omega
        subst hqt
        go_wp2
        go_ret
        exact ⟨rfl, bdrewN (Below.refl _ _) _⟩
  · have hln : ((L.length : Int) == (M.length : Int)) = false := by simp; omega
    have hlm : decide ((L.length : Int) = (M.length : Int)) = false := by simp; omega
    have hqf : q = false := by rw [HQ.out]; apply decide_eq_false; intro h; subst h; exact hlen rfl
    subst hqf
    clear HQ
    go_enter Tryz.func67, Tryz.ntmps67
    go_wp2
    go_ret
    exact ⟨rfl, Below.refl _ _⟩
set_option maxRecDepth 100000 in
set_option maxHeartbeats 1000000 in
/-- The document's Has. -/
theorem rhasI_any {v : Value} (D : List Int) (x : Int) (w : World) (h : IsF 1 intA w v D) : Calls Tryz.prog 63 #[v, .int .i64 x] w fun e w' => e = .returned (.bool (decide (x ∈ D))) ∧ w' = w := by
  obtain ⟨A1, c1, rfl, n1, m1, z1⟩ := h
  have hL : D.length ≤ 9223372036854775807 := Nat.le_trans n1 m1
  have H1 := Lib.hid z1
  obtain ⟨q, hq⟩ : ∃ q, q = decide (x ∈ D) := ⟨_, rfl⟩
  rw [← hq]
  have HQ := Lib.hid hq
  clear z1 hq
  go_enter Tryz.func63, Tryz.ntmps63
  go_wp2
  go_loopw [5] (fun i wr => ∃ k : Nat, i = .int .i64 k ∧ k ≤ D.length ∧ Hid (∀ j (h1 : j < D.length), j < k → D[j] ≠ x) ∧ wr = w) (fun i _ => D.length - (intOf i).toNat)
  case atStart => exact ⟨0, rfl, by omega, Lib.hid (fun j _ hj => by omega), rfl⟩
  case round =>
    obtain ⟨k, rfl, hk, HK, rfl⟩ := hrel
    by_cases hlt : k < D.length
    · obtain ⟨g1, o1, e1, _, r⟩ := H1.out.at k hlt
      subst e1
      have r0 : wr.cell? ⟨g1, o1 + k, none⟩ = some (.int .i64 D[k]) := by have := r 0 (by decide); simpa [intA] using this
      have HX : Hid (D[k] ≠ x → ∀ j (h1 : j < D.length), j < k + 1 → D[j] ≠ x) := Lib.hid fun e j h1 hj => by
        by_cases hjk : j = k
        · subst hjk; exact e
        · exact HK.out j h1 (by omega)
      have HY : Hid (D[k] = x → q = true) := Lib.hid fun e => by
        rw [HQ.out]; exact decide_eq_true (e ▸ List.getElem_mem hlt)
      clear r
      generalize D[k] = y at r0 HX HY
      have i0 : (0 : Int) ≤ (k : Int) := by omega
      have i1 : (k : Int) < (D.length : Int) := by omega
      by_cases hxy : y = x
      · have hqt := HY.out hxy
        clear HX HY
        subst hqt
        have hb1 : (y == x) = true := by simp [hxy]
        clear hxy
        go_wp2
        go_ret
        exact ⟨rfl, rfl⟩
      · have HZ := Lib.hid (HX.out hxy)
        have hb1 : (y == x) = false := by simp [hxy]
        have hb2 : decide (y = x) = false := by simp [hxy]
        clear HX HY hxy
        go_wp2
        go_roundw
        case rel => exact ⟨k + 1, by go_num, by omega, HZ, (by first | rfl | trivial)⟩
        case measure => simp [intOf]; omega
    · have hqf : q = false := by
        rw [HQ.out]; apply decide_eq_false
        intro hm
        obtain ⟨j, hj, e⟩ := List.getElem_of_mem hm
        exact HK.out j hj (by omega) e
      have hki : ¬ (k : Int) < (D.length : Int) := by omega
      subst hqf
      go_wp2
      go_ret
      exact ⟨rfl, rfl⟩
/-- A trace's value. -/
def tcV (v : Value) (x : Tc) : Value := .agg #[v, .int .i64 x.ft, .int .i64 x.out.d, .int .i64 x.out.p]
set_option maxRecDepth 100000 in
set_option maxHeartbeats 1000000 in
/-- The document's Same. -/
theorem rsameC_any {v1 v2 : Value} (x y : Tc) (w : World) (h1 : IsF 1 intA w v1 x.ds) (h2 : IsF 1 intA w v2 y.ds) : Calls Tryz.prog 43 #[tcV v1 x, tcV v2 y] w fun e w' => e = .returned (.bool (decide (x = y))) ∧ Below w.heap.size w w' := by
  obtain ⟨D, f, ⟨pd, pp⟩⟩ := x
  obtain ⟨E, f', ⟨pd', pp'⟩⟩ := y
  dsimp only at h1 h2
  unfold tcV
  dsimp only
  have b0 : Below w.heap.size w ((w.alloc (.cells #[v1, .int .i64 f, .int .i64 pd, .int .i64 pp] 57)).alloc (.cells #[v2, .int .i64 f', .int .i64 pd', .int .i64 pp'] 57)) := ((Below.refl _ w).alloc (Nat.le_refl _) _).alloc (by simp) _
  have k1 := rints_any D E _ (h1.belows b0) (h2.belows b0)
  have X0 := (At.new w #[v1, .int .i64 f, .int .i64 pd, .int .i64 pp] 57).alloc (.cells #[v2, .int .i64 f', .int .i64 pd', .int .i64 pp'] 57)
  have Y0 := At.new1 w (.cells #[v1, .int .i64 f, .int .i64 pd, .int .i64 pp] 57) #[v2, .int .i64 f', .int .i64 pd', .int .i64 pp'] 57
  obtain ⟨V, hV⟩ : ∃ V, V = decide ((⟨D, f, ⟨pd, pp⟩⟩ : Tc) = ⟨E, f', ⟨pd', pp'⟩⟩) := ⟨_, rfl⟩
  rw [← hV]
  have e0 : V = (decide (D = E) && (decide (f = f') && decide ((⟨pd, pp⟩ : Pt) = ⟨pd', pp'⟩))) := by
    rw [hV, Bool.eq_iff_iff, decide_eq_true_eq, Tc.eq_iff]
    simp only [Bool.and_eq_true, decide_eq_true_eq]
  have hq := eql_pt ⟨pd, pp⟩ ⟨pd', pp'⟩
  unfold ptA at hq
  dsimp only at hq
  generalize decide (D = E) = q1 at k1 e0
  generalize decide ((⟨pd, pp⟩ : Pt) = ⟨pd', pp'⟩) = q3 at hq e0
  have hq2 : (f == f') = decide (f = f') := rfl
  generalize decide (f = f') = q2 at hq2 e0
  have HV := Lib.hid e0
  obtain ⟨A1, c1, rfl, _⟩ := h1
  obtain ⟨A2, c2, rfl, _⟩ := h2
  clear hV e0
  go_enter Tryz.func43, Tryz.ntmps43
  go_upto_region 1 with (fail)
  obtain ⟨w0, hw0⟩ : ∃ w0, w0 = ((w.alloc (.cells #[.slice A1 D.length c1, .int .i64 f, .int .i64 pd, .int .i64 pp] 57)).alloc (.cells #[.slice A2 E.length c2, .int .i64 f', .int .i64 pd', .int .i64 pp'] 57)) := ⟨_, rfl⟩
  rw [← hw0] at b0 k1 X0 Y0 ⊢
  clear hw0
  have x0 := (X0.cell 0).trans rfl; have y0 := (Y0.cell 0).trans rfl
  go_wp2_with fail
  refine k1.mono ?_
  rintro e w1 ⟨rfl, b1⟩
  have bw1 := b0.trans (b1.mono b0.size)
  have X1 := X0.belows b1
  have Y1 := Y0.belows b1
  clear x0 y0 k1
  have x1 := (X1.cell 1).trans rfl; have y1 := (Y1.cell 1).trans rfl
  have x2 := (X1.cell 2).trans rfl; have y2 := (Y1.cell 2).trans rfl
  have x3 := (X1.cell 3).trans rfl; have y3 := (Y1.cell 3).trans rfl
  cases q1 with
  | false =>
    have HF : Hid (V = false) := Lib.hid (by rw [HV.out]; rfl)
    go_wp2
    go_ret
    exact ⟨by rw [HF.out]; rfl, bw1⟩
  | true =>
    cases q2 with
    | false =>
      have HF : Hid (V = false) := Lib.hid (by rw [HV.out]; rfl)
      go_wp2
      go_ret
      exact ⟨by rw [HF.out]; rfl, bw1⟩
    | true =>
      have HF : Hid (V = q3) := Lib.hid (by rw [HV.out]; rfl)
      go_wp2
      go_ret
      exact ⟨by rw [HF.out]; rfl, bw1⟩
end Go.Proofs.YteboadppighplaaGreat
/- Contracts: the document's Trace, of a right network. -/
namespace Go.Proofs.YteboadppighplaaGreat
open Go.RowKit Go.Shelf

theorem intA_one (x : Int) : ∀ u ∈ (intA x).toList, u.oneCell' = true := by
  intro u hu; simp [intA] at hu; subst hu; rfl
theorem infoInt : (Tryz.prog.info? 3).map (fun i => (i.zero, i.size, i.bytes)) = some (some (.int .i64 0), 1, 8) := by kernel_rfl
/-- What Trace answers, of a device that there is. -/
def TrOut (x : Tc) (w : World) (e : Ending) (w' : World) : Prop := ∃ v, e = .returned (.tuple #[tcV v x, .int .i64 0]) ∧ IsF 1 intA w' v x.ds ∧ (∀ g o n c, v = .slice (some ⟨g, o, none⟩) n c → w.heap.size ≤ g) ∧ Below w.heap.size w w'
/-- .. and of one that there is not. -/
def trNo : Value := .tuple #[.agg #[.slice none 0 0, .int .i64 0, .int .i64 0, .int .i64 0], .int .i64 91]
/-- Four stores into the result. -/
def putW (W : World) (R g n cap : Nat) (f pd pp : Int) : World := (((W.setCell ⟨R, 0, none⟩ (.slice (some ⟨g, 0, none⟩) n cap)).setCell ⟨R, 1, none⟩ (.int .i64 f)).setCell ⟨R, 2, none⟩ (.int .i64 pd)).setCell ⟨R, 3, none⟩ (.int .i64 pp)
theorem putW_at {W : World} {R g n cap : Nat} {f pd pp : Int} {v : Value} {x y z : Value} {T : TypeId} (h : At W R #[v, x, y, z] T) : At (putW W R g n cap f pd pp) R #[.slice (some ⟨g, 0, none⟩) n cap, .int .i64 f, .int .i64 pd, .int .i64 pp] T :=
  (((h.set0 0 _).set0 1 _).set0 2 _).set0 3 _
theorem tr_end {V : Tc} {w W : World} {g n cap : Nat} {f pd pp : Int} {D : List Int} (ho : W.ownsRow (w.heap.size + 1 + 1 + 1) 3 1 (.slice (some ⟨g, 0, none⟩) n cap) D.length (fcs intA D)) (hb : Below w.heap.size w W) (hV : V = ⟨D, f, ⟨pd, pp⟩⟩) :
    TrOut V w (.returned (.tuple #[.agg #[.slice (some ⟨g, 0, none⟩) n cap, .int .i64 f, .int .i64 pd, .int .i64 pp], .int .i64 0])) (putW W (w.heap.size + 1) g n cap f pd pp) := by
  subst hV
  have hsz : ∀ j, w.heap.size ≤ (⟨w.heap.size + 1, j, none⟩ : Addr).block := fun j => by show w.heap.size ≤ w.heap.size + 1; omega
  have o1 := row_far ho (grownBy_set W (w.heap.size + 1) 0 (.slice (some ⟨g, 0, none⟩) n cap)) (by omega)
  have o2 := row_far o1 (grownBy_set _ (w.heap.size + 1) 1 (.int .i64 f)) (by omega)
  have o3 := row_far o2 (grownBy_set _ (w.heap.size + 1) 2 (.int .i64 pd)) (by omega)
  have o4 := row_far o3 (grownBy_set _ (w.heap.size + 1) 3 (.int .i64 pp)) (by omega)
  have hge := (ho.lt g rfl).1
  exact ⟨_, rfl, isF_of_row intA_size o4, fun g' o' n' c' e => by cases e; omega, (((hb.setCell (hsz 0) _).setCell (hsz 1) _).setCell (hsz 2) _).setCell (hsz 3) _⟩
/-- Where the loop stands. -/
structure TrI (ps : List Int) (ls : List Lk) (L : List Ru) (a : Nat) (V : Tc) (w : World) (cs : Array Value) (s : List Int) (x : Int) (v : Value) (W : World) : Prop where
  nd : s.Nodup
  dev : ∀ y ∈ s, inD ps y
  at' : inD ps x
  val : V = trc ls L a (ps.length + 1 - s.length) s x
  net : At W w.heap.size cs 28
  res : At W (w.heap.size + 1) #[.slice none 0 0, .int .i64 0, .int .i64 0, .int .i64 0] 57
  tr : At W (w.heap.size + 1 + 1) #[v, .int .i64 0, .int .i64 0, .int .i64 0] 57
  row : W.ownsRow (w.heap.size + 1 + 1 + 1) 3 1 v s.length (fcs intA s)
  bel : Below w.heap.size w W
theorem TrI.room {ps : List Int} {ls : List Lk} {L : List Ru} {a : Nat} {V : Tc} {w W : World} {cs : Array Value} {s : List Int} {x : Int} {v : Value} (h : TrI ps ls L a V w cs s x v W) : s.length ≤ ps.length := nodup_room h.nd h.dev
set_option maxRecDepth 100000 in
set_option maxHeartbeats 1000000 in
theorem rtrace_out {vp vl vr : Value} (ps : List Int) (ls : List Lk) (L : List Ru) (d : Int) (a : Nat) (w : World) (h : IsN w vp vl vr ps ls L) (hno : ¬ inD ps d) : Calls Tryz.prog 35 #[.agg #[vp, vl, vr], .int .i64 d, .int .u32 a] w fun e w' => e = .returned trNo ∧ Below w.heap.size w w' := by
  obtain ⟨⟨⟨A1, c1, rfl, n1, m1, _⟩, ⟨A2, c2, rfl, _⟩⟩, ⟨A3, c3, rfl, _⟩⟩ := h
  have hM : ps.length ≤ 9223372036854775807 := Nat.le_trans n1 m1
  have R0 := At.new1 w (.cells #[.slice A1 ps.length c1, .slice A2 ls.length c2, .slice A3 L.length c3] 28) #[.slice none 0 0, .int .i64 0, .int .i64 0, .int .i64 0] 57
  have b0 : Below w.heap.size w ((w.alloc (.cells #[.slice A1 ps.length c1, .slice A2 ls.length c2, .slice A3 L.length c3] 28)).alloc (.cells #[.slice none 0 0, .int .i64 0, .int .i64 0, .int .i64 0] 57)) := ((Below.refl _ w).alloc (Nat.le_refl _) _).alloc (by simp) _
  have D0 := (At.new w #[.slice A1 ps.length c1, .slice A2 ls.length c2, .slice A3 L.length c3] 28).alloc (.cells #[.slice none 0 0, .int .i64 0, .int .i64 0, .int .i64 0] 57)
  go_enter Tryz.func35, Tryz.ntmps35
  go_upto_region 1 with (fail)
  obtain ⟨w0, hw0⟩ : ∃ w0, w0 = ((w.alloc (.cells #[.slice A1 ps.length c1, .slice A2 ls.length c2, .slice A3 L.length c3] 28)).alloc (.cells #[.slice none 0 0, .int .i64 0, .int .i64 0, .int .i64 0] 57)) := ⟨_, rfl⟩
  rw [← hw0] at R0 b0 D0 ⊢
  clear hw0
  have x0 := (D0.cell 0).trans rfl
  have y0 := (R0.cell 0).trans rfl; have y1 := (R0.cell 1).trans rfl; have y2 := (R0.cell 2).trans rfl; have y3 := (R0.cell 3).trans rfl
  have z0 := R0.frozen 0; have z1 := R0.frozen 1; have z2 := R0.frozen 2; have z3 := R0.frozen 3
  have Z := (((R0.set0 0 (.slice none 0 0)).set0 1 (.int .i64 0)).set0 2 (.int .i64 0)).set0 3 (.int .i64 0)
  have Y0 := Z.cell 0; have Y1 := Z.cell 1; have Y2 := Z.cell 2; have Y3 := Z.cell 3
  simp at Y0 Y1 Y2 Y3
  have hsz : ∀ j, w.heap.size ≤ (⟨w.heap.size + 1, j, none⟩ : Addr).block := fun j => by show w.heap.size ≤ w.heap.size + 1; omega
  have hb := (((b0.setCell (hsz 0) (.slice none 0 0)).setCell (hsz 1) (.int .i64 0)).setCell (hsz 2) (.int .i64 0)).setCell (hsz 3) (.int .i64 0)
  by_cases h1 : d < 0
  · have e1 : decide (d < 0) = true := decide_eq_true h1
    clear hno h1
    go_wp2
    refine bodyPost_ret (v := trNo) ?_ rfl ⟨rfl, hb⟩
    simp [results, Tryz.results35, go_sem, Y0, Y1, Y2, Y3, trNo]
  · have e1 : decide (d < 0) = false := decide_eq_false h1
    have h2 : (ps.length : Int) ≤ d := by unfold inD at hno; omega
    have e2 : decide ((ps.length : Int) ≤ d) = true := decide_eq_true h2
    clear hno h1 h2
    go_wp2
    refine bodyPost_ret (v := trNo) ?_ rfl ⟨rfl, hb⟩
    simp [results, Tryz.results35, go_sem, Y0, Y1, Y2, Y3, trNo]
set_option maxRecDepth 100000 in
set_option maxHeartbeats 4000000 in
theorem rtrace_in {vp vl vr : Value} (ps : List Int) (ls : List Lk) (L : List Ru) (d : Int) (a : Nat) (w : World) (hR : RN ps ls L) (h : IsN w vp vl vr ps ls L) (hin : inD ps d) : Calls Tryz.prog 35 #[.agg #[vp, vl, vr], .int .i64 d, .int .u32 a] w (TrOut (trcN ps ls L a d) w) := by
  have HN : Hid (∀ u, Below w.heap.size w u → IsN u vp vl vr ps ls L) := Lib.hid fun u hu => h.belows hu
  have HR := Lib.hid hR
  have HIN := Lib.hid hin
  obtain ⟨⟨⟨A1, c1, rfl, n1, m1, _⟩, ⟨A2, c2, rfl, _⟩⟩, ⟨A3, c3, rfl, _⟩⟩ := h
  have hM : ps.length ≤ 9223372036854775807 := Nat.le_trans n1 m1
  have hp8 := hR.topo.n8
  obtain ⟨V, hV⟩ : ∃ V, V = trcN ps ls L a d := ⟨_, rfl⟩
  rw [← hV]
  have R0 := At.new1 w (.cells #[.slice A1 ps.length c1, .slice A2 ls.length c2, .slice A3 L.length c3] 28) #[.slice none 0 0, .int .i64 0, .int .i64 0, .int .i64 0] 57
  have b0 : Below w.heap.size w ((w.alloc (.cells #[.slice A1 ps.length c1, .slice A2 ls.length c2, .slice A3 L.length c3] 28)).alloc (.cells #[.slice none 0 0, .int .i64 0, .int .i64 0, .int .i64 0] 57)) := ((Below.refl _ w).alloc (Nat.le_refl _) _).alloc (by simp) _
  have D0 := (At.new w #[.slice A1 ps.length c1, .slice A2 ls.length c2, .slice A3 L.length c3] 28).alloc (.cells #[.slice none 0 0, .int .i64 0, .int .i64 0, .int .i64 0] 57)
  have hs0 : ((w.alloc (.cells #[.slice A1 ps.length c1, .slice A2 ls.length c2, .slice A3 L.length c3] 28)).alloc (.cells #[.slice none 0 0, .int .i64 0, .int .i64 0, .int .i64 0] 57)).heap.size = w.heap.size + 1 + 1 := by simp
  have e1 : decide (d < 0) = false := decide_eq_false (by have := hin.1; omega)
  have e2 : decide ((ps.length : Int) ≤ d) = false := decide_eq_false (by have := hin.2; omega)
  have HV := Lib.hid hV
  clear hV hR hin
  go_enter Tryz.func35, Tryz.ntmps35
  go_upto_region 1 with (fail)
  obtain ⟨w0, hw0⟩ : ∃ w0, w0 = ((w.alloc (.cells #[.slice A1 ps.length c1, .slice A2 ls.length c2, .slice A3 L.length c3] 28)).alloc (.cells #[.slice none 0 0, .int .i64 0, .int .i64 0, .int .i64 0] 57)) := ⟨_, rfl⟩
  rw [← hw0] at R0 b0 D0 hs0 ⊢
  clear hw0
  have x0 := (D0.cell 0).trans rfl
  have T0 := At.new w0 #[.slice none 0 0, .int .i64 0, .int .i64 0, .int .i64 0] 57
  rw [hs0] at T0
  have HT0 := Lib.hid T0
  have HS0 := Lib.hid hs0
  clear T0 hs0
  go_wp2_with fail
  rw [HS0.out]
  obtain ⟨w1, hw1⟩ : ∃ w1, w1 = w0.alloc (.cells #[.slice none 0 0, .int .i64 0, .int .i64 0, .int .i64 0] 57) := ⟨_, rfl⟩
  have HI0 : Hid (TrI ps ls L a V w #[.slice A1 ps.length c1, .slice A2 ls.length c2, .slice A3 L.length c3] [] d (.slice none 0 0) w1) := Lib.hid (by
    rw [hw1]
    refine ⟨List.nodup_nil, fun y hy => by simp at hy, HIN.out, HV.out, D0.alloc _, R0.alloc _, HT0.out, ⟨by simp [fcs], .inl ⟨rfl, rfl⟩⟩, b0.alloc b0.size _⟩)
  rw [← hw1]
  clear hw1 x0 D0 R0 b0 HT0 HS0
  go_loopw [9] (fun at' wr => ∃ x : Int, at' = .int .i64 x ∧ Hid (∃ s v, TrI ps ls L a V w #[.slice A1 ps.length c1, .slice A2 ls.length c2, .slice A3 L.length c3] s x v wr)) (fun _ wr => ps.length + 1 - lenAt wr (w.heap.size + 1 + 1))
  case atStart => exact ⟨d, rfl, Lib.hid ⟨_, _, HI0.out⟩⟩
  case round =>
    obtain ⟨x, rfl, HX⟩ := hrel
    obtain ⟨s, v, hI⟩ := HX.out
    clear HX
    have hroom := hI.room
    have hlen : lenAt wr (w.heap.size + 1 + 1) = s.length := by
      have hv := (hI.tr.cell 0).trans rfl
      rcases hI.row.2 with ⟨e, h0⟩ | ⟨g, cap, cur, e, _⟩
      · rw [e] at hv; rw [lenAt_of hv]; exact h0.symm
      · rw [e] at hv; exact lenAt_of hv
    rw [hlen]
    have kh := rhasI_any s x wr (isF_of_row intA_size hI.row)
    have t0 := (hI.tr.cell 0).trans rfl
    have HI := Lib.hid hI
    have hs1 := hI.tr.lt
    -- behind append
    have HAPP : Hid (∀ v' w5, w5.ownsRow (w.heap.size + 1 + 1 + 1) 3 1 v' (s ++ [x]).length (fcs intA (s ++ [x])) → Below (w.heap.size + 1 + 1 + 1) (wr.alloc (.cells #[.int .i64 x] 3)) w5 → ∃ g cap, v' = .slice (some ⟨g, 0, none⟩) (s.length + 1) cap ∧
        At w5 w.heap.size #[.slice A1 ps.length c1, .slice A2 ls.length c2, .slice A3 L.length c3] 28 ∧ At w5 (w.heap.size + 1) #[.slice none 0 0, .int .i64 0, .int .i64 0, .int .i64 0] 57 ∧ At w5 (w.heap.size + 1 + 1) #[v, .int .i64 0, .int .i64 0, .int .i64 0] 57 ∧ Below w.heap.size w w5) := Lib.hid fun v' w5 ho hb => by
      have hw := HI.out
      obtain ⟨g, cap, e, _, _⟩ := row_some ho (by simp)
      refine ⟨g, cap, by rw [e]; simp, (hw.net.alloc _).below hb (by omega), (hw.res.alloc _).below hb (by omega), (hw.tr.alloc _).below hb (by omega), (hw.bel.alloc hw.bel.size _).trans (hb.mono (by omega))⟩
    clear hI
    by_cases hmem : x ∈ s
    · have HF : Hid (V = ⟨s ++ [x], 4, ⟨0, 0⟩⟩) := Lib.hid (by rw [HI.out.val, show ps.length + 1 - s.length = (ps.length - s.length) + 1 by omega]; exact trc_in hmem)
      rw [decide_eq_true hmem] at kh
      clear hmem
      go_upto_region 7 with (first
        | (go_at_call 63; refine kh.mono ?_; rintro e w2 ⟨rfl, e2⟩; rw [e2]; clear e2 w2)
        | (at_builtin; refine wpList_app_new intA_size intA_one Tryz.underlying22 infoInt rfl (by decide) rfl (.tmp 33) (.tmp 35) rfl (w.heap.size + 1 + 1 + 1) _ s rfl (HI.out.row.alloc _) ⟨wr.heap.size, 0, none⟩ 1 [x] rfl (f_new intA_size wr [x] #[.int .i64 x] 3 rfl) (by simp only [maxLen, List.length_singleton]; omega) (by simp only [List.length_singleton]; omega) (by simp; omega) ?_; intro v' w5 ho hb5; obtain ⟨g, cap, rfl, D5, R5, T5, bw5⟩ := HAPP.out v' w5 ho hb5; have y0 := (T5.cell 0).trans rfl; have z0 := T5.frozen 0))
      obtain ⟨w6, hw6⟩ : ∃ w6, w6 = w5.setCell ⟨w.heap.size + 1 + 1, 0, none⟩ (.slice (some ⟨g, 0, none⟩) (s.length + 1) cap) := ⟨_, rfl⟩
      have T6 := T5.set0 0 (.slice (some ⟨g, 0, none⟩) (s.length + 1) cap)
      have D6 := D5.other (B' := w.heap.size + 1 + 1) (by omega) 0 (.slice (some ⟨g, 0, none⟩) (s.length + 1) cap)
      have R6 := R5.other (B' := w.heap.size + 1 + 1) (by omega) 0 (.slice (some ⟨g, 0, none⟩) (s.length + 1) cap)
      have o6 := row_far ho (grownBy_set w5 (w.heap.size + 1 + 1) 0 (.slice (some ⟨g, 0, none⟩) (s.length + 1) cap)) (by omega)
      have bw6 := bw5.setCell (p := ⟨w.heap.size + 1 + 1, 0, none⟩) (by show w.heap.size ≤ w.heap.size + 1 + 1; omega) (.slice (some ⟨g, 0, none⟩) (s.length + 1) cap)
      rw [← hw6] at T6 D6 R6 o6 bw6 ⊢
      change At w6 _ #[.slice (some ⟨g, 0, none⟩) (s.length + 1) cap, .int .i64 0, .int .i64 0, .int .i64 0] _ at T6
      clear hw6 T5 D5 R5 ho bw5 hb5 y0 z0 HAPP
      have HO6 := Lib.hid o6
      have HB6 := Lib.hid bw6
      clear o6 bw6
      have t0 := (T6.cell 0).trans rfl; have t1 := (T6.cell 1).trans rfl; have t2 := (T6.cell 2).trans rfl; have t3 := (T6.cell 3).trans rfl
      have f1 := T6.frozen 1; have f2 := T6.frozen 2; have f3 := T6.frozen 3
      have r0 := (R6.cell 0).trans rfl; have r1 := (R6.cell 1).trans rfl; have r2 := (R6.cell 2).trans rfl; have r3 := (R6.cell 3).trans rfl
      have q0 := R6.frozen 0; have q1 := R6.frozen 1; have q2 := R6.frozen 2; have q3 := R6.frozen 3
      go_wp2_with fail
      have R70 := R6.other (B' := w.heap.size + 1 + 1) (by omega) 1 (.int .i64 4)
      have o70 := row_far HO6.out (grownBy_set w6 (w.heap.size + 1 + 1) 1 (.int .i64 4)) (by omega)
      have bw70 := HB6.out.setCell (p := ⟨w.heap.size + 1 + 1, 1, none⟩) (by show w.heap.size ≤ w.heap.size + 1 + 1; omega) (.int .i64 4)
      have Z := putW_at (g := g) (n := s.length + 1) (cap := cap) (f := 4) (pd := 0) (pp := 0) R70
      have Y0 := Z.cell 0; have Y1 := Z.cell 1; have Y2 := Z.cell 2; have Y3 := Z.cell 3
      unfold putW at Y0 Y1 Y2 Y3
      simp at Y0 Y1 Y2 Y3
      refine bodyPost_ret (v := .tuple #[.agg #[.slice (some ⟨g, 0, none⟩) (s.length + 1) cap, .int .i64 4, .int .i64 0, .int .i64 0], .int .i64 0]) ?_ rfl (tr_end o70 bw70 HF.out)
      simp [results, Tryz.results35, go_sem, Y0, Y1, Y2, Y3]
    · obtain ⟨st, hst⟩ : ∃ st, st = stepN ls L x a := ⟨_, rfl⟩
      have HST : Hid (∀ u, Below w.heap.size w u → Calls Tryz.prog 64 #[.agg #[.slice A1 ps.length c1, .slice A2 ls.length c2, .slice A3 L.length c3], .int .i64 x, .int .u32 a] u fun e w' => e = .returned (stepV st) ∧ Below u.heap.size u w') := Lib.hid fun u hu => by rw [hst]; exact rstep_any ps ls L x a u HR.out.rules (HN.out u hu)
      have HV0 : Hid (V = trc ls L a (ps.length - s.length + 1) s x) := Lib.hid (by rw [HI.out.val, show ps.length + 1 - s.length = (ps.length - s.length) + 1 by omega])
      have HE : Hid (st.1 ≠ 4 → V = ⟨s ++ [x], st.1, st.2⟩) := Lib.hid fun h => by rw [HV0.out, hst]; exact trc_end hmem (by rw [← hst]; exact h)
      have HO : Hid (st.1 = 4 → V = trc ls L a (ps.length - s.length) (s ++ [x]) (onTo ls L x a) ∧ inD ps (onTo ls L x a) ∧ onTo ls L x a = ((nextT ls st.2).getD ⟨0, 0⟩).d) := Lib.hid fun h => ⟨by rw [HV0.out]; exact trc_on hmem (by rw [← hst]; exact h), onTo_in HR.out.topo (by rw [← hst]; exact h), by rw [hst]; rfl⟩
      rw [decide_eq_false hmem] at kh
      have HMEM := Lib.hid hmem
      clear hst hmem
      obtain ⟨f, ⟨pd, pp⟩⟩ := st
      dsimp only at HE HO
      rw [show stepV (f, ⟨pd, pp⟩) = .tuple #[.int .i64 f, .agg #[.int .i64 pd, .int .i64 pp]] from rfl] at HST
      go_upto_region 7 with (first
        | (go_at_call 63; refine kh.mono ?_; rintro e w2 ⟨rfl, e2⟩; rw [e2]; clear e2 w2)
        | (at_builtin; refine wpList_app_new intA_size intA_one Tryz.underlying22 infoInt rfl (by decide) rfl (.tmp 33) (.tmp 35) rfl (w.heap.size + 1 + 1 + 1) _ s rfl (HI.out.row.alloc _) ⟨wr.heap.size, 0, none⟩ 1 [x] rfl (f_new intA_size wr [x] #[.int .i64 x] 3 rfl) (by simp only [maxLen, List.length_singleton]; omega) (by simp only [List.length_singleton]; omega) (by simp; omega) ?_; intro v' w5 ho hb5; obtain ⟨g, cap, rfl, D5, R5, T5, bw5⟩ := HAPP.out v' w5 ho hb5; have y0 := (T5.cell 0).trans rfl; have z0 := T5.frozen 0))
      obtain ⟨w6, hw6⟩ : ∃ w6, w6 = w5.setCell ⟨w.heap.size + 1 + 1, 0, none⟩ (.slice (some ⟨g, 0, none⟩) (s.length + 1) cap) := ⟨_, rfl⟩
      have T6 := T5.set0 0 (.slice (some ⟨g, 0, none⟩) (s.length + 1) cap)
      have D6 := D5.other (B' := w.heap.size + 1 + 1) (by omega) 0 (.slice (some ⟨g, 0, none⟩) (s.length + 1) cap)
      have R6 := R5.other (B' := w.heap.size + 1 + 1) (by omega) 0 (.slice (some ⟨g, 0, none⟩) (s.length + 1) cap)
      have o6 := row_far ho (grownBy_set w5 (w.heap.size + 1 + 1) 0 (.slice (some ⟨g, 0, none⟩) (s.length + 1) cap)) (by omega)
      have bw6 := bw5.setCell (p := ⟨w.heap.size + 1 + 1, 0, none⟩) (by show w.heap.size ≤ w.heap.size + 1 + 1; omega) (.slice (some ⟨g, 0, none⟩) (s.length + 1) cap)
      rw [← hw6] at T6 D6 R6 o6 bw6 ⊢
      change At w6 _ #[.slice (some ⟨g, 0, none⟩) (s.length + 1) cap, .int .i64 0, .int .i64 0, .int .i64 0] _ at T6
      clear hw6 T5 D5 R5 ho bw5 hb5 y0 z0 HAPP
      have HO6 := Lib.hid o6
      have HB6 := Lib.hid bw6
      clear o6 bw6
      have ks := HST.out w6 HB6.out
      have d0 := (D6.cell 0).trans rfl; have d1 := (D6.cell 1).trans rfl; have d2 := (D6.cell 2).trans rfl
      go_upto_region 11 with (go_at_call 64; refine ks.mono ?_; rintro e w7 ⟨rfl, b7⟩)
      obtain ⟨w8, hw8⟩ : ∃ w8, w8 = w7.alloc (.cells #[.int .i64 pd, .int .i64 pp] 55) := ⟨_, rfl⟩
      have b8 : Below w6.heap.size w6 w8 := by rw [hw8]; exact b7.alloc b7.size _
      have P8 : At w8 w7.heap.size #[.int .i64 pd, .int .i64 pp] 55 := by rw [hw8]; exact At.new w7 _ _
      rw [← hw8]
      have T8 := T6.belows b8
      have D8 := D6.belows b8
      have R8 := R6.belows b8
      have o8 := row_belows HO6.out b8
      have bw8 := HB6.out.trans (b8.mono HB6.out.size)
      have hlt7 : w.heap.size + 1 + 1 < w7.heap.size := Nat.lt_of_lt_of_le T6.lt b7.size
      clear hw8 b7 b8 T6 D6 R6 HO6 HB6 ks d0 d1 d2 kh
      have p0 := (P8.cell 0).trans rfl; have p1 := (P8.cell 1).trans rfl
      by_cases h4 : f = 4
      · obtain ⟨HV1, HI1, HO1⟩ := HO.out h4
        have HN1 := Lib.hid (show V = trc ls L a (ps.length + 1 - (s ++ [x]).length) (s ++ [x]) (onTo ls L x a) by rw [HV1]; congr 1; simp)
        have kn := rnext_any ps ls ⟨pd, pp⟩ w8 (HN.out w8 bw8).1
        have d0 := (D8.cell 0).trans rfl; have d1 := (D8.cell 1).trans rfl
        obtain ⟨qo, hqo⟩ : ∃ qo, qo = nextT ls ⟨pd, pp⟩ := ⟨_, rfl⟩
        rw [← hqo] at kn HO1
        rw [show nextV qo = .tuple #[.agg #[.int .i64 (qo.getD ⟨0, 0⟩).d, .int .i64 (qo.getD ⟨0, 0⟩).p], .bool qo.isSome] from rfl] at kn
        rw [show ptA ⟨pd, pp⟩ = #[.int .i64 pd, .int .i64 pp] from rfl] at kn
        have HQ := Lib.hid HO1
        generalize qo.isSome = qb at kn
        generalize hqg : qo.getD ⟨0, 0⟩ = qg at kn HQ
        obtain ⟨qd, qp⟩ := qg
        dsimp only at kn HQ
        have HT8 := Lib.hid T8
        have HR8 := Lib.hid R8
        have HD8 := Lib.hid D8
        have HO8 := Lib.hid o8
        have HB8 := Lib.hid bw8
        have HI8 := Lib.hid HI1
        subst h4
        clear HE HO HV1 HI1 HO1 hqo hqg o8 bw8 T8 R8 D8
        go_wp2_with (go_at_call 65; refine kn.mono ?_; rintro e w9 ⟨rfl, b9⟩)
        have hbw9 := HB8.out.trans (b9.mono HB8.out.size)
        have hNI : TrI ps ls L a V w #[.slice A1 ps.length c1, .slice A2 ls.length c2, .slice A3 L.length c3] (s ++ [x]) (onTo ls L x a) (.slice (some ⟨g, 0, none⟩) (s.length + 1) cap) (w9.alloc (.cells #[.int .i64 qd, .int .i64 qp] 55)) := by
          refine ⟨?_, ?_, HI8.out, HN1.out, (HD8.out.belows b9).alloc _, (HR8.out.belows b9).alloc _, (HT8.out.belows b9).alloc _, (row_belows HO8.out b9).alloc _, hbw9.alloc hbw9.size _⟩
          · rw [List.nodup_append]
            exact ⟨HI.out.nd, by simp, fun y hy z hz => by simp at hz; subst hz; exact fun e => HMEM.out (e ▸ hy)⟩
          · intro y hy
            rcases List.mem_append.1 hy with hy | hy
            · exact HI.out.dev y hy
            · simp at hy; subst hy; exact HI.out.at'
        have hln : lenAt (w9.alloc (.cells #[.int .i64 qd, .int .i64 qp] 55)) (w.heap.size + 1 + 1) = s.length + 1 := lenAt_of ((hNI.tr.cell 0).trans rfl)
        refine ⟨⟨onTo ls L x a, by rw [HQ.out], Lib.hid ⟨_, _, hNI⟩⟩, ?_⟩
        rw [hln]
        omega
      · have HF := Lib.hid (HE.out h4)
        have hb1 : (f == 4) = false := by simp [h4]
        have hb2 : decide (f = 4) = false := by simp [h4]
        clear HE HO h4
        have t0 := (T8.cell 0).trans rfl; have t1 := (T8.cell 1).trans rfl; have t2 := (T8.cell 2).trans rfl; have t3 := (T8.cell 3).trans rfl
        have f1 := T8.frozen 1; have f2 := T8.frozen 2; have f3 := T8.frozen 3
        have r0 := (R8.cell 0).trans rfl; have r1 := (R8.cell 1).trans rfl; have r2 := (R8.cell 2).trans rfl; have r3 := (R8.cell 3).trans rfl
        have q0 := R8.frozen 0; have q1 := R8.frozen 1; have q2 := R8.frozen 2; have q3 := R8.frozen 3
        go_wp2_with fail
        have R90 := R8.other (B' := w.heap.size + 1 + 1) (by omega) 1 (.int .i64 f)
        have o90 := row_far o8 (grownBy_set w8 (w.heap.size + 1 + 1) 1 (.int .i64 f)) (by omega)
        have bw90 := bw8.setCell (p := ⟨w.heap.size + 1 + 1, 1, none⟩) (by show w.heap.size ≤ w.heap.size + 1 + 1; omega) (.int .i64 f)
        have R91 := R90.other (B' := w.heap.size + 1 + 1) (by omega) 2 (.int .i64 pd)
        have o91 := row_far o90 (grownBy_set (w8.setCell ⟨w.heap.size + 1 + 1, 1, none⟩ (.int .i64 f)) (w.heap.size + 1 + 1) 2 (.int .i64 pd)) (by omega)
        have bw91 := bw90.setCell (p := ⟨w.heap.size + 1 + 1, 2, none⟩) (by show w.heap.size ≤ w.heap.size + 1 + 1; omega) (.int .i64 pd)
        have R92 := R91.other (B' := w.heap.size + 1 + 1) (by omega) 3 (.int .i64 pp)
        have o92 := row_far o91 (grownBy_set ((w8.setCell ⟨w.heap.size + 1 + 1, 1, none⟩ (.int .i64 f)).setCell ⟨w.heap.size + 1 + 1, 2, none⟩ (.int .i64 pd)) (w.heap.size + 1 + 1) 3 (.int .i64 pp)) (by omega)
        have bw92 := bw91.setCell (p := ⟨w.heap.size + 1 + 1, 3, none⟩) (by show w.heap.size ≤ w.heap.size + 1 + 1; omega) (.int .i64 pp)
        have Z := putW_at (g := g) (n := s.length + 1) (cap := cap) (f := f) (pd := pd) (pp := pp) R92
        have Y0 := Z.cell 0; have Y1 := Z.cell 1; have Y2 := Z.cell 2; have Y3 := Z.cell 3
        unfold putW at Y0 Y1 Y2 Y3
        simp at Y0 Y1 Y2 Y3
        refine bodyPost_ret (v := .tuple #[.agg #[.slice (some ⟨g, 0, none⟩) (s.length + 1) cap, .int .i64 f, .int .i64 pd, .int .i64 pp], .int .i64 0]) ?_ rfl (tr_end o92 bw92 HF.out)
        simp [results, Tryz.results35, go_sem, Y0, Y1, Y2, Y3]
/-- The document's Trace, of a right network. -/
theorem rtrace_any {vp vl vr : Value} (ps : List Int) (ls : List Lk) (L : List Ru) (d : Int) (a : Nat) (w : World) (hR : RN ps ls L) (h : IsN w vp vl vr ps ls L) : Calls Tryz.prog 35 #[.agg #[vp, vl, vr], .int .i64 d, .int .u32 a] w fun e w' => (inD ps d ∧ TrOut (trcN ps ls L a d) w e w') ∨ (¬ inD ps d ∧ e = .returned trNo ∧ Below w.heap.size w w') := by
  by_cases hd : inD ps d
  · exact (rtrace_in ps ls L d a w hR h hd).mono fun e w' h => .inl ⟨hd, h⟩
  · exact (rtrace_out ps ls L d a w h hd).mono fun e w' h => .inr ⟨hd, h⟩
end Go.Proofs.YteboadppighplaaGreat
/- The laws' own words (stages 9, 10): the network of three devices; Fits. -/
namespace Go.Proofs.YteboadppighplaaGreat
open Go.RowKit Go.Shelf

/-! The network of three devices. -/
def netP : List Int := [2, 3, 2]
def netK : List Lk := [⟨⟨0, 1⟩, ⟨1, 0⟩⟩, ⟨⟨1, 1⟩, ⟨2, 0⟩⟩]
def netR : List Ru := [⟨1, 0, 0, 0, 0, 99, 1⟩, ⟨2, 1, 0, 0, 0, 49, 1⟩, ⟨3, 1, 0, 0, 50, 59, 0⟩, ⟨4, 2, 0, 0, 0, 29, 1⟩, ⟨5, 2, 0, 3, 20, 24, 0⟩]
theorem net_right : RN netP netK netR := (rightN_iff _ _ _).1 (by decide +kernel)
theorem net_w : NW netP netK netR := ⟨⟨by simp [netP, isI], by simp [netK, isPt, isI]⟩, by simp [netR, Ru.wf, isI], by simp [netR]⟩
theorem net_10 : trcN netP netK netR 10 0 = ⟨[0, 1, 2], 3, ⟨2, 1⟩⟩ := by decide +kernel
theorem net_55 : trcN netP netK netR 55 0 = ⟨[0, 1, 0], 4, ⟨0, 0⟩⟩ := by decide +kernel
theorem net_22 : trcN netP netK netR 22 0 = ⟨[0, 1, 2], 2, ⟨0, 0⟩⟩ := by decide +kernel
theorem isR_of_at {w : World} {B c : Nat} {L : List Ru} {cs : Array Value} {T : TypeId} (h : At w B cs T) (hc : cs.toList = rcs L) (h1 : L.length ≤ c) (h2 : c ≤ maxLen) : IsR w (.slice (some ⟨B, 0, none⟩) L.length c) L := by
  refine ⟨_, c, rfl, h1, h2, fun _ => ⟨B, 0, rfl, h.lt, fun k hk j hj => ?_⟩⟩
  rw [Nat.zero_add, h.cell, ← Array.getElem?_toList, hc, rcs_at L k j hk hj]
theorem At.new4 (W : World) (o1 o2 o3 o4 : Obj) (cs : Array Value) (t : TypeId) : At (((((W.alloc o1).alloc o2).alloc o3).alloc o4).alloc (.cells cs t)) (W.heap.size + 1 + 1 + 1 + 1) cs t := by
  have := At.new2 ((W.alloc o1).alloc o2) o3 o4 cs t
  rwa [show ((W.alloc o1).alloc o2).heap.size = W.heap.size + 1 + 1 by simp] at this
def NetOut (w : World) (e : Ending) (w' : World) : Prop := ∃ A1 c1 A2 c2 A3 c3, e = .returned (.agg #[.slice A1 3 c1, .slice A2 2 c2, .slice A3 5 c3]) ∧ IsN w' (.slice A1 3 c1) (.slice A2 2 c2) (.slice A3 5 c3) netP netK netR ∧ Below w.heap.size w w'
set_option maxRecDepth 100000 in
set_option maxHeartbeats 2000000 in
theorem net_any (w : World) : Calls Tryz.prog 29 #[] w (NetOut w) := by
  go_enter Tryz.func29, Tryz.ntmps29
  go_wp2
  refine bodyPost_ret (results_cell_row rfl _ _ w.heap.size 28 _ (0, 0) _ rfl (((((At.new w _ _).alloc _).alloc _).alloc _).alloc _) Tryz.underlying28 rfl (by kernel_rfl)) rfl ?_
  refine ⟨_, _, _, _, _, _, rfl, ⟨⟨isF_of_at intA_size (L := netP) (c := 3) ((((At.new1 w _ _ _).alloc _).alloc _).alloc _) rfl (by decide) (by decide), isF_of_at lkA_size (L := netK) (c := 2) (((At.new2 w _ _ _ _).alloc _).alloc _) rfl (by decide) (by decide)⟩, isR_of_at (L := netR) (c := 5) (At.new4 w _ _ _ _ _ _) rfl (by decide) (by decide)⟩, ?_⟩
  exact (((((Below.refl _ _).alloc (Nat.le_refl _) _).alloc (by simp) _).alloc (by simp; omega) _).alloc (by simp; omega) _).alloc (by simp; omega) _
set_option maxRecDepth 100000 in
set_option maxHeartbeats 2000000 in
/-- Fits: right. -/
theorem lfits9_any {vp vl vr : Value} (ps : List Int) (ls : List Lk) (L : List Ru) (w : World) (hW : NW ps ls L) (h : IsN w vp vl vr ps ls L) : Calls Tryz.prog 8 #[.agg #[vp, vl, vr]] w fun e w' => e = .returned (.bool (rightN ps ls L)) ∧ Below w.heap.size w w' := by
  have b0 : Below w.heap.size w (w.alloc (.cells #[vp, vl, vr] 28)) := (Below.refl _ w).alloc (Nat.le_refl _) _
  have k1 := rrightN_any ps ls L _ hW (h.belows b0)
  obtain ⟨V, hV⟩ : ∃ V, V = rightN ps ls L := ⟨_, rfl⟩
  have HS : Hid (¬ (ps.length ≤ 20 ∧ ls.length ≤ 40 ∧ L.length ≤ 60) → V = false) := Lib.hid fun hn => by
    rw [hV]
    cases hr : rightN ps ls L with
    | false => rfl
    | true =>
      have hR := (rightN_iff ps ls L).1 hr
      have h1 := hR.topo.n8
      have h2 := hR.topo.l16
      have h3 := ((allB_iff L).1 hR.rules).1
      exact absurd ⟨by omega, by omega, by omega⟩ hn
  rw [← hV] at k1 ⊢
  clear hV
  obtain ⟨⟨⟨A1, c1, rfl, n1, m1, _⟩, ⟨A2, c2, rfl, n2, m2, _⟩⟩, ⟨A3, c3, rfl, n3, m3, _⟩⟩ := h
  have hM1 : ps.length ≤ 9223372036854775807 := Nat.le_trans n1 m1
  have hM2 : ls.length ≤ 9223372036854775807 := Nat.le_trans n2 m2
  have hM3 : L.length ≤ 9223372036854775807 := Nat.le_trans n3 m3
  have D0 := At.new w #[.slice A1 ps.length c1, .slice A2 ls.length c2, .slice A3 L.length c3] 28
  clear hW
  go_enter Tryz.func8, Tryz.ntmps8
  go_upto_region 1 with (fail)
  obtain ⟨w0, hw0⟩ : ∃ w0, w0 = w.alloc (.cells #[.slice A1 ps.length c1, .slice A2 ls.length c2, .slice A3 L.length c3] 28) := ⟨_, rfl⟩
  rw [← hw0] at D0 b0 k1 ⊢
  clear hw0
  have x0 := (D0.cell 0).trans rfl
  have x1 := (D0.cell 1).trans rfl
  have x2 := (D0.cell 2).trans rfl
  by_cases h1 : 20 < ps.length
  · have hf := HS.out (by omega)
    subst hf
    have e1 : decide ((20 : Int) < (ps.length : Int)) = true := decide_eq_true (by omega)
    clear k1
    go_wp2
    go_ret
    exact ⟨rfl, b0⟩
  have e1 : decide ((20 : Int) < (ps.length : Int)) = false := decide_eq_false (by omega)
  by_cases h2 : 40 < ls.length
  · have hf := HS.out (by omega)
    subst hf
    have e2 : decide ((40 : Int) < (ls.length : Int)) = true := decide_eq_true (by omega)
    clear k1
    go_wp2
    go_ret
    exact ⟨rfl, b0⟩
  have e2 : decide ((40 : Int) < (ls.length : Int)) = false := decide_eq_false (by omega)
  by_cases h3 : 60 < L.length
  · have hf := HS.out (by omega)
    subst hf
    have e3 : decide ((60 : Int) < (L.length : Int)) = true := decide_eq_true (by omega)
    clear k1
    go_wp2
    go_ret
    exact ⟨rfl, b0⟩
  have e3 : decide ((60 : Int) < (L.length : Int)) = false := decide_eq_false (by omega)
  clear h1 h2 h3
  go_wp2_with fail
  refine k1.mono ?_
  rintro e w1 ⟨rfl, b1⟩
  go_wp2
  go_ret
  exact ⟨rfl, b0.trans (b1.mono b0.size)⟩
end Go.Proofs.YteboadppighplaaGreat
/- The laws' own words (stage 9): the program's calls, as the chapter asks them; Net, alive, Fits. -/
namespace Go.Proofs.YteboadppighplaaGreat
open Go.RowKit Go.Shelf

/-- An error's answer. -/
def TrNo (w : World) (e : Ending) (w' : World) : Prop := ∃ A c, c ≤ maxLen ∧ e = .returned (.tuple #[.agg #[.slice A 0 c, .int .i64 0, .int .i64 0, .int .i64 0], .int .i64 91]) ∧ Below w.heap.size w w'
/-- Any answer. -/
def TrAny (w : World) (e : Ending) (w' : World) : Prop := ∃ A n c f pd pp er, e = .returned (.tuple #[.agg #[.slice A n c, .int .i64 f, .int .i64 pd, .int .i64 pp], .int .i64 er]) ∧ Below w.heap.size w w'
/-- Is this the trace of a packet, from its first device on? -/
def genT (ps : List Int) (ls : List Lk) (L : List Ru) (a : Nat) (x : Tc) : Bool := match x.ds with
  | [] => false
  | d :: _ => decide (inD ps d) && decide (trcN ps ls L a d = x)
structure TcW (x : Tc) : Prop where
  ds : ∀ y ∈ x.ds, isI y
  ft : isI x.ft
  out : isPt x.out
end Go.Proofs.YteboadppighplaaGreat
/- alive (stage 9). -/
namespace Go.Proofs.YteboadppighplaaGreat
open Go.RowKit Go.Shelf

def T3Out (f pd pp : Int) (w : World) (e : Ending) (w' : World) : Prop := ∃ A c, e = .returned (.tuple #[.agg #[.slice A 3 c, .int .i64 f, .int .i64 pd, .int .i64 pp], .int .i64 0]) ∧ Below w.heap.size w w'
end Go.Proofs.YteboadppighplaaGreat
/- Plain mathematics: what a trace is like; its rest. -/
namespace Go.Proofs.YteboadppighplaaGreat
open Go.RowKit Go.Shelf

/-- The end of a trace: looped, or as the last device says. -/
def FinT (ls : List Lk) (L : List Ru) (a : Nat) (x : Tc) (ini : List Int) (last : Int) : Prop :=
  (x.ft = 4 ∧ x.out = ⟨0, 0⟩ ∧ last ∈ ini) ∨ (x.ft ≠ 4 ∧ last ∉ ini ∧ stepN ls L last a = (x.ft, x.out))
/-- What a trace is like: its devices but for the last one, and that one. -/
structure IsTc (ps : List Int) (ls : List Lk) (L : List Ru) (a : Nat) (s : List Int) (x : Tc) (ini : List Int) (last : Int) : Prop where
  ds : x.ds = ini ++ [last]
  nd : ini.Nodup
  dev : ∀ y ∈ x.ds, inD ps y
  steps : ∀ i (h : i + 1 < x.ds.length), s.length ≤ i → (stepN ls L x.ds[i] a).1 = 4 ∧ onTo ls L x.ds[i] a = x.ds[i + 1]
  fin : FinT ls L a x ini last
theorem nodup_snoc {s : List Int} {d : Int} (hs : s.Nodup) (hd : d ∉ s) : (s ++ [d]).Nodup := by
  rw [List.nodup_append]
  exact ⟨hs, by simp, fun x hx y hy => by simp at hy; subst hy; exact fun e => hd (e ▸ hx)⟩
theorem dev_snoc {ps : List Int} {s : List Int} {d : Int} (hi : ∀ x ∈ s, inD ps x) (hd : inD ps d) : ∀ x ∈ s ++ [d], inD ps x := by
  intro x hx
  rcases List.mem_append.1 hx with hx | hx
  · exact hi x hx
  · simp at hx; subst hx; exact hd
theorem trc_spec {ps : List Int} {ls : List Lk} (hR : RT ps ls) {L : List Ru} {a : Nat} : ∀ (n : Nat) (s : List Int) (d : Int), s.Nodup → (∀ x ∈ s, inD ps x) → inD ps d → ps.length + 1 ≤ n + s.length →
    ∃ ini last, IsTc ps ls L a s (trc ls L a n s d) ini last ∧ s ++ [d] <+: (trc ls L a n s d).ds := by
  intro n
  induction n with
  | zero =>
    intro s d hs hi hd hn
    have := nodup_room (n := ps.length) hs hi
    omega
  | succ n ih =>
    intro s d hs hi hd hn
    by_cases hds : d ∈ s
    · rw [trc_in hds]
      refine ⟨s, d, ⟨rfl, hs, dev_snoc hi hd, fun i h hsi => ?_, .inl ⟨rfl, rfl, hds⟩⟩, List.prefix_refl _⟩
      simp at h; omega
    · by_cases h4 : (stepN ls L d a).1 = 4
      · rw [trc_on hds h4]
        obtain ⟨ini, last, h, hp⟩ := ih (s ++ [d]) (onTo ls L d a) (nodup_snoc hs hds) (dev_snoc hi hd) (onTo_in hR h4) (by simp; omega)
        refine ⟨ini, last, ⟨h.ds, h.nd, h.dev, fun i hi' hsi => ?_, h.fin⟩, (List.prefix_append _ _).trans hp⟩
        by_cases hsi' : i = s.length
        · subst hsi'
          obtain ⟨t, ht⟩ := hp
          have e0 : (trc ls L a n (s ++ [d]) (onTo ls L d a)).ds[s.length]? = some d := by rw [← ht]; simp
          have e1 : (trc ls L a n (s ++ [d]) (onTo ls L d a)).ds[s.length + 1]? = some (onTo ls L d a) := by rw [← ht]; simp
          rw [List.getElem?_eq_getElem (by omega)] at e0 e1
          rw [Option.some.inj e0, Option.some.inj e1]
          exact ⟨h4, rfl⟩
        · exact h.steps i hi' (by simp; omega)
      · rw [trc_end hds h4]
        refine ⟨s, d, ⟨rfl, hs, dev_snoc hi hd, fun i h hsi => ?_, .inr ⟨h4, hds, rfl⟩⟩, List.prefix_refl _⟩
        simp at h; omega
theorem trcN_spec {ps : List Int} {ls : List Lk} (hR : RT ps ls) {L : List Ru} {a : Nat} {d : Int} (hd : inD ps d) : ∃ ini last, IsTc ps ls L a [] (trcN ps ls L a d) ini last ∧ [d] <+: (trcN ps ls L a d).ds := by
  have := trc_spec hR (L := L) (a := a) (ps.length + 1) [] d List.nodup_nil (fun x hx => by simp at hx) hd (by simp)
  simpa [trcN] using this
/-- A trace that is not looped does not hang on where it was ahead. -/
theorem trc_less {ls : List Lk} {L : List Ru} {a : Nat} : ∀ (n : Nat) (s s' : List Int) (d : Int), (∀ y ∈ s', y ∈ s) → (trc ls L a n s d).ft ≠ 4 →
    trc ls L a n s' d = ⟨s' ++ (trc ls L a n s d).ds.drop s.length, (trc ls L a n s d).ft, (trc ls L a n s d).out⟩ := by
  intro n
  induction n with
  | zero => intro s s' d _ h; exact absurd rfl h
  | succ n ih =>
    intro s s' d hsub h
    by_cases hds : d ∈ s
    · rw [trc_in hds] at h; exact absurd rfl h
    · have hds' : d ∉ s' := fun hm => hds (hsub d hm)
      by_cases h4 : (stepN ls L d a).1 = 4
      · rw [trc_on hds h4] at h ⊢
        rw [trc_on hds' h4]
        have := ih (s ++ [d]) (s' ++ [d]) (onTo ls L d a) (fun y hy => by
          rcases List.mem_append.1 hy with hy | hy
          · exact List.mem_append_left _ (hsub y hy)
          · exact List.mem_append_right _ hy) h
        rw [this]
        -- the devices begin with s ++ [d]
        have hp : ∀ (m : Nat) (s : List Int) (d : Int), s ++ [d] <+: (trc ls L a m s d).ds := by
          intro m
          induction m with
          | zero => intro s d; exact List.prefix_refl _
          | succ m ihm =>
            intro s d
            by_cases hx : d ∈ s
            · rw [trc_in hx]; exact List.prefix_refl _
            · by_cases hy : (stepN ls L d a).1 = 4
              · rw [trc_on hx hy]; exact (List.prefix_append _ _).trans (ihm _ _)
              · rw [trc_end hx hy]; exact List.prefix_refl _
        obtain ⟨t, ht⟩ := (List.prefix_append (s ++ [d]) [onTo ls L d a]).trans (hp n (s ++ [d]) (onTo ls L d a))
        rw [Tc.eq_iff]
        refine ⟨?_, rfl, rfl⟩
        show s' ++ [d] ++ List.drop (s ++ [d]).length _ = s' ++ List.drop s.length _
        rw [← ht]
        simp
      · rw [trc_end hds h4] at h ⊢
        rw [trc_end hds' h4]
        simp
/-- In its midst. -/
theorem trc_mid {ls : List Lk} {L : List Ru} {a : Nat} : ∀ (n : Nat) (s : List Int) (d : Int) (i : Nat) (h : i < (trc ls L a n s d).ds.length), s.length ≤ i → (trc ls L a n s d).ft ≠ 4 →
    ∃ m, m + i = n + s.length ∧ trc ls L a n s d = trc ls L a m ((trc ls L a n s d).ds.take i) (trc ls L a n s d).ds[i] := by
  intro n
  induction n with
  | zero => intro s d i _ _ h; exact absurd rfl h
  | succ n ih =>
    intro s d i hi hsi h
    by_cases hds : d ∈ s
    · rw [trc_in hds] at h; exact absurd rfl h
    · by_cases h4 : (stepN ls L d a).1 = 4
      · by_cases his : i = s.length
        · subst his
          refine ⟨n + 1, rfl, ?_⟩
          have hp : s ++ [d] <+: (trc ls L a (n + 1) s d).ds := by
            have hp : ∀ (m : Nat) (s : List Int) (d : Int), s ++ [d] <+: (trc ls L a m s d).ds := by
              intro m
              induction m with
              | zero => intro s d; exact List.prefix_refl _
              | succ m ihm =>
                intro s d
                by_cases hx : d ∈ s
                · rw [trc_in hx]; exact List.prefix_refl _
                · by_cases hy : (stepN ls L d a).1 = 4
                  · rw [trc_on hx hy]; exact (List.prefix_append _ _).trans (ihm _ _)
                  · rw [trc_end hx hy]; exact List.prefix_refl _
            exact hp _ _ _
          obtain ⟨t, ht⟩ := hp
          have e0 : (trc ls L a (n + 1) s d).ds[s.length]? = some d := by rw [← ht]; simp
          rw [List.getElem?_eq_getElem hi] at e0
          have e1 : (trc ls L a (n + 1) s d).ds.take s.length = s := by rw [← ht]; simp
          rw [Option.some.inj e0, e1]
        · have e := trc_on (ls := ls) (L := L) (a := a) (n := n) hds h4
          have hi2 : i < (trc ls L a n (s ++ [d]) (onTo ls L d a)).ds.length := by rw [← e]; exact hi
          obtain ⟨m, hm, hh⟩ := ih (s ++ [d]) (onTo ls L d a) i hi2 (by simp; omega) (by rw [← e]; exact h)
          refine ⟨m, by simp at hm; omega, ?_⟩
          simp only [e]
          exact hh
      · have e := trc_end (ls := ls) (L := L) (a := a) (n := n) hds h4
        have : i = s.length := by rw [e] at hi; simp at hi; omega
        subst this
        refine ⟨n + 1, rfl, ?_⟩
        have e0 : (trc ls L a (n + 1) s d).ds[s.length]? = some d := by rw [e]; simp
        rw [List.getElem?_eq_getElem hi] at e0
        have e1 : (trc ls L a (n + 1) s d).ds.take s.length = s := by rw [e]; simp
        rw [Option.some.inj e0, e1]
/-- STEP BY STEP. -/
theorem trcN_rest {ps : List Int} {ls : List Lk} (hR : RT ps ls) {L : List Ru} {a : Nat} {d : Int} (hd : inD ps d) (h4 : (trcN ps ls L a d).ft ≠ 4) (i : Nat) (hi : i < (trcN ps ls L a d).ds.length) :
    trcN ps ls L a (trcN ps ls L a d).ds[i] = ⟨(trcN ps ls L a d).ds.drop i, (trcN ps ls L a d).ft, (trcN ps ls L a d).out⟩ := by
  obtain ⟨ini, last, hs, _⟩ := trcN_spec hR (L := L) (a := a) hd
  obtain ⟨m, hm, hh⟩ := trc_mid (ls := ls) (L := L) (a := a) (ps.length + 1) [] d i hi (Nat.zero_le _) h4
  have hlt : i ≤ ps.length := by
    have h1 := hs.ds
    have h2 := nodup_room (n := ps.length) hs.nd (fun y hy => hs.dev y (by rw [h1]; exact List.mem_append_left _ hy))
    have h3 : (trcN ps ls L a d).ds.length = ini.length + 1 := by rw [h1]; simp
    omega
  simp only [List.length_nil, Nat.add_zero] at hm
  change trcN ps ls L a d = trc ls L a m ((trcN ps ls L a d).ds.take i) (trcN ps ls L a d).ds[i] at hh
  have h5 := trc_less (ls := ls) (L := L) (a := a) m ((trcN ps ls L a d).ds.take i) [] (trcN ps ls L a d).ds[i] (fun y hy => by simp at hy) (by rw [← hh]; exact h4)
  rw [← hh] at h5
  have hdi := hs.dev _ (List.getElem_mem hi)
  have h6 : trcN ps ls L a (trcN ps ls L a d).ds[i] = trc ls L a m [] (trcN ps ls L a d).ds[i] := by
    obtain ⟨m', rfl⟩ : ∃ m', m = m' + 1 := ⟨m - 1, by omega⟩
    by_cases hm' : ps.length ≤ m'
    · exact trc_more hR ps.length m' [] _ List.nodup_nil (fun y hy => by simp at hy) hdi (by simp) (by simpa using hm')
    · -- fewer: a trace that ended with less ends so with more
      have grow : ∀ (n : Nat) (s : List Int) (d : Int), (trc ls L a n s d).ft ≠ 4 → ∀ k, trc ls L a (n + k) s d = trc ls L a n s d := by
        intro n
        induction n with
        | zero => intro s d h; exact absurd rfl h
        | succ n ih =>
          intro s d h k
          rw [show n + 1 + k = (n + k) + 1 by omega]
          by_cases hx : d ∈ s
          · rw [trc_in hx, trc_in hx]
          · by_cases hy : (stepN ls L d a).1 = 4
            · rw [trc_on hx hy] at h ⊢
              rw [trc_on hx hy]
              exact ih _ _ h k
            · rw [trc_end hx hy, trc_end hx hy]
      have := grow (m' + 1) [] (trcN ps ls L a d).ds[i] (by rw [h5]; exact h4) (ps.length - m')
      rw [← this]
      unfold trcN
      congr 1
      omega
  rw [h6, h5]
  simp
/-! Numbers. -/
theorem stepN_w {ps : List Int} {ls : List Lk} {L : List Ru} (hW : NW ps ls L) {d : Int} (hd : isI d) (a : Nat) : isI (stepN ls L d a).1 ∧ isPt (stepN ls L d a).2 := by
  have z : isPt ⟨0, 0⟩ := by simp [isPt, isI]
  cases hb : denB L d a with
  | true => rw [stepN_den hb]; exact ⟨by simp [isI], z⟩
  | false =>
    rw [stepN_go hb]
    rcases firstL_is (tk d 0 1 a) L with ⟨h, _⟩ | ⟨r, h, hm, _, _⟩
    · rw [h]; exact ⟨by show isI 0; simp [isI], z⟩
    · rw [h]
      have hp := (hW.rules r hm).2.2.2.2.2.2
      by_cases hk : r.kd = 1
      · rw [goP_drop hk]; exact ⟨by simp [isI], z⟩
      · cases hn : nextT ls ⟨d, r.pt⟩ with
        | none => rw [goP_out hk hn]; exact ⟨by simp [isI], hd, hp⟩
        | some q => rw [goP_on hk hn]; exact ⟨by simp [isI], hd, hp⟩
theorem stepN_p {ls : List Lk} {L : List Ru} (hL : allB L = true) (d : Int) (a : Nat) : 0 ≤ (stepN ls L d a).2.p ∧ (stepN ls L d a).2.p ≤ 3 := by
  have z : (0 : Int) ≤ (⟨0, 0⟩ : Pt).p ∧ (⟨0, 0⟩ : Pt).p ≤ 3 := by simp
  cases hb : denB L d a with
  | true => rw [stepN_den hb]; exact z
  | false =>
    rw [stepN_go hb]
    rcases firstL_is (tk d 0 1 a) L with ⟨h, _⟩ | ⟨r, h, hm, _, _⟩
    · rw [h]; exact z
    · rw [h]
      obtain ⟨k, hk', rfl⟩ := List.getElem_of_mem hm
      obtain ⟨_, _, _, _, _, _, h0, h3, _⟩ := (ruB_iff _).1 (((allB_iff L).1 hL).2 k hk').1
      by_cases hk : L[k].kd = 1
      · rw [goP_drop hk]; exact z
      · cases hn : nextT ls ⟨d, L[k].pt⟩ with
        | none => rw [goP_out hk hn]; exact ⟨h0, h3⟩
        | some q => rw [goP_on hk hn]; exact ⟨h0, h3⟩
theorem trcN_small {ps : List Int} {ls : List Lk} {L : List Ru} (hR : RN ps ls L) {a : Nat} {d : Int} (hd : inD ps d) : (0 ≤ (trcN ps ls L a d).ft ∧ (trcN ps ls L a d).ft ≤ 4) ∧ 0 ≤ (trcN ps ls L a d).out.p ∧ (trcN ps ls L a d).out.p ≤ 3 := by
  obtain ⟨ini, last, h, _⟩ := trcN_spec hR.topo (L := L) (a := a) hd
  rcases h.fin with ⟨h1, h2, _⟩ | ⟨_, _, h3⟩
  · rw [h1, h2]; simp
  · have hp := stepN_p (ls := ls) hR.rules last a
    have hf := stepN_is ls L last a
    rw [h3] at hp hf
    dsimp only at hp hf
    refine ⟨?_, hp⟩
    rcases hf with ⟨h4, h5, _⟩ | ⟨_, ⟨h4, _⟩ | ⟨h4, _⟩⟩ <;> omega
theorem inD_isI {ps : List Int} (h8 : ps.length ≤ 8) {d : Int} (h : inD ps d) : isI d := by
  unfold inD at h; unfold isI; omega
theorem trcN_w {ps : List Int} {ls : List Lk} {L : List Ru} (hR : RT ps ls) (hW : NW ps ls L) {a : Nat} {d : Int} (hd : inD ps d) : TcW (trcN ps ls L a d) := by
  obtain ⟨ini, last, h, _⟩ := trcN_spec hR (L := L) (a := a) hd
  have hl : isI last := inD_isI hR.n8 (h.dev last (by rw [h.ds]; simp))
  refine ⟨fun y hy => inD_isI hR.n8 (h.dev y hy), ?_, ?_⟩
  · rcases h.fin with ⟨h1, _⟩ | ⟨_, _, h3⟩
    · rw [h1]; simp [isI]
    · have := (stepN_w hW hl a).1; rw [h3] at this; exact this
  · rcases h.fin with ⟨_, h2, _⟩ | ⟨_, _, h3⟩
    · rw [h2]; simp [isPt, isI]
    · have := (stepN_w hW hl a).2; rw [h3] at this; exact this
theorem genT_self {ps : List Int} {ls : List Lk} {L : List Ru} (hR : RT ps ls) {a : Nat} {d : Int} (hd : inD ps d) : genT ps ls L a (trcN ps ls L a d) = true := by
  obtain ⟨ini, last, _, t, ht⟩ := trcN_spec hR (L := L) (a := a) hd
  unfold genT
  rw [← ht]
  simp [hd]
/-- Another trace with the same first device, or none, is not genuine. -/
theorem genT_not {ps : List Int} {ls : List Lk} {L : List Ru} {a : Nat} {d : Int} {x : Tc} (hx : x ≠ trcN ps ls L a d) (hh : x.ds = [] ∨ ∃ t, x.ds = d :: t) : genT ps ls L a x = false := by
  unfold genT
  rcases hh with h | ⟨t, h⟩
  · rw [h]
  · rw [h]
    simp only [Bool.and_eq_false_iff, decide_eq_false_iff_not]
    exact .inr fun e => hx e.symm
end Go.Proofs.YteboadppighplaaGreat
/- Plain mathematics of zones: lists of ranges (from, to), when they are right, what they have, that what they have fixes them, how many they have; building one stretch by stretch. No program. -/
namespace Go.Proofs.YteboadppighplaaGreat.Zo
open Go.Proofs.YteboadppighplaaGreat.Tr

/-- The ranges are right, and each begins beyond the one ahead, and 1: 'lo' is the least place where the first may begin. -/
def RZ : Nat → List (Nat × Nat) → Prop
  | _, [] => True
  | lo, r :: z => lo ≤ r.1 ∧ r.1 ≤ r.2 ∧ RZ (r.2 + 2) z
/-- A zone has an address. -/
def has (z : List (Nat × Nat)) (a : Nat) : Bool := z.any fun r => decide (r.1 ≤ a) && decide (a ≤ r.2)
theorem has_nil (a : Nat) : has [] a = false := rfl
theorem has_cons (r : Nat × Nat) (z : List (Nat × Nat)) (a : Nat) : has (r :: z) a = (decide (r.1 ≤ a) && decide (a ≤ r.2) || has z a) := rfl
theorem has_append (x y : List (Nat × Nat)) (a : Nat) : has (x ++ y) a = (has x a || has y a) := by simp [has, List.any_append]
theorem has_iff {z : List (Nat × Nat)} {a : Nat} : has z a = true ↔ ∃ r ∈ z, r.1 ≤ a ∧ a ≤ r.2 := by simp [has]

theorem RZ.mono {lo lo' : Nat} {z : List (Nat × Nat)} (h : RZ lo z) (hl : lo' ≤ lo) : RZ lo' z := by
  cases z with
  | nil => trivial
  | cons r z => exact ⟨by have := h.1; omega, h.2⟩
theorem RZ.low {lo : Nat} {z : List (Nat × Nat)} (h : RZ lo z) {a : Nat} (ha : has z a = true) : lo ≤ a := by
  induction z generalizing lo with
  | nil => simp [has] at ha
  | cons r z ih =>
    obtain ⟨h1, h2, h3⟩ := h
    rw [has_cons] at ha
    simp only [Bool.or_eq_true, Bool.and_eq_true, decide_eq_true_eq] at ha
    rcases ha with h | h
    · omega
    · have := ih h3 h; omega
theorem has_below {lo a : Nat} {z : List (Nat × Nat)} (h : RZ lo z) (ha : a < lo) : has z a = false := by
  cases hh : has z a with
  | false => rfl
  | true => have := h.low hh; omega
theorem RZ.first {lo : Nat} {r : Nat × Nat} {z : List (Nat × Nat)} (h : RZ lo (r :: z)) : has (r :: z) r.1 = true := by
  rw [has_cons]; simp [h.2.1]
/-- What they have fixes right zones. -/
theorem rz_unique : ∀ (x y : List (Nat × Nat)) (lo lo' : Nat), RZ lo x → RZ lo' y → (∀ a, has x a = has y a) → x = y
  | [], [], _, _, _, _, _ => rfl
  | [], r :: y, _, _, _, hy, h => by have := h r.1; rw [hy.first, has_nil] at this; cases this
  | r :: x, [], _, _, hx, _, h => by have := h r.1; rw [hx.first, has_nil] at this; cases this
  | r :: x, s :: y, lo, lo', hx, hy, h => by
    have e1 : r.1 = s.1 := by
      have h1 := h r.1
      have h2 := h s.1
      rw [hx.first] at h1
      rw [hy.first] at h2
      have l1 : s.1 ≤ r.1 := (show RZ s.1 (s :: y) from ⟨Nat.le_refl _, hy.2⟩).low h1.symm
      have l2 : r.1 ≤ s.1 := (show RZ r.1 (r :: x) from ⟨Nat.le_refl _, hx.2⟩).low h2
      omega
    have key : ∀ (r s : Nat × Nat) (x y : List (Nat × Nat)) (lo lo' : Nat), RZ lo (r :: x) → RZ lo' (s :: y) → r.1 = s.1 → (∀ a, has (r :: x) a = has (s :: y) a) → ¬ r.2 < s.2 := by
      intro r s x y lo lo' hx hy e1 h hlt
      have h1 := h (r.2 + 1)
      have hx' := has_below hx.2.2 (show r.2 + 1 < r.2 + 2 by omega)
      have h3 := hx.2.1
      have d1 : decide (r.2 + 1 ≤ r.2) = false := by simp
      have d2 : decide (s.1 ≤ r.2 + 1) = true := by simp; omega
      have d3 : decide (r.2 + 1 ≤ s.2) = true := by simp; omega
      rw [has_cons, has_cons, hx', d1, d2, d3] at h1
      simp at h1
    have e2 : r.2 = s.2 := by
      have k1 := key r s x y lo lo' hx hy e1 h
      have k2 := key s r y x lo' lo hy hx e1.symm (fun a => (h a).symm)
      omega
    have e : r = s := Prod.ext e1 e2
    subst e
    congr 1
    refine rz_unique x y _ _ hx.2.2 hy.2.2 fun a => ?_
    by_cases ha : a < r.2 + 2
    · rw [has_below hx.2.2 ha, has_below hy.2.2 ha]
    · have h1 := h a
      have d : decide (a ≤ r.2) = false := by simp; omega
      rw [has_cons, has_cons, d] at h1
      simpa using h1

/-- All ends lie below n. -/
def Under (n : Nat) (z : List (Nat × Nat)) : Prop := ∀ r ∈ z, r.2 < n
theorem has_under {n a : Nat} {z : List (Nat × Nat)} (h : Under n z) (ha : n ≤ a) : has z a = false := by
  cases hh : has z a with
  | false => rfl
  | true =>
    obtain ⟨r, hr, h1, h2⟩ := has_iff.1 hh
    have := h r hr; omega

/-- How many of the first n numbers fulfil p. -/
def cnt (p : Nat → Bool) : Nat → Nat
  | 0 => 0
  | n + 1 => cnt p n + (p n).toNat
theorem cnt_congr {p q : Nat → Bool} {n : Nat} (h : ∀ a, a < n → p a = q a) : cnt p n = cnt q n := by
  induction n with
  | zero => rfl
  | succ n ih => simp only [cnt]; rw [ih (fun a ha => h a (by omega)), h n (by omega)]
theorem cnt_and_or (p q : Nat → Bool) (n : Nat) : cnt (fun a => p a && q a) n + cnt (fun a => p a || q a) n = cnt p n + cnt q n := by
  induction n with
  | zero => rfl
  | succ n ih => simp only [cnt]; cases p n <;> cases q n <;> simp only [Bool.and_true, Bool.and_false, Bool.or_true, Bool.or_false, Bool.toNat_true, Bool.toNat_false] <;> omega
theorem cnt_le (p : Nat → Bool) (n : Nat) : cnt p n ≤ n := by
  induction n with
  | zero => exact Nat.le_refl _
  | succ n ih => have := Bool.toNat_le (p n); simp only [cnt]; omega
theorem cnt_none {p : Nat → Bool} {n : Nat} (h : ∀ a, a < n → p a = false) : cnt p n = 0 := by
  induction n with
  | zero => rfl
  | succ n ih => simp only [cnt]; rw [ih (fun a ha => h a (by omega)), h n (by omega)]; rfl
theorem cnt_range (f t : Nat) (hft : f ≤ t) : ∀ n, t < n → cnt (fun a => decide (f ≤ a) && decide (a ≤ t)) n = t - f + 1
  | 0, h => by omega
  | n + 1, h => by
    simp only [cnt]
    by_cases hn : t < n
    · rw [cnt_range f t hft n hn]
      have : decide (n ≤ t) = false := by simp; omega
      rw [this]; simp
    · have : n = t := by omega
      subst this
      have h1 : cnt (fun a => decide (f ≤ a) && decide (a ≤ n)) n = n - f := by
        have key : ∀ m, m ≤ n → cnt (fun a => decide (f ≤ a) && decide (a ≤ n)) m = m - f := by
          intro m
          induction m with
          | zero => intro _; simp [cnt]
          | succ m ih =>
            intro hm
            simp only [cnt]
            rw [ih (by omega)]
            have d1 : decide (m ≤ n) = true := by simp; omega
            rw [d1]
            by_cases hfm : f ≤ m
            · simp [hfm]; omega
            · simp [hfm]; omega
        exact key n (Nat.le_refl _)
      rw [h1]; simp [hft]
theorem cnt_disj {p q : Nat → Bool} {n : Nat} (h : ∀ a, a < n → (p a && q a) = false) : cnt (fun a => p a || q a) n = cnt p n + cnt q n := by
  have h1 := cnt_and_or p q n
  rw [cnt_none h] at h1
  omega
/-- How many addresses a zone has. -/
def count (z : List (Nat × Nat)) : Nat := (z.map fun r => r.2 - r.1 + 1).sum
theorem count_cons (r : Nat × Nat) (z : List (Nat × Nat)) : count (r :: z) = (r.2 - r.1 + 1) + count z := by simp [count]
theorem count_is : ∀ (z : List (Nat × Nat)) (lo n : Nat), RZ lo z → Under n z → count z = cnt (has z) n
  | [], lo, n, _, _ => by
    rw [cnt_none (fun a _ => has_nil a)]; rfl
  | r :: z, lo, n, hr, hu => by
    have h1 : cnt (has (r :: z)) n = cnt (fun a => decide (r.1 ≤ a) && decide (a ≤ r.2)) n + cnt (has z) n := by
      rw [← cnt_disj]
      · exact cnt_congr fun a _ => has_cons r z a
      · intro a _
        by_cases ha : a < r.2 + 2
        · rw [has_below hr.2.2 ha]; simp
        · have : decide (a ≤ r.2) = false := by simp; omega
          rw [this]; simp
    rw [h1, cnt_range r.1 r.2 hr.2.1 n (hu r (by simp)), count_cons, count_is z _ n hr.2.2 (fun s hs => hu s (by simp [hs]))]

/-- A zone with a stretch more, behind it. -/
def joinZ (z : List (Nat × Nat)) (f t : Nat) : List (Nat × Nat) := match z.getLast? with
  | some r => if r.2 + 1 = f then z.dropLast ++ [(r.1, t)] else z ++ [(f, t)]
  | none => [(f, t)]
theorem RZ.snoc : ∀ {z : List (Nat × Nat)} {lo f t : Nat}, RZ lo z → (∀ r ∈ z, r.2 + 2 ≤ f) → lo ≤ f → f ≤ t → RZ lo (z ++ [(f, t)])
  | [], _, _, _, _, _, h2, h3 => ⟨h2, h3, trivial⟩
  | r :: z, _, f, t, h, h1, _, h3 => ⟨h.1, h.2.1, RZ.snoc h.2.2 (fun s hs => h1 s (by simp [hs])) (h1 r (by simp)) h3⟩
theorem RZ.ends : ∀ {z : List (Nat × Nat)} {r : Nat × Nat} {lo : Nat}, RZ lo (z ++ [r]) → (∀ s ∈ z, s.2 + 2 ≤ r.1) ∧ lo ≤ r.1 ∧ r.1 ≤ r.2 ∧ RZ lo z
  | [], _, _, h => ⟨fun s hs => by simp at hs, h.1, h.2.1, trivial⟩
  | s :: z, r, lo, h => by
    obtain ⟨h1, h2, h3, h4⟩ := RZ.ends h.2.2
    refine ⟨fun q hq => ?_, by have := h.1; have := h.2.1; omega, h3, h.1, h.2.1, h4⟩
    rcases List.mem_cons.1 hq with e | hq
    · subst e; exact h2
    · exact h1 q hq
theorem joinZ_spec {z : List (Nat × Nat)} {f t : Nat} (hz : RZ 0 z) (hu : Under f z) (hft : f ≤ t) :
    RZ 0 (joinZ z f t) ∧ Under (t + 1) (joinZ z f t) ∧ ∀ a, has (joinZ z f t) a = (has z a || decide (f ≤ a) && decide (a ≤ t)) := by
  rcases List.eq_nil_or_concat z with rfl | ⟨l, r, hlr⟩
  · refine ⟨⟨by omega, hft, trivial⟩, fun r hr => ?_, fun a => by simp [joinZ, has]⟩
    simp [joinZ] at hr; subst hr; show t < t + 1; omega
  · obtain rfl : z = l ++ [r] := by rw [hlr]; simp
    obtain ⟨h1, h2, h3, h4⟩ := RZ.ends hz
    have hr : r.2 < f := hu r (by simp)
    have hj : joinZ (l ++ [r]) f t = if r.2 + 1 = f then l ++ [(r.1, t)] else l ++ [r] ++ [(f, t)] := by
      unfold joinZ; simp
    rw [hj]
    by_cases he : r.2 + 1 = f
    · rw [if_pos he]
      refine ⟨RZ.snoc h4 h1 h2 (by omega), fun s hs => ?_, fun a => ?_⟩
      · rcases List.mem_append.1 hs with h | h
        · have := hu s (by simp [h]); omega
        · simp at h; subst h; show t < t + 1; omega
      · rw [has_append, has_append, has_cons, has_cons, has_nil, Bool.or_false, Bool.or_false, Bool.or_assoc]
        congr 1
        rw [Bool.eq_iff_iff]
        simp only [Bool.and_eq_true, Bool.or_eq_true, decide_eq_true_eq]
        omega
    · rw [if_neg he]
      refine ⟨RZ.snoc hz (fun s hs => ?_) (by omega) hft, fun s hs => ?_, fun a => ?_⟩
      · rcases List.mem_append.1 hs with h | h
        · have := h1 s h; omega
        · simp at h; subst h; omega
      · rcases List.mem_append.1 hs with h | h
        · have := hu s h; omega
        · simp at h; subst h; show t < t + 1; omega
      · rw [has_append, has_cons, has_nil, Bool.or_false]

/-- Where the next stretch begins; whether one of them has begun. -/
def nxt (m : Nat) : List Nat → Nat
  | [] => m
  | c :: _ => c
def begun : List Nat → Nat → Bool
  | [], _ => false
  | c :: _, a => decide (c ≤ a)
/-- Stretch by stretch: those at whose beginning p holds. -/
def build (m : Nat) (p : Nat → Bool) : List (Nat × Nat) → List Nat → List (Nat × Nat)
  | z, [] => z
  | z, c :: l => build m p (if p c then joinZ z c (endOf m l) else z) l
theorem build_spec {m : Nat} {p : Nat → Bool} : ∀ (l : List Nat) (z : List (Nat × Nat)) (lo : Nat), Rising lo m l → RZ 0 z → Under (nxt m l) z →
    (∀ i c, l[i]? = some c → ∀ a, c ≤ a → a ≤ endOf m (l.drop (i + 1)) → p a = p c) →
    RZ 0 (build m p z l) ∧ Under m (build m p z l) ∧ ∀ a, a < m → has (build m p z l) a = (has z a || begun l a && p a)
  | [], z, lo, _, hz, hu, _ => ⟨hz, hu, fun a _ => by simp [build, begun]⟩
  | c :: l, z, lo, hr, hz, hu, hp => by
    have he : c ≤ endOf m l := by
      have := hr.2.1
      cases l with
      | nil => simp only [endOf]; omega
      | cons d l => have := hr.2.2.1; simp only [endOf]; omega
    have hem : endOf m l < m := by
      have := hr.2.1
      cases l with
      | nil => simp only [endOf]; omega
      | cons d l => have := hr.2.2.1; have := hr.2.2.2.1; simp only [endOf]; omega
    have hnext : (nxt m l) = endOf m l + 1 := by
      have := hr.2.1
      cases l with
      | nil => simp only [endOf, nxt]; omega
      | cons d l => have := hr.2.2.1; simp only [endOf, nxt]; omega
    have hconst : ∀ a, c ≤ a → a ≤ endOf m l → p a = p c := fun a h1 h2 => hp 0 c rfl a h1 (by simpa using h2)
    have hp' : ∀ i d, l[i]? = some d → ∀ a, d ≤ a → a ≤ endOf m (l.drop (i + 1)) → p a = p d := fun i d hd a h1 h2 => hp (i + 1) d (by simpa using hd) a h1 (by simpa using h2)
    have tail : ∀ (a : Nat), a < m → begun l a = decide (endOf m l + 1 ≤ a) := by
      intro a ha
      cases l with
      | nil => have := hr.2.1; simp only [endOf, begun]; symm; apply decide_eq_false; omega
      | cons d l => have := hr.2.2.1; simp only [endOf, begun]; apply decide_eq_decide.2; omega
    unfold build
    by_cases hc : p c = true
    · rw [if_pos hc]
      obtain ⟨j1, j2, j3⟩ := joinZ_spec (f := c) hz hu he
      obtain ⟨b1, b2, b3⟩ := build_spec l (joinZ z c (endOf m l)) (c + 1) hr.2.2 j1 (by rw [hnext]; exact j2) hp'
      refine ⟨b1, b2, fun a ha => ?_⟩
      rw [b3 a ha, j3, tail a ha]
      show _ = (has z a || decide (c ≤ a) && p a)
      rw [Bool.or_assoc]
      congr 1
      by_cases h1 : c ≤ a
      · by_cases h2 : a ≤ endOf m l
        · rw [hconst a h1 h2, hc]; simp [h1, h2]
        · have : decide (endOf m l + 1 ≤ a) = true := by simp; omega
          rw [this]; simp [h1, h2]
      · have : decide (endOf m l + 1 ≤ a) = false := by simp; omega
        rw [this]; simp [h1]
    · rw [if_neg hc]
      have hu' : Under (nxt m l) z := by
        rw [hnext]; intro r hr'; have : r.2 < c := hu r hr'; show r.2 < _; omega
      obtain ⟨b1, b2, b3⟩ := build_spec l z (c + 1) hr.2.2 hz hu' hp'
      refine ⟨b1, b2, fun a ha => ?_⟩
      rw [b3 a ha, tail a ha]
      show _ = (has z a || decide (c ≤ a) && p a)
      congr 1
      have hc' : p c = false := by simpa using hc
      by_cases h1 : c ≤ a
      · by_cases h2 : a ≤ endOf m l
        · rw [hconst a h1 h2, hc']; simp
        · have : decide (endOf m l + 1 ≤ a) = true := by simp; omega
          rw [this]; simp [h1]
      · have : decide (endOf m l + 1 ≤ a) = false := by simp; omega
        rw [this]; simp [h1]

/-- What is built of rising cuts that begin at 0, where p does not change between two of them. -/
theorem cuts_build {m : Nat} {p : Nat → Bool} {l : List Nat} (hr : Rising 0 m l) (h0 : l.head? = some 0) (hp : ∀ c a, c ≤ a → a < m → (∀ x ∈ l, ¬ (c < x ∧ x ≤ a)) → p a = p c) :
    RZ 0 (build m p [] l) ∧ Under m (build m p [] l) ∧ ∀ a, a < m → has (build m p [] l) a = p a := by
  obtain ⟨b1, b2, b3⟩ := build_spec (m := m) (p := p) l [] 0 hr trivial (fun r h => by simp at h) (fun i c hc a h1 h2 => by
    have hm : a < m := by
      have hcm := (rising_mem hr c (List.mem_of_getElem? hc)).2
      cases hd : l.drop (i + 1) with
      | nil => rw [hd] at h2; simp only [endOf] at h2; omega
      | cons d r =>
        rw [hd] at h2; simp only [endOf] at h2
        have : d ∈ l := List.mem_of_mem_drop (i := i + 1) (by rw [hd]; simp)
        have := (rising_mem hr d this).2; omega
    exact hp c a h1 hm fun x hx hcx => by have := rising_gap hr hc hx hcx.1; omega)
  refine ⟨b1, b2, fun a ha => ?_⟩
  rw [b3 a ha, has_nil]
  cases l with
  | nil => simp at h0
  | cons c l =>
    have e : c = 0 := by simpa using h0
    subst e
    simp [begun]
/-- Between the ends of its ranges nothing changes. -/
theorem has_const {l : List (Nat × Nat)} {c a : Nat} (hca : c ≤ a) (h1 : ∀ r ∈ l, ¬ (c < r.1 ∧ r.1 ≤ a)) (h2 : ∀ r ∈ l, ¬ (c < r.2 + 1 ∧ r.2 + 1 ≤ a)) : has l a = has l c := by
  rw [Bool.eq_iff_iff, has_iff, has_iff]
  constructor
  · rintro ⟨r, hr, h3, h4⟩
    have := h1 r hr; have := h2 r hr
    exact ⟨r, hr, by omega, by omega⟩
  · rintro ⟨r, hr, h3, h4⟩
    have := h1 r hr; have := h2 r hr
    exact ⟨r, hr, by omega, by omega⟩
theorem zone_eq {x y : List (Nat × Nat)} {m : Nat} (hx : RZ 0 x) (hy : RZ 0 y) (ux : Under m x) (uy : Under m y) (h : ∀ a, a < m → has x a = has y a) : x = y :=
  rz_unique x y 0 0 hx hy fun a => by
    by_cases ha : a < m
    · exact h a ha
    · rw [has_under ux (by omega), has_under uy (by omega)]

theorem zone_len : ∀ {z : List (Nat × Nat)} {lo n : Nat}, RZ lo z → Under n z → z ≠ [] → lo + 2 * z.length ≤ n + 1
  | [], _, _, _, _, h => absurd rfl h
  | [r], lo, n, h, hu, _ => by have := hu r (by simp); have := h.1; have := h.2.1; simp; omega
  | r :: s :: z, lo, n, h, hu, _ => by
    have := zone_len h.2.2 (fun q hq => hu q (by simp [hq])) (by simp)
    have := h.1; have := h.2.1
    simp at *; omega
theorem zone_len32 {z : List (Nat × Nat)} (h : RZ 0 z) (hu : Under 4294967296 z) : z.length ≤ 2147483648 := by
  by_cases hz : z = []
  · subst hz; simp
  · have := zone_len h hu hz; omega

/-- Right ranges, each From no less than the one ahead. -/
def Asc : Nat → List (Nat × Nat) → Prop
  | _, [] => True
  | lo, r :: z => lo ≤ r.1 ∧ r.1 ≤ r.2 ∧ Asc r.1 z
theorem Asc.mono {lo lo' : Nat} {z : List (Nat × Nat)} (h : Asc lo z) (hl : lo' ≤ lo) : Asc lo' z := by
  cases z with
  | nil => trivial
  | cons r z => exact ⟨by have := h.1; omega, h.2⟩
theorem Asc.below : ∀ {z : List (Nat × Nat)} {lo a : Nat}, Asc lo z → a < lo → has z a = false
  | [], _, _, _, _ => rfl
  | r :: z, lo, a, h, ha => by
    rw [has_cons, Asc.below h.2.2 (by have := h.1; omega)]
    have : decide (r.1 ≤ a) = false := by have := h.1; simp; omega
    rw [this]; rfl

/-- A range more: behind the last one, or into it. -/
def gstep (z : List (Nat × Nat)) (r : Nat × Nat) : List (Nat × Nat) := match z.getLast? with
  | some l => if l.2 + 1 < r.1 then z ++ [r] else z.dropLast ++ [(l.1, max l.2 r.2)]
  | none => [r]
def gatherZ (xs : List (Nat × Nat)) : List (Nat × Nat) := xs.foldl gstep []
theorem gatherZ_snoc (xs : List (Nat × Nat)) (r : Nat × Nat) : gatherZ (xs ++ [r]) = gstep (gatherZ xs) r := by simp [gatherZ]
theorem gstep_nil (r : Nat × Nat) : gstep [] r = [r] := rfl
theorem gstep_more {l : List (Nat × Nat)} {s r : Nat × Nat} (h : s.2 + 1 < r.1) : gstep (l ++ [s]) r = l ++ [s] ++ [r] := by unfold gstep; simp [h]
theorem gstep_into {l : List (Nat × Nat)} {s r : Nat × Nat} (h : ¬ s.2 + 1 < r.1) : gstep (l ++ [s]) r = l ++ [(s.1, max s.2 r.2)] := by unfold gstep; simp [h]
theorem gstep_spec {z : List (Nat × Nat)} {r : Nat × Nat} {n : Nat} (hz : RZ 0 z) (hu : Under n z) (hlo : ∀ s ∈ z, s.1 ≤ r.1) (hr : r.1 ≤ r.2) (hn : r.2 < n) :
    RZ 0 (gstep z r) ∧ Under n (gstep z r) ∧ (∀ s ∈ gstep z r, s.1 ≤ r.1) ∧ ∀ a, has (gstep z r) a = (has z a || decide (r.1 ≤ a) && decide (a ≤ r.2)) := by
  rcases List.eq_nil_or_concat z with rfl | ⟨l, s, hls⟩
  · refine ⟨⟨by omega, hr, trivial⟩, fun q hq => ?_, fun q hq => ?_, fun a => ?_⟩
    · simp [gstep_nil] at hq; subst hq; exact hn
    · simp [gstep_nil] at hq; subst hq; omega
    · rw [gstep_nil, has_cons, has_nil, Bool.or_false]; rfl
  · obtain rfl : z = l ++ [s] := by rw [hls]; simp
    obtain ⟨h1, h2, h3, h4⟩ := RZ.ends hz
    have hs := hlo s (by simp)
    have hsn := hu s (by simp)
    by_cases h : s.2 + 1 < r.1
    · rw [gstep_more h]
      refine ⟨RZ.snoc hz (fun q hq => ?_) (by omega) hr, fun q hq => ?_, fun q hq => ?_, fun a => ?_⟩
      · rcases List.mem_append.1 hq with h | h
        · have := h1 q h; omega
        · simp at h; subst h; omega
      · rcases List.mem_append.1 hq with h | h
        · exact hu q h
        · simp at h; subst h; exact hn
      · rcases List.mem_append.1 hq with h | h
        · exact hlo q h
        · simp at h; subst h; omega
      · rw [has_append, has_cons, has_nil, Bool.or_false]
    · rw [gstep_into h]
      refine ⟨RZ.snoc h4 h1 h2 (by omega), fun q hq => ?_, fun q hq => ?_, fun a => ?_⟩
      · rcases List.mem_append.1 hq with h | h
        · exact hu q (by simp [h])
        · simp at h; subst h; show max s.2 r.2 < n; omega
      · rcases List.mem_append.1 hq with h | h
        · exact hlo q (by simp [h])
        · simp at h; subst h; exact hs
      · rw [has_append, has_append, has_cons, has_cons, has_nil, Bool.or_false, Bool.or_false, Bool.or_assoc]
        congr 1
        rw [Bool.eq_iff_iff]
        simp only [Bool.and_eq_true, Bool.or_eq_true, decide_eq_true_eq]
        omega
theorem gfold_spec {n : Nat} : ∀ (xs z : List (Nat × Nat)) (lo : Nat), RZ 0 z → Under n z → (∀ s ∈ z, s.1 ≤ lo) → Asc lo xs → Under n xs →
    RZ 0 (xs.foldl gstep z) ∧ Under n (xs.foldl gstep z) ∧ ∀ a, has (xs.foldl gstep z) a = (has z a || has xs a)
  | [], z, _, h1, h2, _, _, _ => ⟨h1, h2, fun a => by simp [has_nil]⟩
  | r :: xs, z, lo, h1, h2, h3, h4, h5 => by
    obtain ⟨g1, g2, g3, g4⟩ := gstep_spec (r := r) h1 h2 (fun s hs => by have := h3 s hs; have := h4.1; omega) h4.2.1 (h5 r (by simp))
    obtain ⟨f1, f2, f3⟩ := gfold_spec xs (gstep z r) r.1 g1 g2 g3 h4.2.2 (fun s hs => h5 s (by simp [hs]))
    refine ⟨f1, f2, fun a => ?_⟩
    rw [List.foldl_cons, f3, g4, has_cons, Bool.or_assoc]
/-- Right ranges by rising From, merged: a right zone of the same addresses. -/
theorem gatherZ_spec {n : Nat} {xs : List (Nat × Nat)} (h : Asc 0 xs) (hu : Under n xs) : RZ 0 (gatherZ xs) ∧ Under n (gatherZ xs) ∧ ∀ a, has (gatherZ xs) a = has xs a := by
  obtain ⟨f1, f2, f3⟩ := gfold_spec xs [] 0 trivial (fun r h => by simp at h) (fun r h => by simp at h) h hu
  exact ⟨f1, f2, fun a => by rw [show gatherZ xs = xs.foldl gstep [] from rfl, f3, has_nil, Bool.false_or]⟩
theorem gstep_len (z : List (Nat × Nat)) (r : Nat × Nat) : (gstep z r).length ≤ z.length + 1 := by
  rcases List.eq_nil_or_concat z with rfl | ⟨l, s, hls⟩
  · simp [gstep_nil]
  · obtain rfl : z = l ++ [s] := by rw [hls]; simp
    by_cases h : s.2 + 1 < r.1
    · rw [gstep_more h]; simp
    · rw [gstep_into h]; simp
theorem gatherZ_len (xs : List (Nat × Nat)) : (gatherZ xs).length ≤ xs.length := by
  have key : ∀ (xs z : List (Nat × Nat)), (xs.foldl gstep z).length ≤ z.length + xs.length := by
    intro xs
    induction xs with
    | nil => intro z; simp
    | cons r xs ih => intro z; have := ih (gstep z r); have := gstep_len z r; simp only [List.foldl_cons, List.length_cons]; omega
  have := key xs []
  simpa [gatherZ] using this
theorem gstep_u32 {z : List (Nat × Nat)} {r : Nat × Nat} (hz : U32 z) (hr : r.1 < 4294967296 ∧ r.2 < 4294967296) : U32 (gstep z r) := by
  rcases List.eq_nil_or_concat z with rfl | ⟨l, s, hls⟩
  · intro q hq; simp [gstep_nil] at hq; subst hq; exact hr
  · obtain rfl : z = l ++ [s] := by rw [hls]; simp
    have hs := hz s (by simp)
    by_cases h : s.2 + 1 < r.1
    · rw [gstep_more h]
      intro q hq
      rcases List.mem_append.1 hq with h | h
      · exact hz q h
      · simp at h; subst h; exact hr
    · rw [gstep_into h]
      intro q hq
      rcases List.mem_append.1 hq with h | h
      · exact hz q (by simp [h])
      · simp at h; subst h; refine ⟨hs.1, ?_⟩; show max s.2 r.2 < _; omega
theorem gatherZ_u32 {xs : List (Nat × Nat)} (h : U32 xs) : U32 (gatherZ xs) := by
  have key : ∀ (xs z : List (Nat × Nat)), U32 xs → U32 z → U32 (xs.foldl gstep z) := by
    intro xs
    induction xs with
    | nil => intro z _ hz; exact hz
    | cons r xs ih => intro z hx hz; exact ih _ (fun q hq => hx q (by simp [hq])) (gstep_u32 hz (hx r (by simp)))
  exact key xs [] h (fun q hq => by simp at hq)

theorem RZ.u32 : ∀ {z : List (Nat × Nat)} {lo : Nat}, RZ lo z → Under 4294967296 z → U32 z
  | [], _, _, _ => fun r h => by simp at h
  | r :: z, lo, h, hu => fun q hq => by
    rcases List.mem_cons.1 hq with e | hq
    · subst e; have := hu q (by simp); have := h.2.1; omega
    · exact RZ.u32 h.2.2 (fun s hs => hu s (by simp [hs])) q hq
theorem _root_.Go.Proofs.YteboadppighplaaGreat.Tr.U32.under {z : List (Nat × Nat)} (h : U32 z) : Under 4294967296 z := fun r hr => (h r hr).2
/-- What two zones have in common, range by range. -/
def comm : List (Nat × Nat) → List (Nat × Nat) → List (Nat × Nat)
  | r :: x, s :: y => (if max r.1 s.1 ≤ min r.2 s.2 then [(max r.1 s.1, min r.2 s.2)] else []) ++ (if r.2 ≤ s.2 then comm x (s :: y) else comm (r :: x) y)
  | [], _ => []
  | _ :: _, [] => []
termination_by x y => x.length + y.length
theorem comm_nil (x : List (Nat × Nat)) : comm x [] = [] := by cases x <;> simp [comm]
theorem comm_nil' (y : List (Nat × Nat)) : comm [] y = [] := by simp [comm]
theorem comm_spec : ∀ (x y : List (Nat × Nat)) (l m : Nat), RZ l x → RZ m y → Asc (max l m) (comm x y) ∧ ∀ a, has (comm x y) a = (has x a && has y a)
  | [], y, _, _, _, _ => by rw [comm_nil']; exact ⟨trivial, fun a => by simp [has_nil]⟩
  | r :: x, [], _, _, _, _ => by rw [comm_nil]; exact ⟨trivial, fun a => by simp [has_nil]⟩
  | r :: x, s :: y, l, m, hx, hy => by
    have hx' := hx
    have hy' := hy
    obtain ⟨x1, x2, x3⟩ := hx
    obtain ⟨y1, y2, y3⟩ := hy
    have key : ∀ rest lo, Asc lo rest → max l m ≤ lo → max r.1 s.1 ≤ lo → Asc (max l m) ((if max r.1 s.1 ≤ min r.2 s.2 then [(max r.1 s.1, min r.2 s.2)] else []) ++ rest) := by
      intro rest lo h h1 h2
      by_cases hq : max r.1 s.1 ≤ min r.2 s.2
      · rw [if_pos hq]; exact ⟨by show max l m ≤ max r.1 s.1; omega, hq, h.mono h2⟩
      · rw [if_neg hq]; exact h.mono h1
    have hq : ∀ a, has (if max r.1 s.1 ≤ min r.2 s.2 then [(max r.1 s.1, min r.2 s.2)] else []) a = ((decide (r.1 ≤ a) && decide (a ≤ r.2)) && (decide (s.1 ≤ a) && decide (a ≤ s.2))) := by
      intro a
      by_cases hq : max r.1 s.1 ≤ min r.2 s.2
      · rw [if_pos hq, has_cons, has_nil, Bool.or_false, Bool.eq_iff_iff]
        simp only [Bool.and_eq_true, decide_eq_true_eq]; omega
      · rw [if_neg hq, has_nil, Bool.eq_iff_iff]
        simp only [Bool.and_eq_true, decide_eq_true_eq, Bool.false_eq_true, false_iff]; omega
    rw [comm]
    by_cases hrs : r.2 ≤ s.2
    · obtain ⟨i1, i2⟩ := comm_spec x (s :: y) (r.2 + 2) s.1 x3 ⟨Nat.le_refl _, y2, y3⟩
      rw [if_pos hrs]
      refine ⟨key _ _ i1 (by omega) (by omega), fun a => ?_⟩
      rw [has_append, hq, i2, has_cons r x a, has_cons s y a]
      by_cases ha : a ≤ r.2
      · rw [has_below y3 (show a < s.2 + 2 by omega), has_below x3 (show a < r.2 + 2 by omega)]; simp
      · rw [show decide (a ≤ r.2) = false by simp; omega]; simp
    · obtain ⟨i1, i2⟩ := comm_spec (r :: x) y r.1 (s.2 + 2) ⟨Nat.le_refl _, x2, x3⟩ y3
      rw [if_neg hrs]
      refine ⟨key _ _ i1 (by omega) (by omega), fun a => ?_⟩
      rw [has_append, hq, i2, has_cons r x a, has_cons s y a]
      by_cases ha : a ≤ s.2
      · rw [has_below y3 (show a < s.2 + 2 by omega), has_below x3 (show a < r.2 + 2 by omega)]; simp
      · rw [show decide (a ≤ s.2) = false by simp; omega]; simp
termination_by x y => x.length + y.length
theorem comm_u32 : ∀ (x y : List (Nat × Nat)), U32 x → U32 y → U32 (comm x y)
  | [], y, _, _ => by rw [comm_nil']; intro r h; simp at h
  | r :: x, [], _, _ => by rw [comm_nil]; intro r h; simp at h
  | r :: x, s :: y, hx, hy => by
    have i1 := comm_u32 x (s :: y) (fun q hq => hx q (by simp [hq])) hy
    have i2 := comm_u32 (r :: x) y hx (fun q hq => hy q (by simp [hq]))
    have h1 := hx r (by simp)
    have h2 := hy s (by simp)
    rw [comm]
    intro q hq
    rcases List.mem_append.1 hq with h | h
    · split at h
      · simp at h; subst h; exact ⟨by show max r.1 s.1 < _; omega, by show min r.2 s.2 < _; omega⟩
      · simp at h
    · split at h
      · exact i1 q h
      · exact i2 q h
termination_by x y => x.length + y.length
theorem comm_len : ∀ (x y : List (Nat × Nat)), (comm x y).length ≤ x.length + y.length
  | [], y => by rw [comm_nil']; simp
  | r :: x, [] => by rw [comm_nil]; simp
  | r :: x, s :: y => by
    have i1 := comm_len x (s :: y)
    have i2 := comm_len (r :: x) y
    rw [comm]
    by_cases hq : max r.1 s.1 ≤ min r.2 s.2 <;> by_cases hrs : r.2 ≤ s.2 <;> simp only [hq, hrs, if_true, if_false, List.length_append, List.length_cons, List.length_nil] at * <;> omega
termination_by x y => x.length + y.length

/-- Two zones' ranges, by rising From. -/
def mrg : List (Nat × Nat) → List (Nat × Nat) → List (Nat × Nat)
  | [], [] => []
  | [], s :: y => s :: mrg y []
  | r :: x, [] => r :: mrg x []
  | r :: x, s :: y => if s.1 < r.1 then s :: mrg y (r :: x) else r :: mrg x (s :: y)
termination_by x y => x.length + y.length
theorem mrg_spec : ∀ (x y : List (Nat × Nat)) (l : Nat), RZ l x → RZ l y → Asc l (mrg x y) ∧ ∀ a, has (mrg x y) a = (has x a || has y a)
  | [], [], _, _, _ => by rw [mrg]; exact ⟨trivial, fun a => by simp [has_nil]⟩
  | [], s :: y, l, _, hy => by
    obtain ⟨i1, i2⟩ := mrg_spec y [] s.1 (hy.2.2.mono (by have := hy.2.1; omega)) trivial
    rw [mrg]; exact ⟨⟨hy.1, hy.2.1, i1⟩, fun a => by rw [has_cons, i2, has_cons]; simp [has_nil]⟩
  | r :: x, [], l, hx, _ => by
    obtain ⟨i1, i2⟩ := mrg_spec x [] r.1 (hx.2.2.mono (by have := hx.2.1; omega)) trivial
    rw [mrg]; exact ⟨⟨hx.1, hx.2.1, i1⟩, fun a => by rw [has_cons, i2, has_cons]; simp [has_nil]⟩
  | r :: x, s :: y, l, hx, hy => by
    rw [mrg]
    by_cases h : s.1 < r.1
    · obtain ⟨i1, i2⟩ := mrg_spec y (r :: x) s.1 (hy.2.2.mono (by have := hy.2.1; omega)) ⟨by omega, hx.2⟩
      rw [if_pos h]
      exact ⟨⟨hy.1, hy.2.1, i1⟩, fun a => by rw [has_cons s, i2, has_cons s y a]; ac_rfl⟩
    · obtain ⟨i1, i2⟩ := mrg_spec x (s :: y) r.1 (hx.2.2.mono (by have := hx.2.1; omega)) ⟨by omega, hy.2⟩
      rw [if_neg h]
      exact ⟨⟨hx.1, hx.2.1, i1⟩, fun a => by rw [has_cons r, i2, has_cons r x a]; ac_rfl⟩
termination_by x y => x.length + y.length
theorem mrg_len : ∀ (x y : List (Nat × Nat)), (mrg x y).length = x.length + y.length
  | [], [] => by simp [mrg]
  | [], s :: y => by rw [mrg]; simp [mrg_len y []]
  | r :: x, [] => by rw [mrg]; simp [mrg_len x []]
  | r :: x, s :: y => by
    have i1 := mrg_len y (r :: x)
    have i2 := mrg_len x (s :: y)
    rw [mrg]
    split <;> simp only [List.length_cons] at * <;> omega
termination_by x y => x.length + y.length
theorem mrg_u32 : ∀ (x y : List (Nat × Nat)), U32 x → U32 y → U32 (mrg x y)
  | [], [], _, _ => by rw [mrg]; intro r h; simp at h
  | [], s :: y, _, hy => by
    have i := mrg_u32 y [] (fun q hq => hy q (by simp [hq])) (fun q hq => by simp at hq)
    rw [mrg]; intro q hq
    rcases List.mem_cons.1 hq with e | hq
    · subst e; exact hy q (by simp)
    · exact i q hq
  | r :: x, [], hx, _ => by
    have i := mrg_u32 x [] (fun q hq => hx q (by simp [hq])) (fun q hq => by simp at hq)
    rw [mrg]; intro q hq
    rcases List.mem_cons.1 hq with e | hq
    · subst e; exact hx q (by simp)
    · exact i q hq
  | r :: x, s :: y, hx, hy => by
    have i1 := mrg_u32 y (r :: x) (fun q hq => hy q (by simp [hq])) hx
    have i2 := mrg_u32 x (s :: y) (fun q hq => hx q (by simp [hq])) hy
    rw [mrg]; intro q hq
    split at hq
    · rcases List.mem_cons.1 hq with e | hq
      · subst e; exact hy q (by simp)
      · exact i1 q hq
    · rcases List.mem_cons.1 hq with e | hq
      · subst e; exact hx q (by simp)
      · exact i2 q hq
termination_by x y => x.length + y.length

/-- What a zone has not, from the address n on. -/
def gapsL : Nat → List (Nat × Nat) → List (Nat × Nat)
  | n, [] => if n ≤ 4294967295 then [(n, 4294967295)] else []
  | n, r :: z => if n < r.1 then (n, r.1 - 1) :: gapsL (r.2 + 1) z else gapsL (r.2 + 1) z
theorem gaps_spec : ∀ (z : List (Nat × Nat)) (n : Nat), RZ n z → Under 4294967296 z → Asc n (gapsL n z) ∧ ∀ a, n ≤ a → a < 4294967296 → has (gapsL n z) a = !has z a
  | [], n, _, _ => by
    rw [gapsL]
    by_cases h : n ≤ 4294967295
    · rw [if_pos h]
      refine ⟨⟨Nat.le_refl _, h, trivial⟩, fun a h1 h2 => ?_⟩
      rw [has_cons, has_nil]
      simp; omega
    · rw [if_neg h]
      exact ⟨trivial, fun a h1 h2 => by omega⟩
  | r :: z, n, hz, hu => by
    obtain ⟨z1, z2, z3⟩ := hz
    have hr := hu r (by simp)
    obtain ⟨i1, i2⟩ := gaps_spec z (r.2 + 1) (z3.mono (by omega)) (fun q hq => hu q (by simp [hq]))
    rw [gapsL]
    by_cases h : n < r.1
    · rw [if_pos h]
      refine ⟨⟨Nat.le_refl _, by show n ≤ r.1 - 1; omega, i1.mono (by show n ≤ _; omega)⟩, fun a h1 h2 => ?_⟩
      rw [has_cons, has_cons]
      by_cases ha : a ≤ r.2
      · rw [i1.below (show a < r.2 + 1 by omega), has_below z3 (show a < r.2 + 2 by omega), Bool.or_false, Bool.or_false, Bool.eq_iff_iff]
        simp; omega
      · rw [i2 a (by omega) h2, show decide (a ≤ r.2) = false by simp; omega, show decide (a ≤ (n, r.1 - 1).2) = false by simp; omega]
        simp
    · rw [if_neg h]
      refine ⟨i1.mono (by omega), fun a h1 h2 => ?_⟩
      rw [has_cons]
      by_cases ha : a ≤ r.2
      · rw [i1.below (show a < r.2 + 1 by omega), show decide (a ≤ r.2) = true by simpa using ha, show decide (r.1 ≤ a) = true by simp; omega]
        simp
      · rw [i2 a (by omega) h2, show decide (a ≤ r.2) = false by simp; omega]
        simp
theorem gaps_u32 : ∀ (z : List (Nat × Nat)) (n : Nat), U32 z → U32 (gapsL n z)
  | [], n, _ => by
    rw [gapsL]; intro r h
    split at h
    · simp at h; subst h; simp; omega
    · simp at h
  | r :: z, n, hz => by
    have hr := hz r (by simp)
    have i := gaps_u32 z (r.2 + 1) (fun q hq => hz q (by simp [hq]))
    rw [gapsL]; intro q h
    split at h
    · rcases List.mem_cons.1 h with e | h
      · subst e; simp; omega
      · exact i q h
    · exact i q h
theorem gaps_len : ∀ (z : List (Nat × Nat)) (n : Nat), (gapsL n z).length ≤ z.length + 1
  | [], n => by rw [gapsL]; split <;> simp
  | r :: z, n => by have := gaps_len z (r.2 + 1); rw [gapsL]; split <;> simp <;> omega

/-- Whether a zone is right, reckoned. -/
def rzB : Nat → List (Nat × Nat) → Bool
  | _, [] => true
  | lo, r :: z => decide (lo ≤ r.1) && decide (r.1 ≤ r.2) && rzB (r.2 + 2) z
theorem rzB_iff : ∀ {z : List (Nat × Nat)} {lo : Nat}, rzB lo z = true ↔ RZ lo z
  | [], _ => by simp [rzB, RZ]
  | r :: z, lo => by simp [rzB, RZ, rzB_iff, and_assoc]
/-- The least From that the k-th range may have. -/
def least (L : List (Nat × Nat)) : Nat → Nat
  | 0 => 0
  | k + 1 => (L[k]?.getD (0, 0)).2 + 2
theorem rz_drop {L : List (Nat × Nat)} {k : Nat} (hk : k < L.length) : rzB (least L k) (L.drop k) = (decide (least L k ≤ L[k].1) && decide (L[k].1 ≤ L[k].2) && rzB (least L (k + 1)) (L.drop (k + 1))) := by
  rw [List.drop_eq_getElem_cons hk, rzB]
  simp [least, hk]
theorem rz_any {L : List (Nat × Nat)} : (∃ k, ∃ h : k < L.length, L[k].2 < L[k].1 ∨ L[k].1 < least L k) ↔ rzB 0 L = false := by
  have key : ∀ d k, k + d = L.length → ((∃ j, ∃ h : j < L.length, k ≤ j ∧ (L[j].2 < L[j].1 ∨ L[j].1 < least L j)) ↔ rzB (least L k) (L.drop k) = false) := by
    intro d
    induction d with
    | zero =>
      intro k hk
      rw [List.drop_eq_nil_of_le (by omega)]
      simp only [rzB]
      constructor
      · rintro ⟨j, h, h1, _⟩; omega
      · intro h; cases h
    | succ d ih =>
      intro k hk
      rw [rz_drop (by omega)]
      have := ih (k + 1) (by omega)
      constructor
      · rintro ⟨j, h, h1, h2⟩
        rcases Nat.eq_or_lt_of_le h1 with e | e
        · subst e
          rcases h2 with h2 | h2
          · rw [show decide (L[k].1 ≤ L[k].2) = false by simp; omega]; simp
          · rw [show decide (least L k ≤ L[k].1) = false by simp; omega]; simp
        · rw [this.1 ⟨j, h, e, h2⟩]; simp
      · intro h
        by_cases h1 : L[k].2 < L[k].1 ∨ L[k].1 < least L k
        · exact ⟨k, by omega, Nat.le_refl _, h1⟩
        · rw [show decide (least L k ≤ L[k].1) = true by simp; omega, show decide (L[k].1 ≤ L[k].2) = true by simp; omega] at h
          obtain ⟨j, hj, h2, h3⟩ := this.2 (by simpa using h)
          exact ⟨j, hj, by omega, h3⟩
  have := key L.length 0 (by omega)
  simpa [least] using this

theorem RZ.rise : ∀ {z : List (Nat × Nat)} {lo : Nat}, RZ lo z → ∀ i j (hi : i < z.length) (hj : j < z.length), i < j → z[i].2 + 2 ≤ z[j].1
  | [], _, _, i, j, hi, _, _ => by simp at hi
  | r :: z, lo, h, 0, 0, _, _, hij => by omega
  | r :: z, lo, h, 0, j + 1, _, hj, _ => by
    have hj' : j < z.length := by simpa using hj
    have := h.2.2.low (a := z[j].1) (has_iff.2 ⟨z[j], List.getElem_mem hj', Nat.le_refl _, by
      have : ∀ {z : List (Nat × Nat)} {lo : Nat}, RZ lo z → ∀ q ∈ z, q.1 ≤ q.2 := by
        intro z
        induction z with
        | nil => intro lo _ q hq; simp at hq
        | cons s z ih =>
          intro lo h q hq
          rcases List.mem_cons.1 hq with e | hq
          · subst e; exact h.2.1
          · exact ih h.2.2 q hq
      exact this h.2.2 _ (List.getElem_mem hj')⟩)
    simpa using this
  | r :: z, lo, h, i + 1, 0, _, _, hij => by omega
  | r :: z, lo, h, i + 1, j + 1, hi, hj, hij => by
    have := RZ.rise h.2.2 i j (by simpa using hi) (by simpa using hj) (by omega)
    simpa using this
theorem RZ.each : ∀ {z : List (Nat × Nat)} {lo : Nat}, RZ lo z → ∀ i (hi : i < z.length), z[i].1 ≤ z[i].2
  | [], _, _, i, hi => by simp at hi
  | r :: z, lo, h, 0, _ => by simpa using h.2.1
  | r :: z, lo, h, i + 1, hi => by simpa using RZ.each h.2.2 i (by simpa using hi)
/-- Found by halves: all ahead of i end below a, all from i on do not. -/
theorem has_search {z : List (Nat × Nat)} {a i : Nat} (hz : RZ 0 z) (hi : i ≤ z.length) (h1 : ∀ t (ht : t < z.length), t < i → z[t].2 < a) (h2 : ∀ t (ht : t < z.length), i ≤ t → a ≤ z[t].2) :
    has z a = (if h : i < z.length then decide (z[i].1 ≤ a) else false) := by
  by_cases h : i < z.length
  · rw [dif_pos h, Bool.eq_iff_iff, has_iff, decide_eq_true_eq]
    constructor
    · rintro ⟨r, hr, q1, q2⟩
      obtain ⟨t, ht, rfl⟩ := List.getElem_of_mem hr
      have e1 : ¬ t < i := fun h => by have := h1 t ht h; omega
      have e2 : ¬ i < t := fun h' => by have := hz.rise i t h ht h'; have := h2 i h (Nat.le_refl _); omega
      obtain rfl : t = i := by omega
      exact q1
    · intro q
      exact ⟨z[i], List.getElem_mem h, q, h2 i h (Nat.le_refl _)⟩
  · rw [dif_neg h]
    cases hh : has z a with
    | false => rfl
    | true =>
      obtain ⟨r, hr, q1, q2⟩ := has_iff.1 hh
      obtain ⟨t, ht, rfl⟩ := List.getElem_of_mem hr
      have := h1 t ht (by omega); omega

/-- The document's way: stretch by stretch between all cuts of l. -/
theorem doc_build {l : List (Nat × Nat)} {p : Nat → Bool} (hp : ∀ c a, c ≤ a → a < 4294967296 → (∀ r ∈ l, ¬ (c < r.1 ∧ r.1 ≤ a) ∧ ¬ (c < r.2 + 1 ∧ r.2 + 1 ≤ a)) → p a = p c) :
    RZ 0 (build 4294967296 p [] (cutsL 4294967296 0 (Tr.ends l))) ∧ Under 4294967296 (build 4294967296 p [] (cutsL 4294967296 0 (Tr.ends l))) ∧ ∀ a, a < 4294967296 → has (build 4294967296 p [] (cutsL 4294967296 0 (Tr.ends l))) a = p a := by
  obtain ⟨c1, c2⟩ := cutsL_spec 4294967296 (Tr.ends l) 4294967296 0 (by omega)
  refine cuts_build c1 (cutsL_head (by simp [Tr.ends]) (by omega)) fun c a hca ha hx => hp c a hca ha fun r hr => ?_
  obtain ⟨m1, m2⟩ := ends_mem hr
  refine ⟨fun h => ?_, fun h => ?_⟩
  · exact hx _ (c2 _ m1 (by omega) (by omega)) h
  · exact hx _ (c2 _ m2 (by omega) (by omega)) h
theorem doc_of {l : List (Nat × Nat)} : RZ 0 (build 4294967296 (has l) [] (cutsL 4294967296 0 (Tr.ends l))) ∧ Under 4294967296 (build 4294967296 (has l) [] (cutsL 4294967296 0 (Tr.ends l))) ∧ ∀ a, a < 4294967296 → has (build 4294967296 (has l) [] (cutsL 4294967296 0 (Tr.ends l))) a = has l a :=
  doc_build fun _c _a hca _ h => has_const hca (fun r hr => (h r hr).1) (fun r hr => (h r hr).2)
theorem doc_both {x y : List (Nat × Nat)} (f : Bool → Bool → Bool) : RZ 0 (build 4294967296 (fun a => f (has x a) (has y a)) [] (cutsL 4294967296 0 (Tr.ends (x ++ y)))) ∧ Under 4294967296 (build 4294967296 (fun a => f (has x a) (has y a)) [] (cutsL 4294967296 0 (Tr.ends (x ++ y)))) ∧ ∀ a, a < 4294967296 → has (build 4294967296 (fun a => f (has x a) (has y a)) [] (cutsL 4294967296 0 (Tr.ends (x ++ y)))) a = f (has x a) (has y a) :=
  doc_build (p := fun a => f (has x a) (has y a)) fun c a hca _ h => by
    have h1 : has x a = has x c := has_const hca (fun r hr => (h r (by simp [hr])).1) (fun r hr => (h r (by simp [hr])).2)
    have h2 : has y a = has y c := has_const hca (fun r hr => (h r (by simp [hr])).1) (fun r hr => (h r (by simp [hr])).2)
    show f (has x a) (has y a) = f (has x c) (has y c)
    rw [h1, h2]
theorem count_le {z : List (Nat × Nat)} (h : RZ 0 z) (hu : Under 4294967296 z) : count z ≤ 4294967296 := by
  rw [count_is z 0 _ h hu]; exact cnt_le _ _
theorem count_snoc (z : List (Nat × Nat)) (r : Nat × Nat) : count (z ++ [r]) = count z + (r.2 - r.1 + 1) := by simp [count]
theorem count_take {z : List (Nat × Nat)} {k : Nat} (hk : k < z.length) : count (z.take (k + 1)) = count (z.take k) + (z[k].2 - z[k].1 + 1) := by
  rw [List.take_succ_eq_append_getElem hk, count_snoc]
theorem count_part (z : List (Nat × Nat)) (k : Nat) : count (z.take k) ≤ count z := by
  have : count z = count (z.take k) + count (z.drop k) := by
    have e : ∀ x y : List (Nat × Nat), count (x ++ y) = count x + count y := fun x y => by simp [count]
    rw [← e, List.take_append_drop]
  omega
end Go.Proofs.YteboadppighplaaGreat.Zo
/- Plain: what becomes of all addresses: traces do not change between boundaries; the zone of those of whom something holds; a range cut at boundaries. No program. -/
namespace Go.Proofs.YteboadppighplaaGreat
open Go.RowKit Go.Shelf

theorem stepN_near {L : List Ru} {c a : Nat} (h : ∀ r ∈ L, (r.f ≤ a ↔ r.f ≤ c) ∧ (a ≤ r.t ↔ c ≤ r.t)) (ls : List Lk) (d : Int) : stepN ls L d a = stepN ls L d c := by
  have key : ∀ one oth, ∀ r ∈ L, tk d one oth a r = tk d one oth c r := fun one oth r hr => by
    obtain ⟨k1, k2⟩ := h r hr
    simp only [tk, takesB, k1, k2]
  unfold stepN denB
  rw [firstL_congr _ _ L (key 2 3), firstL_congr _ _ L (key 0 1)]
theorem trc_near {L : List Ru} {c a : Nat} (h : ∀ r ∈ L, (r.f ≤ a ↔ r.f ≤ c) ∧ (a ≤ r.t ↔ c ≤ r.t)) (ls : List Lk) : ∀ (n : Nat) (s : List Int) (d : Int), trc ls L a n s d = trc ls L c n s d
  | 0, s, d => rfl
  | n + 1, s, d => by
    have e : onTo ls L d a = onTo ls L d c := by unfold onTo; rw [stepN_near h]
    simp only [trc]
    rw [stepN_near h, e, trc_near h ls n]
/-- No boundary lies behind c, up to a. -/
def Near (R : List (Nat × Nat)) (c a : Nat) : Prop := ∀ r ∈ R, ¬ (c < r.1 ∧ r.1 ≤ a) ∧ ¬ (c < r.2 + 1 ∧ r.2 + 1 ≤ a)
theorem trcN_near {L : List Ru} {R : List (Nat × Nat)} (hs : ∀ r ∈ rgL L, r ∈ R) {c a : Nat} (hca : c ≤ a) (h : Near R c a) (ps : List Int) (ls : List Lk) (d : Int) : trcN ps ls L a d = trcN ps ls L c d :=
  trc_near (fun r hr => by
    have := h (r.f, r.t) (hs _ (List.mem_map.2 ⟨r, hr, rfl⟩))
    dsimp only at this
    omega) ls _ _ _
/-- The zone of those of whom p holds. -/
def pickZ (p : Nat → Bool) (R : List (Nat × Nat)) : List (Nat × Nat) := Zo.build 4294967296 p [] (Tr.bnds R)
theorem pickZ_is {p : Nat → Bool} {R : List (Nat × Nat)} (hp : ∀ c a, c ≤ a → Near R c a → p a = p c) : (Zo.RZ 0 (pickZ p R) ∧ Zo.Under 4294967296 (pickZ p R)) ∧ ∀ a, a < 4294967296 → Zo.has (pickZ p R) a = p a := by
  obtain ⟨h1, h2, h3⟩ := Zo.doc_build (l := R) (p := p) fun c a hca _ h => hp c a hca h
  exact ⟨⟨h1, h2⟩, h3⟩
theorem zn_eq {x y : List (Nat × Nat)} (hx : Zo.RZ 0 x ∧ Zo.Under 4294967296 x) (hy : Zo.RZ 0 y ∧ Zo.Under 4294967296 y) (h : ∀ a, a < 4294967296 → Zo.has x a = Zo.has y a) : x = y := Zo.zone_eq hx.1 hy.1 hx.2 hy.2 h
theorem zn_nil : Zo.RZ 0 [] ∧ Zo.Under 4294967296 [] := ⟨trivial, fun r h => by simp at h⟩
def fateP (ps : List Int) (ls : List Lk) (L : List Ru) (d : Int) (k : Int) (a : Nat) : Bool := decide ((trcN ps ls L a d).ft = k)
def visP (ps : List Int) (ls : List Lk) (L : List Ru) (d b : Int) (a : Nat) : Bool := decide (b ∈ (trcN ps ls L a d).ds)
def delP (ps : List Int) (ls : List Lk) (L : List Ru) (d b : Int) (a : Nat) : Bool := decide ((trcN ps ls L a d).ft = 3) && decide ((trcN ps ls L a d).out.d = b)
def difP (ps : List Int) (ls : List Lk) (L : List Ru) (qs : List Int) (ms : List Lk) (M : List Ru) (d : Int) (a : Nat) : Bool := !decide (trcN ps ls L a d = trcN qs ms M a d)
theorem rgL_in (L : List Ru) : ∀ r ∈ rgL L, r ∈ rgL L := fun _ h => h
theorem fateP_near {ps : List Int} {ls : List Lk} {L : List Ru} {d k : Int} : ∀ c a, c ≤ a → Near (rgL L) c a → fateP ps ls L d k a = fateP ps ls L d k c := fun c a hca h => by unfold fateP; rw [trcN_near (rgL_in L) hca h]
theorem visP_near {ps : List Int} {ls : List Lk} {L : List Ru} {d b : Int} : ∀ c a, c ≤ a → Near (rgL L) c a → visP ps ls L d b a = visP ps ls L d b c := fun c a hca h => by unfold visP; rw [trcN_near (rgL_in L) hca h]
theorem delP_near {ps : List Int} {ls : List Lk} {L : List Ru} {d b : Int} : ∀ c a, c ≤ a → Near (rgL L) c a → delP ps ls L d b a = delP ps ls L d b c := fun c a hca h => by unfold delP; rw [trcN_near (rgL_in L) hca h]
theorem difP_near {ps : List Int} {ls : List Lk} {L : List Ru} {qs : List Int} {ms : List Lk} {M : List Ru} {d : Int} : ∀ c a, c ≤ a → Near (rgL L ++ rgL M) c a → difP ps ls L qs ms M d a = difP ps ls L qs ms M d c := fun c a hca h => by
  unfold difP
  rw [trcN_near (R := rgL L ++ rgL M) (fun r hr => by simp [hr]) hca h, trcN_near (R := rgL L ++ rgL M) (L := M) (fun r hr => by simp [hr]) hca h]
/-- The zones, and the errors. -/
def fatZ (ps : List Int) (ls : List Lk) (L : List Ru) (d : Int) (k : Int) : List (Nat × Nat) := if inD ps d then pickZ (fateP ps ls L d k) (rgL L) else []
def visZ (ps : List Int) (ls : List Lk) (L : List Ru) (d b : Int) : List (Nat × Nat) := if inD ps d ∧ inD ps b then pickZ (visP ps ls L d b) (rgL L) else []
def delZ (ps : List Int) (ls : List Lk) (L : List Ru) (d b : Int) : List (Nat × Nat) := if inD ps d ∧ inD ps b then pickZ (delP ps ls L d b) (rgL L) else []
def difZ (ps : List Int) (ls : List Lk) (L : List Ru) (qs : List Int) (ms : List Lk) (M : List Ru) (d : Int) : List (Nat × Nat) := if inD ps d ∧ inD qs d then pickZ (difP ps ls L qs ms M d) (rgL L ++ rgL M) else []
def errIn (b : Prop) [Decidable b] : Int := if b then 0 else 91
/-- A range cut at cuts. -/
def cutC (m f t : Nat) : List Nat → List (Nat × Nat)
  | [] => []
  | c :: l => if max c f ≤ min (Tr.endOf m l) t then (max c f, min (Tr.endOf m l) t) :: cutC m f t l else cutC m f t l
def cutZ (R : List (Nat × Nat)) (f t : Nat) : List (Nat × Nat) := cutC 4294967296 f t (Tr.bnds R)
/-- One behind the other, up to t. -/
def Chn (t : Nat) : Nat → List (Nat × Nat) → Prop
  | at', [] => at' = t + 1
  | at', x :: z => x.1 = at' ∧ x.1 ≤ x.2 ∧ Chn t (x.2 + 1) z
theorem cutC_chn {m f t : Nat} (hft : f ≤ t) (htm : t < m) : ∀ (l : List Nat) (c lo : Nat), Tr.Rising lo m (c :: l) → Chn t (min (max c f) (t + 1)) (cutC m f t (c :: l))
  | [], c, lo, hr => by
    have hc := hr.2.1
    have e : cutC m f t [c] = if max c f ≤ min (m - 1) t then [(max c f, min (m - 1) t)] else [] := rfl
    rw [e]
    by_cases h : max c f ≤ min (m - 1) t
    · rw [if_pos h]
      refine ⟨?_, h, ?_⟩
      · show max c f = _; omega
      · show min (m - 1) t + 1 = t + 1; omega
    · rw [if_neg h]
      show min (max c f) (t + 1) = t + 1
      omega
  | d :: l, c, lo, hr => by
    have hc := hr.2.1
    have hd := hr.2.2.1
    have ih := cutC_chn hft htm l d _ hr.2.2
    have e : cutC m f t (c :: d :: l) = if max c f ≤ min (d - 1) t then (max c f, min (d - 1) t) :: cutC m f t (d :: l) else cutC m f t (d :: l) := rfl
    rw [e]
    by_cases h : max c f ≤ min (d - 1) t
    · rw [if_pos h]
      refine ⟨?_, h, ?_⟩
      · show max c f = _; omega
      · show Chn t (min (d - 1) t + 1) _
        rw [show min (d - 1) t + 1 = min (max d f) (t + 1) by omega]
        exact ih
    · rw [if_neg h, show min (max c f) (t + 1) = min (max d f) (t + 1) by omega]
      exact ih
theorem cutZ_chn (R : List (Nat × Nat)) {f t : Nat} (hft : f ≤ t) (ht : t < 4294967296) : Chn t f (cutZ R f t) := by
  obtain ⟨T, hT⟩ := Tr.bnds_cons R
  have hr := Tr.bnds_rise R
  unfold cutZ
  rw [hT] at hr ⊢
  have := cutC_chn hft ht T 0 0 hr
  rwa [show min (max 0 f) (t + 1) = f by omega] at this
theorem cutC_mem {m f t : Nat} : ∀ {C : List Nat} {x : Nat × Nat}, x ∈ cutC m f t C → ∃ i c, C[i]? = some c ∧ c ≤ x.1 ∧ x.2 ≤ Tr.endOf m (C.drop (i + 1)) ∧ x.1 ≤ x.2 ∧ f ≤ x.1 ∧ x.2 ≤ t
  | [], x, h => by simp [cutC] at h
  | c :: l, x, h => by
    rw [cutC] at h
    have tl : x ∈ cutC m f t l → ∃ i d, (c :: l)[i]? = some d ∧ d ≤ x.1 ∧ x.2 ≤ Tr.endOf m ((c :: l).drop (i + 1)) ∧ x.1 ≤ x.2 ∧ f ≤ x.1 ∧ x.2 ≤ t := fun h => by
      obtain ⟨i, d, h1, h2, h3⟩ := cutC_mem h
      exact ⟨i + 1, d, by simpa using h1, h2, by simpa using h3⟩
    split at h
    · rename_i hc
      rcases List.mem_cons.1 h with e | h
      · subst e
        exact ⟨0, c, rfl, by show c ≤ max c f; omega, by show min _ t ≤ _; simp; omega, hc, by show f ≤ max c f; omega, by show min _ t ≤ t; omega⟩
      · exact tl h
    · exact tl h
theorem cutZ_near {R : List (Nat × Nat)} {f t : Nat} (ht : t < 4294967296) {x : Nat × Nat} (hx : x ∈ cutZ R f t) {c a : Nat} (h1 : x.1 ≤ c) (_h2 : c ≤ a) (h3 : a ≤ x.2) : Near R c a := by
  obtain ⟨i, b, hb, k1, k2, _, _, k5⟩ := cutC_mem hx
  intro r hr
  have key : ∀ y, y ∈ Tr.ends R → ¬ (c < y ∧ y ≤ a) := fun y hy ⟨h4, h5⟩ => by
    have hm : y ∈ Tr.bnds R := (Tr.bnds_mem R y).2 ⟨hy, by omega⟩
    have := Tr.rising_gap (Tr.bnds_rise R) hb hm (by omega)
    omega
  obtain ⟨m1, m2⟩ := Tr.ends_mem hr
  exact ⟨key _ m1, key _ m2⟩
/-- All addresses, cut: the atoms. -/
theorem cutC_all {m : Nat} : ∀ {C : List Nat} {lo : Nat}, Tr.Rising lo m C → cutC m 0 (m - 1) C = (List.range C.length).map fun i => (C.getD i 0, Tr.endOf m (C.drop (i + 1)))
  | [], _, _ => rfl
  | c :: l, lo, hr => by
    have hc := hr.2.1
    have he : c ≤ Tr.endOf m l ∧ Tr.endOf m l ≤ m - 1 := by
      cases l with
      | nil => simp only [Tr.endOf]; omega
      | cons d l => have := hr.2.2.1; have := hr.2.2.2.1; simp only [Tr.endOf]; omega
    rw [cutC, if_pos (by omega), cutC_all hr.2.2, show max c 0 = c by omega, show min (Tr.endOf m l) (m - 1) = Tr.endOf m l by omega, List.length_cons, List.range_succ_eq_map, List.map_cons, List.map_map]
    congr 1
theorem cutZ_all (R : List (Nat × Nat)) : cutZ R 0 4294967295 = (List.range (Tr.bnds R).length).map fun i => ((Tr.bnds R).getD i 0, Tr.endOf 4294967296 ((Tr.bnds R).drop (i + 1))) := cutC_all (Tr.bnds_rise R)
theorem cutZ_len (R : List (Nat × Nat)) : (cutZ R 0 4294967295).length = (Tr.bnds R).length := by rw [cutZ_all]; simp
theorem cutC_len (m f t : Nat) : ∀ C : List Nat, (cutC m f t C).length ≤ C.length
  | [] => Nat.le_refl _
  | c :: l => by
    have := cutC_len m f t l
    rw [cutC]
    split <;> simp <;> omega
/-- Whether all are one of five. -/
theorem cnt_one {q : Nat → Bool} {n : Nat} (h : ∀ a, a < n → q a = true) : Zo.cnt q n = n := by
  induction n with
  | zero => rfl
  | succ n ih => simp only [Zo.cnt]; rw [ih (fun a ha => h a (by omega)), h n (by omega)]; rfl
theorem zn_count {x : List (Nat × Nat)} (hx : Zo.RZ 0 x ∧ Zo.Under 4294967296 x) {p : Nat → Bool} (h : ∀ a, a < 4294967296 → Zo.has x a = p a) : Zo.count x = Zo.cnt p 4294967296 := by
  rw [Zo.count_is x 0 4294967296 hx.1 hx.2]
  exact Zo.cnt_congr h
end Go.Proofs.YteboadppighplaaGreat
