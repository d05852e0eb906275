/- Texts of this seat, put together: RtPlain, RtZPlain, RtAPlain, LQ, LO, RtC0, RtZ1, RtZ2, RtZ3, RtD3, LR, Lb3, T5, LS, GN, LA, F3, F4, Lb2, LI. -/
import Derived.Test.YtlhfaildeemngaaGreatZ1
import Derived.WalkKit
import Derived.Outline
import Derived.Deep.CutRange
import Derived.Deep.DeepCutAuto
import Derived.Deep.RegionWith
import Derived.Deep.LoopGhost
import Derived.Deep.QuietTactic
import Derived.BigQuiet
import Derived.Deep.DeepMust
import Derived.Deep.DeepFit
import Derived.Deep.Light
import Derived.Deep.RegionHeld3
import Derived.Deep.AppendLies
import Derived.IntWalk
import Derived.Lib.Hide
import Derived.Shelf.Abstract
import Derived.Deep.AppendSrc
import Derived.StillTailTactics
import Derived.Shelf.RegionOpen
import Derived.Maps.AppendAt
import Derived.Deep.RegionLaw
import Derived.Laws.OwnMore
/- Plain mathematics of maps as lists of pairs by rising keys: what lies below a key and from it on, what it has, putting and dropping, floor and ceiling; and what these are of 'left ++ pair :: right'. No program. -/
namespace Go.Proofs.YtlhfaildeemngaaGreat.Tr

/-- Keys rise. -/
def Up (l : List (Int × Int)) : Prop := l.Pairwise fun a b => a.1 < b.1
def lowL (l : List (Int × Int)) (k : Int) : List (Int × Int) := l.filter fun p => decide (p.1 < k)
def highL (l : List (Int × Int)) (k : Int) : List (Int × Int) := l.filter fun p => decide (k ≤ p.1)
def gtL (l : List (Int × Int)) (k : Int) : List (Int × Int) := l.filter fun p => decide (k < p.1)
def getL (l : List (Int × Int)) (k : Int) : Option (Int × Int) := l.find? fun p => p.1 == k
def putL (l : List (Int × Int)) (k : Int) (v : Int) : List (Int × Int) := lowL l k ++ (k, v) :: gtL l k
def dropL (l : List (Int × Int)) (k : Int) : List (Int × Int) := lowL l k ++ gtL l k
def floorL (l : List (Int × Int)) (k : Int) : Option (Int × Int) := (l.filter fun p => decide (p.1 ≤ k)).getLast?
def ceilL (l : List (Int × Int)) (k : Int) : Option (Int × Int) := (highL l k).head?

theorem Up.nil : Up [] := List.Pairwise.nil
theorem Up.node {A B : List (Int × Int)} {x : Int × Int} (h : Up (A ++ x :: B)) : Up A ∧ Up B ∧ (∀ p ∈ A, p.1 < x.1) ∧ (∀ p ∈ B, x.1 < p.1) := by
  obtain ⟨h1, h2, h3⟩ := List.pairwise_append.1 h
  obtain ⟨h4, h5⟩ := List.pairwise_cons.1 h2
  exact ⟨h1, h5, fun p hp => h3 p hp x (by simp), fun p hp => h4 p hp⟩
theorem Up.mk {A B : List (Int × Int)} {x : Int × Int} (hA : Up A) (hB : Up B) (h1 : ∀ p ∈ A, p.1 < x.1) (h2 : ∀ p ∈ B, x.1 < p.1) : Up (A ++ x :: B) :=
  List.pairwise_append.2 ⟨hA, List.pairwise_cons.2 ⟨fun p hp => h2 p hp, hB⟩, fun p hp q hq => by
    rcases List.mem_cons.1 hq with e | hq
    · subst e; exact h1 p hp
    · have := h1 p hp; have := h2 q hq; omega⟩
theorem filter_all {l : List (Int × Int)} {f : Int × Int → Bool} (h : ∀ p ∈ l, f p = true) : l.filter f = l := List.filter_eq_self.2 h
theorem filter_no {l : List (Int × Int)} {f : Int × Int → Bool} (h : ∀ p ∈ l, f p = false) : l.filter f = [] := List.filter_eq_nil_iff.2 fun p hp => by rw [h p hp]; simp

section
variable {A B : List (Int × Int)} {x : Int × Int} {k : Int}
/-- The key lies below the pair, or at it. -/
theorem low_left (h : Up (A ++ x :: B)) (hk : k ≤ x.1) : lowL (A ++ x :: B) k = lowL A k := by
  obtain ⟨_, _, _, h4⟩ := h.node
  unfold lowL
  rw [List.filter_append, filter_no (l := x :: B), List.append_nil]
  intro p hp
  rcases List.mem_cons.1 hp with e | hp
  · subst e; simp; omega
  · have := h4 p hp; simp; omega
theorem high_left (h : Up (A ++ x :: B)) (hk : k ≤ x.1) : highL (A ++ x :: B) k = highL A k ++ x :: B := by
  obtain ⟨_, _, _, h4⟩ := h.node
  unfold highL
  rw [List.filter_append, filter_all (l := x :: B)]
  intro p hp
  rcases List.mem_cons.1 hp with e | hp
  · subst e; simpa using hk
  · have := h4 p hp; simp; omega
theorem gt_left (h : Up (A ++ x :: B)) (hk : k < x.1) : gtL (A ++ x :: B) k = gtL A k ++ x :: B := by
  obtain ⟨_, _, _, h4⟩ := h.node
  unfold gtL
  rw [List.filter_append, filter_all (l := x :: B)]
  intro p hp
  rcases List.mem_cons.1 hp with e | hp
  · subst e; simpa using hk
  · have := h4 p hp; simp; omega
/-- The key lies above the pair. -/
theorem low_right (h : Up (A ++ x :: B)) (hk : x.1 < k) : lowL (A ++ x :: B) k = A ++ x :: lowL B k := by
  obtain ⟨_, _, h3, _⟩ := h.node
  unfold lowL
  rw [List.filter_append, filter_all (l := A), List.filter_cons_of_pos (by simpa using hk)]
  intro p hp; have := h3 p hp; simp; omega
theorem high_right (h : Up (A ++ x :: B)) (hk : x.1 < k) : highL (A ++ x :: B) k = highL B k := by
  obtain ⟨_, _, h3, _⟩ := h.node
  unfold highL
  rw [List.filter_append, filter_no (l := A), List.filter_cons_of_neg (by simp; omega), List.nil_append]
  intro p hp; have := h3 p hp; simp; omega
theorem gt_right (h : Up (A ++ x :: B)) (hk : x.1 ≤ k) : gtL (A ++ x :: B) k = gtL B k := by
  obtain ⟨_, _, h3, _⟩ := h.node
  unfold gtL
  rw [List.filter_append, filter_no (l := A), List.filter_cons_of_neg (by simp; omega), List.nil_append]
  intro p hp; have := h3 p hp; simp; omega
theorem low_at (h : Up (A ++ x :: B)) : lowL (A ++ x :: B) x.1 = A := by
  obtain ⟨_, _, h3, _⟩ := h.node
  rw [low_left h (Int.le_refl _)]
  exact filter_all fun p hp => by simpa using h3 p hp
theorem gt_at (h : Up (A ++ x :: B)) : gtL (A ++ x :: B) x.1 = B := by
  obtain ⟨_, _, _, h4⟩ := h.node
  rw [gt_right h (Int.le_refl _)]
  exact filter_all fun p hp => by simpa using h4 p hp
theorem put_left (h : Up (A ++ x :: B)) (hk : k < x.1) (v : Int) : putL (A ++ x :: B) k v = putL A k v ++ x :: B := by
  unfold putL; rw [low_left h (by omega), gt_left h hk]; simp
theorem put_right (h : Up (A ++ x :: B)) (hk : x.1 < k) (v : Int) : putL (A ++ x :: B) k v = A ++ x :: putL B k v := by
  unfold putL; rw [low_right h hk, gt_right h (by omega)]; simp
theorem put_at (h : Up (A ++ x :: B)) (v : Int) : putL (A ++ x :: B) x.1 v = A ++ (x.1, v) :: B := by
  unfold putL; rw [low_at h, gt_at h]
theorem drop_left (h : Up (A ++ x :: B)) (hk : k < x.1) : dropL (A ++ x :: B) k = dropL A k ++ x :: B := by
  unfold dropL; rw [low_left h (by omega), gt_left h hk]; simp
theorem drop_right (h : Up (A ++ x :: B)) (hk : x.1 < k) : dropL (A ++ x :: B) k = A ++ x :: dropL B k := by
  unfold dropL; rw [low_right h hk, gt_right h (by omega)]; simp
theorem drop_at (h : Up (A ++ x :: B)) : dropL (A ++ x :: B) x.1 = A ++ B := by
  unfold dropL; rw [low_at h, gt_at h]
theorem get_left (h : Up (A ++ x :: B)) (hk : k < x.1) : getL (A ++ x :: B) k = getL A k := by
  obtain ⟨_, _, _, h4⟩ := h.node
  unfold getL
  rw [List.find?_append]
  have : (x :: B).find? (fun p => p.1 == k) = none := List.find?_eq_none.2 fun p hp => by
    rcases List.mem_cons.1 hp with e | hp
    · subst e; simp; omega
    · have := h4 p hp; simp; omega
  rw [this]; simp
theorem get_right (h : Up (A ++ x :: B)) (hk : x.1 < k) : getL (A ++ x :: B) k = getL B k := by
  obtain ⟨_, _, h3, _⟩ := h.node
  unfold getL
  have h1 : A.find? (fun p => p.1 == k) = none := List.find?_eq_none.2 fun p hp => by have := h3 p hp; simp; omega
  rw [List.find?_append, h1, List.find?_cons_of_neg (by simp; omega)]; rfl
theorem get_at (h : Up (A ++ x :: B)) : getL (A ++ x :: B) x.1 = some x := by
  obtain ⟨_, _, h3, _⟩ := h.node
  unfold getL
  have h1 : A.find? (fun p => p.1 == x.1) = none := List.find?_eq_none.2 fun p hp => by have := h3 p hp; simp; omega
  rw [List.find?_append, h1, List.find?_cons_of_pos (by simp)]; rfl
end
section
variable {l : List (Int × Int)} {k : Int}
theorem Up.low (h : Up l) (k : Int) : Up (lowL l k) := List.Pairwise.filter _ h
theorem Up.high (h : Up l) (k : Int) : Up (highL l k) := List.Pairwise.filter _ h
theorem Up.gt (h : Up l) (k : Int) : Up (gtL l k) := List.Pairwise.filter _ h
theorem Up.put (h : Up l) (k : Int) (v : Int) : Up (putL l k v) :=
  Up.mk (x := (k, v)) (h.low k) (h.gt k) (fun p hp => by simpa using (List.mem_filter.1 hp).2) (fun p hp => by simpa using (List.mem_filter.1 hp).2)
theorem Up.drop (h : Up l) (k : Int) : Up (dropL l k) :=
  List.pairwise_append.2 ⟨h.low k, h.gt k, fun p hp q hq => by
    have h1 := (List.mem_filter.1 hp).2
    have h2 := (List.mem_filter.1 hq).2
    simp at h1 h2; omega⟩
/-- What lies below, and what does not, are the whole. -/
theorem low_high (h : Up l) : lowL l k ++ highL l k = l := by
  induction l with
  | nil => rfl
  | cons x l ih =>
    obtain ⟨h1, h2⟩ := List.pairwise_cons.1 h
    by_cases hx : x.1 < k
    · have : lowL (x :: l) k = x :: lowL l k := List.filter_cons_of_pos (by simpa using hx)
      have : highL (x :: l) k = highL l k := List.filter_cons_of_neg (by simp; omega)
      simp [*, ih h2]
    · have e1 : lowL (x :: l) k = [] := filter_no fun p hp => by
        rcases List.mem_cons.1 hp with e | hp
        · subst e; simpa using hx
        · have := h1 p hp; simp; omega
      have e2 : highL (x :: l) k = x :: l := filter_all fun p hp => by
        rcases List.mem_cons.1 hp with e | hp
        · subst e; simp; omega
        · have := h1 p hp; simp; omega
      rw [e1, e2]; rfl
/-- The place of a key: how many lie below it. -/
theorem take_low (h : Up l) : l.take (lowL l k).length = lowL l k := by
  have e := List.take_left (l₁ := lowL l k) (l₂ := highL l k)
  rwa [low_high h] at e
theorem drop_low (h : Up l) : l.drop (lowL l k).length = highL l k := by
  have e := List.drop_left (l₁ := lowL l k) (l₂ := highL l k)
  rwa [low_high h] at e
/-- Whether the key is there: the first one that is not below. -/
theorem high_is (h : Up l) : (∃ v, highL l k = (k, v) :: gtL l k ∧ getL l k = some (k, v)) ∨ (highL l k = gtL l k ∧ getL l k = none) := by
  induction l with
  | nil => exact .inr ⟨rfl, rfl⟩
  | cons x l ih =>
    obtain ⟨h1, h2⟩ := List.pairwise_cons.1 h
    have h' : Up ([] ++ x :: l) := h
    rcases Int.lt_trichotomy x.1 k with hx | hx | hx
    · have e1 := high_right h' hx
      have e2 := gt_right h' (Int.le_of_lt hx)
      have e3 := get_right h' hx
      simp only [List.nil_append] at e1 e2 e3
      rw [e1, e2, e3]; exact ih h2
    · left
      subst hx
      have e1 := high_left h' (Int.le_refl _)
      have e2 := gt_at h'
      have e3 := get_at h'
      simp only [List.nil_append] at e1 e2 e3
      exact ⟨x.2, by rw [e1, e2]; rfl, e3⟩
    · right
      have e1 := high_left h' (Int.le_of_lt hx)
      have e2 := gt_left h' hx
      have e3 := get_left h' hx
      simp only [List.nil_append] at e1 e2 e3
      exact ⟨by rw [e1, e2]; rfl, by rw [e3]; rfl⟩
theorem put_len (h : Up l) (v : Int) : (putL l k v).length = if getL l k = none then l.length + 1 else l.length := by
  have e := congrArg List.length (low_high (k := k) h)
  rw [List.length_append] at e
  unfold putL
  rw [List.length_append, List.length_cons]
  rcases high_is (k := k) h with ⟨u, h1, h2⟩ | ⟨h1, h2⟩
  · rw [h2, if_neg (by simp)]; rw [h1, List.length_cons] at e; omega
  · rw [h2, if_pos rfl]; rw [h1] at e; omega
theorem drop_len (h : Up l) (hk : getL l k ≠ none) : (dropL l k).length + 1 = l.length := by
  have e := congrArg List.length (low_high (k := k) h)
  rw [List.length_append] at e
  unfold dropL
  rw [List.length_append]
  rcases high_is (k := k) h with ⟨u, h1, h2⟩ | ⟨h1, h2⟩
  · rw [h1, List.length_cons] at e; omega
  · exact absurd h2 hk
end
/-- A tree of pairs. -/
inductive Bt where
  | nil : Bt
  | node : Bt → Int × Int → Bt → Bt
def Bt.flat : Bt → List (Int × Int)
  | .nil => []
  | .node l x r => l.flat ++ x :: r.flat
def Bt.size : Bt → Nat
  | .nil => 0
  | .node l _ r => l.size + 1 + r.size
def Bt.ht : Bt → Nat
  | .nil => 0
  | .node l _ r => max l.ht r.ht + 1
theorem Bt.flat_len : ∀ t : Bt, t.flat.length = t.size
  | .nil => rfl
  | .node l x r => by simp [Bt.flat, Bt.size, l.flat_len, r.flat_len]; omega
/-- The two parts' heights differ by one at most, everywhere. -/
def Bt.even : Bt → Prop
  | .nil => True
  | .node l _ r => l.even ∧ r.even ∧ l.ht ≤ r.ht + 1 ∧ r.ht ≤ l.ht + 1
/-- How many keys, and one, an even tree has at least. -/
def least1 : Nat → Nat
  | 0 => 1
  | 1 => 2
  | h + 2 => least1 (h + 1) + least1 h
theorem least1_mono : ∀ h, least1 h ≤ least1 (h + 1)
  | 0 => by decide
  | h + 1 => by simp only [least1]; omega
theorem least1_le {a b : Nat} (h : a ≤ b) : least1 a ≤ least1 b := by
  induction h with
  | refl => exact Nat.le_refl _
  | step _ ih => exact Nat.le_trans ih (least1_mono _)
theorem least1_grow : ∀ h, 3 * least1 h ≤ 2 * least1 (h + 1)
  | 0 => by decide
  | 1 => by decide
  | h + 2 => by
    have h1 := least1_grow h
    have h2 := least1_grow (h + 1)
    have h3 : least1 (h + 2) = least1 (h + 1) + least1 h := rfl
    have h4 : least1 (h + 3) = least1 (h + 2) + least1 (h + 1) := rfl
    show 3 * least1 (h + 2) ≤ 2 * least1 (h + 3)
    omega
theorem least1_three (h : Nat) : 4 * least1 h ≤ least1 (h + 3) := by
  have h1 := least1_grow h
  have h3 : least1 (h + 2) = least1 (h + 1) + least1 h := rfl
  have h4 : least1 (h + 3) = least1 (h + 2) + least1 (h + 1) := rfl
  omega
theorem least1_pow : ∀ j r, 4 ^ j * least1 r ≤ least1 (3 * j + r)
  | 0, r => by simp
  | j + 1, r => by
    have h1 := least1_pow j r
    have h2 := least1_three (3 * j + r)
    have e : 3 * (j + 1) + r = 3 * j + r + 3 := by omega
    rw [e, Nat.pow_succ]
    have : 4 ^ j * 4 * least1 r = 4 * (4 ^ j * least1 r) := by rw [Nat.mul_comm (4 ^ j) 4, Nat.mul_assoc]
    omega
theorem Bt.even_size : ∀ t : Bt, t.even → least1 t.ht ≤ t.size + 1
  | .nil, _ => by decide
  | .node l x r, h => by
    obtain ⟨h1, h2, h3, h4⟩ := h
    have e1 := l.even_size h1
    have e2 := r.even_size h2
    simp only [Bt.ht, Bt.size]
    rcases Nat.le_total l.ht r.ht with hlr | hlr
    · rw [Nat.max_eq_right hlr]
      cases hr : r.ht with
      | zero => have : l.ht = 0 := by omega
                rw [hr] at e2; rw [this] at e1; simp only [least1] at *; omega
      | succ n =>
        rw [hr] at e2 h4
        have : least1 n ≤ least1 l.ht := least1_le (by omega)
        simp only [least1]; omega
    · rw [Nat.max_eq_left hlr]
      cases hl : l.ht with
      | zero => have : r.ht = 0 := by omega
                rw [hl] at e1; rw [this] at e2; simp only [least1] at *; omega
      | succ n =>
        rw [hl] at e1 h3
        have : least1 n ≤ least1 r.ht := least1_le (by omega)
        simp only [least1]; omega
/-- An even tree is low: of fewer than 2 ^ b keys and one, at most 3 b / 2 and 1. -/
theorem Bt.low {t : Bt} (h : t.even) {b : Nat} (hb : t.size + 1 < 2 ^ b) : t.ht ≤ 3 * b / 2 + 1 := by
  have h1 := t.even_size h
  rcases Nat.lt_or_ge (3 * b / 2 + 1) t.ht with hlt | hge
  · exfalso
    have h2 : 4 ^ (b / 2 + 0) * least1 (3 * b / 2 + 2 - 3 * (b / 2)) ≤ least1 (3 * (b / 2) + (3 * b / 2 + 2 - 3 * (b / 2))) := least1_pow _ _
    have e : 3 * (b / 2) + (3 * b / 2 + 2 - 3 * (b / 2)) = 3 * b / 2 + 2 := by omega
    rw [e] at h2
    have h3 : least1 (3 * b / 2 + 2) ≤ least1 t.ht := least1_le (by omega)
    have h4 : 2 ≤ 3 * b / 2 + 2 - 3 * (b / 2) := by omega
    have h5 : least1 2 ≤ least1 (3 * b / 2 + 2 - 3 * (b / 2)) := least1_le h4
    have h6 : least1 2 = 3 := rfl
    have h7 : 2 ^ b ≤ 4 ^ (b / 2 + 0) * 2 := by
      rw [Nat.add_zero, show (4 : Nat) = 2 ^ 2 from rfl, ← Nat.pow_mul, ← Nat.pow_succ]
      exact Nat.pow_le_pow_right (by omega) (by omega)
    have h8 : 4 ^ (b / 2 + 0) * 3 ≤ 4 ^ (b / 2 + 0) * least1 (3 * b / 2 + 2 - 3 * (b / 2)) := Nat.mul_le_mul_left _ (by omega)
    omega
  · exact hge

/-! What is asked of a tree, part by part. -/
def atL (l : List (Int × Int)) (i : Int) : Option (Int × Int) := if 0 ≤ i then l[i.toNat]? else none
section
variable {A B : List (Int × Int)} {x : Int × Int} {k : Int}
theorem floor_left (h : Up (A ++ x :: B)) (hk : k < x.1) : floorL (A ++ x :: B) k = floorL A k := by
  obtain ⟨_, _, _, h4⟩ := h.node
  unfold floorL
  rw [List.filter_append, filter_no (l := x :: B), List.append_nil]
  intro p hp
  rcases List.mem_cons.1 hp with e | hp
  · subst e; simp; omega
  · have := h4 p hp; simp; omega
theorem floor_right (_h : Up (A ++ x :: B)) (hk : x.1 ≤ k) : floorL (A ++ x :: B) k = (floorL B k).or (some x) := by
  unfold floorL
  rw [List.filter_append, List.filter_cons_of_pos (by simpa using hk), List.getLast?_append, List.getLast?_cons]
  cases h : (B.filter fun p => decide (p.1 ≤ k)).getLast? <;> simp
theorem ceil_left (h : Up (A ++ x :: B)) (hk : k ≤ x.1) : ceilL (A ++ x :: B) k = (ceilL A k).or (some x) := by
  unfold ceilL
  rw [high_left h hk, List.head?_append]; rfl
theorem ceil_right (h : Up (A ++ x :: B)) (hk : x.1 < k) : ceilL (A ++ x :: B) k = ceilL B k := by
  unfold ceilL
  rw [high_right h hk]
theorem at_left {i : Int} (hi : i < A.length) : atL (A ++ x :: B) i = atL A i := by
  unfold atL
  split
  · rw [List.getElem?_append_left (by omega)]
  · rfl
theorem at_mid : atL (A ++ x :: B) (A.length : Int) = some x := by
  unfold atL
  rw [if_pos (by omega), Int.toNat_natCast]
  simp
theorem at_right {i : Int} (hi : (A.length : Int) < i) : atL (A ++ x :: B) i = atL B (i - (A.length + 1)) := by
  unfold atL
  rw [if_pos (by omega), if_pos (by omega), List.getElem?_append_right (by omega), show i.toNat - A.length = (i - (A.length + 1)).toNat + 1 by omega]
  simp
end
theorem at_nil (i : Int) : atL [] i = none := by unfold atL; split <;> simp
theorem at_zero (l : List (Int × Int)) : atL l 0 = l.head? := by simp [atL]; cases l <;> simp
theorem get_nil (k : Int) : getL [] k = none := rfl
theorem get_key {l : List (Int × Int)} {k : Int} {x : Int × Int} (h : getL l k = some x) : x.1 = k := by
  have := List.find?_some h
  simpa using this

/-- A tree of two others and a pair between them: even, and at most one higher. -/
def Fit (l : Bt) (x : Int × Int) (r t : Bt) : Prop := t.flat = l.flat ++ x :: r.flat ∧ t.even ∧ l.ht ≤ t.ht ∧ r.ht ≤ t.ht ∧ t.ht ≤ max l.ht r.ht + 1
/-- The same, where the parts' heights differ by two at most. -/
def Lev (l : Bt) (x : Int × Int) (r t : Bt) : Prop := Fit l x r t ∧ (l.ht ≤ r.ht + 1 → r.ht ≤ l.ht + 1 → t.ht = max l.ht r.ht + 1)
theorem lev_bare {l r : Bt} {x : Int × Int} (hl : l.even) (hr : r.even) (h1 : l.ht ≤ r.ht + 1) (h2 : r.ht ≤ l.ht + 1) : Lev l x r (.node l x r) :=
  ⟨⟨rfl, ⟨hl, hr, h1, h2⟩, by simp only [Bt.ht]; omega, by simp only [Bt.ht]; omega, by simp only [Bt.ht]; omega⟩, fun _ _ => rfl⟩
/-- turnRight, its inner part parted. -/
theorem lev_right1 {ll il ir r : Bt} {lx ix x : Int × Int} (hl : (Bt.node ll lx (.node il ix ir)).even) (hr : r.even) (h2 : (Bt.node ll lx (.node il ix ir)).ht = r.ht + 2) (hin : ll.ht < (Bt.node il ix ir).ht) :
    Lev (.node ll lx (.node il ix ir)) x r (.node (.node ll lx il) ix (.node ir x r)) := by
  obtain ⟨e1, ⟨e2, e3, e4, e5⟩, e6, e7⟩ := hl
  simp only [Bt.ht] at *
  refine ⟨⟨by simp [Bt.flat], ⟨⟨e1, e2, by omega, by omega⟩, ⟨e3, hr, by omega, by omega⟩, ?_, ?_⟩, ?_, ?_, ?_⟩, ?_⟩ <;> simp only [Bt.ht] <;> omega
theorem lev_right2 {ll lr r : Bt} {lx x : Int × Int} (hl : (Bt.node ll lx lr).even) (hr : r.even) (h2 : (Bt.node ll lx lr).ht = r.ht + 2) (hin : lr.ht ≤ ll.ht) :
    Lev (.node ll lx lr) x r (.node ll lx (.node lr x r)) := by
  obtain ⟨e1, e2, e6, e7⟩ := hl
  simp only [Bt.ht] at *
  refine ⟨⟨by simp [Bt.flat], ⟨e1, ⟨e2, hr, by omega, by omega⟩, ?_, ?_⟩, ?_, ?_, ?_⟩, ?_⟩ <;> simp only [Bt.ht] <;> omega
theorem lev_left1 {l il ir rr : Bt} {x ix rx : Int × Int} (hl : l.even) (hr : (Bt.node (.node il ix ir) rx rr).even) (h2 : (Bt.node (.node il ix ir) rx rr).ht = l.ht + 2) (hin : rr.ht < (Bt.node il ix ir).ht) :
    Lev l x (.node (.node il ix ir) rx rr) (.node (.node l x il) ix (.node ir rx rr)) := by
  obtain ⟨⟨e2, e3, e4, e5⟩, e1, e6, e7⟩ := hr
  simp only [Bt.ht] at *
  refine ⟨⟨by simp [Bt.flat], ⟨⟨hl, e2, by omega, by omega⟩, ⟨e3, e1, by omega, by omega⟩, ?_, ?_⟩, ?_, ?_, ?_⟩, ?_⟩ <;> simp only [Bt.ht] <;> omega
theorem lev_left2 {l rl rr : Bt} {x rx : Int × Int} (hl : l.even) (hr : (Bt.node rl rx rr).even) (h2 : (Bt.node rl rx rr).ht = l.ht + 2) (hin : rl.ht ≤ rr.ht) :
    Lev l x (.node rl rx rr) (.node (.node l x rl) rx rr) := by
  obtain ⟨e1, e2, e6, e7⟩ := hr
  simp only [Bt.ht] at *
  refine ⟨⟨by simp [Bt.flat], ⟨⟨hl, e1, by omega, by omega⟩, e2, ?_, ?_⟩, ?_, ?_, ?_⟩, ?_⟩ <;> simp only [Bt.ht] <;> omega
/-- Going down the left part, which is higher. -/
theorem fit_down_left {ll lr r j t : Bt} {lx x : Int × Int} (hl : (Bt.node ll lx lr).even) (hgt : r.ht + 1 < (Bt.node ll lx lr).ht) (hj : Fit lr x r j) (ht : Lev ll lx j t) : Fit (.node ll lx lr) x r t := by
  obtain ⟨e1, e2, e6, e7⟩ := hl
  obtain ⟨j1, j2, j3, j4, j5⟩ := hj
  obtain ⟨⟨t1, t2, t3, t4, t5⟩, t6⟩ := ht
  simp only [Bt.ht] at *
  refine ⟨by rw [t1, j1]; simp [Bt.flat], t2, ?_, ?_, ?_⟩ <;> (try simp only [Bt.ht]) <;> omega
theorem fit_down_right {l rl rr j t : Bt} {x rx : Int × Int} (hr : (Bt.node rl rx rr).even) (hgt : l.ht + 1 < (Bt.node rl rx rr).ht) (hj : Fit l x rl j) (ht : Lev j rx rr t) : Fit l x (.node rl rx rr) t := by
  obtain ⟨e1, e2, e6, e7⟩ := hr
  obtain ⟨j1, j2, j3, j4, j5⟩ := hj
  obtain ⟨⟨t1, t2, t3, t4, t5⟩, t6⟩ := ht
  simp only [Bt.ht] at *
  refine ⟨by rw [t1, j1]; simp [Bt.flat], t2, ?_, ?_, ?_⟩ <;> (try simp only [Bt.ht]) <;> omega
/-- Then the heights differ by two at most. -/
theorem down_left_two {ll lr r j : Bt} {lx x : Int × Int} (hl : (Bt.node ll lx lr).even) (hgt : r.ht + 1 < (Bt.node ll lx lr).ht) (hj : Fit lr x r j) : ll.ht ≤ j.ht + 2 ∧ j.ht ≤ ll.ht + 2 := by
  obtain ⟨e1, e2, e6, e7⟩ := hl
  obtain ⟨j1, j2, j3, j4, j5⟩ := hj
  simp only [Bt.ht] at *
  omega
theorem down_right_two {l rl rr j : Bt} {x rx : Int × Int} (hr : (Bt.node rl rx rr).even) (hgt : l.ht + 1 < (Bt.node rl rx rr).ht) (hj : Fit l x rl j) : rr.ht ≤ j.ht + 2 ∧ j.ht ≤ rr.ht + 2 := by
  obtain ⟨e1, e2, e6, e7⟩ := hr
  obtain ⟨j1, j2, j3, j4, j5⟩ := hj
  simp only [Bt.ht] at *
  omega
theorem Fit.size {l r t : Bt} {x : Int × Int} (h : Fit l x r t) : t.size = l.size + 1 + r.size := by
  rw [← t.flat_len, ← l.flat_len, ← r.flat_len, h.1]; simp; omega
theorem Bt.ht_size : ∀ t : Bt, t.ht ≤ t.size
  | .nil => Nat.le_refl _
  | .node l _ r => by have := l.ht_size; have := r.ht_size; simp only [Bt.ht, Bt.size]; omega
theorem Bt.ht_zero (t : Bt) : t.ht = 0 ↔ t.flat = [] := by
  cases t with
  | nil => simp [Bt.ht, Bt.flat]
  | node l x r => simp [Bt.ht, Bt.flat]

/-- How many bits. -/
def blen (m : Nat) : Nat := if h : m = 0 then 0 else blen (m / 2) + 1
termination_by m
decreasing_by omega
theorem blen_zero : blen 0 = 0 := by unfold blen; simp
theorem blen_step {m : Nat} (h : 0 < m) : blen m = blen (m / 2) + 1 := by rw [blen]; rw [dif_neg (by omega)]
theorem blen_lt (m : Nat) : m < 2 ^ blen m := by
  induction m using Nat.strongRecOn with
  | _ m ih =>
    rcases Nat.eq_zero_or_pos m with rfl | h
    · rw [blen_zero]; decide
    · rw [blen_step h, Nat.pow_succ]
      have := ih (m / 2) (by omega)
      omega
theorem blen_le (m : Nat) : blen m ≤ m := by
  induction m using Nat.strongRecOn with
  | _ m ih =>
    rcases Nat.eq_zero_or_pos m with rfl | h
    · rw [blen_zero]; decide
    · rw [blen_step h]
      have := ih (m / 2) (by omega)
      omega
/-- T3's bound. -/
def highN (n : Nat) : Nat := 3 * blen (n + 1) / 2 + 1
theorem Bt.low_high {t : Bt} (h : t.even) : t.ht ≤ highN t.size := Bt.low h (blen_lt _)

/-! The document's place of a key. -/
section
variable {l : List (Int × Int)} {k : Int}
def posL (l : List (Int × Int)) (k : Int) : Nat := (lowL l k).length
theorem pos_le (h : Up l) : posL l k ≤ l.length := by
  have := congrArg List.length (low_high (k := k) h)
  rw [List.length_append] at this
  unfold posL; omega
theorem pos_before (h : Up l) {i : Nat} (hi : i < posL l k) (hl : i < l.length) : (l[i]).1 < k := by
  have e : l[i]? = (lowL l k)[i]? := by
    rw [← take_low (k := k) h, List.getElem?_take, if_pos (show i < (lowL l k).length from hi)]
  have hi' : i < (lowL l k).length := hi
  rw [List.getElem?_eq_getElem hl, List.getElem?_eq_getElem hi'] at e
  injection e with e
  rw [e]
  have := (List.mem_filter.1 (List.getElem_mem hi')).2
  simpa using this
theorem pos_at (h : Up l) (hl : posL l k < l.length) : k ≤ (l[posL l k]).1 ∧ l.drop (posL l k) = highL l k ∧ (highL l k).head? = some l[posL l k] := by
  have hd := drop_low (k := k) h
  have e1 : l.drop (posL l k) = l[posL l k] :: l.drop (posL l k + 1) := List.drop_eq_getElem_cons hl
  have hd' : l.drop (posL l k) = highL l k := hd
  have hm : l[posL l k] ∈ highL l k := by rw [← hd', e1]; exact List.mem_cons_self
  have := (List.mem_filter.1 hm).2
  exact ⟨by simpa using this, hd', by rw [← hd', e1]; rfl⟩
theorem pos_take (h : Up l) : l.take (posL l k) = lowL l k := take_low h
theorem pos_drop (h : Up l) : l.drop (posL l k) = highL l k := drop_low h
/-- The key is there: at its place. -/
theorem pos_is (h : Up l) : (∃ v, ∃ hl : posL l k < l.length, l[posL l k] = (k, v) ∧ getL l k = some (k, v) ∧ l.drop (posL l k + 1) = gtL l k) ∨ (getL l k = none ∧ l.drop (posL l k) = gtL l k ∧ (∀ hl : posL l k < l.length, k < (l[posL l k]).1)) := by
  have hd := pos_drop (k := k) h
  rcases high_is (k := k) h with ⟨v, h1, h2⟩ | ⟨h1, h2⟩
  · left
    rw [h1] at hd
    have hl : posL l k < l.length := by
      rcases Nat.lt_or_ge (posL l k) l.length with h | h
      · exact h
      · rw [List.drop_eq_nil_of_le h] at hd; cases hd
    rw [List.drop_eq_getElem_cons hl] at hd
    injection hd with e1 e2
    exact ⟨v, hl, e1, h2, e2⟩
  · right
    refine ⟨h2, by rw [hd, h1], fun hl => ?_⟩
    rw [h1, List.drop_eq_getElem_cons hl] at hd
    have : l[posL l k] ∈ gtL l k := by rw [← hd]; exact List.mem_cons_self
    have := (List.mem_filter.1 this).2
    simpa using this
theorem floor_none (_h : Up l) (hg : getL l k = none) : floorL l k = (lowL l k).getLast? := by
  unfold floorL lowL
  congr 1
  refine List.filter_congr fun p hp => ?_
  have : p.1 ≠ k := by
    intro e
    have := List.find?_eq_none.1 hg p hp
    simp [e] at this
  simp; omega
end
end Go.Proofs.YtlhfaildeemngaaGreat.Tr
/- Plain mathematics: the cuts of ranges, rising, each once. No program. -/
namespace Go.Proofs.YtlhfaildeemngaaGreat.Tr

/-- Rising cuts, from 'lo' on, below m. -/
def Rising : Nat → Nat → List Nat → Prop
  | _, _, [] => True
  | lo, m, c :: l => lo ≤ c ∧ c < m ∧ Rising (c + 1) m l
/-- The end of the stretch that begins at c, the next cuts being l. -/
def endOf (m : Nat) : List Nat → Nat
  | [] => m - 1
  | d :: _ => d - 1
theorem rising_mem : ∀ {l : List Nat} {lo m : Nat}, Rising lo m l → ∀ x ∈ l, lo ≤ x ∧ x < m
  | [], _, _, _, x, hx => by simp at hx
  | c :: l, lo, m, h, x, hx => by
    rcases List.mem_cons.1 hx with e | hx
    · subst e; exact ⟨h.1, h.2.1⟩
    · have := rising_mem h.2.2 x hx; have := h.1; omega
theorem rising_gap : ∀ {l : List Nat} {lo m i c x : Nat}, Rising lo m l → l[i]? = some c → x ∈ l → c < x → endOf m (l.drop (i + 1)) < x
  | [], _, _, _, _, _, _, _, hx, _ => by simp at hx
  | d :: l, lo, m, 0, c, x, h, hc, hx, hlt => by
    have e : d = c := by simpa using hc
    subst e
    rcases List.mem_cons.1 hx with e | hx
    · omega
    · cases l with
      | nil => simp at hx
      | cons e l =>
        have h1 : e ≤ x := by
          rcases List.mem_cons.1 hx with e1 | hx
          · omega
          · have := (rising_mem h.2.2.2.2 x hx).1; omega
        have := h.2.2.1
        show e - 1 < x; omega
  | d :: l, lo, m, i + 1, c, x, h, hc, hx, hlt => by
    have hc' : l[i]? = some c := by simpa using hc
    have hdc := (rising_mem h.2.2 c (List.mem_of_getElem? hc')).1
    rcases List.mem_cons.1 hx with e | hx
    · omega
    · have := rising_gap h.2.2 hc' hx hlt
      simpa using this
/-- All numbers fit in 39 bits. -/
def U32 (L : List (Nat × Nat)) : Prop := ∀ r ∈ L, r.1 < 4294967296 ∧ r.2 < 4294967296
theorem U32.at {z : List (Nat × Nat)} (h : U32 z) (k : Nat) (hk : k < z.length) : z[k].1 < 4294967296 ∧ z[k].2 < 4294967296 := h _ (List.getElem_mem hk)
/-- The least cut from lo on; m, if there is none. -/
def nx (m lo : Nat) (all : List Nat) : Nat := all.foldl (fun n x => if lo ≤ x ∧ x < n then x else n) m
theorem nx_fold (lo : Nat) : ∀ (all : List Nat) (m : Nat), (all.foldl (fun n x => if lo ≤ x ∧ x < n then x else n) m) ≤ m ∧ ((all.foldl (fun n x => if lo ≤ x ∧ x < n then x else n) m) = m ∨ ((all.foldl (fun n x => if lo ≤ x ∧ x < n then x else n) m) ∈ all ∧ lo ≤ (all.foldl (fun n x => if lo ≤ x ∧ x < n then x else n) m))) ∧ ∀ x ∈ all, lo ≤ x → (all.foldl (fun n x => if lo ≤ x ∧ x < n then x else n) m) ≤ x
  | [], m => ⟨Nat.le_refl _, .inl rfl, fun x hx => by simp at hx⟩
  | y :: all, m => by
    obtain ⟨h1, h2, h3⟩ := nx_fold lo all (if lo ≤ y ∧ y < m then y else m)
    rw [List.foldl_cons]
    refine ⟨?_, ?_, ?_⟩
    · have : (if lo ≤ y ∧ y < m then y else m) ≤ m := by split <;> omega
      omega
    · rcases h2 with h2 | h2
      · by_cases hy : lo ≤ y ∧ y < m
        · rw [if_pos hy] at h2
          simp only [if_pos hy]
          right; rw [h2]; exact ⟨by simp, hy.1⟩
        · rw [if_neg hy] at h2
          simp only [if_neg hy]
          left; exact h2
      · right; exact ⟨by simp [h2.1], h2.2⟩
    · intro x hx hlo
      rcases List.mem_cons.1 hx with e | hx
      · subst e
        by_cases hy : lo ≤ x ∧ x < m
        · rw [if_pos hy] at h1 ⊢; exact h1
        · rw [if_neg hy] at h1 ⊢; omega
      · exact h3 x hx hlo
theorem nx_snoc (m lo : Nat) (all : List Nat) (x : Nat) : nx m lo (all ++ [x]) = if lo ≤ x ∧ x < nx m lo all then x else nx m lo all := by unfold nx; rw [List.foldl_append]; rfl
/-- The cuts from lo on, rising, each once. -/
def cutsL (m lo : Nat) (all : List Nat) : List Nat := if h : lo ≤ nx m lo all ∧ nx m lo all < m then nx m lo all :: cutsL m (nx m lo all + 1) all else []
termination_by m - lo
decreasing_by omega
theorem nx_lo {m lo : Nat} {all : List Nat} (h : nx m lo all < m) : lo ≤ nx m lo all ∧ nx m lo all ∈ all := by
  obtain ⟨h1, h2, h3⟩ := nx_fold lo all m
  rcases h2 with h2 | h2
  · have : nx m lo all = m := h2
    omega
  · exact ⟨h2.2, h2.1⟩
theorem cutsL_cons {m lo : Nat} {all : List Nat} (h : nx m lo all < m) : cutsL m lo all = nx m lo all :: cutsL m (nx m lo all + 1) all := by
  rw [cutsL, dif_pos ⟨(nx_lo h).1, h⟩]
theorem cutsL_nil {m lo : Nat} {all : List Nat} (h : ¬ nx m lo all < m) : cutsL m lo all = [] := by
  rw [cutsL, dif_neg (by omega)]
theorem cutsL_spec (m : Nat) (all : List Nat) : ∀ (d lo : Nat), m - lo ≤ d → Rising lo m (cutsL m lo all) ∧ (∀ x ∈ all, lo ≤ x → x < m → x ∈ cutsL m lo all) := by
  intro d
  induction d with
  | zero =>
    intro lo hd
    by_cases h : nx m lo all < m
    · have := nx_lo h; omega
    · rw [cutsL_nil h]; exact ⟨trivial, fun x hx h1 h2 => by omega⟩
  | succ d ih =>
    intro lo hd
    by_cases h : nx m lo all < m
    · have h0 := nx_lo h
      obtain ⟨i1, i2⟩ := ih (nx m lo all + 1) (by omega)
      rw [cutsL_cons h]
      refine ⟨⟨h0.1, h, i1⟩, fun x hx h1 h2 => ?_⟩
      have h3 : nx m lo all ≤ x := (nx_fold lo all m).2.2 x hx h1
      by_cases e : x = nx m lo all
      · simp [e]
      · exact List.mem_cons_of_mem _ (i2 x hx (by omega) h2)
    · rw [cutsL_nil h]
      refine ⟨trivial, fun x hx h1 h2 => ?_⟩
      have h3 : nx m lo all ≤ x := (nx_fold lo all m).2.2 x hx h1
      omega
theorem cutsL_head {m : Nat} {all : List Nat} (h0 : 0 ∈ all) (hm : 0 < m) : (cutsL m 0 all).head? = some 0 := by
  have h3 : nx m 0 all ≤ 0 := (nx_fold 0 all m).2.2 0 h0 (Nat.le_refl _)
  have e : nx m 0 all = 0 := by omega
  rw [cutsL_cons (by omega), e]; rfl
theorem rising_len : ∀ {l : List Nat} {lo m : Nat}, Rising lo m l → lo + l.length ≤ m ∨ l = []
  | [], _, _, _ => .inr rfl
  | c :: l, lo, m, h => by
    left
    have h1 := h.1
    have h2 := h.2.1
    rcases rising_len h.2.2 with h3 | h3
    · simp only [List.length_cons]; omega
    · subst h3; simp; omega
/-- Where something may begin, of ranges. -/
def ends (l : List (Nat × Nat)) : List Nat := 0 :: l.flatMap fun r => [r.1, r.2 + 1]
theorem ends_snoc (l : List (Nat × Nat)) (r : Nat × Nat) : ends (l ++ [r]) = ends l ++ [r.1, r.2 + 1] := by simp [ends]
theorem ends_mem {l : List (Nat × Nat)} {r : Nat × Nat} (h : r ∈ l) : r.1 ∈ ends l ∧ r.2 + 1 ∈ ends l := by
  constructor <;> (unfold ends; refine List.mem_cons_of_mem _ (List.mem_flatMap.2 ⟨r, h, by simp⟩))
end Go.Proofs.YtlhfaildeemngaaGreat.Tr
/- Plain mathematics of atoms: how often keys stand, kept as pairs; boundaries; the atoms between them; which atom has an address. No program. -/
namespace Go.Proofs.YtlhfaildeemngaaGreat.Tr

/-- Two rising lists with the same members are one. -/
theorem rise_eq : ∀ {x y : List Int}, x.Pairwise (· < ·) → y.Pairwise (· < ·) → (∀ a, a ∈ x ↔ a ∈ y) → x = y
  | [], [], _, _, _ => rfl
  | [], b :: y, _, _, h => absurd ((h b).2 (by simp)) (by simp)
  | a :: x, [], _, _, h => absurd ((h a).1 (by simp)) (by simp)
  | a :: x, b :: y, hx, hy, h => by
    obtain ⟨hx1, hx2⟩ := List.pairwise_cons.1 hx
    obtain ⟨hy1, hy2⟩ := List.pairwise_cons.1 hy
    have e : a = b := by
      have h1 := (h a).1 (by simp)
      have h2 := (h b).2 (by simp)
      rcases List.mem_cons.1 h1 with e | h1
      · exact e
      · rcases List.mem_cons.1 h2 with e | h2
        · exact e.symm
        · have := hx1 b h2; have := hy1 a h1; omega
    subst e
    rw [rise_eq hx2 hy2 fun c => ?_]
    constructor
    · intro hc
      rcases List.mem_cons.1 ((h c).1 (by simp [hc])) with e | h1
      · have := hx1 c hc; omega
      · exact h1
    · intro hc
      rcases List.mem_cons.1 ((h c).2 (by simp [hc])) with e | h1
      · have := hy1 c hc; omega
      · exact h1

theorem get_mem {l : List (Int × Int)} {k : Int} : getL l k ≠ none ↔ k ∈ l.map (·.1) := by
  unfold getL
  rw [Ne, List.find?_eq_none]
  simp only [beq_iff_eq, List.mem_map]
  constructor
  · intro h
    apply Classical.byContradiction
    intro hn
    exact h fun x hx e => hn ⟨x, hx, e⟩
  · rintro ⟨x, hx, e⟩ h
    exact h x hx e
theorem low_mem {l : List (Int × Int)} {k : Int} {p : Int × Int} : p ∈ lowL l k ↔ p ∈ l ∧ p.1 < k := by unfold lowL; simp
theorem gt_mem {l : List (Int × Int)} {k : Int} {p : Int × Int} : p ∈ gtL l k ↔ p ∈ l ∧ k < p.1 := by unfold gtL; simp
theorem get_iff {l : List (Int × Int)} (hu : Up l) {k : Int} {p : Int × Int} : getL l k = some p ↔ p ∈ l ∧ p.1 = k := by
  constructor
  · intro h
    exact ⟨List.mem_of_find?_eq_some h, get_key h⟩
  · rintro ⟨h1, rfl⟩
    obtain ⟨A, B, rfl⟩ := List.append_of_mem h1
    exact get_at hu
theorem get_put {l : List (Int × Int)} (hu : Up l) (k v j : Int) : getL (putL l k v) j = if j = k then some (k, v) else getL l j := by
  have hp := hu.put k v
  by_cases h : j = k
  · subst h
    rw [if_pos rfl, get_iff hp]
    exact ⟨by unfold putL; simp, rfl⟩
  · rw [if_neg h]
    cases hg : getL l j with
    | some p =>
      rw [get_iff hu] at hg
      rw [get_iff hp]
      refine ⟨?_, hg.2⟩
      unfold putL
      rw [List.mem_append, List.mem_cons, low_mem, gt_mem]
      have := hg.2
      rcases Int.lt_trichotomy p.1 k with h1 | h1 | h1
      · exact .inl ⟨hg.1, h1⟩
      · omega
      · exact .inr (.inr ⟨hg.1, h1⟩)
    | none =>
      cases hq : getL (putL l k v) j with
      | none => rfl
      | some p =>
        rw [get_iff hp] at hq
        exfalso
        have h1 := hq.1
        unfold putL at h1
        rw [List.mem_append, List.mem_cons, low_mem, gt_mem] at h1
        have hm : p ∈ l := by
          rcases h1 with h1 | h1 | h1
          · exact h1.1
          · exact absurd (hq.2.symm.trans (by rw [h1])) h
          · exact h1.1
        have := (get_iff hu).2 ⟨hm, hq.2⟩
        rw [hg] at this
        cases this
theorem get_drop {l : List (Int × Int)} (hu : Up l) (k j : Int) : getL (dropL l k) j = if j = k then none else getL l j := by
  have hp := hu.drop k
  cases hq : getL (dropL l k) j with
  | some p =>
    rw [get_iff hp] at hq
    have h1 := hq.1
    unfold dropL at h1
    rw [List.mem_append, low_mem, gt_mem] at h1
    have hjk : ¬ j = k := by have := hq.2; rcases h1 with h1 | h1 <;> omega
    rw [if_neg hjk]
    exact ((get_iff hu).2 ⟨by rcases h1 with h1 | h1 <;> exact h1.1, hq.2⟩).symm
  | none =>
    by_cases h : j = k
    · rw [if_pos h]
    · rw [if_neg h]
      cases hg : getL l j with
      | none => rfl
      | some p =>
        rw [get_iff hu] at hg
        have : getL (dropL l k) j = some p := by
          rw [get_iff hp]
          refine ⟨?_, hg.2⟩
          unfold dropL
          rw [List.mem_append, low_mem, gt_mem]
          have := hg.2
          rcases Int.lt_trichotomy p.1 k with h1 | h1 | h1
          · exact .inl ⟨hg.1, h1⟩
          · omega
          · exact .inr ⟨hg.1, h1⟩
        rw [hq] at this
        cases this

/-- Pairs that tell how often each key stands. -/
def Tal (P : List (Int × Int)) (f : Int → Nat) : Prop := Up P ∧ ∀ k, getL P k = if f k = 0 then none else some (k, (f k : Int))
theorem Tal.nil : Tal [] (fun _ => 0) := ⟨Up.nil, fun _ => rfl⟩
theorem Tal.more {P : List (Int × Int)} {f : Int → Nat} (h : Tal P f) (k : Int) {n : Int} (hn : n = (f k : Int) + 1) : Tal (putL P k n) (fun j => f j + if j = k then 1 else 0) := by
  refine ⟨h.1.put k n, fun j => ?_⟩
  rw [get_put h.1]
  by_cases e : j = k
  · subst e; simp [hn]
  · simp only [if_neg e, h.2 j, Nat.add_zero]
theorem Tal.less {P : List (Int × Int)} {f g : Int → Nat} (h : Tal P f) (k : Int) {n : Int} (hn : n = (f k : Int) - 1) (h2 : 1 < f k) (hg : ∀ j, f j = g j + if j = k then 1 else 0) : Tal (putL P k n) g := by
  refine ⟨h.1.put k n, fun j => ?_⟩
  rw [get_put h.1]
  have hj := hg j
  by_cases e : j = k
  · subst e
    rw [if_pos rfl] at hj ⊢
    rw [if_neg (by omega), hn, show ((f j : Nat) : Int) - 1 = (g j : Int) by omega]
  · rw [if_neg e] at hj ⊢
    rw [h.2 j, hj]; rfl
theorem Tal.gone {P : List (Int × Int)} {f g : Int → Nat} (h : Tal P f) (k : Int) (h2 : f k = 1) (hg : ∀ j, f j = g j + if j = k then 1 else 0) : Tal (dropL P k) g := by
  refine ⟨h.1.drop k, fun j => ?_⟩
  rw [get_drop h.1]
  have hj := hg j
  by_cases e : j = k
  · subst e
    rw [if_pos rfl] at hj ⊢
    rw [if_pos (by omega)]
  · rw [if_neg e] at hj ⊢
    rw [h.2 j, hj]; rfl
theorem Tal.mem {P : List (Int × Int)} {f : Int → Nat} (h : Tal P f) (k : Int) : k ∈ P.map (·.1) ↔ 0 < f k := by
  rw [← get_mem, h.2 k]
  by_cases e : f k = 0
  · simp [e]
  · simp [e]; omega
theorem Tal.rise {P : List (Int × Int)} {f : Int → Nat} (h : Tal P f) : (P.map (·.1)).Pairwise (· < ·) := by
  rw [List.pairwise_map]; exact h.1
theorem rise_len : ∀ {x ks : List Int}, x.Pairwise (· < ·) → (∀ a ∈ x, a ∈ ks) → x.length ≤ ks.length
  | [], _, _, _ => Nat.zero_le _
  | a :: x, ks, hx, h => by
    obtain ⟨h1, h2⟩ := List.pairwise_cons.1 hx
    have hm := h a (by simp)
    have := rise_len (ks := ks.erase a) h2 fun b hb => (List.mem_erase_of_ne (by have := h1 b hb; omega)).2 (h b (by simp [hb]))
    rw [List.length_erase_of_mem hm] at this
    have : 0 < ks.length := List.length_pos_of_mem hm
    simp only [List.length_cons]; omega

/-- A range's boundaries above 0. -/
def cutsR (r : Nat × Nat) : List Int := (if 0 < r.1 then [(r.1 : Int)] else []) ++ (if r.2 < 4294967295 then [(r.2 : Int) + 1] else [])
/-- A range's key. -/
def keyI (r : Nat × Nat) : Int := (r.1 : Int) * 4294967296 + (r.2 : Int)
def nC (L : List (Nat × Nat)) (k : Int) : Nat := (L.flatMap cutsR).count k
def nR (L : List (Nat × Nat)) (k : Int) : Nat := (L.map keyI).count k
theorem nC_nil : nC [] = fun _ => 0 := rfl
theorem nR_nil : nR [] = fun _ => 0 := rfl
theorem nC_perm {L M : List (Nat × Nat)} (h : L.Perm M) : nC L = nC M := funext fun k => (h.flatMap_right cutsR).count_eq k
theorem nR_perm {L M : List (Nat × Nat)} (h : L.Perm M) : nR L = nR M := funext fun k => (h.map keyI).count_eq k
theorem nC_cons (r : Nat × Nat) (L : List (Nat × Nat)) (k : Int) : nC (r :: L) k = (cutsR r).count k + nC L k := by unfold nC; rw [List.flatMap_cons, List.count_append]
theorem nR_cons (r : Nat × Nat) (L : List (Nat × Nat)) (k : Int) : nR (r :: L) k = nR L k + if k = keyI r then 1 else 0 := by
  unfold nR
  rw [List.map_cons, List.count_cons]
  by_cases h : k = keyI r
  · subst h; simp
  · rw [if_neg h, if_neg (by simpa using fun e => h e.symm)]
theorem snoc_perm (L : List (Nat × Nat)) (r : Nat × Nat) : (L ++ [r]).Perm (r :: L) := List.perm_append_singleton r L
theorem nC_snoc (r : Nat × Nat) (L : List (Nat × Nat)) (k : Int) : nC (L ++ [r]) k = nC L k + (cutsR r).count k := by rw [nC_perm (snoc_perm L r), nC_cons]; omega
theorem nR_snoc (r : Nat × Nat) (L : List (Nat × Nat)) (k : Int) : nR (L ++ [r]) k = nR L k + if k = keyI r then 1 else 0 := by rw [nR_perm (snoc_perm L r), nR_cons]
theorem nC_erase {r : Nat × Nat} {L : List (Nat × Nat)} (h : r ∈ L) (k : Int) : nC L k = nC (L.erase r) k + (cutsR r).count k := by rw [nC_perm (List.perm_cons_erase h), nC_cons]; omega
theorem nR_erase {r : Nat × Nat} {L : List (Nat × Nat)} (h : r ∈ L) (k : Int) : nR L k = nR (L.erase r) k + if k = keyI r then 1 else 0 := by rw [nR_perm (List.perm_cons_erase h), nR_cons]

/-- Right ranges, no more than may be. -/
def RL (L : List (Nat × Nat)) : Prop := (∀ r ∈ L, r.1 ≤ r.2 ∧ r.2 < 4294967296) ∧ L.length ≤ 500
theorem RL.nil : RL [] := ⟨fun r h => by simp at h, by simp⟩
theorem RL.perm {L M : List (Nat × Nat)} (h : RL L) (hp : L.Perm M) : RL M := ⟨fun r hr => h.1 r (hp.mem_iff.2 hr), hp.length_eq ▸ h.2⟩
theorem RL.u32 {L : List (Nat × Nat)} (h : RL L) : U32 L := fun r hr => by have := h.1 r hr; omega
theorem RL.snoc {L : List (Nat × Nat)} {r : Nat × Nat} (h : RL L) (h1 : r.1 ≤ r.2) (h2 : r.2 < 4294967296) (h3 : L.length < 500) : RL (L ++ [r]) := by
  refine ⟨fun q hq => ?_, by simp; omega⟩
  rcases List.mem_append.1 hq with hq | hq
  · exact h.1 q hq
  · simp at hq; subst hq; exact ⟨h1, h2⟩
theorem RL.erase {L : List (Nat × Nat)} (h : RL L) (r : Nat × Nat) : RL (L.erase r) :=
  ⟨fun q hq => h.1 q (List.mem_of_mem_erase hq), Nat.le_trans List.length_erase_le h.2⟩
theorem keyI_inj {r s : Nat × Nat} (hr : r.2 < 4294967296) (hs : s.2 < 4294967296) (h : keyI r = keyI s) : r = s := by
  unfold keyI at h
  have h1 : r.1 = s.1 := by omega
  exact Prod.ext h1 (by omega)
theorem nR_count {L : List (Nat × Nat)} (h : RL L) {r : Nat × Nat} (hr : r.2 < 4294967296) : nR L (keyI r) = L.count r := by
  have h1 := h.1
  clear h
  induction L with
  | nil => rfl
  | cons q L ih =>
    rw [nR_cons, ih fun s hs => h1 s (by simp [hs]), List.count_cons]
    by_cases e : q = r
    · subst e; simp
    · have e3 : ¬ keyI r = keyI q := fun e2 => e (keyI_inj (h1 q (by simp)).2 hr e2.symm)
      rw [if_neg e3, if_neg (by simpa using e)]
theorem cutsR_pos {r : Nat × Nat} {k : Int} (h : k ∈ cutsR r) : 0 < k := by
  unfold cutsR at h
  rcases List.mem_append.1 h with h | h <;> (split at h <;> simp at h <;> omega)
theorem cutsR_mem {r : Nat × Nat} (h2 : r.2 < 4294967296) (h1 : r.1 ≤ r.2) {k : Int} : k ∈ cutsR r ↔ 0 < k ∧ k < 4294967296 ∧ (k = r.1 ∨ k = (r.2 : Int) + 1) := by
  unfold cutsR
  rw [List.mem_append]
  constructor
  · rintro (h | h) <;> (split at h <;> simp at h <;> omega)
  · rintro ⟨h3, h4, h | h⟩
    · left; rw [if_pos (by omega)]; simp [h]
    · right; rw [if_pos (by omega)]; simp [h]
theorem nC_pos {L : List (Nat × Nat)} (h : RL L) {k : Int} : 0 < nC L k ↔ 0 < k ∧ k < 4294967296 ∧ ∃ r ∈ L, k = r.1 ∨ k = (r.2 : Int) + 1 := by
  unfold nC
  rw [List.count_pos_iff, List.mem_flatMap]
  constructor
  · rintro ⟨r, hr, hk⟩
    obtain ⟨h1, h2, h3⟩ := (cutsR_mem (h.1 r hr).2 (h.1 r hr).1).1 hk
    exact ⟨h1, h2, r, hr, h3⟩
  · rintro ⟨h1, h2, r, hr, h3⟩
    exact ⟨r, hr, (cutsR_mem (h.1 r hr).2 (h.1 r hr).1).2 ⟨h1, h2, h3⟩⟩
theorem cutsR_len (r : Nat × Nat) : (cutsR r).length ≤ 2 := by unfold cutsR; rw [List.length_append]; split <;> split <;> simp
theorem flat_len (L : List (Nat × Nat)) : (L.flatMap cutsR).length ≤ 2 * L.length := by
  induction L with
  | nil => simp
  | cons r L ih => rw [List.flatMap_cons, List.length_append]; have := cutsR_len r; simp only [List.length_cons]; omega
theorem tal_len {P : List (Int × Int)} {L : List (Nat × Nat)} (h : Tal P (nC L)) : P.length ≤ 2 * L.length := by
  have := rise_len (ks := L.flatMap cutsR) h.rise fun a ha => List.count_pos_iff.1 ((h.mem a).1 ha)
  have := flat_len L
  simp at *; omega
theorem talR_len {P : List (Int × Int)} {L : List (Nat × Nat)} (h : Tal P (nR L)) : P.length ≤ L.length := by
  have := rise_len (ks := L.map keyI) h.rise fun a ha => List.count_pos_iff.1 ((h.mem a).1 ha)
  simp at *; omega

/-- The boundaries of ranges. -/
def bnds (L : List (Nat × Nat)) : List Nat := cutsL 4294967296 0 (ends L)
theorem cutsL_in (m : Nat) (all : List Nat) : ∀ (d lo : Nat), m - lo ≤ d → ∀ x ∈ cutsL m lo all, x ∈ all := by
  intro d
  induction d with
  | zero =>
    intro lo hd x hx
    by_cases h : nx m lo all < m
    · have := nx_lo h; omega
    · rw [cutsL_nil h] at hx; simp at hx
  | succ d ih =>
    intro lo hd x hx
    by_cases h : nx m lo all < m
    · rw [cutsL_cons h] at hx
      have h0 := nx_lo h
      rcases List.mem_cons.1 hx with e | hx
      · rw [e]; exact h0.2
      · exact ih _ (by omega) x hx
    · rw [cutsL_nil h] at hx; simp at hx
theorem bnds_rise (L : List (Nat × Nat)) : Rising 0 4294967296 (bnds L) := (cutsL_spec 4294967296 (ends L) 4294967296 0 (by omega)).1
theorem bnds_mem (L : List (Nat × Nat)) (x : Nat) : x ∈ bnds L ↔ x ∈ ends L ∧ x < 4294967296 := by
  constructor
  · intro h; exact ⟨cutsL_in _ _ 4294967296 0 (by omega) x h, (rising_mem (bnds_rise L) x h).2⟩
  · rintro ⟨h1, h2⟩
    exact (cutsL_spec 4294967296 (ends L) 4294967296 0 (by omega)).2 x h1 (by omega) h2
theorem mem_ends {L : List (Nat × Nat)} {x : Nat} : x ∈ ends L ↔ x = 0 ∨ ∃ r ∈ L, x = r.1 ∨ x = r.2 + 1 := by
  unfold ends
  rw [List.mem_cons, List.mem_flatMap]
  simp
theorem bnds_cons (L : List (Nat × Nat)) : ∃ T, bnds L = 0 :: T := by
  have h := cutsL_head (m := 4294967296) (all := ends L) (by simp [ends]) (by omega)
  change (bnds L).head? = some 0 at h
  cases hb : bnds L with
  | nil => rw [hb] at h; cases h
  | cons c T => rw [hb] at h; simp at h; exact ⟨T, by rw [h]⟩
theorem rising_pw : ∀ {l : List Nat} {lo m : Nat}, Rising lo m l → (l.map (fun c : Nat => (c : Int))).Pairwise (· < ·)
  | [], _, _, _ => List.Pairwise.nil
  | c :: l, lo, m, h => by
    rw [List.map_cons, List.pairwise_cons]
    refine ⟨fun a ha => ?_, rising_pw h.2.2⟩
    obtain ⟨x, hx, rfl⟩ := List.mem_map.1 ha
    have := (rising_mem h.2.2 x hx).1
    omega
theorem bnds_perm {L M : List (Nat × Nat)} (h : ∀ r, r ∈ L ↔ r ∈ M) : bnds L = bnds M := by
  have e : (bnds L).map (fun c : Nat => (c : Int)) = (bnds M).map (fun c : Nat => (c : Int)) := by
    refine rise_eq (rising_pw (bnds_rise L)) (rising_pw (bnds_rise M)) fun a => ?_
    rw [List.mem_map, List.mem_map]
    have key : ∀ x, x ∈ bnds L ↔ x ∈ bnds M := fun x => by
      rw [bnds_mem, bnds_mem, mem_ends, mem_ends]
      simp only [h]
    simp only [key]
  have := congrArg (List.map Int.toNat) e
  rw [List.map_map, List.map_map] at this
  have hid : (Int.toNat ∘ fun c : Nat => (c : Int)) = id := funext fun c => by simp
  rw [hid, List.map_id, List.map_id] at this
  exact this
/-- The boundaries above 0 are the keys of the pairs that tell how often they stand. -/
theorem bnds_keys {P : List (Int × Int)} {L : List (Nat × Nat)} (hL : RL L) (h : Tal P (nC L)) : bnds L = 0 :: P.map (fun p => p.1.toNat) ∧ ∀ p ∈ P, 0 < p.1 ∧ p.1 < 4294967296 := by
  obtain ⟨T, hT⟩ := bnds_cons L
  have hr := bnds_rise L
  rw [hT] at hr
  have hrT : Rising 1 4294967296 T := hr.2.2
  have hp : ∀ p ∈ P, 0 < p.1 ∧ p.1 < 4294967296 := fun p hp => by
    have := (nC_pos hL).1 ((h.mem p.1).1 (List.mem_map.2 ⟨p, hp, rfl⟩))
    exact ⟨this.1, this.2.1⟩
  refine ⟨?_, hp⟩
  have e : P.map (·.1) = T.map (fun c : Nat => (c : Int)) := by
    refine rise_eq h.rise (rising_pw hrT) fun a => ?_
    rw [h.mem, nC_pos hL]
    constructor
    · rintro ⟨h1, h2, r, hr', h3⟩
      have hm : a.toNat ∈ bnds L := by
        rw [bnds_mem, mem_ends]
        exact ⟨.inr ⟨r, hr', by omega⟩, by omega⟩
      rw [hT] at hm
      rcases List.mem_cons.1 hm with e | hm
      · omega
      · exact List.mem_map.2 ⟨_, hm, by omega⟩
    · intro ha
      obtain ⟨x, hx, rfl⟩ := List.mem_map.1 ha
      have h1 := rising_mem hrT x hx
      have hm : x ∈ bnds L := by rw [hT]; simp [hx]
      rw [bnds_mem, mem_ends] at hm
      refine ⟨by omega, by omega, ?_⟩
      rcases hm.1 with e | ⟨r, hr', h3⟩
      · omega
      · exact ⟨r, hr', by omega⟩
  have := congrArg (List.map Int.toNat) e
  rw [List.map_map, List.map_map] at this
  have hid : (Int.toNat ∘ fun c : Nat => (c : Int)) = id := funext fun c => by simp
  rw [hid, List.map_id] at this
  rw [hT, ← this]
  rfl
theorem bnds_len {P : List (Int × Int)} {L : List (Nat × Nat)} (hL : RL L) (h : Tal P (nC L)) : (bnds L).length = P.length + 1 := by
  rw [(bnds_keys hL h).1]; simp

/-- The i-th atom. -/
def frm (C : List Nat) (i : Nat) : Nat := C.getD i 0
def too (C : List Nat) (i : Nat) : Nat := endOf 4294967296 (C.drop (i + 1))
/-- How many boundaries lie not above an address; but the first one. -/
def ofL (C : List Nat) (a : Nat) : Nat := (C.tail.filter fun c => decide (c ≤ a)).length
theorem too_in {C : List Nat} {i : Nat} (h : i + 1 < C.length) : too C i = C[i + 1] - 1 := by unfold too; rw [List.drop_eq_getElem_cons h]; rfl
theorem too_last {C : List Nat} {i : Nat} (h : C.length ≤ i + 1) : too C i = 4294967295 := by unfold too; rw [List.drop_eq_nil_of_le h]; rfl
theorem frm_in {C : List Nat} {i : Nat} (h : i < C.length) : frm C i = C[i] := by unfold frm; simp [h]
theorem rising_at : ∀ {l : List Nat} {lo m : Nat}, Rising lo m l → ∀ i j (hi : i < l.length) (hj : j < l.length), i < j → l[i] < l[j]
  | [], _, _, _, i, _, hi, _, _ => by simp at hi
  | c :: l, lo, m, h, i, 0, _, _, hij => by omega
  | c :: l, lo, m, h, 0, j + 1, _, hj, _ => by
    have hj' : j < l.length := by simpa using hj
    have := (rising_mem h.2.2 l[j] (List.getElem_mem hj')).1
    simp only [List.getElem_cons_zero, List.getElem_cons_succ]; omega
  | c :: l, lo, m, h, i + 1, j + 1, hi, hj, hij => by
    have := rising_at h.2.2 i j (by simpa using hi) (by simpa using hj) (by omega)
    simpa using this
theorem filter_le : ∀ {l : List Nat} {lo m : Nat} (a : Nat), Rising lo m l → (l.filter fun c => decide (c ≤ a)).length ≤ l.length ∧ ∀ i (h : i < l.length), (i < (l.filter fun c => decide (c ≤ a)).length ↔ l[i] ≤ a)
  | [], _, _, a, _ => ⟨by simp, fun i h => by simp at h⟩
  | c :: l, lo, m, a, hr => by
    refine ⟨List.length_filter_le _ _, fun i h => ?_⟩
    obtain ⟨_, h2⟩ := filter_le a hr.2.2
    by_cases hc : c ≤ a
    · rw [List.filter_cons_of_pos (by simpa using hc)]
      match i with
      | 0 => simp; exact hc
      | i + 1 =>
        have := h2 i (by simpa using h)
        simp only [List.length_cons, List.getElem_cons_succ]
        rw [← this]; omega
    · rw [List.filter_cons_of_neg (by simpa using hc)]
      have hz : (l.filter fun c => decide (c ≤ a)) = [] := by
        rw [List.filter_eq_nil_iff]
        intro x hx
        have := (rising_mem hr.2.2 x hx).1
        simp; omega
      rw [hz]
      have h3 : c ≤ (c :: l)[i] := by
        match i with
        | 0 => simp
        | i + 1 =>
          have h' : i < l.length := by simpa using h
          have := (rising_mem hr.2.2 l[i] (List.getElem_mem h')).1
          simp only [List.getElem_cons_succ]; omega
      simp only [List.length_nil]; omega
/-- Boundaries: rising, from 0 on. -/
def Bd (C : List Nat) : Prop := Rising 0 4294967296 C ∧ ∃ T, C = 0 :: T
theorem bd_of (L : List (Nat × Nat)) : Bd (bnds L) := ⟨bnds_rise L, bnds_cons L⟩
theorem Bd.pos {C : List Nat} (h : Bd C) : 0 < C.length := by obtain ⟨_, T, rfl⟩ := h; simp
theorem Bd.zero {C : List Nat} (h : Bd C) : C[0]'h.pos = 0 := by obtain ⟨_, T, rfl⟩ := h; rfl
theorem Bd.lt {C : List Nat} (h : Bd C) {i : Nat} (hi : i < C.length) : C[i] < 4294967296 := (rising_mem h.1 _ (List.getElem_mem hi)).2
theorem Bd.frm_le {C : List Nat} (h : Bd C) {i : Nat} (hi : i < C.length) : frm C i ≤ too C i ∧ too C i < 4294967296 := by
  rw [frm_in hi]
  have := h.lt hi
  by_cases h1 : i + 1 < C.length
  · have := rising_at h.1 i (i + 1) hi h1 (by omega); have := h.lt h1; rw [too_in h1]; omega
  · rw [too_last (by omega)]; omega
theorem Bd.next {C : List Nat} (h : Bd C) {i : Nat} (hi : i + 1 < C.length) : frm C (i + 1) = too C i + 1 := by
  have := rising_at h.1 i (i + 1) (by omega) hi (by omega)
  rw [frm_in hi, too_in hi]; omega
theorem Bd.of_le {C : List Nat} (h : Bd C) (a : Nat) : ofL C a < C.length := by
  obtain ⟨h1, T, rfl⟩ := h
  have := (filter_le a h1.2.2).1
  unfold ofL; simp only [List.tail_cons, List.length_cons]; omega
theorem Bd.of_iff {C : List Nat} (h : Bd C) (a i : Nat) (hi : i < C.length) : i ≤ ofL C a ↔ frm C i ≤ a := by
  rw [frm_in hi]
  obtain ⟨h1, T, rfl⟩ := h
  match i with
  | 0 => simp
  | i + 1 =>
    have := (filter_le a h1.2.2).2 i (by simpa using hi)
    unfold ofL; simp only [List.tail_cons, List.getElem_cons_succ]
    rw [← this]; omega
/-- The atom that has an address. -/
theorem Bd.of_in {C : List Nat} (h : Bd C) {a : Nat} (ha : a < 4294967296) : frm C (ofL C a) ≤ a ∧ a ≤ too C (ofL C a) := by
  have hl := h.of_le a
  refine ⟨(h.of_iff a _ hl).1 (Nat.le_refl _), ?_⟩
  by_cases h1 : ofL C a + 1 < C.length
  · have h2 := h.of_iff a _ h1
    have : ¬ frm C (ofL C a + 1) ≤ a := fun e => by have := h2.2 e; omega
    rw [h.next h1] at this
    omega
  · rw [too_last (by omega)]; omega
theorem Bd.of_eq {C : List Nat} (h : Bd C) {a i : Nat} (hi : i < C.length) (h1 : frm C i ≤ a) (h2 : a ≤ too C i) : ofL C a = i := by
  have h3 := (h.of_iff a i hi).2 h1
  have h4 := h.of_le a
  apply Classical.byContradiction
  intro hne
  have h5 : i + 1 < C.length := by omega
  have h6 := (h.of_iff a (i + 1) h5).1 (by omega)
  rw [h.next h5] at h6
  omega
theorem Bd.frm_of {C : List Nat} (h : Bd C) {a : Nat} (ha : a ∈ C) : frm C (ofL C a) = a := by
  obtain ⟨i, hi, rfl⟩ := List.getElem_of_mem ha
  have e := frm_in hi
  have h2 := h.frm_le hi
  rw [h.of_eq hi (by omega) (by omega), e]
theorem Bd.too_of {C : List Nat} (h : Bd C) {a : Nat} (h0 : a < 4294967296) (ha : a + 1 ∈ C ∨ a = 4294967295) : too C (ofL C a) = a := by
  have h1 := h.of_in h0
  have h2 := h.of_le a
  have h3 := h.frm_le h2
  rcases ha with ha | ha
  · obtain ⟨i, hi, e⟩ := List.getElem_of_mem ha
    have e2 := frm_in hi
    by_cases hc : ofL C a + 1 < C.length
    · have h4 : ¬ i ≤ ofL C a := fun e3 => by have := (h.of_iff a i hi).1 e3; omega
      have h5 : frm C (ofL C a + 1) ≤ C[i] := by
        rw [frm_in hc]
        by_cases e3 : ofL C a + 1 = i
        · subst e3; exact Nat.le_refl _
        · exact Nat.le_of_lt (rising_at h.1 _ i hc hi (by omega))
      rw [h.next hc] at h5
      omega
    · exfalso
      have : ¬ i ≤ ofL C a := fun e3 => by have := (h.of_iff a i hi).1 e3; omega
      omega
  · omega
theorem Bd.last {C : List Nat} (_h : Bd C) {i : Nat} (hi : i + 1 = C.length) : too C i = 4294967295 := too_last (by omega)

/-- The atoms, as the document lists them. -/
def atomsL (C : List Nat) : List (Nat × Nat) := (List.range C.length).map fun i => (frm C i, too C i)
theorem atomsL_len (C : List Nat) : (atomsL C).length = C.length := by simp [atomsL]
theorem atomsL_at (C : List Nat) (i : Nat) (h : i < (atomsL C).length) : (atomsL C)[i] = (frm C i, too C i) := by simp [atomsL]
theorem mem_bnds {L : List (Nat × Nat)} (hL : RL L) {r : Nat × Nat} (hr : r ∈ L) : r.1 ∈ bnds L ∧ (r.2 + 1 ∈ bnds L ∨ r.2 = 4294967295) := by
  have h := hL.1 r hr
  obtain ⟨h1, h2⟩ := ends_mem hr
  refine ⟨(bnds_mem L _).2 ⟨h1, by omega⟩, ?_⟩
  by_cases e : r.2 = 4294967295
  · exact .inr e
  · exact .inl ((bnds_mem L _).2 ⟨h2, by omega⟩)
/-- Of the pairs: how many keys lie below. -/
theorem low_of {P : List (Int × Int)} {L : List (Nat × Nat)} (hL : RL L) (h : Tal P (nC L)) (a : Nat) : (lowL P ((a : Int) + 1)).length = ofL (bnds L) a := by
  obtain ⟨e, hp⟩ := bnds_keys hL h
  unfold ofL lowL
  rw [e, List.tail_cons, List.filter_map, List.length_map]
  congr 1
  refine List.filter_congr fun p hp' => ?_
  have := hp p hp'
  simp only [Function.comp]
  rw [decide_eq_decide]
  omega
/-- Of the pairs: the i-th one. -/
theorem at_of {P : List (Int × Int)} {L : List (Nat × Nat)} (hL : RL L) (h : Tal P (nC L)) (i : Nat) (hi : i < P.length) : ∃ n : Int, P[i] = (((frm (bnds L) (i + 1) : Nat) : Int), n) ∧ 0 < frm (bnds L) (i + 1) := by
  obtain ⟨e, hp⟩ := bnds_keys hL h
  have := hp P[i] (List.getElem_mem hi)
  have e2 : frm (bnds L) (i + 1) = P[i].1.toNat := by rw [e]; simp [frm, hi]
  refine ⟨P[i].2, Prod.ext ?_ rfl, by omega⟩
  show P[i].1 = ((frm (bnds L) (i + 1) : Nat) : Int)
  omega
end Go.Proofs.YtlhfaildeemngaaGreat.Tr
/- Plain mathematics: labels: atoms of rules; rules that come and go. -/
namespace Go.Proofs.YtlhfaildeemngaaGreat
open Go.RowKit Go.Shelf

/-- Rules' ranges; their atoms. -/
def rgL (L : List Ru) : List (Nat × Nat) := L.map fun r => (r.f, r.t)
def atmL (L : List Ru) : List (Nat × Nat) := Tr.atomsL (Tr.bnds (rgL L))
theorem allB_pw (L : List Ru) : allB L = true ↔ L.length ≤ 40 ∧ (∀ r ∈ L, ruB r = true) ∧ L.Pairwise (fun a b => a.id < b.id) := by
  constructor
  · intro h
    have hr := rr_of h
    exact ⟨hr.len, hr.right, List.pairwise_iff_getElem.2 fun i j hi hj hij => hr.up i j hi hj hij⟩
  · rintro ⟨h1, h2, h3⟩
    refine (allB_iff L).2 ⟨h1, fun k hk => ⟨h2 _ (List.getElem_mem hk), ?_⟩⟩
    match k with
    | 0 =>
      have := ((ruB_iff _).1 (h2 _ (List.getElem_mem hk))).1.1
      show (0 : Int) < _
      omega
    | k + 1 =>
      have hk' : k < L.length := by omega
      have e : lastId L (k + 1) = L[k].id := by simp [lastId, hk']
      rw [e]
      exact List.pairwise_iff_getElem.1 h3 k (k + 1) hk' hk (by omega)
theorem rgL_RL {L : List Ru} (h : allB L = true) (hw : ∀ r ∈ L, r.wf) : Tr.RL (rgL L) := by
  obtain ⟨h1, h2, _⟩ := (allB_pw L).1 h
  refine ⟨fun r hr => ?_, by unfold rgL; rw [List.length_map]; omega⟩
  obtain ⟨x, hx, rfl⟩ := List.mem_map.1 hr
  obtain ⟨_, _, _, _, _, hft, _⟩ := (ruB_iff x).1 (h2 x hx)
  exact ⟨hft, (hw x hx).2.2.2.2.2.1⟩
/-! An atom's addresses fare alike. -/
theorem atm_side {L : List (Nat × Nat)} {i : Nat} (hi : i < (Tr.bnds L).length) {a b : Nat} (h1 : Tr.frm (Tr.bnds L) i ≤ a) (h2 : a ≤ Tr.too (Tr.bnds L) i) (hb : b ∈ Tr.bnds L) : b ≤ a ↔ b ≤ Tr.frm (Tr.bnds L) i := by
  refine ⟨fun h => ?_, fun h => Nat.le_trans h h1⟩
  obtain ⟨j, hj, rfl⟩ := List.getElem_of_mem hb
  have hbd := Tr.bd_of L
  rw [Tr.frm_in hi] at h1 ⊢
  by_cases hij : j ≤ i
  · by_cases e : j = i
    · subst e; exact Nat.le_refl _
    · exact Nat.le_of_lt (Tr.rising_at hbd.1 j i hj hi (by omega))
  · have hi1 : i + 1 < (Tr.bnds L).length := by omega
    rw [Tr.too_in hi1] at h2
    have hpos : 0 < (Tr.bnds L)[i + 1] := Nat.lt_of_le_of_lt (Nat.zero_le _) (Tr.rising_at hbd.1 i (i + 1) hi hi1 (by omega))
    have hle : (Tr.bnds L)[i + 1] ≤ (Tr.bnds L)[j] := by
      by_cases e : i + 1 = j
      · subst e; exact Nat.le_refl _
      · exact Nat.le_of_lt (Tr.rising_at hbd.1 (i + 1) j hi1 hj (by omega))
    omega
theorem atm_in {L : List (Nat × Nat)} (hL : Tr.RL L) {i : Nat} (hi : i < (Tr.bnds L).length) {a : Nat} (h1 : Tr.frm (Tr.bnds L) i ≤ a) (h2 : a ≤ Tr.too (Tr.bnds L) i) {r : Nat × Nat} (hr : r ∈ L) :
    (r.1 ≤ a ↔ r.1 ≤ Tr.frm (Tr.bnds L) i) ∧ (a ≤ r.2 ↔ Tr.frm (Tr.bnds L) i ≤ r.2) := by
  obtain ⟨m1, m2⟩ := Tr.mem_bnds hL hr
  refine ⟨atm_side hi h1 h2 m1, ?_⟩
  have hlt := ((Tr.bd_of L).frm_le hi).2
  rcases m2 with m2 | m2
  · have := atm_side hi h1 h2 m2
    omega
  · omega
theorem labN_atom {L : List Ru} (hL : Tr.RL (rgL L)) (ls : List Lk) (d : Int) {i : Nat} (hi : i < (atmL L).length) {a : Nat} (h1 : (atmL L)[i].1 ≤ a) (h2 : a ≤ (atmL L)[i].2) : labN ls L d a = labN ls L d (atmL L)[i].1 := by
  have hi' : i < (Tr.bnds (rgL L)).length := by unfold atmL at hi; rwa [Tr.atomsL_len] at hi
  have e : (atmL L)[i] = (Tr.frm (Tr.bnds (rgL L)) i, Tr.too (Tr.bnds (rgL L)) i) := Tr.atomsL_at _ _ hi
  rw [e] at h1 h2 ⊢
  dsimp only at h1 h2 ⊢
  have key : ∀ one oth, ∀ r ∈ L, tk d one oth a r = tk d one oth (Tr.frm (Tr.bnds (rgL L)) i) r := fun one oth r hr => by
    obtain ⟨k1, k2⟩ := atm_in hL hi' h1 h2 (List.mem_map.2 ⟨r, hr, rfl⟩ : ((fun r : Ru => (r.f, r.t)) r) ∈ rgL L)
    dsimp only at k1 k2
    simp only [tk, takesB, k1, k2]
  unfold labN stepN denB
  rw [firstL_congr _ _ L (key 2 3), firstL_congr _ _ L (key 0 1)]
/-! Rules that come and go. -/
def insL (r : Ru) : List Ru → List Ru
  | [] => [r]
  | x :: L => if r.id < x.id then r :: x :: L else x :: insL r L
def delL (i : Int) (L : List Ru) : List Ru := L.filter fun x => decide (x.id ≠ i)
def hasId (i : Int) (L : List Ru) : Bool := L.any fun x => decide (x.id = i)
theorem ins_mem {r : Ru} {L : List Ru} {x : Ru} : x ∈ insL r L ↔ x = r ∨ x ∈ L := by
  induction L with
  | nil => simp [insL]
  | cons y L ih =>
    unfold insL
    split
    · simp
    · simp only [List.mem_cons, ih]
      constructor
      · rintro (h | h | h) <;> simp [h]
      · rintro (h | h | h) <;> simp [h]
theorem ins_len (r : Ru) (L : List Ru) : (insL r L).length = L.length + 1 := by
  induction L with
  | nil => rfl
  | cons y L ih =>
    unfold insL
    split
    · rfl
    · simp [ih]
theorem hasId_no {i : Int} {L : List Ru} : hasId i L = false ↔ ∀ x ∈ L, x.id ≠ i := by
  unfold hasId
  rw [List.any_eq_false]
  simp
theorem del_ins {r : Ru} {L : List Ru} (h : ∀ x ∈ L, x.id ≠ r.id) : delL r.id (insL r L) = L := by
  have hf : ∀ M : List Ru, (∀ x ∈ M, x.id ≠ r.id) → delL r.id M = M := fun M hm => List.filter_eq_self.2 fun x hx => by simp [hm x hx]
  induction L with
  | nil => simp [insL, delL]
  | cons y L ih =>
    have hy := h y (List.mem_cons_self ..)
    have hL : ∀ x ∈ L, x.id ≠ r.id := fun x hx => h x (List.mem_cons_of_mem _ hx)
    unfold insL
    split
    · have := hf (y :: L) h
      unfold delL at this ⊢
      rw [List.filter_cons_of_neg (by simp), this]
    · have := ih hL
      unfold delL at this ⊢
      rw [List.filter_cons_of_pos (by simp [hy]), this]
theorem ins_del {L : List Ru} (hp : L.Pairwise (fun a b => a.id < b.id)) {x : Ru} (hx : x ∈ L) : insL x (delL x.id L) = L := by
  induction L with
  | nil => simp at hx
  | cons y L ih =>
    obtain ⟨h1, h2⟩ := List.pairwise_cons.1 hp
    rcases List.mem_cons.1 hx with rfl | hx
    · have e : delL x.id L = L := List.filter_eq_self.2 fun z hz => by have := h1 z hz; simp; omega
      unfold delL at e ⊢
      rw [List.filter_cons_of_neg (by simp), e]
      cases L with
      | nil => rfl
      | cons z L => unfold insL; rw [if_pos (h1 z (List.mem_cons_self ..))]
    · have hy := h1 x hx
      have e := ih h2 hx
      unfold delL at e ⊢
      rw [List.filter_cons_of_pos (by simp; omega)]
      unfold insL
      rw [if_neg (by omega), e]
theorem del_right {ps : List Int} {ls : List Lk} {L : List Ru} (h : RN ps ls L) (i : Int) : RN ps ls (delL i L) := by
  obtain ⟨h1, h2, h3⟩ := (allB_pw L).1 h.rules
  refine ⟨h.topo, (allB_pw _).2 ⟨Nat.le_trans (List.length_filter_le _ _) h1, fun r hr => h2 r (List.mem_filter.1 hr).1, h3.filter _⟩, ?_⟩
  have := h.fits
  unfold fitsT at this ⊢
  rw [List.all_eq_true] at this ⊢
  exact fun r hr => this r (List.mem_filter.1 hr).1
theorem del_w {ps : List Int} {ls : List Lk} {L : List Ru} (h : NW ps ls L) (i : Int) : NW ps ls (delL i L) :=
  ⟨h.topo, fun r hr => h.rules r (List.mem_filter.1 hr).1, Nat.le_trans (List.length_filter_le _ _) h.room⟩
theorem ins_w {ps : List Int} {ls : List Lk} {L : List Ru} (h : NW ps ls L) {r : Ru} (hr : r.wf) (hl : L.length < 4000000000000) : NW ps ls (insL r L) :=
  ⟨h.topo, fun x hx => (ins_mem.1 hx).elim (fun e => e ▸ hr) (h.rules x), by rw [ins_len]; exact hl⟩
/-- What Insert, Delete tell: an error, or the rules. -/
def insE (ps : List Int) (ls : List Lk) (L : List Ru) (r : Ru) : Int := if hasId r.id L then 142 else if rightN ps ls (insL r L) then 0 else 71
def delE (L : List Ru) (i : Int) : Int := if hasId i L then 0 else 143
end Go.Proofs.YtlhfaildeemngaaGreat
/- The laws' own words (stage 10): the program's calls, as the chapter asks them. -/
namespace Go.Proofs.YtlhfaildeemngaaGreat
open Go.RowKit Go.Shelf

/-- A world that has only grown, but for what lies in the blocks of H. -/
structure Exc (H : Nat → Prop) (W W' : World) : Prop where
  os : W'.os = W.os
  tape : W'.tape = W.tape
  output : W'.output = W.output
  size : W.heap.size ≤ W'.heap.size
  block : ∀ k, k < W.heap.size → ¬ H k → W'.heap[k]? = W.heap[k]?
def noH : Nat → Prop := fun _ => False
def oneH (b : Nat) : Nat → Prop := fun k => k = b
def twoH (b c : Nat) : Nat → Prop := fun k => k = b ∨ k = c
theorem noH_lt (w : World) : ∀ b, noH b → ∃ cs, At w b cs 28 := fun _ h => h.elim
theorem exc_of {W W' : World} (h : Below W.heap.size W W') (H : Nat → Prop) : Exc H W W' := ⟨h.os, h.tape, h.output, h.size, fun k hk _ => h.block k hk⟩
theorem Exc.trans {A B C : World} {H : Nat → Prop} (h : Exc H A B) (k : Exc H B C) : Exc H A C := ⟨k.os.trans h.os, k.tape.trans h.tape, k.output.trans h.output, Nat.le_trans h.size k.size, fun i hi hr => (k.block i (Nat.lt_of_lt_of_le hi h.size) hr).trans (h.block i hi hr)⟩
theorem Exc.sub {A B : World} {H G : Nat → Prop} (h : Exc G A B) (hs : ∀ k, k < A.heap.size → G k → H k) : Exc H A B := ⟨h.os, h.tape, h.output, h.size, fun k hk hn => h.block k hk fun hg => hn (hs k hk hg)⟩
theorem exc_grown {W W' : World} {b : Nat} (h : W.grownBy W' (some b)) {H : Nat → Prop} (hb : H b) : Exc H W W' := ⟨h.os, h.tape, h.output, h.size, fun k hk hn => h.block k hk fun e => by cases e; exact hn hb⟩
theorem Exc.grown {W W' : World} {b : Nat} (h : Exc (oneH b) W W') : W.grownBy W' (some b) := ⟨h.os, h.tape, h.output, h.size, fun k hk hn => h.block k hk fun e => hn (by rw [show k = b from e])⟩
theorem Exc.below {W W' : World} (h : Exc noH W W') : Below W.heap.size W W' := ⟨h.os, h.tape, h.output, h.size, fun k hk => h.block k hk fun e => e⟩
/-- A network whose lists do not lie in the blocks of H. -/
def IsNo (H : Nat → Prop) (w : World) (vp vl vr : Value) (ps : List Int) (ls : List Lk) (L : List Ru) : Prop := ∀ W, Exc H w W → IsN W vp vl vr ps ls L
theorem IsNo.isN {H : Nat → Prop} {w : World} {vp vl vr : Value} {ps : List Int} {ls : List Lk} {L : List Ru} (h : IsNo H w vp vl vr ps ls L) : IsN w vp vl vr ps ls L := h w (exc_of (Below.refl _ _) H)
theorem IsNo.keep {H : Nat → Prop} {w W : World} {vp vl vr : Value} {ps : List Int} {ls : List Lk} {L : List Ru} (h : IsNo H w vp vl vr ps ls L) (hg : Exc H w W) : IsNo H W vp vl vr ps ls L := fun W' hW => h W' (hg.trans hW)
theorem IsN.no {w : World} {vp vl vr : Value} {ps : List Int} {ls : List Lk} {L : List Ru} (h : IsN w vp vl vr ps ls L) : IsNo noH w vp vl vr ps ls L := fun _W hW => h.belows hW.below
/-- The i-th atom, as it is told. -/
def atomV (L : List Ru) (i : Int) (e : Ending) : Prop := (0 ≤ i ∧ ∃ h : i.toNat < (atmL L).length, e = .returned (.tuple #[.agg #[.int .u32 (atmL L)[i.toNat].1, .int .u32 (atmL L)[i.toNat].2], .bool true])) ∨
  (¬ (0 ≤ i ∧ i.toNat < (atmL L).length) ∧ ∃ x y : Nat, e = .returned (.tuple #[.agg #[.int .u32 x, .int .u32 y], .bool false]))
def labV (ps : List Int) (ls : List Lk) (L : List Ru) (d i : Int) (e : Ending) : Prop := (inD ps d ∧ 0 ≤ i ∧ ∃ h : i.toNat < (atmL L).length, e = .returned (.tuple #[.int .i64 (labN ls L d (atmL L)[i.toNat].1), .bool true])) ∨
  (¬ (inD ps d ∧ 0 ≤ i ∧ i.toNat < (atmL L).length) ∧ ∃ x : Int, e = .returned (.tuple #[.int .i64 x, .bool false]))
theorem atomV_in {L : List Ru} {k : Nat} {e : Ending} (h : atomV L (k : Int) e) (hk : k < (atmL L).length) : e = .returned (.tuple #[.agg #[.int .u32 (atmL L)[k].1, .int .u32 (atmL L)[k].2], .bool true]) := by
  rcases h with ⟨_, _, e⟩ | ⟨h, _⟩
  · simpa using e
  · exact absurd ⟨by omega, by simpa using hk⟩ h
theorem labV_in {ps : List Int} {ls : List Lk} {L : List Ru} {d : Int} {k : Nat} {e : Ending} (h : labV ps ls L d (k : Int) e) (hd : inD ps d) (hk : k < (atmL L).length) : e = .returned (.tuple #[.int .i64 (labN ls L d (atmL L)[k].1), .bool true]) := by
  rcases h with ⟨_, _, _, e⟩ | ⟨h, _⟩
  · simpa using e
  · exact absurd ⟨hd, by omega, by simpa using hk⟩ h
/-- The program's calls: 'Lb H': labels of a network, none of whose memory lies in the blocks of H, each of which holds a network. -/
structure Own10 where
  Lb : (Nat → Prop) → World → Value → List Int → List Lk → List Ru → Prop
  keep : ∀ {H : Nat → Prop} {W W' : World} {v : Value} {ps : List Int} {ls : List Lk} {L : List Ru}, Lb H W v ps ls L → Exc H W W' → Lb H W' v ps ls L
  sub : ∀ {H G : Nat → Prop} {W : World} {v : Value} {ps : List Int} {ls : List Lk} {L : List Ru}, Lb H W v ps ls L → (∀ k, k < W.heap.size → G k → H k) → Lb G W v ps ls L
  ptr : ∀ {H : Nat → Prop} {W : World} {v : Value} {ps : List Int} {ls : List Lk} {L : List Ru}, Lb H W v ps ls L → ∃ b, v = .pointer (some b)
  of : ∀ {vp vl vr : Value} (H : Nat → Prop) (ps : List Int) (ls : List Lk) (L : List Ru) (w : World), (∀ b, H b → ∃ cs, At w b cs 28) → NW ps ls L → IsNo H w vp vl vr ps ls L → Calls Tryz.prog 6 #[.agg #[vp, vl, vr]] w fun e w' =>
    ((RN ps ls L ∧ ∃ p, e = .returned (.tuple #[p, .int .i64 0]) ∧ Lb H w' p ps ls L) ∨ (¬ RN ps ls L ∧ e = .returned (.tuple #[.pointer none, .int .i64 71]))) ∧ Below w.heap.size w w'
  network : ∀ {v : Value} (H : Nat → Prop) (ps : List Int) (ls : List Lk) (L : List Ru) (w : World), RN ps ls L → NW ps ls L → Lb H w v ps ls L → Calls Tryz.prog 23 #[v] w fun e w' => (∃ vp vl vr, e = .returned (.agg #[vp, vl, vr]) ∧ IsN w' vp vl vr ps ls L) ∧ Below w.heap.size w w'
  atoms : ∀ {v : Value} (H : Nat → Prop) (ps : List Int) (ls : List Lk) (L : List Ru) (w : World), RN ps ls L → NW ps ls L → Lb H w v ps ls L → Calls Tryz.prog 22 #[v] w fun e w' => e = .returned (.int .i64 (atmL L).length) ∧ Below w.heap.size w w'
  atom : ∀ {v : Value} (H : Nat → Prop) (ps : List Int) (ls : List Lk) (L : List Ru) (i : Int) (w : World), RN ps ls L → NW ps ls L → isI i → Lb H w v ps ls L → Calls Tryz.prog 21 #[v, .int .i64 i] w fun e w' => atomV L i e ∧ Below w.heap.size w w'
  at' : ∀ {v : Value} (H : Nat → Prop) (ps : List Int) (ls : List Lk) (L : List Ru) (d i : Int) (w : World), RN ps ls L → NW ps ls L → isI d → isI i → Lb H w v ps ls L → Calls Tryz.prog 20 #[v, .int .i64 d, .int .i64 i] w fun e w' => labV ps ls L d i e ∧ Below w.heap.size w w'
  insert : ∀ {v : Value} (H : Nat → Prop) (ps : List Int) (ls : List Lk) (L : List Ru) (r : Ru) (w : World), (∀ b, H b → ∃ cs, At w b cs 28) → RN ps ls L → NW ps ls L → r.wf → Lb H w v ps ls L → Calls Tryz.prog 8 #[v, .agg (ruA r)] w fun e w' =>
    ((insE ps ls L r = 0 ∧ ∃ p, e = .returned (.tuple #[p, .int .i64 0]) ∧ Lb H w' p ps ls (insL r L)) ∨ (insE ps ls L r ≠ 0 ∧ e = .returned (.tuple #[.pointer none, .int .i64 (insE ps ls L r)]))) ∧ Below w.heap.size w w'
  delete : ∀ {v : Value} (H : Nat → Prop) (ps : List Int) (ls : List Lk) (L : List Ru) (i : Int) (w : World), (∀ b, H b → ∃ cs, At w b cs 28) → RN ps ls L → NW ps ls L → isI i → Lb H w v ps ls L → Calls Tryz.prog 10 #[v, .int .i64 i] w fun e w' =>
    ((delE L i = 0 ∧ ∃ p, e = .returned (.tuple #[p, .int .i64 0]) ∧ Lb H w' p ps ls (delL i L)) ∨ (delE L i ≠ 0 ∧ e = .returned (.tuple #[.pointer none, .int .i64 (delE L i)]))) ∧ Below w.heap.size w w'
  networkNil : ∀ (w : World), Calls Tryz.prog 23 #[.pointer none] w fun e w' => (∃ vp vl vr, e = .returned (.agg #[vp, vl, vr]) ∧ IsN w' vp vl vr [] [] []) ∧ Below w.heap.size w w'
  atomsNil : ∀ (w : World), Calls Tryz.prog 22 #[.pointer none] w fun e w' => e = .returned (.int .i64 0) ∧ Below w.heap.size w w'
  atomNil : ∀ (i : Int) (w : World), isI i → Calls Tryz.prog 21 #[.pointer none, .int .i64 i] w fun e w' => (∃ x y : Nat, e = .returned (.tuple #[.agg #[.int .u32 x, .int .u32 y], .bool false])) ∧ Below w.heap.size w w'
  atNil : ∀ (d i : Int) (w : World), isI d → isI i → Calls Tryz.prog 20 #[.pointer none, .int .i64 d, .int .i64 i] w fun e w' => (∃ x : Int, e = .returned (.tuple #[.int .i64 x, .bool false])) ∧ Below w.heap.size w w'
  insertNil : ∀ (r : Ru) (w : World), r.wf → Calls Tryz.prog 8 #[.pointer none, .agg (ruA r)] w fun e w' => e = .returned (.tuple #[.pointer none, .int .i64 1]) ∧ Below w.heap.size w w'
  deleteNil : ∀ (i : Int) (w : World), isI i → Calls Tryz.prog 10 #[.pointer none, .int .i64 i] w fun e w' => e = .returned (.tuple #[.pointer none, .int .i64 1]) ∧ Below w.heap.size w w'
end Go.Proofs.YtlhfaildeemngaaGreat
/- Words of this seat's walks: a block that holds just these cells; a tree in memory; a slice that reads as pairs. -/
namespace Go.Proofs.YtlhfaildeemngaaGreat.Tr
open Go.RowKit

theorem grown_none {W W' : World} (h : Below W.heap.size W W') : W.grownBy W' none := ⟨h.os, h.tape, h.output, h.size, fun k hk _ => h.block k hk⟩

/-- A tree in memory: a node is a block of six cells; none is written once it is made. -/
def IsT (w : World) : Value → Bt → Prop
  | v, .nil => v = .pointer none
  | v, .node l x r => ∃ (B : Nat) (vl vr : Value), v = .pointer (some ⟨B, 0, none⟩) ∧ At w B #[.int .u64 x.1, .int .i64 x.2, vl, vr, .int .i64 ((l.size + 1 + r.size : Nat) : Int), .int .i64 ((max l.ht r.ht + 1 : Nat) : Int)] 145 ∧ IsT w vl l ∧ IsT w vr r
theorem IsT.ptr {w : World} {v : Value} {t : Bt} (h : IsT w v t) : ∃ p, v = .pointer p := by
  cases t with
  | nil => exact ⟨_, h⟩
  | node l x r => obtain ⟨B, vl, vr, e, _⟩ := h; exact ⟨_, e⟩
theorem IsT.below {w w' : World} {n : Nat} (hn : w.heap.size ≤ n) (hb : Below n w w') : ∀ {v : Value} {t : Bt}, IsT w v t → IsT w' v t
  | _, .nil, h => h
  | _, .node _ _ _, ⟨B, vl, vr, e, ha, hl, hr⟩ => ⟨B, vl, vr, e, ha.below hb (Nat.lt_of_lt_of_le ha.lt hn), IsT.below hn hb hl, IsT.below hn hb hr⟩
theorem IsT.belows {w w' : World} (hb : Below w.heap.size w w') {v : Value} {t : Bt} (h : IsT w v t) : IsT w' v t := h.below (Nat.le_refl _) hb
/-- A node with this pair, or none. -/
def AtN (w : World) (v : Value) : Option (Int × Int) → Prop
  | none => v = .pointer none
  | some x => ∃ (B : Nat) (a b c d : Value), v = .pointer (some ⟨B, 0, none⟩) ∧ At w B #[.int .u64 x.1, .int .i64 x.2, a, b, c, d] 145
theorem AtN.belows {w w' : World} (hb : Below w.heap.size w w') {v : Value} {o : Option (Int × Int)} (h : AtN w v o) : AtN w' v o := by
  cases o with
  | none => exact h
  | some x => obtain ⟨B, a, b, c, d, e, ha⟩ := h; exact ⟨B, a, b, c, d, e, ha.belows hb⟩
theorem AtN.ptr {w : World} {v : Value} {o : Option (Int × Int)} (h : AtN w v o) : ∃ p, v = .pointer p := by
  cases o with
  | none => exact ⟨_, h⟩
  | some x => obtain ⟨B, a, b, c, d, e, _⟩ := h; exact ⟨_, e⟩

/-- Pairs as cells. -/
def pcells (l : List (Int × Int)) : List Value := l.flatMap fun x => [.int .u64 x.1, .int .i64 x.2]
theorem pcells_snoc (l : List (Int × Int)) (x : Int × Int) : pcells (l ++ [x]) = pcells l ++ [.int .u64 x.1, .int .i64 x.2] := by simp [pcells]
theorem pcells_append (l m : List (Int × Int)) : pcells (l ++ m) = pcells l ++ pcells m := by simp [pcells]
theorem pcells_nil : pcells [] = [] := rfl
theorem pcells_length (l : List (Int × Int)) : (pcells l).length = l.length * 2 := by induction l with
  | nil => rfl
  | cons x l ih => simp [pcells] at *; omega
theorem pcells_one (l : List (Int × Int)) : ∀ u ∈ pcells l, u.oneCell' = true := by
  intro u hu
  obtain ⟨x, _, h⟩ := List.mem_flatMap.1 hu
  simp at h
  rcases h with rfl | rfl <;> rfl
theorem pcells_at (L : List (Int × Int)) (k : Nat) (hk : k < L.length) : (pcells L)[2 * k]? = some (.int .u64 L[k].1) ∧ (pcells L)[2 * k + 1]? = some (.int .i64 L[k].2) := by
  induction L generalizing k with
  | nil => simp at hk
  | cons x L ih =>
    have e : pcells (x :: L) = .int .u64 x.1 :: .int .i64 x.2 :: pcells L := by simp [pcells]
    rw [e]
    match k with
    | 0 => simp
    | k + 1 =>
      have := ih k (by simpa using hk)
      rw [show 2 * (k + 1) = 2 * k + 1 + 1 by omega]
      simpa using this
theorem info68 : (Tryz.prog.info? 109).map (fun i => (i.zero, i.size, i.bytes)) = some (some (.agg #[.int .u64 0, .int .i64 0]), 2, 16) := by kernel_rfl
theorem add_off (g o j : Nat) : (⟨g, o, none⟩ : Addr).add j = ⟨g, o + j, none⟩ := by unfold Addr.add; split <;> simp_all

/-- The address of a slice that reads as these pairs. -/
def Ps (w : World) (A : Option Addr) (L : List (Int × Int)) : Prop := 0 < L.length → ∃ g o, A = some ⟨g, o, none⟩ ∧ (∃ cur t, w.heap[g]? = some (.cells cur t (0, 0)) ∧ t ≠ 999999) ∧
  ∀ k (hk : k < L.length), w.cell? ⟨g, o + k * 2, none⟩ = some (.int .u64 L[k].1) ∧ w.cell? ⟨g, o + k * 2 + 1, none⟩ = some (.int .i64 L[k].2)
/-- A value that is a slice of these pairs. -/
def IsP (w : World) (v : Value) (L : List (Int × Int)) : Prop := ∃ A c, v = .slice A L.length c ∧ L.length ≤ c ∧ c ≤ maxLen ∧ Ps w A L
theorem Ps.nil (w : World) (A : Option Addr) : Ps w A [] := fun h => absurd h (by simp)
theorem Ps.kept {w w' : World} {A : Option Addr} {L : List (Int × Int)} (h : Ps w A L) (hk : ∀ (g : Nat) (cur : Array Value) (t : TypeId), w.heap[g]? = some (.cells cur t (0, 0)) → t ≠ 999999 → w'.heap[g]? = w.heap[g]?) : Ps w' A L := fun hn => by
  obtain ⟨g, o, e, ⟨cur, t, hg, ht⟩, hc⟩ := h hn
  have hb := hk g cur t hg ht
  have hcell : ∀ j, w'.cell? ⟨g, j, none⟩ = w.cell? ⟨g, j, none⟩ := fun j => by unfold World.cell?; rw [hb]
  exact ⟨g, o, e, ⟨cur, t, hb.trans hg, ht⟩, fun k hk => ⟨(hcell _).trans (hc k hk).1, (hcell _).trans (hc k hk).2⟩⟩
theorem Ps.below {w w' : World} {A : Option Addr} {L : List (Int × Int)} {B : Nat} (h : Ps w A L) (hB : w.heap.size ≤ B) (hb : Below B w w') : Ps w' A L := h.kept fun g _cur _t hg _ => hb.block g (Nat.lt_of_lt_of_le (Array.getElem?_eq_some_iff.1 hg).1 hB)
theorem Ps.belows {w w' : World} {A : Option Addr} {L : List (Int × Int)} (h : Ps w A L) (hb : Below w.heap.size w w') : Ps w' A L := h.below (Nat.le_refl _) hb
theorem IsP.belows {w w' : World} {v : Value} {L : List (Int × Int)} (h : IsP w v L) (hb : Below w.heap.size w w') : IsP w' v L := by
  obtain ⟨A, c, e, h1, h2, h3⟩ := h
  exact ⟨A, c, e, h1, h2, h3.belows hb⟩
theorem Ps.drop {w : World} {A : Option Addr} {L : List (Int × Int)} (h : Ps w A L) {k cap : Nat} (hc : L.length ≤ cap) : Ps w (if cap = k then A else A.map (·.add (k * 2))) (L.drop k) := by
  intro hn
  have hl : k < L.length := by simp at hn; omega
  obtain ⟨g, o, rfl, hg, hcell⟩ := h (by omega)
  rw [if_neg (by omega)]
  refine ⟨g, o + k * 2, by rw [Option.map_some, add_off], hg, fun j hj => ?_⟩
  have hj' : k + j < L.length := by simp at hj; omega
  have := hcell (k + j) hj'
  simp only [List.getElem_drop]
  rw [show o + k * 2 + j * 2 = o + (k + j) * 2 by omega]
  exact this
/-- What is owned reads. -/
theorem isP_of_row {w : World} {base : Nat} {e : TypeId} (he : e ≠ 999999) {v : Value} {L : List (Int × Int)} (h : w.ownsRow base e 2 v L.length (pcells L)) : IsP w v L := by
  rcases h.2 with ⟨rfl, h0⟩ | ⟨g, cap, cur, rfl, hb, hg, hnc, hm, _⟩
  · obtain rfl := List.eq_nil_of_length_eq_zero h0
    exact ⟨none, 0, rfl, Nat.le_refl _, by simp, Ps.nil _ _⟩
  · refine ⟨_, cap, rfl, hnc, hm, fun _ => ⟨g, 0, rfl, ⟨cur, e, hg, he⟩, fun k hk => ?_⟩⟩
    obtain ⟨h1, h2⟩ := pcells_at L k hk
    have e1 := World.ownsRow.cells h (g := g) rfl _ _ h1
    have e2 := World.ownsRow.cells h (g := g) rfl _ _ h2
    rw [add_none, Nat.mul_comm] at e1 e2
    rw [Nat.zero_add]
    exact ⟨e1, e2⟩
end Go.Proofs.YtlhfaildeemngaaGreat.Tr
/- Words: a slice that reads as ranges; append of ranges onto a row of one's own; the document's Same. -/
namespace Go.Proofs.YtlhfaildeemngaaGreat.Tr
open Go.RowKit Go.Shelf

/-- Ranges as cells. -/
def zcells (l : List (Nat × Nat)) : List Value := l.flatMap fun x => [.int .u32 x.1, .int .u32 x.2]
theorem zcells_snoc (l : List (Nat × Nat)) (x : Nat × Nat) : zcells (l ++ [x]) = zcells l ++ [.int .u32 x.1, .int .u32 x.2] := by simp [zcells]
theorem zcells_append (l m : List (Nat × Nat)) : zcells (l ++ m) = zcells l ++ zcells m := by simp [zcells]
theorem zcells_nil : zcells [] = [] := rfl
theorem zcells_length (l : List (Nat × Nat)) : (zcells l).length = l.length * 2 := by induction l with
  | nil => rfl
  | cons x l ih => simp [zcells] at *; omega
theorem zcells_one (l : List (Nat × Nat)) : ∀ u ∈ zcells l, u.oneCell' = true := by
  intro u hu
  obtain ⟨x, _, h⟩ := List.mem_flatMap.1 hu
  simp at h
  rcases h with rfl | rfl <;> rfl
theorem zcells_at (L : List (Nat × Nat)) (k : Nat) (hk : k < L.length) : (zcells L)[2 * k]? = some (.int .u32 L[k].1) ∧ (zcells L)[2 * k + 1]? = some (.int .u32 L[k].2) := by
  induction L generalizing k with
  | nil => simp at hk
  | cons x L ih =>
    have e : zcells (x :: L) = .int .u32 x.1 :: .int .u32 x.2 :: zcells L := by simp [zcells]
    rw [e]
    match k with
    | 0 => simp
    | k + 1 =>
      have := ih k (by simpa using hk)
      rw [show 2 * (k + 1) = 2 * k + 1 + 1 by omega]
      simpa using this
theorem info32 : (Tryz.prog.info? 39).map (fun i => (i.zero, i.size, i.bytes)) = some (some (.agg #[.int .u32 0, .int .u32 0]), 2, 8) := by kernel_rfl
/-- The address of a slice that reads as these ranges. -/
def Zs (w : World) (A : Option Addr) (L : List (Nat × Nat)) : Prop := 0 < L.length → ∃ g o, A = some ⟨g, o, none⟩ ∧ g < w.heap.size ∧
  ∀ k (hk : k < L.length), w.cell? ⟨g, o + k * 2, none⟩ = some (.int .u32 L[k].1) ∧ w.cell? ⟨g, o + k * 2 + 1, none⟩ = some (.int .u32 L[k].2)
/-- A value that is a slice of these ranges. -/
def IsZ (w : World) (v : Value) (L : List (Nat × Nat)) : Prop := ∃ A c, v = .slice A L.length c ∧ L.length ≤ c ∧ c ≤ maxLen ∧ Zs w A L
theorem Zs.nil (w : World) (A : Option Addr) : Zs w A [] := fun h => absurd h (by simp)
theorem Zs.below {w w' : World} {A : Option Addr} {L : List (Nat × Nat)} {B : Nat} (h : Zs w A L) (hB : w.heap.size ≤ B) (hb : Below B w w') : Zs w' A L := fun hn => by
  obtain ⟨g, o, e, hg, hc⟩ := h hn
  exact ⟨g, o, e, Nat.lt_of_lt_of_le hg (hb.size), fun k hk => ⟨(hb.cell (p := ⟨g, _, none⟩) (by show g < B; omega)).trans (hc k hk).1, (hb.cell (p := ⟨g, _, none⟩) (by show g < B; omega)).trans (hc k hk).2⟩⟩
theorem Zs.belows {w w' : World} {A : Option Addr} {L : List (Nat × Nat)} (h : Zs w A L) (hb : Below w.heap.size w w') : Zs w' A L := h.below (Nat.le_refl _) hb
theorem IsZ.belows {w w' : World} {v : Value} {L : List (Nat × Nat)} (h : IsZ w v L) (hb : Below w.heap.size w w') : IsZ w' v L := by
  obtain ⟨A, c, e, h1, h2, h3⟩ := h
  exact ⟨A, c, e, h1, h2, h3.belows hb⟩
theorem Zs.drop {w : World} {A : Option Addr} {L : List (Nat × Nat)} (h : Zs w A L) {k cap : Nat} (hc : L.length ≤ cap) : Zs w (if cap = k then A else A.map (·.add (k * 2))) (L.drop k) := by
  intro hn
  have hl : k < L.length := by simp at hn; omega
  obtain ⟨g, o, rfl, hg, hcell⟩ := h (by omega)
  rw [if_neg (by omega)]
  refine ⟨g, o + k * 2, by rw [Option.map_some, add_off], hg, fun j hj => ?_⟩
  have hj' : k + j < L.length := by simp at hj; omega
  have := hcell (k + j) hj'
  simp only [List.getElem_drop]
  rw [show o + k * 2 + j * 2 = o + (k + j) * 2 by omega]
  exact this
/-- What is owned reads. -/
theorem isZ_of_row {w : World} {base : Nat} {v : Value} {L : List (Nat × Nat)} (h : w.ownsRow base 39 2 v L.length (zcells L)) : IsZ w v L := by
  rcases h.2 with ⟨rfl, h0⟩ | ⟨g, cap, cur, rfl, hb, hg, hnc, hm, _⟩
  · obtain rfl := List.eq_nil_of_length_eq_zero h0
    exact ⟨none, 0, rfl, Nat.le_refl _, by simp, Zs.nil _ _⟩
  · refine ⟨_, cap, rfl, hnc, hm, fun _ => ⟨g, 0, rfl, (Array.getElem?_eq_some_iff.1 hg).1, fun k hk => ?_⟩⟩
    obtain ⟨h1, h2⟩ := zcells_at L k hk
    have e1 := World.ownsRow.cells h (g := g) rfl _ _ h1
    have e2 := World.ownsRow.cells h (g := g) rfl _ _ h2
    rw [add_none, Nat.mul_comm] at e1 e2
    rw [Nat.zero_add]
    exact ⟨e1, e2⟩
theorem Zs.news {w : World} {ad : Addr} {L : List (Nat × Nat)} (h : Zs w (some ad) L) : ∀ j u, (zcells L)[j]? = some u → w.cell? (ad.add j) = some u := by
  intro j u hj
  have hlt : j < L.length * 2 := by
    rw [← zcells_length]
    exact (List.getElem?_eq_some_iff.1 hj).1
  obtain ⟨g, o, e, _, hc⟩ := h (by omega)
  cases e
  have hk : j / 2 < L.length := by omega
  obtain ⟨p1, p2⟩ := zcells_at L (j / 2) hk
  obtain ⟨q1, q2⟩ := hc (j / 2) hk
  rw [add_off]
  rcases Nat.mod_two_eq_zero_or_one j with hm | hm
  · rw [show 2 * (j / 2) = j by omega, hj] at p1
    rw [show o + j / 2 * 2 = o + j by omega] at q1
    rw [q1, ← p1]
  · rw [show 2 * (j / 2) + 1 = j by omega, hj] at p2
    rw [show o + j / 2 * 2 + 1 = o + j by omega] at q2
    rw [q2, ← p2]

/-- A row of one's own that is not nil. -/
def Row (w : World) (base : Nat) (v : Value) (L : List (Nat × Nat)) : Prop := w.ownsRow base 39 2 v L.length (zcells L) ∧ ∃ g cap, v = .slice (some ⟨g, 0, none⟩) L.length cap
theorem Row.isZ {w : World} {base : Nat} {v : Value} {L : List (Nat × Nat)} (h : Row w base v L) : IsZ w v L := isZ_of_row h.1
theorem Row.empty (w : World) : Row (w.alloc (.cells #[] 39)) w.heap.size (.slice (some ⟨w.heap.size, 0, none⟩) 0 0) [] :=
  ⟨World.ownsRow_made w #[] 0 (Nat.le_refl _) (Nat.zero_le _) (by simp), _, _, rfl⟩

theorem wpList_app_z {ops : Array Oper} {rest : List Oper} {o : Oper} {a : Act} {Q : Exit → Act → World → Prop} {w : World} (hgd : o.guard = none) (s x : Operand)
    (ho : o.op = .call { callee := .builtin .append, args := #[s, x], argTypes := #[70, 70] })
    (base : Nat) (v : Value) (L : List (Nat × Nat)) (hs : a.eval s = v) (hrow : Row w base v L) (A : Option Addr) (c : Nat) (M : List (Nat × Nat)) (hx : a.eval x = .slice A M.length c) (hM : Zs w A M)
    (hA : A = none → M = []) (hlen : L.length + M.length ≤ 4294967300) (hbase : base ≤ w.heap.size)
    (h : ∀ g cap w', Row w' base (.slice (some ⟨g, 0, none⟩) (L.length + M.length) cap) (L ++ M) → Below base w w' → wpList Tryz.prog ops Q rest (a.put o.dst (.slice (some ⟨g, 0, none⟩) (L.length + M.length) cap)) w') : wpList Tryz.prog ops Q (o :: rest) a w := by
  obtain ⟨i0, hi, hz0, hz1, hz2⟩ := info_parts info32
  obtain ⟨hown, g, cap, rfl⟩ := hrow
  cases A with
  | some ad =>
    refine wpList_append_own w hgd s x 70 ho base 39 i0 (.agg #[.int .u32 0, .int .u32 0]) 2 8 Tryz.underlying70 hi hz0 hz1 hz2 rfl (by decide) _ _ _ hs hown ad M.length c (zcells M) hx (zcells_length M) hM.news (zcells_one M) (by simp only [maxLen]; omega) (by omega) hbase ?_
    intro v' w' h1 h2 h3
    have hnn : v' ≠ .slice none 0 0 := fun e => by have := (h3.1 e).1; cases this
    rcases h1.2 with ⟨e, _⟩ | ⟨g', cap', cur, rfl, _⟩
    · exact absurd e hnn
    · refine h g' cap' w' ⟨?_, g', cap', by simp⟩ ((Below.refl _ _).grown h2 hbase (fun k hk => (hown.lt k hk).1))
      rw [zcells_append]
      simpa using h1
  | none =>
    obtain rfl := hA rfl
    refine wpList_plain hgd fun K hK => ?_
    have hr := run_append_room_src (P := Tryz.prog) w 70 70 o.type 39 i0 Tryz.underlying70 hi g 0 L.length cap (.slice none 0 c) 0 [] (by rw [hz1]; exact Src.ofNil w Tryz.underlying70 c) (by
      rcases hown.2 with ⟨e, _⟩ | ⟨g', cap', cur, e, _, _, hnc, _⟩
      · cases e
      · cases e; exact hnc) (by simp) (by simp)
    unfold Oper.wp execOp
    simp only [ho, resolve, invoke, builtin, Sem.run_bind, Sem.run_pure, Result.andThen_ok, List.map_toArray, List.map_cons, List.map_nil, hs, hx, List.length_nil, hr]
    exact hK _ _ (h g cap w ⟨by simpa using hown, g, cap, by simp⟩ (Below.refl _ _))

end Go.Proofs.YtlhfaildeemngaaGreat.Tr
/- Contracts: the document's End, Cuts. -/
namespace Go.Proofs.YtlhfaildeemngaaGreat.Tr
open Go.RowKit Go.Shelf

/-- Cuts as cells. -/
def icells (C : List Nat) : List Value := C.map fun (c : Nat) => .int .i64 c
theorem icells_append (C D : List Nat) : icells (C ++ D) = icells C ++ icells D := by simp [icells]
theorem icells_length (C : List Nat) : (icells C).length = C.length := by simp [icells]
theorem icells_get (C : List Nat) (k : Nat) (hk : k < C.length) : (icells C)[k]? = some (.int .i64 C[k]) := by simp [icells, hk]
/-- A slice that reads as these cuts. -/
def IsI (w : World) (v : Value) (C : List Nat) : Prop := ∃ A c, v = .slice A C.length c ∧ C.length ≤ c ∧ c ≤ maxLen ∧ (0 < C.length → ∃ g, A = some ⟨g, 0, none⟩ ∧ g < w.heap.size ∧ ∀ k (hk : k < C.length), w.cell? ⟨g, k, none⟩ = some (.int .i64 C[k]))
theorem IsI.belows {w w' : World} {v : Value} {C : List Nat} (h : IsI w v C) (hb : Below w.heap.size w w') : IsI w' v C := by
  obtain ⟨A, c, e, h1, h2, h3⟩ := h
  refine ⟨A, c, e, h1, h2, fun hn => ?_⟩
  obtain ⟨g, e, hg, hc⟩ := h3 hn
  exact ⟨g, e, Nat.lt_of_lt_of_le hg hb.size, fun k hk => (hb.cell (p := ⟨g, k, none⟩) hg).trans (hc k hk)⟩
theorem isI_of_row {w : World} {base : Nat} {v : Value} {C : List Nat} (h : w.ownsRow base 3 1 v C.length (icells C)) : IsI w v C := by
  rcases h.2 with ⟨rfl, h0⟩ | ⟨g, cap, cur, rfl, hb, hg, hnc, hm, _⟩
  · obtain rfl := List.eq_nil_of_length_eq_zero h0
    exact ⟨none, 0, rfl, Nat.le_refl _, by simp, fun h => absurd h (by simp)⟩
  · refine ⟨_, cap, rfl, hnc, hm, fun _ => ⟨g, rfl, (Array.getElem?_eq_some_iff.1 hg).1, fun k hk => ?_⟩⟩
    rw [World.ownsRow.cellAt h k (by omega)]
    exact icells_get C k hk
/-- The document's End. -/
theorem end_any {v : Value} (C : List Nat) (i : Nat) (w : World) (hi : i < C.length) (hpos : ∀ k (hk : k < C.length), 0 < k → 0 < C[k]) (hb : ∀ k (hk : k < C.length), C[k] < 4294967296) (h : IsI w v C) : Calls Tryz.prog 71 #[v, .int .i64 i] w fun e w' => e = .returned (.int .i64 (endOf 4294967296 (C.drop (i + 1)) : Nat)) ∧ w' = w := by
  obtain ⟨A, c, rfl, h1, h2, h3⟩ := h
  obtain ⟨g, rfl, hg, hc⟩ := h3 (by omega)
  simp only [maxLen] at h2
  by_cases hlt : i + 1 < C.length
  · have c1 := hc (i + 1) hlt
    have p1 := hpos (i + 1) hlt (by omega)
    have p2 := hb (i + 1) hlt
    have e0 : endOf 4294967296 (C.drop (i + 1)) = C[i + 1] - 1 := by rw [List.drop_eq_getElem_cons hlt]; rfl
    rw [e0]
    generalize C[i + 1] = y at c1 p1 p2
    clear e0 hc h3 hpos hb
    have i0 : (0 : Int) ≤ (i : Int) + 1 := by omega
    have i1 : (i : Int) + 1 < (C.length : Int) := by omega
    go_enter Tryz.func71, Tryz.ntmps71
    go_wp2
    go_ret
    exact ⟨ret_int (by omega), rfl⟩
  · have e0 : endOf 4294967296 (C.drop (i + 1)) = 4294967295 := by rw [List.drop_eq_nil_of_le (by omega)]; rfl
    rw [e0]
    have i1 : ¬ (i : Int) + 1 < (C.length : Int) := by omega
    clear hc h3 hpos hb
    go_enter Tryz.func71, Tryz.ntmps71
    go_wp2
    go_ret
    exact ⟨rfl, rfl⟩
theorem step_append_own {P : Program} {ops : Array Oper} {o : Oper} {a : Act} {w : World} {K : Act → World → Prop} {Q : Exit → Act → World → Prop} {E : Prop} (hg : o.guard = none) (s x : Operand) (t : TypeId)
    (ho : o.op = .call { callee := .builtin .append, args := #[s, x], argTypes := #[t, t] })
    (base : Nat) (e : TypeId) (i : TypeInfo) (z : Value) (size bytes : Nat) (ht : P.underlying t = some (.slice e)) (hi : P.info? e = some i) (hz : i.zero = some z)
    (hsize : i.size = size) (hby : i.bytes = bytes) (hzs : z.cells.size = size) (hsz : 0 < size)
    (v : Value) (n : Nat) (xs : List Value) (hs : a.eval s = v) (hown : w.ownsRow base e size v n xs)
    (ad : Addr) (m c : Nat) (news : List Value) (hx : a.eval x = .slice (some ad) m c) (hl : news.length = m * size) (hnews : ∀ j u, news[j]? = some u → w.cell? (ad.add j) = some u) (h1 : ∀ u ∈ news, u.oneCell' = true)
    (h63 : n + m ≤ maxLen) (hbytes : (n + m) * bytes ≤ 140737488355328) (hbase : base ≤ w.heap.size)
    (h : ∀ v' w', w'.ownsRow base e size v' (n + m) (xs ++ news) → w.grownBy w' v.ownBlock → K (a.put o.dst v') w') : if Region.wanted o (yielded ops a.tmps) = true then Oper.wp P o a w K Q else E := by
  rw [if_pos (by simp [Region.wanted, hg])]
  exact wp_append_own w s x t ho base e i z size bytes ht hi hz hsize hby hzs hsz v n xs hs hown ad m c news hx hl hnews h1 h63 hbytes hbase fun v' w' q1 q2 _ => h v' w' q1 q2
theorem info3 : (Tryz.prog.info? 3).map (fun i => (i.zero, i.size, i.bytes)) = some (some (.int .i64 0), 1, 8) := by kernel_rfl
theorem ends_take {L : List (Nat × Nat)} {k : Nat} (hk : k < L.length) : ends (L.take (k + 1)) = ends (L.take k) ++ [L[k].1, L[k].2 + 1] := by
  rw [List.take_succ_eq_append_getElem hk, ends_snoc]
theorem ends_len (L : List (Nat × Nat)) : (ends L).length = 1 + 2 * L.length := by
  unfold ends
  induction L with
  | nil => rfl
  | cons r L ih => simp at *; omega
/-- The row of all ends. -/
def EI (w : World) (L : List (Nat × Nat)) (k : Nat) (v : Value) (W : World) : Prop := W.ownsRow w.heap.size 3 1 v (ends (L.take k)).length (icells (ends (L.take k))) ∧ Below w.heap.size w W

/-- Where the search for cuts stands. -/
def CS (all C : List Nat) (lo : Nat) (more : Bool) : Prop := (more = true ∧ C ++ cutsL 4294967296 lo all = cutsL 4294967296 0 all) ∨ (more = false ∧ C = cutsL 4294967296 0 all)
theorem CS.len {all C : List Nat} {lo : Nat} {more : Bool} (h : CS all C lo more) : C.length ≤ 4294967296 := by
  have h1 : (cutsL 4294967296 0 all).length ≤ 4294967296 := by
    rcases rising_len (cutsL_spec 4294967296 all 4294967296 0 (by omega)).1 with h | h
    · omega
    · rw [h]; simp
  rcases h with ⟨_, h⟩ | ⟨_, h⟩
  · rw [← h] at h1; simp at h1; omega
  · rw [h]; exact h1
theorem CS.next {all C : List Nat} {lo : Nat} (h : CS all C lo true) (hn : nx 4294967296 lo all < 4294967296) : CS all (C ++ [nx 4294967296 lo all]) (nx 4294967296 lo all + 1) true := by
  rcases h with ⟨_, h⟩ | ⟨h, _⟩
  · refine .inl ⟨rfl, ?_⟩
    rw [← h, cutsL_cons hn]; simp
  · cases h
theorem CS.stop {all C : List Nat} {lo : Nat} (h : CS all C lo true) (hn : ¬ nx 4294967296 lo all < 4294967296) : CS all C lo false := by
  rcases h with ⟨_, h⟩ | ⟨h, _⟩
  · refine .inr ⟨rfl, ?_⟩
    rw [← h, cutsL_nil hn]; simp
  · cases h
theorem CS.fin {all C : List Nat} {lo : Nat} (h : CS all C lo false) : C = cutsL 4294967296 0 all := by
  rcases h with ⟨h, _⟩ | ⟨_, h⟩
  · cases h
  · exact h
theorem nx_take {m lo : Nat} {all : List Nat} {k : Nat} (hk : k < all.length) : nx m lo (all.take (k + 1)) = if lo ≤ all[k] ∧ all[k] < nx m lo (all.take k) then all[k] else nx m lo (all.take k) := by
  rw [List.take_succ_eq_append_getElem hk, nx_snoc]
theorem nx_le (m lo : Nat) (all : List Nat) : nx m lo all ≤ m := (nx_fold lo all m).1
theorem ends_bound {L : List (Nat × Nat)} (hu : U32 L) : ∀ k (hk : k < (ends L).length), (ends L)[k] ≤ 4294967296 := by
  intro k hk
  have hm := List.getElem_mem hk
  unfold ends at hm
  rcases List.mem_cons.1 hm with e | hm
  · show (ends L)[k] ≤ _; unfold ends; omega
  · obtain ⟨r, hr, h⟩ := List.mem_flatMap.1 hm
    have := hu r hr
    show (ends L)[k] ≤ _
    unfold ends
    simp at h
    rcases h with h | h <;> omega
def moreOf : Value → Nat
  | .bool true => 1
  | _ => 0

set_option maxRecDepth 100000 in
set_option maxHeartbeats 4000000 in
theorem cuts_any {v : Value} (L : List (Nat × Nat)) (w : World) (hu : U32 L) (hlen : L.length ≤ 1000000) (hz : IsZ w v L) :
    Calls Tryz.prog 70 #[v] w fun e w' => ∃ v', e = .returned v' ∧ IsI w' v' (cutsL 4294967296 0 (ends L)) ∧ Below w.heap.size w w' := by
  obtain ⟨A1, c1, rfl, n1, m1, z1⟩ := hz
  obtain ⟨i0, hi, hz0, hz1, hz2⟩ := info_parts info3
  have H1 := Lib.hid z1
  have HU := Lib.hid hu
  clear z1 hu
  go_enter Tryz.func70, Tryz.ntmps70
  go_wp2
  go_loopw [3, 4] (fun s i wr => ∃ (k g cap : Nat), i = .int .i64 k ∧ s = .slice (some ⟨g, 0, none⟩) (1 + 2 * k) cap ∧ k ≤ L.length ∧ Hid (EI w L k s wr)) (fun _ i _ => L.length - (intOf i).toNat)
  case atStart =>
    refine ⟨0, w.heap.size, 1, rfl, rfl, by omega, Lib.hid ⟨?_, (Below.refl _ w).alloc (Nat.le_refl _) _⟩⟩
    exact World.ownsRow_lit w #[.int .i64 0] 1 (Nat.le_refl _) (by simp [maxLen]) rfl
  case round =>
    obtain ⟨k, g, cap, rfl, rfl, hk, HE⟩ := hrel
    have hlk : (ends (L.take k)).length = 1 + 2 * k := by rw [ends_len, List.length_take]; omega
    by_cases hlt : k < L.length
    · have hb := HE.out.2
      have hrow := HE.out.1
      rw [hlk] at hrow
      obtain ⟨g1, o1, e1, hg1, r1⟩ := H1.out (by omega)
      subst e1
      have c10 := (hb.cell (p := ⟨g1, o1 + k * 2, none⟩) hg1).trans (r1 k hlt).1
      have c11 := (hb.cell (p := ⟨g1, o1 + k * 2 + 1, none⟩) hg1).trans (r1 k hlt).2
      have b1 := HU.out.at k hlt
      have het := ends_take hlt
      clear r1
      generalize L[k] = x at c10 c11 b1 het
      have HET := Lib.hid het
      clear het
      have j1 : IntKind.i64.wrap (x.1 : Int) = (x.1 : Int) := IntWalk.i64_in _ (by omega)
      have j2 : IntKind.i64.wrap (x.2 : Int) = (x.2 : Int) := IntWalk.i64_in _ (by omega)
      have j3 : IntKind.i64.wrap ((x.2 : Int) + 1) = (x.2 : Int) + 1 := IntWalk.i64_in _ (by omega)
      have k0 : (0 : Int) ≤ (k : Int) := by omega
      have k1 : (k : Int) < (L.length : Int) := by omega
      go_wp2_with fail
      go_region_held3 (fun w' => w'.cell? ⟨g1, o1 + k * 2, none⟩ = some (.int .u32 x.1) ∧ w'.cell? ⟨g1, o1 + k * 2 + 1, none⟩ = some (.int .u32 x.2)) (first | go_keep) ((refine step_append_own rfl (.tmp 17) (.tmp 31) 22 rfl w.heap.size 3 i0 (.int .i64 0) 1 8 Tryz.underlying22 hi hz0 hz1 hz2 rfl (by decide) (.slice (some ⟨g, 0, none⟩) (1 + 2 * k) cap) (1 + 2 * k) (icells (ends (L.take k))) (by simp [Act.eval]) (hrow.alloc _) ⟨wr.heap.size, 0, none⟩ 2 2 [.int .i64 x.1, .int .i64 ((x.2 : Int) + 1)] (by simp [Act.eval]) rfl (World.news_of_block (cs := #[.int .i64 x.1, .int .i64 ((x.2 : Int) + 1)]) (t := 3) (fr := (0, 0)) (heap_alloc_new wr _)) (by simp [Value.oneCell']) (by simp only [maxLen]; omega) (by omega) (by have := hb.size; simp; omega) ?_; intro v' w3 hown' hgrow; obtain ⟨g', cap', rfl⟩ := ownsRow_succ hown'; have hb3 : Below w.heap.size wr w3 := Below.grown (by first | exact ((Below.refl w.heap.size wr).alloc hb.size _).drew | exact (Below.refl w.heap.size wr).drew.alloc hb.size _ | exact (Below.refl w.heap.size wr).alloc hb.size _) hgrow (by have := hb.size; simp; omega) (fun k hk => (hrow.lt k hk).1); have d10 := (hb3.cell (p := ⟨g1, o1 + k * 2, none⟩) hg1).trans c10; have d11 := (hb3.cell (p := ⟨g1, o1 + k * 2 + 1, none⟩) hg1).trans c11))
      go_wp2
      go_roundw
      case rel =>
        refine ⟨k + 1, g', cap', by go_num, rfl, by omega, Lib.hid ⟨?_, hb.trans hb3⟩⟩
        rw [HET.out, icells_append]
        simpa [hlk, icells] using hown'
      case measure => simp [intOf]; omega
    · obtain rfl : k = L.length := by omega
      obtain ⟨w1, rfl⟩ : ∃ w1, w1 = wr := ⟨_, rfl⟩
      have hall : IsI w1 (.slice (some ⟨g, 0, none⟩) (1 + 2 * L.length) cap) (ends L) := by
        have := isI_of_row HE.out.1
        rwa [List.take_length] at this
      have hb := HE.out.2
      obtain ⟨P2, c2, e2, n2, m2, z2⟩ := hall
      have hlk' : (ends L).length = 1 + 2 * L.length := ends_len L
      have hg : ∀ W, Below w1.heap.size w1 W → ∀ (j x : Nat), (ends L)[j]? = some x → W.cell? ⟨g, j, none⟩ = some (.int .i64 x) := fun W hW j x hx => by
        obtain ⟨hj, rfl⟩ := List.getElem?_eq_some_iff.1 hx
        obtain ⟨g', e', hg', hc'⟩ := z2 (by omega)
        rw [e'] at e2
        simp only [Value.slice.injEq, Option.some.injEq, Addr.mk.injEq] at e2
        obtain ⟨⟨rfl, _⟩, _⟩ := e2
        exact (hW.cell (p := ⟨g, j, none⟩) hg').trans (hc' j hj)
      have hbd : ∀ (j x : Nat), (ends L)[j]? = some x → x ≤ 4294967296 := fun j x hx => by
        obtain ⟨hj, rfl⟩ := List.getElem?_eq_some_iff.1 hx
        exact ends_bound HU.out j hj
      obtain ⟨all, hall⟩ : ∃ all, all = ends L := ⟨_, rfl⟩
      rw [← hall] at hlk'
      rw [← hall] at hg hbd
      have HALL := Lib.hid hall
      have HG := Lib.hid hg
      have HBD := Lib.hid hbd
      clear hg hbd z2 e2 hall HE H1 HU hlk n2 m2
      go_wp2
      go_loopw [5, 6, 7] (fun o l m wq => ∃ (lo : Nat) (C : List Nat) (b : Bool), l = .int .i64 ((lo : Int) - 1) ∧ m = .bool b ∧ lo ≤ 4294967296 ∧ Hid (CS all C lo b) ∧ Hid (wq.ownsRow w1.heap.size 3 1 o C.length (icells C)) ∧ Below w1.heap.size w1 wq) (fun _ l m _ => 2 * (4294967297 - (intOf l + 1).toNat) + moreOf m)
      case atStart => exact ⟨0, [], true, rfl, rfl, by omega, Lib.hid (.inl ⟨rfl, rfl⟩), Lib.hid (World.ownsRow_nil _ _ _ _), Below.refl _ _⟩
      case round =>
        obtain ⟨lo, C, b, rfl, rfl, hlo, HC, HO, hbq⟩ := hrel
        cases b with
        | false =>
          go_wp2
          go_ret
          have hfin := HC.out.fin
          rw [HALL.out] at hfin
          subst hfin
          exact ⟨_, rfl, isI_of_row HO.out, hb.trans (hbq.mono hb.size)⟩
        | true =>
          obtain ⟨wq, rfl⟩ : ∃ wq, wq = wr := ⟨_, rfl⟩
          go_wp2
          go_loopw [8, 9] (fun nv iv wx => ∃ k : Nat, iv = .int .i64 k ∧ nv = .int .i64 (nx 4294967296 lo (all.take k) : Nat) ∧ k ≤ all.length ∧ wx = wq) (fun _ iv _ => all.length - (intOf iv).toNat)
          case atStart => exact ⟨0, rfl, rfl, by omega, rfl⟩
          case round =>
            obtain ⟨k, rfl, rfl, hk, rfl⟩ := hrel
            by_cases hlt : k < all.length
            · have c0 := HG.out wr hbq k _ (List.getElem?_eq_getElem hlt)
              have hx := HBD.out k _ (List.getElem?_eq_getElem hlt)
              have hnx := nx_take (m := 4294967296) (lo := lo) hlt
              have hnl := nx_le 4294967296 lo (all.take k)
              generalize all[k] = x at c0 hx hnx
              generalize nx 4294967296 lo (all.take k) = n at hnx hnl ⊢
              have k0 : (0 : Int) ≤ (k : Int) := by omega
              have k1 : (k : Int) < 1 + 2 * (L.length : Int) := by omega
              have k2 : (k : Int) < ((1 + 2 * L.length : Nat) : Int) := by omega
              by_cases h1 : lo ≤ x
              · by_cases h2 : x < n
                · rw [if_pos ⟨h1, h2⟩] at hnx
                  have HN := Lib.hid hnx
                  have h1' : (lo : Int) - 1 < (x : Int) := by omega
                  clear hnx h1
                  go_wp2
                  go_roundw
                  case rel => exact ⟨k + 1, by go_num, by rw [HN.out], by omega, trivial⟩
                  case measure => simp [intOf]; omega
                · rw [if_neg (by omega)] at hnx
                  have HN := Lib.hid hnx
                  have h1' : (lo : Int) - 1 < (x : Int) := by omega
                  clear hnx h1
                  go_wp2
                  go_roundw
                  case rel => exact ⟨k + 1, by go_num, by rw [HN.out], by omega, trivial⟩
                  case measure => simp [intOf]; omega
              · rw [if_neg (by omega)] at hnx
                have HN := Lib.hid hnx
                have h1' : ¬ (lo : Int) - 1 < (x : Int) := by omega
                clear hnx h1
                go_wp2
                go_roundw
                case rel => exact ⟨k + 1, by go_num, by rw [HN.out], by omega, trivial⟩
                case measure => simp [intOf]; omega
            · obtain rfl : k = all.length := by omega
              rw [List.take_length]
              have hnl := nx_le 4294967296 lo all
              have hcl := HC.out.len
              by_cases hn : nx 4294967296 lo all < 4294967296
              · have hnlo := (nx_lo hn).1
                have HC2 := Lib.hid (HC.out.next hn)
                generalize nx 4294967296 lo all = n at hn hnl hnlo HC2 ⊢
                have k1 : ¬ (all.length : Int) < (all.length : Int) := by omega
                have k3 : ¬ (all.length : Int) < 1 + 2 * (L.length : Int) := by omega
                have k4 : ¬ (all.length : Int) < ((1 + 2 * L.length : Nat) : Int) := by omega
                go_wp2_with (at_builtin; refine wpList_append_own _ rfl _ _ 22 rfl w1.heap.size 3 i0 (.int .i64 0) 1 8 Tryz.underlying22 hi hz0 hz1 hz2 rfl (by decide) _ _ _ rfl (HO.out.alloc _) ⟨wr.heap.size, 0, none⟩ 1 1 [.int .i64 n] rfl rfl (cell_one_new _ _ _) (by simp [Value.oneCell']) (by simp only [maxLen]; omega) (by omega) (by have := hbq.size; simp; omega) ?_; intro v' w3 hown' hgrow _)
                go_roundw
                case rel =>
                  refine ⟨n + 1, C ++ [n], true, by go_num, rfl, by omega, HC2, Lib.hid ?_, (hbq.alloc hbq.size _).grown hgrow (by have := hbq.size; simp; omega) (fun k hk => (HO.out.lt k hk).1)⟩
                  rw [icells_append]
                  simpa [icells] using hown'
                case measure => simp [intOf, moreOf]; omega
              · have HC2 := Lib.hid (HC.out.stop hn)
                generalize nx 4294967296 lo all = n at hn hnl HC2 ⊢
                have k1 : ¬ (all.length : Int) < (all.length : Int) := by omega
                have k3 : ¬ (all.length : Int) < 1 + 2 * (L.length : Int) := by omega
                have k4 : ¬ (all.length : Int) < ((1 + 2 * L.length : Nat) : Int) := by omega
                have dn : decide ((n : Int) ≤ 4294967295) = false := by simp; omega
                go_wp2
                go_roundw
                case rel => exact ⟨lo, C, false, rfl, rfl, hlo, HC2, HO, hbq⟩
                case measure => simp only [moreOf]; omega
end Go.Proofs.YtlhfaildeemngaaGreat.Tr
/- Words: pieces of a slice of ranges, appended to a row of one's own. -/
namespace Go.Proofs.YtlhfaildeemngaaGreat.Tr
open Go.RowKit Go.Shelf

theorem size26 (u : World) : (sizeOf (Tryz.prog.elem 70)).run Tryz.prog u = .ok 2 u := by kernel_rfl
theorem und26 : Tryz.prog.underlying 70 = some (.slice (Tryz.prog.elem 70)) := by kernel_rfl
theorem Zs.none {w : World} {A : Option Addr} {L : List (Nat × Nat)} (h : Zs w A L) (hA : A = none) : L = [] := by
  cases L with
  | nil => rfl
  | cons r L => obtain ⟨g, o, e, _⟩ := h (by simp); rw [hA] at e; cases e
theorem Zs.take {w : World} {A : Option Addr} {L : List (Nat × Nat)} (h : Zs w A L) (q : Nat) : Zs w A (L.take q) := fun hn => by
  have hn' : 0 < L.length := by have := List.length_take_le q L; rw [List.length_take] at hn; omega
  obtain ⟨g, o, e, hg, hc⟩ := h hn'
  refine ⟨g, o, e, hg, fun k hk => ?_⟩
  have hk' : k < L.length := by rw [List.length_take] at hk; omega
  simp only [List.getElem_take]
  exact hc k hk'
/-- l[q:]. -/
theorem slice_from (A : Option Addr) (c : Nat) (L : List (Nat × Nat)) (q : Nat) (hq : q ≤ L.length) (hc : L.length ≤ c) (hm : c ≤ maxLen) : ∃ A2 c2, (∀ u : World, (Instr.slice 70 (.slice A L.length c) (some (.int .i64 (q : Int))) none none).run Tryz.prog u = .ok (.slice A2 (L.length - q) c2) u) ∧
    L.length - q ≤ c2 ∧ c2 ≤ maxLen ∧ ∀ W, Zs W A L → Zs W A2 (L.drop q) := by
  refine ⟨if c = q then A else A.map (·.add (q * 2)), c - q, fun u => ?_, by omega, by omega, fun W h => h.drop hc⟩
  rw [run_slice_l u 70 A L.length c und26 .i64 q (by omega) (by omega), size26]
  simp [Result.andThen, sliced]
/-- l[:q]. -/
theorem slice_to (A : Option Addr) (c : Nat) (L : List (Nat × Nat)) (q : Nat) (hq : q ≤ L.length) (hc : L.length ≤ c) (_hm : c ≤ maxLen) : ∀ u : World, (Instr.slice 70 (.slice A L.length c) none (some (.int .i64 (q : Int))) none).run Tryz.prog u = .ok (.slice A q c) u := by
  intro u
  rw [run_slice_h u 70 A L.length c und26 .i64 q (by omega) (by omega), size26]
  simp [Result.andThen, sliced]
  intro h; cases A <;> simp [Addr.add]

theorem Row.alloc {w : World} {base : Nat} {v : Value} {L : List (Nat × Nat)} (h : Row w base v L) (o : Obj) : Row (w.alloc o) base v L := ⟨h.1.alloc o, h.2⟩

theorem wpList_app_y {ops : Array Oper} {rest : List Oper} {o : Oper} {a : Act} {Q : Exit → Act → World → Prop} {w : World} (hgd : o.guard = none) (s x : Operand)
    (ho : o.op = .call { callee := .builtin .append, args := #[s, x], argTypes := #[70, 70] })
    (base : Nat) (v : Value) (L : List (Nat × Nat)) (hs : a.eval s = v) (hrow : Row w base v L) (A : Option Addr) (n c : Nat) (M : List (Nat × Nat)) (hx : a.eval x = .slice A n c) (hn : n = M.length) (hM : Zs w A M)
    (hlen : L.length + M.length ≤ 4294967300) (hbase : base ≤ w.heap.size)
    (h : ∀ g cap w', Row w' base (.slice (some ⟨g, 0, none⟩) (L.length + M.length) cap) (L ++ M) → Below base w w' → wpList Tryz.prog ops Q rest (a.put o.dst (.slice (some ⟨g, 0, none⟩) (L.length + M.length) cap)) w') : wpList Tryz.prog ops Q (o :: rest) a w := by
  subst hn
  obtain ⟨i0, hi, hz0, hz1, hz2⟩ := info_parts info32
  obtain ⟨hown, g, cap, rfl⟩ := hrow
  have hA : A = .none → M = [] := hM.none
  cases A with
  | some ad =>
    refine wpList_append_own w hgd s x 70 ho base 39 i0 (.agg #[.int .u32 0, .int .u32 0]) 2 8 Tryz.underlying70 hi hz0 hz1 hz2 rfl (by decide) _ _ _ hs hown ad M.length c (zcells M) hx (zcells_length M) hM.news (zcells_one M) (by simp only [maxLen]; omega) (by omega) hbase ?_
    intro v' w' h1 h2 h3
    have hnn : v' ≠ .slice .none 0 0 := fun e => by have := (h3.1 e).1; cases this
    rcases h1.2 with ⟨e, _⟩ | ⟨g', cap', cur, rfl, _⟩
    · exact absurd e hnn
    · refine h g' cap' w' ⟨?_, g', cap', by simp⟩ ((Below.refl _ _).grown h2 hbase (fun k hk => (hown.lt k hk).1))
      rw [zcells_append]
      simpa using h1
  | none =>
    obtain rfl := hA rfl
    refine wpList_plain hgd fun K hK => ?_
    have hr := run_append_room_src (P := Tryz.prog) w 70 70 o.type 39 i0 Tryz.underlying70 hi g 0 L.length cap (.slice .none 0 c) 0 [] (by rw [hz1]; exact Src.ofNil w Tryz.underlying70 c) (by
      rcases hown.2 with ⟨e, _⟩ | ⟨g', cap', cur, e, _, _, hnc, _⟩
      · cases e
      · cases e; exact hnc) (by simp) (by simp)
    unfold Oper.wp execOp
    simp only [ho, resolve, invoke, builtin, Sem.run_bind, Sem.run_pure, Result.andThen_ok, List.map_toArray, List.map_cons, List.map_nil, hs, hx, List.length_nil, hr]
    exact hK _ _ (h g cap w ⟨by simpa using hown, g, cap, by simp⟩ (Below.refl _ _))

theorem zs_one (w : World) (x : Nat × Nat) : Zs (w.alloc (.cells #[.int .u32 x.1, .int .u32 x.2] 39)) (some ⟨w.heap.size, 0, none⟩) [x] := fun _ =>
  ⟨w.heap.size, 0, rfl, (At.new w #[.int .u32 x.1, .int .u32 x.2] 39).lt, fun k hk => by
    have hA := At.new w #[.int .u32 x.1, .int .u32 x.2] 39
    obtain rfl : k = 0 := by simpa using hk
    exact ⟨(hA.cell 0).trans rfl, (hA.cell 1).trans rfl⟩⟩
end Go.Proofs.YtlhfaildeemngaaGreat.Tr
/- Contracts of the document: Atoms, Of. -/
namespace Go.Proofs.YtlhfaildeemngaaGreat.Tr
open Go.RowKit Go.Shelf

theorem atomsL_take {C : List Nat} {k : Nat} (hk : k < C.length) : (atomsL C).take (k + 1) = (atomsL C).take k ++ [(frm C k, too C k)] := by
  have h : k < (atomsL C).length := by rw [atomsL_len]; exact hk
  rw [List.take_succ_eq_append_getElem h, atomsL_at]
/-- Where the loop over the boundaries stands. -/
def AI (W0 : World) (C : List Nat) (k : Nat) (v : Value) (W : World) : Prop := W.ownsRow W0.heap.size 39 2 v k (zcells ((atomsL C).take k)) ∧ Below W0.heap.size W0 W
/-- What Atoms answers. -/
def AtOut (w : World) (L : List (Nat × Nat)) (e : Ending) (w' : World) : Prop := ∃ v', e = .returned v' ∧ IsZ w' v' (atomsL (bnds L)) ∧ Below w.heap.size w w'
set_option maxRecDepth 100000 in
set_option maxHeartbeats 2000000 in
theorem ratoms_any {v : Value} (L : List (Nat × Nat)) (w : World) (hL : RL L) (hz : IsZ w v L) : Calls Tryz.prog 50 #[v] w (AtOut w L) := by
  obtain ⟨i0, hi, hz0, hz1, hz2⟩ := info_parts info32
  have hcuts := cuts_any L w hL.u32 (by have := hL.2; omega) hz
  obtain ⟨A, c, rfl, n1, m1, _⟩ := hz
  have hbd := bd_of L
  have hlen : (bnds L).length ≤ 4294967296 := by
    rcases rising_len (bnds_rise L) with h | h
    · omega
    · rw [h]; simp
  go_enter Tryz.func50, Tryz.ntmps50
  go_wp2_with fail
  refine hcuts.mono ?_
  rintro e w1 ⟨v1, rfl, i1, b1⟩
  change IsI w1 v1 (bnds L) at i1
  have HL := Lib.hid (rfl : bnds L = bnds L)
  have hgoal : ∃ C, C = bnds L := ⟨_, rfl⟩
  obtain ⟨C, hC⟩ := hgoal
  rw [← hC] at i1 hbd hlen
  have HC := Lib.hid hC
  clear hC HL hcuts
  have HBD := Lib.hid hbd
  have HEND : Hid (∀ (k : Nat) (hk : k < C.length) W, Below w1.heap.size w1 W → Calls Tryz.prog 71 #[v1, .int .i64 (k : Int)] W fun e w' => e = .returned (.int .i64 (too C k : Nat)) ∧ w' = W) := Lib.hid fun k hk W hW => end_any C k W hk (fun j hj h0 => by have := rising_at hbd.1 0 j hbd.pos hj h0; omega) (fun j hj => hbd.lt hj) (i1.belows hW)
  have HI := Lib.hid (fun W (hW : Below w1.heap.size w1 W) => i1.belows hW)
  obtain ⟨A1, c1, rfl, n2, m2, z1⟩ := i1
  clear hbd z1
  have HB1 := Lib.hid b1
  go_wp2_with fail
  go_loopw [4, 5] (fun ov i wr => ∃ k : Nat, i = .int .i64 k ∧ k ≤ C.length ∧ Hid (AI w1 C k ov wr)) (fun _ i _ => C.length - (intOf i).toNat)
  case atStart => exact ⟨0, rfl, by omega, Lib.hid ⟨by simpa [zcells] using World.ownsRow_nil w1 w1.heap.size 39 2, Below.refl _ _⟩⟩
  case round =>
    obtain ⟨k, rfl, hk, HA⟩ := hrel
    obtain ⟨hrow, hb⟩ := HA.out
    by_cases hlt : k < C.length
    · obtain ⟨A1', c1', e, _, _, z⟩ := HI.out w1 (Below.refl _ _)
      injection e with e1 e2 e3
      subst e1
      obtain ⟨g, rfl, hg, hc⟩ := z (by omega)
      have q0 := (hb.cell (p := ⟨g, k, none⟩) hg).trans (hc k hlt)
      rw [← frm_in hlt] at q0
      have hfl := HBD.out.frm_le hlt
      have hEnd := HEND.out k hlt
      have hzt : zcells ((atomsL C).take (k + 1)) = zcells ((atomsL C).take k) ++ [.int .u32 (frm C k : Nat), .int .u32 (too C k : Nat)] := by rw [atomsL_take hlt, zcells_snoc]
      have HZ := Lib.hid hzt
      have HROW := Lib.hid hrow
      have HB := Lib.hid hb
      have hsb := hb.size
      have HE : Hid (∀ W, Below w1.heap.size w1 W → Calls Tryz.prog 71 #[.slice (some ⟨g, 0, none⟩) C.length c1, .int .i64 (k : Int)] W fun e w' => e = .returned (.int .i64 (too C k : Nat)) ∧ w' = W) := Lib.hid hEnd
      clear hEnd hzt hrow hc z HA e2 e3
      generalize frm C k = x at q0 hfl HZ
      generalize too C k = y at hfl HZ HE
      have j1 : IntKind.u32.wrap (x : Int) = (x : Int) := IntWalk.u32_in _ (by omega)
      have j2 : IntKind.u32.wrap (y : Int) = (y : Int) := IntWalk.u32_in _ (by omega)
      have k0 : (0 : Int) ≤ (k : Int) := by omega
      have k1 : (k : Int) < (C.length : Int) := by omega
      go_wp2_with fail
      go_region_held3 (fun W => W.cell? ⟨g, k, none⟩ = some (.int .i64 (x : Int))) (first | go_keep) (first
        | (go_at_call 71; refine (HE.out _ (by first | exact HB.out.drew | exact HB.out)).mono ?_; rintro e w4 ⟨rfl, rfl⟩)
        | ((refine step_append_own rfl (.tmp 14) (.tmp 25) 70 rfl w1.heap.size 39 i0 (.agg #[.int .u32 0, .int .u32 0]) 2 8 Tryz.underlying70 hi hz0 hz1 hz2 rfl (by decide) u4 k (zcells ((atomsL C).take k)) (by simp [Act.eval]) (HROW.out.alloc _) ⟨wr.heap.size, 0, none⟩ 1 1 [.int .u32 x, .int .u32 y] (by simp [Act.eval]) rfl (World.news_of_block (cs := #[.int .u32 x, .int .u32 y]) (t := 39) (fr := (0, 0)) (heap_alloc_new wr _)) (by simp [Value.oneCell']) (by simp only [maxLen]; omega) (by omega) (by simp; omega) ?_; intro v' w3 hown' hgrow; have hb3 : Below w1.heap.size wr w3 := Below.grown (by first | exact ((Below.refl w1.heap.size wr).alloc hsb _).drew | exact (Below.refl w1.heap.size wr).drew.alloc hsb _ | exact (Below.refl w1.heap.size wr).alloc hsb _) hgrow (by simp; omega) (fun j hj => (HROW.out.lt j hj).1); have d10 := (hb3.cell (p := ⟨g, k, none⟩) hg).trans q0)))
      rename_i hHeld
      clear hHeld
      go_wp2
      go_roundw
      case rel => exact ⟨k + 1, by go_num, by omega, Lib.hid ⟨by rw [HZ.out]; exact hown', hb.trans hb3⟩⟩
      case measure => simp [intOf]; omega
    · obtain rfl : k = C.length := by omega
      have hfull : (atomsL C).take C.length = atomsL C := by rw [← atomsL_len, List.take_length]
      rw [hfull] at hrow
      have hzz : IsZ wr u4 (atomsL C) := isZ_of_row (base := w1.heap.size) (by rw [atomsL_len]; exact hrow)
      have HZ := Lib.hid hzz
      clear hrow hfull hzz HA
      go_wp2
      go_ret
      exact ⟨_, rfl, by rw [← HC.out]; exact HZ.out, HB1.out.trans (hb.mono HB1.out.size)⟩
/-- The document's Of, of atoms. -/
def ofDoc (m : List (Nat × Nat)) (a : Nat) : Nat := (m.takeWhile fun r => decide (r.2 < a)).length
theorem ofDoc_at {m : List (Nat × Nat)} {a k : Nat} (hk : k ≤ m.length) (h1 : ∀ j (hj : j < m.length), j < k → m[j].2 < a) (h2 : ∀ hj : k < m.length, ¬ m[k].2 < a) : ofDoc m a = k := by
  unfold ofDoc
  induction m generalizing k with
  | nil => simp at hk; simp [hk]
  | cons r m ih =>
    cases k with
    | zero =>
      have := h2 (by simp)
      rw [List.takeWhile_cons_of_neg (by simpa using this)]; rfl
    | succ k =>
      have := h1 0 (by simp) (by omega)
      rw [List.takeWhile_cons_of_pos (by simpa using this), List.length_cons, ih (by simpa using hk) (fun j hj hjk => by have := h1 (j + 1) (by simpa using hj) (by omega); simpa using this) (fun hj => by have := h2 (by simpa using hj); simpa using this)]
theorem ofDoc_atoms {C : List Nat} (h : Bd C) {a : Nat} (ha : a < 4294967296) : ofDoc (atomsL C) a = ofL C a := by
  have hl := h.of_le a
  have hi := h.of_in ha
  refine ofDoc_at (by rw [atomsL_len]; omega) (fun j hj hjk => ?_) (fun hj => ?_)
  · rw [atomsL_at]
    show too C j < a
    have h1 : j + 1 < C.length := by omega
    have h2 := (h.of_iff a (j + 1) h1).1 (by omega)
    rw [h.next h1] at h2
    omega
  · rw [atomsL_at]
    show ¬ too C _ < a
    omega
end Go.Proofs.YtlhfaildeemngaaGreat.Tr
/- Contracts: the document's Ranges, Atoms of a network. -/
namespace Go.Proofs.YtlhfaildeemngaaGreat
open Go.RowKit Go.Shelf

/-- A range as cells. -/
def rgA (x : Nat × Nat) : Array Value := #[.int .u32 x.1, .int .u32 x.2]
theorem rgA_size (x : Nat × Nat) : (rgA x).size = 2 := rfl
theorem rgA_one (x : Nat × Nat) : ∀ u ∈ (rgA x).toList, u.oneCell' = true := by
  intro u hu
  simp [rgA] at hu
  rcases hu with rfl | rfl <;> rfl
theorem infoRange : (Tryz.prog.info? 39).map (fun i => (i.zero, i.size, i.bytes)) = some (some (.agg #[.int .u32 0, .int .u32 0]), 2, 8) := by kernel_rfl
theorem rg_take {L : List Ru} {k : Nat} (hk : k < L.length) : rgL (L.take (k + 1)) = rgL (L.take k) ++ [(L[k].f, L[k].t)] := by
  unfold rgL
  rw [List.take_succ_eq_append_getElem hk, List.map_append]
  rfl
set_option maxRecDepth 100000 in
set_option maxHeartbeats 2000000 in
/-- The document's Ranges. -/
theorem rranges_any {vp vl vr : Value} (ps : List Int) (ls : List Lk) (L : List Ru) (w : World) (hl : L.length ≤ 1000) (h : IsN w vp vl vr ps ls L) : Calls Tryz.prog 51 #[.agg #[vp, vl, vr]] w fun e w' => ∃ v, e = .returned v ∧ Tr.IsZ w' v (rgL L) ∧ Below w.heap.size w w' := by
  obtain ⟨⟨⟨A1, c1, rfl, _⟩, ⟨A2, c2, rfl, _⟩⟩, ⟨A3, c3, rfl, n3, m3, z3⟩⟩ := h
  have HZ : Hid (∀ u, Below w.heap.size w u → Rs u A3 L) := Lib.hid fun u hu => z3.belows hu
  have D0 := At.new w #[.slice A1 ps.length c1, .slice A2 ls.length c2, .slice A3 L.length c3] 28
  have b0 : Below w.heap.size w (w.alloc (.cells #[.slice A1 ps.length c1, .slice A2 ls.length c2, .slice A3 L.length c3] 28)) := (Below.refl _ w).alloc (Nat.le_refl _) _
  have hs0 : (w.alloc (.cells #[.slice A1 ps.length c1, .slice A2 ls.length c2, .slice A3 L.length c3] 28)).heap.size = w.heap.size + 1 := by simp
  have hL : L.length ≤ 9223372036854775807 := by omega
  clear z3
  go_enter Tryz.func51, Tryz.ntmps51
  go_upto_region 1 with (fail)
  obtain ⟨w0, hw0⟩ : ∃ w0, w0 = w.alloc (.cells #[.slice A1 ps.length c1, .slice A2 ls.length c2, .slice A3 L.length c3] 28) := ⟨_, rfl⟩
  rw [← hw0] at D0 b0 hs0 ⊢
  clear hw0
  have HS0 := Lib.hid hs0
  have HI0 : Hid (w0.ownsRow (w.heap.size + 1) 39 2 (.slice none 0 0) 0 (fcs rgA (rgL (L.take 0))) ∧ Below (w.heap.size + 1) w0 w0) := Lib.hid ⟨World.ownsRow_nil _ _ _ _, Below.refl _ _⟩
  clear hs0
  go_wp2
  go_loopw [3, 4] (fun o i wr => ∃ k : Nat, i = .int .i64 k ∧ k ≤ L.length ∧ Hid (wr.ownsRow (w.heap.size + 1) 39 2 o k (fcs rgA (rgL (L.take k))) ∧ Below (w.heap.size + 1) w0 wr)) (fun _ i _ => L.length - (intOf i).toNat)
  case atStart => exact ⟨0, rfl, by omega, HI0⟩
  case round =>
    obtain ⟨k, rfl, hk, HI⟩ := hrel
    have hb := HI.out.2
    have D1 := D0.below hb (by omega)
    have bw := b0.trans (hb.mono (by omega))
    have x2 := (D1.cell 2).trans rfl
    have hsz : w.heap.size + 1 ≤ wr.heap.size := by have := hb.size; have := HS0.out; omega
    have HROW := Lib.hid HI.out.1
    by_cases hlt : k < L.length
    · obtain ⟨g, o, e, hg, r0, r1, r2, r3, r4, r5, r6⟩ := (HZ.out wr bw).at k hlt
      subst e
      have i0 : (0 : Int) ≤ (k : Int) := by omega
      have i1 : (k : Int) < (L.length : Int) := by omega
      have HT : Hid (fcs rgA (rgL (L.take k) ++ [(L[k].f, L[k].t)]) = fcs rgA (rgL (L.take (k + 1))) ∧ (rgL (L.take k)).length = k) := Lib.hid ⟨by rw [rg_take hlt], by unfold rgL; rw [List.length_map, List.length_take]; omega⟩
      generalize L[k] = x at r0 r1 r2 r3 r4 r5 r6 HT
      obtain ⟨id, dv, pr, kd, f, t, pt⟩ := x
      dsimp only at r0 r1 r2 r3 r4 r5 r6 HT
      have HB := Lib.hid hb
      clear D1 hb r0 r1 r2 r3 r6
      go_wp2_with (at_builtin; refine wpList_app_new rgA_size rgA_one Tryz.underlying70 infoRange rfl (by decide) rfl (.tmp 12) (.tmp 19) rfl (w.heap.size + 1) _ (rgL (L.take k)) rfl (by rw [HT.out.2]; exact HROW.out.alloc _) ⟨wr.heap.size, 0, none⟩ 1 [(f, t)] rfl (f_new rgA_size wr [(f, t)] #[.int .u32 f, .int .u32 t] 39 rfl) (by simp only [maxLen, List.length_singleton]; have := HT.out.2; omega) (by simp only [List.length_singleton]; have := HT.out.2; omega) (by simp; omega) ?_; intro v' w5 ho hb5)
      have HF : Hid (w5.ownsRow (w.heap.size + 1) 39 2 v' (k + 1) (fcs rgA (rgL (L.take (k + 1)))) ∧ Below (w.heap.size + 1) w0 w5) := Lib.hid (by
        rw [List.length_append, HT.out.2, HT.out.1] at ho
        exact ⟨ho, (HB.out.alloc (by omega) _).trans hb5⟩)
      clear ho hb5
      go_roundw
      case rel => exact ⟨k + 1, by go_num, by omega, HF⟩
      case measure => simp [intOf]; omega
    · have hki : ¬ (k : Int) < (L.length : Int) := by omega
      have hkl : k = L.length := by omega
      have HF : Hid (Tr.IsZ wr u3 (rgL L)) := Lib.hid (by
        have := HROW.out
        rw [hkl, List.take_length] at this
        refine Tr.isZ_of_row (base := w.heap.size + 1) ?_
        rw [show (rgL L).length = L.length by unfold rgL; rw [List.length_map]]
        exact this)
      clear hkl
      go_wp2
      go_ret
      exact ⟨_, rfl, HF.out, bw⟩
set_option maxRecDepth 100000 in
/-- The document's Atoms, of a right network. -/
theorem ratomsN_any {vp vl vr : Value} (ps : List Int) (ls : List Lk) (L : List Ru) (w : World) (hR : allB L = true) (hW : ∀ r ∈ L, r.wf) (h : IsN w vp vl vr ps ls L) : Calls Tryz.prog 27 #[.agg #[vp, vl, vr]] w fun e w' => ∃ v, e = .returned v ∧ Tr.IsZ w' v (atmL L) ∧ Below w.heap.size w w' := by
  have hRL := rgL_RL hR hW
  have hl : L.length ≤ 1000 := by have := ((allB_pw L).1 hR).1; omega
  have b0 : Below w.heap.size w (w.alloc (.cells #[vp, vl, vr] 28)) := (Below.refl _ w).alloc (Nat.le_refl _) _
  have k1 := rranges_any ps ls L _ hl (h.belows b0)
  have D0 := At.new w #[vp, vl, vr] 28
  obtain ⟨⟨⟨A1, c1, rfl, _⟩, ⟨A2, c2, rfl, _⟩⟩, ⟨A3, c3, rfl, _⟩⟩ := h
  go_enter Tryz.func27, Tryz.ntmps27
  go_upto_region 1 with (fail)
  obtain ⟨w0, hw0⟩ : ∃ w0, w0 = w.alloc (.cells #[.slice A1 ps.length c1, .slice A2 ls.length c2, .slice A3 L.length c3] 28) := ⟨_, rfl⟩
  rw [← hw0] at D0 b0 k1 ⊢
  clear hw0
  have x0 := (D0.cell 0).trans rfl
  have x1 := (D0.cell 1).trans rfl
  have x2 := (D0.cell 2).trans rfl
  go_wp2_with (first | (go_at_call 51; refine k1.mono ?_; rintro e w1 ⟨v1, rfl, hz1, b1⟩; obtain ⟨B1, d1, rfl, y1, y2, y3⟩ := hz1) | (go_at_call 50; refine (Tr.ratoms_any (rgL L) _ hRL ⟨B1, d1, rfl, y1, y2, y3⟩).mono ?_; rintro e w2 ⟨v2, rfl, hz2, b2⟩; obtain ⟨B2, d2, rfl, q1, q2, q3⟩ := hz2))
  go_ret
  exact ⟨_, rfl, ⟨B2, d2, rfl, q1, q2, q3⟩, (b0.trans (b1.mono b0.size)).trans (b2.mono (Nat.le_trans b0.size b1.size))⟩
end Go.Proofs.YtlhfaildeemngaaGreat
/- Contract: the document's Same of rules. -/
namespace Go.Proofs.YtlhfaildeemngaaGreat
open Go.RowKit Go.Shelf

set_option maxRecDepth 100000 in
set_option maxHeartbeats 1000000 in
/-- The document's Same. -/
theorem rsameR_any {v1 v2 : Value} (L M : List Ru) (w : World) (h1 : IsR w v1 L) (h2 : IsR w v2 M) : Calls Tryz.prog 28 #[v1, v2] w fun e w' => e = .returned (.bool (decide (L = M))) ∧ Below w.heap.size w w' := by
  obtain ⟨A1, c1, rfl, n1, m1, z1⟩ := h1
  obtain ⟨A2, c2, rfl, n2, m2, z2⟩ := h2
  have hL : L.length ≤ 9223372036854775807 := Nat.le_trans n1 m1
  have hM : M.length ≤ 9223372036854775807 := Nat.le_trans n2 m2
  have H1 := Lib.hid z1
  have H2 := Lib.hid z2
  obtain ⟨q, hq⟩ : ∃ q, q = decide (L = M) := ⟨_, rfl⟩
  rw [← hq]
  have HQ := Lib.hid hq
  clear z1 z2 hq
  by_cases hlen : L.length = M.length
  · have hln : ((L.length : Int) == (M.length : Int)) = true := by simp [hlen]
    have hlm : decide ((L.length : Int) = (M.length : Int)) = true := by simp [hlen]
    have HE := Lib.hid hlen
    clear hlen
    go_enter Tryz.func28, Tryz.ntmps28
    go_wp2
    go_loopw [5] (fun i wr => ∃ k : Nat, i = .int .i64 k ∧ k ≤ L.length ∧ Hid (∀ j (h1 : j < L.length) (h2 : j < M.length), j < k → L[j] = M[j]) ∧ ∃ q, wr = w.drewN q) (fun i _ => L.length - (intOf i).toNat)
    case atStart => exact ⟨0, rfl, by omega, Lib.hid (fun j _ _ hj => by omega), 0, rfl⟩
    case round =>
      obtain ⟨k, rfl, hk, HK, nd, rfl⟩ := hrel
      by_cases hlt : k < L.length
      · have hlt2 : k < M.length := by have := HE.out; omega
        obtain ⟨g1, o1, e1, _, r0, r1, r2, r3, r4, r5, r6⟩ := H1.out.at k hlt
        obtain ⟨g2, o2, e2, _, s0, s1, s2, s3, s4, s5, s6⟩ := H2.out.at k hlt2
        subst e1 e2
        have hn := neq_ru L[k] M[k]
        have HX : Hid (L[k] = M[k] → ∀ j (h1 : j < L.length) (h2 : j < M.length), j < k + 1 → L[j] = M[j]) := Lib.hid fun e j h1 h2 hj => by
          by_cases hjk : j = k
          · subst hjk; exact e
          · exact HK.out j h1 h2 (by omega)
        have HY : Hid (L[k] ≠ M[k] → q = false) := Lib.hid fun e => by
          rw [HQ.out]; apply decide_eq_false; intro h; subst h; exact e rfl
        generalize L[k] = x at r0 r1 r2 r3 r4 r5 r6 hn HX HY
        generalize M[k] = y at s0 s1 s2 s3 s4 s5 s6 hn HX HY
        have i0 : (0 : Int) ≤ (k : Int) := by omega
        have i1 : (k : Int) < (L.length : Int) := by omega
        have i2 : (k : Int) < (M.length : Int) := by omega
        clear hlt2
        by_cases hxy : x = y
        · have HZ := Lib.hid (HX.out hxy)
          rw [decide_eq_true hxy] at hn
          clear HX HY hxy
          obtain ⟨id, dv, pr, kd, f, t, pt⟩ := x
          obtain ⟨id', dv', pr', kd', f', t', pt'⟩ := y
          dsimp only at r0 r1 r2 r3 r4 r5 r6 s0 s1 s2 s3 s4 s5 s6
          rw [ruA_mk, ruA_mk, Bool.not_true] at hn
          go_wp2_with fail
          go_quiet (fail)
          go_wp2
          go_roundw
          case rel => exact ⟨k + 1, by go_num, by omega, HZ, nd + nq, rfl⟩
          case measure => simp [intOf]; omega
        · have hqf := HY.out hxy
          rw [decide_eq_false hxy] at hn
          clear HX HY hxy
          subst hqf
          obtain ⟨id, dv, pr, kd, f, t, pt⟩ := x
          obtain ⟨id', dv', pr', kd', f', t', pt'⟩ := y
          dsimp only at r0 r1 r2 r3 r4 r5 r6 s0 s1 s2 s3 s4 s5 s6
          rw [ruA_mk, ruA_mk, Bool.not_false] at hn
          go_wp2_with fail
          go_quiet (fail)
          go_wp2
          go_ret
          exact ⟨rfl, bdrewN (bdrewN (Below.refl _ _) _) _⟩
      · have hqt : q = true := by
          rw [HQ.out]; apply decide_eq_true
          exact List.ext_getElem HE.out fun j h1 h2 => HK.out j h1 h2 (by omega)
        subst hqt
        go_wp2
        go_ret
        exact ⟨rfl, bdrewN (Below.refl _ _) _⟩
  · have hln : ((L.length : Int) == (M.length : Int)) = false := by simp; omega
    have hlm : decide ((L.length : Int) = (M.length : Int)) = false := by simp; omega
    have hqf : q = false := by rw [HQ.out]; apply decide_eq_false; intro h; subst h; exact hlen rfl
    subst hqf
    clear HQ
    go_enter Tryz.func28, Tryz.ntmps28
    go_wp2
    go_ret
    exact ⟨rfl, Below.refl _ _⟩
end Go.Proofs.YtlhfaildeemngaaGreat
/- Contracts: the document's SamePorts, Same. -/
namespace Go.Proofs.YtlhfaildeemngaaGreat
open Go.RowKit Go.Shelf

theorem fsLk : Tryz.prog.underlying 83 = some (.struct (Tryz.prog.fieldsOf 83)) := by kernel_rfl
theorem hdLk : Tryz.prog.stoodInHeld 83 = false := by kernel_rfl
set_option maxRecDepth 100000 in
theorem eq_lk (x y : Lk) (w : World) : (Op.equalIn 10000 83 (.agg (lkA x)) (.agg (lkA y))).run Tryz.prog w = .ok (decide (x = y)) w := by
  obtain ⟨⟨a, b⟩, ⟨c, d⟩⟩ := x
  obtain ⟨⟨a', b'⟩, ⟨c', d'⟩⟩ := y
  have u1 := Tryz.underlying83
  have u2 := Tryz.underlying81
  have hLk := (Option.some.inj (fsLk.symm.trans u1))
  have hPt := (Option.some.inj (fsPt.symm.trans u2))
  injection hLk with hLk
  injection hPt with hPt
  rw [run_equalIn_agg w 9999 _ _ _ fsLk hdLk, hLk]
  simp [lkA, go_sem, Op.eqFields, fsPt, hdPt, hPt, Lk.eq_iff, Pt.eq_iff]
  by_cases h1 : a = a'
  · by_cases h2 : b = b'
    · by_cases h3 : c = c'
      · by_cases h4 : d = d' <;> simp [h1, h2, h3, h4]
      · simp [h1, h2, h3]
    · simp [h1, h2]
  · simp [h1]
theorem neq_lk (x y : Lk) (w : World) : (binOp .neq 83 (.agg (lkA x)) (.agg (lkA y))).run Tryz.prog w = .ok (.bool (!decide (x = y))) w := by
  rw [run_neq_struct, eq_lk]; rfl

set_option maxRecDepth 100000 in
set_option maxHeartbeats 2000000 in
/-- The document's Same. -/
theorem rsameT_any {vp vl up ul : Value} (ps qs : List Int) (ls ms : List Lk) (w : World) (h : IsT w vp vl ps ls) (h' : IsT w up ul qs ms) : Calls Tryz.prog 29 #[.agg #[vp, vl], .agg #[up, ul]] w fun e w' => e = .returned (.bool (decide (ps = qs ∧ ls = ms))) ∧ Below w.heap.size w w' := by
  obtain ⟨⟨A1, c1, rfl, n1, m1, z1⟩, ⟨A2, c2, rfl, n2, m2, z2⟩⟩ := h
  obtain ⟨⟨A3, c3, rfl, n3, m3, z3⟩, ⟨A4, c4, rfl, n4, m4, z4⟩⟩ := h'
  have hL1 : ps.length ≤ 9223372036854775807 := Nat.le_trans n1 m1
  have hL2 : ls.length ≤ 9223372036854775807 := Nat.le_trans n2 m2
  have hL3 : qs.length ≤ 9223372036854775807 := Nat.le_trans n3 m3
  have hL4 : ms.length ≤ 9223372036854775807 := Nat.le_trans n4 m4
  have D0 := (At.new w #[.slice A1 ps.length c1, .slice A2 ls.length c2] 25).alloc (.cells #[.slice A3 qs.length c3, .slice A4 ms.length c4] 25)
  have E0 := At.new1 w (.cells #[.slice A1 ps.length c1, .slice A2 ls.length c2] 25) #[.slice A3 qs.length c3, .slice A4 ms.length c4] 25
  have b0 : Below w.heap.size w ((w.alloc (.cells #[.slice A1 ps.length c1, .slice A2 ls.length c2] 25)).alloc (.cells #[.slice A3 qs.length c3, .slice A4 ms.length c4] 25)) := ((Below.refl _ w).alloc (Nat.le_refl _) _).alloc (by simp) _
  have H1 := Lib.hid (z1.belows b0)
  have H2 := Lib.hid (z2.belows b0)
  have H3 := Lib.hid (z3.belows b0)
  have H4 := Lib.hid (z4.belows b0)
  obtain ⟨q, hq⟩ : ∃ q, q = decide (ps = qs ∧ ls = ms) := ⟨_, rfl⟩
  rw [← hq]
  have HQ := Lib.hid hq
  clear z1 z2 z3 z4 hq n1 n2 n3 n4 m1 m2 m3 m4
  go_enter Tryz.func29, Tryz.ntmps29
  obtain ⟨w0, hw0⟩ : ∃ w0, w0 = (w.alloc (.cells #[.slice A1 ps.length c1, .slice A2 ls.length c2] 25)).alloc (.cells #[.slice A3 qs.length c3, .slice A4 ms.length c4] 25) := ⟨_, rfl⟩
  rw [← hw0] at D0 E0 b0 H1 H2 H3 H4
  have x0 := (D0.cell 0).trans rfl; have x1 := (D0.cell 1).trans rfl
  have y0 := (E0.cell 0).trans rfl; have y1 := (E0.cell 1).trans rfl
  go_upto_region 1 with (fail)
  rw [← hw0]
  clear hw0 D0 E0
  by_cases hlp : ps.length = qs.length
  · have e1 : ((ps.length : Int) != (qs.length : Int)) = false := by simp [hlp]
    have e1' : ((ps.length : Int) == (qs.length : Int)) = true := by simp [hlp]
    by_cases hll : ls.length = ms.length
    · have e2 : ((ls.length : Int) != (ms.length : Int)) = false := by simp [hll]
      have e2' : ((ls.length : Int) == (ms.length : Int)) = true := by simp [hll]
      have HP := Lib.hid hlp
      have HLL := Lib.hid hll
      clear hlp hll
      go_wp2
      go_loopw [5] (fun i wr => ∃ k : Nat, i = .int .i64 k ∧ k ≤ ps.length ∧ Hid (∀ j (h1 : j < ps.length) (h2 : j < qs.length), j < k → ps[j] = qs[j]) ∧ ∃ q, wr = w0.drewN q) (fun i _ => ps.length - (intOf i).toNat)
      case atStart => exact ⟨0, rfl, by omega, Lib.hid (fun j _ _ hj => by omega), 0, rfl⟩
      case round =>
        obtain ⟨k, rfl, hk, HK, nd, rfl⟩ := hrel
        by_cases hlt : k < ps.length
        · have hlt2 : k < qs.length := by have := HP.out; omega
          obtain ⟨g1, o1, f1, _, r⟩ := H1.out.at k hlt
          obtain ⟨g3, o3, f3, _, s⟩ := H3.out.at k hlt2
          subst f1 f3
          have r0 : w0.cell? ⟨g1, o1 + k, none⟩ = some (.int .i64 ps[k]) := by have := r 0 (by decide); simpa [intA] using this
          have s0 : w0.cell? ⟨g3, o3 + k, none⟩ = some (.int .i64 qs[k]) := by have := s 0 (by decide); simpa [intA] using this
          clear r s
          have HX : Hid (ps[k] = qs[k] → ∀ j (h1 : j < ps.length) (h2 : j < qs.length), j < k + 1 → ps[j] = qs[j]) := Lib.hid fun e j h1 h2 hj => by
            by_cases hjk : j = k
            · subst hjk; exact e
            · exact HK.out j h1 h2 (by omega)
          have HY : Hid (ps[k] ≠ qs[k] → q = false) := Lib.hid fun e => by
            rw [HQ.out]; apply decide_eq_false; rintro ⟨h, _⟩; subst h; exact e rfl
          generalize ps[k] = x at r0 HX HY
          generalize qs[k] = y at s0 HX HY
          have i0 : (0 : Int) ≤ (k : Int) := by omega
          have i1 : (k : Int) < (ps.length : Int) := by omega
          have i2 : (k : Int) < (qs.length : Int) := by omega
          clear hlt2
          by_cases hxy : x = y
          · have HZ := Lib.hid (HX.out hxy)
            have en : (x != y) = false := by simp [hxy]
            have en' : (x == y) = true := by simp [hxy]
            clear HX HY hxy
            go_wp2_with fail
            go_quiet (fail)
            go_wp2
            go_roundw
            case rel => exact ⟨k + 1, by go_num, by omega, HZ, nd + nq, rfl⟩
            case measure => simp [intOf]; omega
          · have hqf := HY.out hxy
            have en : (x != y) = true := by simp [hxy]
            have en' : (x == y) = false := by simp [hxy]
            clear HX HY hxy
            subst hqf
            go_wp2_with fail
            go_quiet (fail)
            go_wp2
            go_ret
            exact ⟨rfl, bdrewN (bdrewN b0 _) _⟩
        · have hki : ¬ (k : Int) < (ps.length : Int) := by omega
          have HPQ : Hid (ps = qs) := Lib.hid (List.ext_getElem HP.out fun j h1 h2 => HK.out j h1 h2 (by omega))
          clear HK
          go_wp2
          go_loopw [6] (fun i wr => ∃ k : Nat, i = .int .i64 k ∧ k ≤ ls.length ∧ Hid (∀ j (h1 : j < ls.length) (h2 : j < ms.length), j < k → ls[j] = ms[j]) ∧ ∃ q, wr = w0.drewN q) (fun i _ => ls.length - (intOf i).toNat)
          case atStart => exact ⟨0, rfl, by omega, Lib.hid (fun j _ _ hj => by omega), nd, rfl⟩
          case round =>
            obtain ⟨j', rfl, hj', HJ, md, rfl⟩ := hrel
            by_cases hlt : j' < ls.length
            · have hlt2 : j' < ms.length := by have := HLL.out; omega
              obtain ⟨g2, o2, f2, _, r⟩ := H2.out.at j' hlt
              obtain ⟨g4, o4, f4, _, s⟩ := H4.out.at j' hlt2
              subst f2 f4
              have r0 := r 0 (by decide); have r1 := r 1 (by decide); have r2 := r 2 (by decide); have r3 := r 3 (by decide)
              have s0 := s 0 (by decide); have s1 := s 1 (by decide); have s2 := s 2 (by decide); have s3 := s 3 (by decide)
              clear r s
              have hn := neq_lk ls[j'] ms[j']
              have HX : Hid (ls[j'] = ms[j'] → ∀ j (h1 : j < ls.length) (h2 : j < ms.length), j < j' + 1 → ls[j] = ms[j]) := Lib.hid fun e j h1 h2 hj => by
                by_cases hjk : j = j'
                · subst hjk; exact e
                · exact HJ.out j h1 h2 (by omega)
              have HY : Hid (ls[j'] ≠ ms[j'] → q = false) := Lib.hid fun e => by
                rw [HQ.out]; apply decide_eq_false; rintro ⟨_, h⟩; subst h; exact e rfl
              generalize ls[j'] = x at r0 r1 r2 r3 hn HX HY
              generalize ms[j'] = y at s0 s1 s2 s3 hn HX HY
              have i0 : (0 : Int) ≤ (j' : Int) := by omega
              have i1 : (j' : Int) < (ls.length : Int) := by omega
              have i2 : (j' : Int) < (ms.length : Int) := by omega
              clear hlt2
              by_cases hxy : x = y
              · have HZ := Lib.hid (HX.out hxy)
                rw [decide_eq_true hxy, Bool.not_true] at hn
                clear HX HY hxy
                obtain ⟨⟨a, b⟩, ⟨c, d⟩⟩ := x
                obtain ⟨⟨a', b'⟩, ⟨c', d'⟩⟩ := y
                simp only [lkA, Nat.add_zero] at r0 r1 r2 r3 s0 s1 s2 s3 hn
                go_wp2_with fail
                go_quiet (fail)
                go_wp2
                go_roundw
                case rel => exact ⟨j' + 1, by go_num, by omega, HZ, md + nq, rfl⟩
                case measure => simp [intOf]; omega
              · have hqf := HY.out hxy
                rw [decide_eq_false hxy, Bool.not_false] at hn
                clear HX HY hxy
                subst hqf
                obtain ⟨⟨a, b⟩, ⟨c, d⟩⟩ := x
                obtain ⟨⟨a', b'⟩, ⟨c', d'⟩⟩ := y
                simp only [lkA, Nat.add_zero] at r0 r1 r2 r3 s0 s1 s2 s3 hn
                go_wp2_with fail
                go_quiet (fail)
                go_wp2
                go_ret
                exact ⟨rfl, bdrewN (bdrewN b0 _) _⟩
            · have hqt : q = true := by
                rw [HQ.out]; apply decide_eq_true
                exact ⟨HPQ.out, List.ext_getElem HLL.out fun j h1 h2 => HJ.out j h1 h2 (by omega)⟩
              subst hqt
              have hki : ¬ (j' : Int) < (ls.length : Int) := by omega
              clear HJ
              go_wp2
              go_ret
              exact ⟨rfl, bdrewN b0 _⟩
    · have e2 : ((ls.length : Int) != (ms.length : Int)) = true := by simp; omega
      have e2' : ((ls.length : Int) == (ms.length : Int)) = false := by simp; omega
      have hqf : q = false := by rw [HQ.out]; apply decide_eq_false; rintro ⟨_, h⟩; subst h; exact hll rfl
      subst hqf
      clear hll hlp
      go_wp2
      go_ret
      exact ⟨rfl, b0⟩
  · have e1 : ((ps.length : Int) != (qs.length : Int)) = true := by simp; omega
    have e1' : ((ps.length : Int) == (qs.length : Int)) = false := by simp; omega
    have hqf : q = false := by rw [HQ.out]; apply decide_eq_false; rintro ⟨h, _⟩; subst h; exact hlp rfl
    subst hqf
    clear hlp
    go_wp2
    go_ret
    exact ⟨rfl, b0⟩
end Go.Proofs.YtlhfaildeemngaaGreat
/- The law's same (stage 10), over the program's calls: labels are those of their network. -/
namespace Go.Proofs.YtlhfaildeemngaaGreat
open Go.RowKit Go.Shelf

set_option maxRecDepth 100000 in
theorem eq_rg (x y : Nat × Nat) (w : World) : (Op.equalIn 10000 39 (.agg (rgA x)) (.agg (rgA y))).run Tryz.prog w = .ok (decide (x = y)) w := by
  obtain ⟨a, b⟩ := x
  obtain ⟨a', b'⟩ := y
  have u1 := Tryz.underlying39
  have hPt := (Option.some.inj (fsRg.symm.trans u1))
  injection hPt with hPt
  have h2 : ∀ n m : Nat, ((n : Int) = (m : Int)) = (n = m) := fun n m => propext Int.ofNat_inj
  rw [run_equalIn_agg w 9999 _ _ _ fsRg hdRg, hPt]
  simp [rgA, go_sem, Op.eqFields, Prod.ext_iff, h2]
  by_cases h1 : a = a'
  · by_cases h2 : b = b' <;> simp [h1, h2]
  · simp [h1]
theorem eql_rg (x y : Nat × Nat) (w : World) : (binOp .eql 39 (.agg (rgA x)) (.agg (rgA y))).run Tryz.prog w = .ok (.bool (decide (x = y))) w := by
  rw [run_eql_struct, eq_rg]; rfl
theorem neq_rg (x y : Nat × Nat) (w : World) : (binOp .neq 39 (.agg (rgA x)) (.agg (rgA y))).run Tryz.prog w = .ok (.bool (!decide (x = y))) w := by
  rw [run_neq_struct, eq_rg]; rfl
set_option maxRecDepth 100000 in
set_option maxHeartbeats 4000000 in
theorem same10_any (O : Own10) {H : Nat → Prop} {v vp vl vr : Value} (ps : List Int) (ls : List Lk) (L : List Ru) (w : World) (hR : RN ps ls L) (hW : NW ps ls L) (hl : O.Lb H w v ps ls L) (h : IsN w vp vl vr ps ls L) :
    Calls Tryz.prog 12 #[v, .agg #[vp, vl, vr]] w fun e w' => e = .returned (.bool true) ∧ Below w.heap.size w w' := by
  have HN : Hid (∀ u, Below w.heap.size w u → IsN u vp vl vr ps ls L) := Lib.hid fun u hu => h.belows hu
  have HL : Hid (∀ u, Below w.heap.size w u → O.Lb H u v ps ls L) := Lib.hid fun u hu => O.keep hl (exc_of hu H)
  have HR := Lib.hid hR
  have HW := Lib.hid hW
  obtain ⟨bp, rfl⟩ := O.ptr hl
  obtain ⟨⟨⟨A1, c1, rfl, n1, m1, _⟩, ⟨A2, c2, rfl, _⟩⟩, ⟨A3, c3, rfl, _⟩⟩ := h
  have hp8 := hR.topo.n8
  clear hR hW hl
  have b0 : Below w.heap.size w (w.alloc (.cells #[.slice A1 ps.length c1, .slice A2 ls.length c2, .slice A3 L.length c3] 28)) := (Below.refl _ w).alloc (Nat.le_refl _) _
  have D0 := At.new w #[.slice A1 ps.length c1, .slice A2 ls.length c2, .slice A3 L.length c3] 28
  go_enter Tryz.func12, Tryz.ntmps12
  go_upto_region 1 with (fail)
  obtain ⟨w0, hw0⟩ : ∃ w0, w0 = w.alloc (.cells #[.slice A1 ps.length c1, .slice A2 ls.length c2, .slice A3 L.length c3] 28) := ⟨_, rfl⟩
  rw [← hw0] at D0 b0 ⊢
  clear hw0
  have k1 := O.network H ps ls L w0 HR.out HW.out (HL.out w0 b0)
  go_upto_region 2 with (go_at_call 23; refine k1.mono ?_; rintro e w1 ⟨⟨vp', vl', vr', rfl, hN'⟩, b1⟩; obtain ⟨⟨⟨B1, d1, rfl, z1⟩, ⟨B2, d2, rfl, z2⟩⟩, ⟨B3, d3, rfl, z3⟩⟩ := hN')
  have HM : Hid (∀ u, Below w1.heap.size w1 u → IsN u (.slice B1 ps.length d1) (.slice B2 ls.length d2) (.slice B3 L.length d3) ps ls L) := Lib.hid fun u hu => IsN.belows (show IsN w1 (.slice B1 ps.length d1) (.slice B2 ls.length d2) (.slice B3 L.length d3) ps ls L from ⟨⟨⟨B1, d1, rfl, z1⟩, ⟨B2, d2, rfl, z2⟩⟩, ⟨B3, d3, rfl, z3⟩⟩) hu
  obtain ⟨w2, hw2⟩ : ∃ w2, w2 = w1.alloc (.cells #[.slice B1 ps.length d1, .slice B2 ls.length d2, .slice B3 L.length d3] 28) := ⟨_, rfl⟩
  have M2 := At.new w1 #[.slice B1 ps.length d1, .slice B2 ls.length d2, .slice B3 L.length d3] 28
  have b2 : Below w1.heap.size w1 w2 := by rw [hw2]; exact (Below.refl _ _).alloc (Nat.le_refl _) _
  rw [← hw2] at M2 ⊢
  have D2 := (D0.belows b1).belows b2
  have bw2 := (b0.trans (b1.mono b0.size)).trans (b2.mono (Nat.le_trans b0.size b1.size))
  have HB1 := Lib.hid b2
  have hs1 := M2.lt
  have hs0 := D2.lt
  clear hw2 z1 z2 z3 b1 b2 k1 D0
  have k2 := ratomsN_any ps ls L w2 HR.out.rules HW.out.rules (HN.out w2 bw2)
  have x0 := (D2.cell 0).trans rfl; have x1 := (D2.cell 1).trans rfl; have x2 := (D2.cell 2).trans rfl
  go_upto_region 3 with (go_at_call 27; refine k2.mono ?_; rintro e w3 ⟨va, rfl, hz, b3⟩; obtain ⟨Az, cz, rfl, nz, mz, zz⟩ := hz)
  have bw3 := bw2.trans (b3.mono bw2.size)
  have D3 := D2.belows b3
  have M3 := M2.belows b3
  have HB3 := Lib.hid (HB1.out.trans (b3.mono HB1.out.size))
  have HZ : Hid (∀ u, Below w3.heap.size w3 u → Tr.Zs u Az (atmL L)) := Lib.hid fun u hu => zz.belows hu
  clear zz k2 b3 x0 x1 x2 D2 M2
  have k3 := rsameR_any L L w3 (HM.out w3 HB3.out).2 (HN.out w3 bw3).2
  rw [decide_eq_true rfl] at k3
  have x2 := (D3.cell 2).trans rfl; have y2 := (M3.cell 2).trans rfl
  go_upto_region 4 with (go_at_call 28; refine k3.mono ?_; rintro e w4 ⟨rfl, b4⟩)
  have bw4 := bw3.trans (b4.mono bw3.size)
  have D4 := D3.belows b4
  have M4 := M3.belows b4
  have HB4 := Lib.hid (HB3.out.trans (b4.mono HB3.out.size))
  clear k3 x2 y2 D3 M3
  have k4 := rsameT_any ps ps ls ls w4 (HM.out w4 HB4.out).1 (HN.out w4 bw4).1
  rw [decide_eq_true ⟨rfl, rfl⟩] at k4
  have x0 := (D4.cell 0).trans rfl; have x1 := (D4.cell 1).trans rfl; have y0 := (M4.cell 0).trans rfl; have y1 := (M4.cell 1).trans rfl
  go_upto_region 5 with (go_at_call 29; refine k4.mono ?_; rintro e w5 ⟨rfl, b5⟩)
  have bw5 := bw4.trans (b5.mono bw4.size)
  have D5 := D4.belows b5
  have HB5 := Lib.hid (b4.trans (b5.mono b4.size))
  clear k4 x0 x1 y0 y1 D4 M4 b4 b5
  have k5 := O.atoms H ps ls L w5 HR.out HW.out (HL.out w5 bw5)
  obtain ⟨N, hN⟩ : ∃ N, N = (atmL L).length := ⟨_, rfl⟩
  rw [← hN] at k5 nz ⊢
  have HNN := Lib.hid hN
  have hNM : N ≤ 9223372036854775807 := Nat.le_trans nz mz
  clear hN
  have hNE : ((N : Int) == (N : Int)) = true := by simp
  go_upto_region 7 with (go_at_call 22; refine k5.mono ?_; rintro e w6 ⟨rfl, b6⟩)
  have bw6 := bw5.trans (b6.mono bw5.size)
  have D6 := D5.belows b6
  have HB6 := Lib.hid (HB5.out.trans (b6.mono HB5.out.size))
  have HD6 := Lib.hid D6
  have HBW6 := Lib.hid bw6
  clear k5 D5 b6 bw5 bw6 D6
  go_wp2
  go_loopw [9] (fun i wr => ∃ k : Nat, i = .int .i64 k ∧ k ≤ N ∧ Below w6.heap.size w6 wr) (fun i _ => N - (intOf i).toNat)
  case atStart => exact ⟨0, rfl, by omega, Below.refl _ _⟩
  case round =>
    obtain ⟨k, rfl, hk, hb⟩ := hrel
    have HB := Lib.hid hb
    clear hb
    by_cases hlt : k < N
    · have i0 : (0 : Int) ≤ (k : Int) := by omega
      have i1 : (k : Int) < (N : Int) := by omega
      have bwr := HBW6.out.trans (HB.out.mono HBW6.out.size)
      have hkN : k < (atmL L).length := by rw [← HNN.out]; exact hlt
      have k7 := O.atom H ps ls L (k : Int) wr HR.out HW.out (by unfold isI; omega) (HL.out wr bwr)
      obtain ⟨y, hy⟩ : ∃ y, y = (atmL L)[k] := ⟨_, rfl⟩
      have HK : Hid (∀ e, atomV L (k : Int) e → e = .returned (.tuple #[.agg #[.int .u32 y.1, .int .u32 y.2], .bool true])) := Lib.hid fun e h => by rw [hy]; exact atomV_in h hkN
      have HA : Hid (∀ (j : Nat) e, j < ps.length → labV ps ls L (j : Int) (k : Int) e → e = .returned (.tuple #[.int .i64 (labN ls L (j : Int) y.1), .bool true])) := Lib.hid fun j e hj h => by rw [hy]; exact labV_in h ⟨by omega, by omega⟩ hkN
      obtain ⟨g, o, eA, hg, hc⟩ := HZ.out wr (HB6.out.trans (HB.out.mono HB6.out.size)) (by omega)
      obtain ⟨z0, z1⟩ := hc k hkN
      rw [← hy] at z0 z1
      clear hc hy hkN
      obtain ⟨f, t⟩ := y
      dsimp only at z0 z1 HK HA
      subst eA
      have hn := neq_rg (f, t) (f, t)
      unfold rgA at hn
      rw [decide_eq_true rfl, Bool.not_true] at hn
      go_upto_region 11 with (go_at_call 21; refine k7.mono ?_; rintro e w7 ⟨he, b7⟩; obtain rfl := HK.out e he)
      obtain ⟨w8, hw8⟩ : ∃ w8, w8 = w7.alloc (.cells #[.int .u32 f, .int .u32 t] 39) := ⟨_, rfl⟩
      have R8 := At.new w7 #[.int .u32 f, .int .u32 t] 39
      have b8 : Below wr.heap.size wr w8 := by rw [hw8]; exact b7.alloc b7.size _
      rw [← hw8] at R8 ⊢
      have hs8 := R8.lt
      have r0 := (R8.cell 0).trans rfl; have r1 := (R8.cell 1).trans rfl
      have z0' := (b8.cell (p := ⟨g, _, none⟩) hg).trans z0
      have z1' := (b8.cell (p := ⟨g, _, none⟩) hg).trans z1
      clear hw8 b7 k7 z0 z1
      go_wp2_with fail
      go_quiet (fail)
      have hb9 : Below w8.heap.size w8 (w8.drewN nq) := bdrewN (Below.refl _ _) nq
      generalize w8.drewN nq = w9 at hb9 ⊢
      have HB9 := Lib.hid (HB.out.trans ((b8.trans (hb9.mono b8.size)).mono HB.out.size))
      have HR9 := Lib.hid (R8.belows hb9)
      clear hb9 b8 R8 r0 r1 z0' z1'
      go_wp2
      go_loopw [12] (fun j' wq => ∃ j : Nat, j' = .int .i64 j ∧ j ≤ ps.length ∧ Below w9.heap.size w9 wq) (fun j' _ => ps.length - (intOf j').toNat)
      case atStart => exact ⟨0, rfl, by omega, Below.refl _ _⟩
      case round =>
        obtain ⟨j, rfl, hj, hbq⟩ := hrel
        have HQ := Lib.hid (HB9.out.trans (hbq.mono HB9.out.size))
        have bq := HBW6.out.trans (HQ.out.mono HBW6.out.size)
        have Dq := HD6.out.belows HQ.out
        have Rq := HR9.out.belows hbq
        have HBQ := Lib.hid hbq
        clear hbq
        have x0 := (Dq.cell 0).trans rfl
        have hps : ps.length ≤ 9223372036854775807 := by omega
        by_cases hlj : j < ps.length
        · have j1 : (j : Int) < (ps.length : Int) := by omega
          have k9 := O.at' H ps ls L (j : Int) (k : Int) wr HR.out HW.out (by unfold isI; omega) (by unfold isI; omega) (HL.out wr bq)
          obtain ⟨lb, hlb⟩ : ∃ lb, lb = labN ls L (j : Int) f := ⟨_, rfl⟩
          have HA2 : Hid (∀ e, labV ps ls L (j : Int) (k : Int) e → e = .returned (.tuple #[.int .i64 lb, .bool true])) := Lib.hid fun e h => by rw [hlb]; exact HA.out j e hlj h
          have HX : Hid (∀ u, Below w.heap.size w u → Calls Tryz.prog 30 #[.agg #[.slice A1 ps.length c1, .slice A2 ls.length c2, .slice A3 L.length c3], .int .i64 (j : Int), .int .u32 f] u fun e w' => e = .returned (.int .i64 lb) ∧ Below u.heap.size u w') := Lib.hid fun u hu => by rw [hlb]; exact rat_any ps ls L (j : Int) f u HR.out.rules (HN.out u hu)
          clear hlb
          go_upto_region 17 with (go_at_call 20; refine k9.mono ?_; rintro e w10 ⟨he, b10⟩; obtain rfl := HA2.out e he)
          have b10w := bq.trans (b10.mono bq.size)
          have D10 := Dq.belows b10
          have R10 := Rq.belows b10
          have HB10 := Lib.hid (HBQ.out.trans (b10.mono HBQ.out.size))
          have k10 := HX.out w10 b10w
          clear k9 x0 Dq Rq b10
          have x0 := (D10.cell 0).trans rfl; have x1 := (D10.cell 1).trans rfl; have x2 := (D10.cell 2).trans rfl
          have r0 := (R10.cell 0).trans rfl
          have hl2 : ((lb : Int) == lb) = true := by simp
          go_wp2_with (go_at_call 30; refine k10.mono ?_; rintro e w11 ⟨rfl, b11⟩)
          go_roundw
          case rel => exact ⟨j + 1, by go_num, by omega, HB10.out.trans (b11.mono HB10.out.size)⟩
          case measure => simp [intOf]; omega
        · have j1 : ¬ (j : Int) < (ps.length : Int) := by omega
          go_wp2
          go_roundw
          case rel => exact ⟨k + 1, by go_num, by omega, HQ.out⟩
          case measure => simp [intOf]; omega
    · have hki : ¬ (k : Int) < (N : Int) := by omega
      go_wp2
      go_ret
      exact ⟨rfl, HBW6.out.trans (HB.out.mono HBW6.out.size)⟩
end Go.Proofs.YtlhfaildeemngaaGreat
/- The laws' own words (stages 9, 10): the network of three devices; Fits. -/
namespace Go.Proofs.YtlhfaildeemngaaGreat
open Go.RowKit Go.Shelf

/-! The network of three devices. -/
def netP : List Int := [2, 3, 2]
def netK : List Lk := [⟨⟨0, 1⟩, ⟨1, 0⟩⟩, ⟨⟨1, 1⟩, ⟨2, 0⟩⟩]
def netR : List Ru := [⟨1, 0, 0, 0, 0, 99, 1⟩, ⟨2, 1, 0, 0, 0, 49, 1⟩, ⟨3, 1, 0, 0, 50, 59, 0⟩, ⟨4, 2, 0, 0, 0, 29, 1⟩, ⟨5, 2, 0, 3, 20, 24, 0⟩]
theorem net_right : RN netP netK netR := (rightN_iff _ _ _).1 (by decide +kernel)
theorem net_w : NW netP netK netR := ⟨⟨by simp [netP, isI], by simp [netK, isPt, isI]⟩, by simp [netR, Ru.wf, isI], by simp [netR]⟩
theorem net_10 : trcN netP netK netR 10 0 = ⟨[0, 1, 2], 3, ⟨2, 1⟩⟩ := by decide +kernel
theorem net_55 : trcN netP netK netR 55 0 = ⟨[0, 1, 0], 4, ⟨0, 0⟩⟩ := by decide +kernel
theorem net_22 : trcN netP netK netR 22 0 = ⟨[0, 1, 2], 2, ⟨0, 0⟩⟩ := by decide +kernel
theorem isR_of_at {w : World} {B c : Nat} {L : List Ru} {cs : Array Value} {T : TypeId} (h : At w B cs T) (hc : cs.toList = rcs L) (h1 : L.length ≤ c) (h2 : c ≤ maxLen) : IsR w (.slice (some ⟨B, 0, none⟩) L.length c) L := by
  refine ⟨_, c, rfl, h1, h2, fun _ => ⟨B, 0, rfl, h.lt, fun k hk j hj => ?_⟩⟩
  rw [Nat.zero_add, h.cell, ← Array.getElem?_toList, hc, rcs_at L k j hk hj]
theorem At.new4 (W : World) (o1 o2 o3 o4 : Obj) (cs : Array Value) (t : TypeId) : At (((((W.alloc o1).alloc o2).alloc o3).alloc o4).alloc (.cells cs t)) (W.heap.size + 1 + 1 + 1 + 1) cs t := by
  have := At.new2 ((W.alloc o1).alloc o2) o3 o4 cs t
  rwa [show ((W.alloc o1).alloc o2).heap.size = W.heap.size + 1 + 1 by simp] at this
def NetOut (w : World) (e : Ending) (w' : World) : Prop := ∃ A1 c1 A2 c2 A3 c3, e = .returned (.agg #[.slice A1 3 c1, .slice A2 2 c2, .slice A3 5 c3]) ∧ IsN w' (.slice A1 3 c1) (.slice A2 2 c2) (.slice A3 5 c3) netP netK netR ∧ Below w.heap.size w w'
set_option maxRecDepth 100000 in
set_option maxHeartbeats 2000000 in
theorem net_any (w : World) : Calls Tryz.prog 19 #[] w (NetOut w) := by
  go_enter Tryz.func19, Tryz.ntmps19
  go_wp2
  refine bodyPost_ret (results_cell_row rfl _ _ w.heap.size 28 _ (0, 0) _ rfl (((((At.new w _ _).alloc _).alloc _).alloc _).alloc _) Tryz.underlying28 rfl (by kernel_rfl)) rfl ?_
  refine ⟨_, _, _, _, _, _, rfl, ⟨⟨isF_of_at intA_size (L := netP) (c := 3) ((((At.new1 w _ _ _).alloc _).alloc _).alloc _) rfl (by decide) (by decide), isF_of_at lkA_size (L := netK) (c := 2) (((At.new2 w _ _ _ _).alloc _).alloc _) rfl (by decide) (by decide)⟩, isR_of_at (L := netR) (c := 5) (At.new4 w _ _ _ _ _ _) rfl (by decide) (by decide)⟩, ?_⟩
  exact (((((Below.refl _ _).alloc (Nat.le_refl _) _).alloc (by simp) _).alloc (by simp; omega) _).alloc (by simp; omega) _).alloc (by simp; omega) _
set_option maxRecDepth 100000 in
set_option maxHeartbeats 2000000 in
/-- Fits: right. -/
theorem lfits9_any {vp vl vr : Value} (ps : List Int) (ls : List Lk) (L : List Ru) (w : World) (hW : NW ps ls L) (h : IsN w vp vl vr ps ls L) : Calls Tryz.prog 5 #[.agg #[vp, vl, vr]] w fun e w' => e = .returned (.bool (rightN ps ls L)) ∧ Below w.heap.size w w' := by
  have b0 : Below w.heap.size w (w.alloc (.cells #[vp, vl, vr] 28)) := (Below.refl _ w).alloc (Nat.le_refl _) _
  have k1 := rrightN_any ps ls L _ hW (h.belows b0)
  obtain ⟨V, hV⟩ : ∃ V, V = rightN ps ls L := ⟨_, rfl⟩
  have HS : Hid (¬ (ps.length ≤ 20 ∧ ls.length ≤ 40 ∧ L.length ≤ 60) → V = false) := Lib.hid fun hn => by
    rw [hV]
    cases hr : rightN ps ls L with
    | false => rfl
    | true =>
      have hR := (rightN_iff ps ls L).1 hr
      have h1 := hR.topo.n8
      have h2 := hR.topo.l16
      have h3 := ((allB_iff L).1 hR.rules).1
      exact absurd ⟨by omega, by omega, by omega⟩ hn
  rw [← hV] at k1 ⊢
  clear hV
  obtain ⟨⟨⟨A1, c1, rfl, n1, m1, _⟩, ⟨A2, c2, rfl, n2, m2, _⟩⟩, ⟨A3, c3, rfl, n3, m3, _⟩⟩ := h
  have hM1 : ps.length ≤ 9223372036854775807 := Nat.le_trans n1 m1
  have hM2 : ls.length ≤ 9223372036854775807 := Nat.le_trans n2 m2
  have hM3 : L.length ≤ 9223372036854775807 := Nat.le_trans n3 m3
  have D0 := At.new w #[.slice A1 ps.length c1, .slice A2 ls.length c2, .slice A3 L.length c3] 28
  clear hW
  go_enter Tryz.func5, Tryz.ntmps5
  go_upto_region 1 with (fail)
  obtain ⟨w0, hw0⟩ : ∃ w0, w0 = w.alloc (.cells #[.slice A1 ps.length c1, .slice A2 ls.length c2, .slice A3 L.length c3] 28) := ⟨_, rfl⟩
  rw [← hw0] at D0 b0 k1 ⊢
  clear hw0
  have x0 := (D0.cell 0).trans rfl
  have x1 := (D0.cell 1).trans rfl
  have x2 := (D0.cell 2).trans rfl
  by_cases h1 : 20 < ps.length
  · have hf := HS.out (by omega)
    subst hf
    have e1 : decide ((20 : Int) < (ps.length : Int)) = true := decide_eq_true (by omega)
    clear k1
    go_wp2
    go_ret
    exact ⟨rfl, b0⟩
  have e1 : decide ((20 : Int) < (ps.length : Int)) = false := decide_eq_false (by omega)
  by_cases h2 : 40 < ls.length
  · have hf := HS.out (by omega)
    subst hf
    have e2 : decide ((40 : Int) < (ls.length : Int)) = true := decide_eq_true (by omega)
    clear k1
    go_wp2
    go_ret
    exact ⟨rfl, b0⟩
  have e2 : decide ((40 : Int) < (ls.length : Int)) = false := decide_eq_false (by omega)
  by_cases h3 : 60 < L.length
  · have hf := HS.out (by omega)
    subst hf
    have e3 : decide ((60 : Int) < (L.length : Int)) = true := decide_eq_true (by omega)
    clear k1
    go_wp2
    go_ret
    exact ⟨rfl, b0⟩
  have e3 : decide ((60 : Int) < (L.length : Int)) = false := decide_eq_false (by omega)
  clear h1 h2 h3
  go_wp2_with fail
  refine k1.mono ?_
  rintro e w1 ⟨rfl, b1⟩
  go_wp2
  go_ret
  exact ⟨rfl, b0.trans (b1.mono b0.size)⟩
end Go.Proofs.YtlhfaildeemngaaGreat
/- The law's alive (stage 10), over the program's calls. -/
namespace Go.Proofs.YtlhfaildeemngaaGreat
open Go.RowKit Go.Shelf

theorem bnds_is {L : List (Nat × Nat)} {C : List Nat} (hC : C.Pairwise (· < ·)) (hm : ∀ x, x ∈ C ↔ x ∈ Tr.ends L ∧ x < 4294967296) : Tr.bnds L = C := by
  have e : (Tr.bnds L).map (fun c : Nat => (c : Int)) = C.map (fun c : Nat => (c : Int)) := by
    refine Tr.rise_eq (Tr.rising_pw (Tr.bnds_rise L)) ?_ fun a => ?_
    · rw [List.pairwise_map]; exact hC.imp fun h => by omega
    · rw [List.mem_map, List.mem_map]
      simp only [Tr.bnds_mem, hm]
  exact List.map_inj_right (fun a b h => by omega) |>.1 e
def netD : List Ru := [⟨1, 0, 0, 0, 0, 99, 1⟩, ⟨2, 1, 0, 0, 0, 49, 1⟩, ⟨3, 1, 0, 0, 50, 59, 0⟩, ⟨4, 2, 0, 0, 0, 29, 1⟩]
theorem netD_is : delL 5 netR = netD := by decide +kernel
theorem bnds_netR : Tr.bnds (rgL netR) = [0, 20, 25, 30, 50, 60, 100] := bnds_is (by decide) fun x => by
  simp [rgL, netR, Tr.ends]; omega
theorem bnds_netD : Tr.bnds (rgL netD) = [0, 30, 50, 60, 100] := bnds_is (by decide) fun x => by
  simp [rgL, netD, Tr.ends]; omega
theorem atm_netR : atmL netR = [(0, 19), (20, 24), (25, 29), (30, 49), (50, 59), (60, 99), (100, 4294967295)] := by unfold atmL; rw [bnds_netR]; rfl
theorem atm_netD : atmL netD = [(0, 29), (30, 49), (50, 59), (60, 99), (100, 4294967295)] := by unfold atmL; rw [bnds_netD]; rfl
theorem lab_netR : labN netK netR 2 20 = -3 := by decide +kernel
theorem lab_netD : labN netK netD 2 30 = -1 := by decide +kernel
theorem del_netR : delE netR 5 = 0 := by decide +kernel
/-- Of, of a right network. -/
theorem of_right (O : Own10) {vp vl vr : Value} (H : Nat → Prop) (ps : List Int) (ls : List Lk) (L : List Ru) (w : World) (hH : ∀ b, H b → ∃ cs, At w b cs 28) (hR : RN ps ls L) (hW : NW ps ls L) (h : IsNo H w vp vl vr ps ls L) : Calls Tryz.prog 6 #[.agg #[vp, vl, vr]] w fun e w' => ∃ p, e = .returned (.tuple #[p, .int .i64 0]) ∧ O.Lb H w' p ps ls L ∧ Below w.heap.size w w' :=
  (O.of H ps ls L w hH hW h).mono fun e w' ⟨h, b⟩ => by
    rcases h with ⟨_, p, e, hl⟩ | ⟨h, _⟩
    · exact ⟨p, e, hl, b⟩
    · exact absurd hR h
set_option maxRecDepth 100000 in
set_option maxHeartbeats 4000000 in
theorem alive10_any (O : Own10) (w : World) : Calls Tryz.prog 7 #[] w fun e w' => e = .returned (.bool true) ∧ Below w.heap.size w w' := by
  have HR := Lib.hid net_right
  have HW := Lib.hid net_w
  have HRD : Hid (RN netP netK netD) := Lib.hid (netD_is ▸ del_right net_right 5)
  have HWD : Hid (NW netP netK netD) := Lib.hid (netD_is ▸ del_w net_w 5)
  have hX : ∀ u : World, (binOp .eql 39 (.agg #[.int .u32 20, .int .u32 24]) (.agg #[.int .u32 20, .int .u32 24])).run Tryz.prog u = .ok (.bool true) u := fun u => by
    have := eql_rg (20, 24) (20, 24) u
    simpa [rgA] using this
  have H1 : Hid (∀ e, labV netP netK netR 2 (1 : Nat) e → e = .returned (.tuple #[.int .i64 (-3), .bool true])) := Lib.hid fun e h => by
    rw [labV_in h (by decide) (by rw [atm_netR]; decide)]
    simp only [atm_netR, List.getElem_cons_succ, List.getElem_cons_zero, lab_netR]
  have H2 : Hid (∀ e, labV netP netK netD 2 (1 : Nat) e → e = .returned (.tuple #[.int .i64 (-1), .bool true])) := Lib.hid fun e h => by
    rw [labV_in h (by decide) (by rw [atm_netD]; decide)]
    simp only [atm_netD, List.getElem_cons_succ, List.getElem_cons_zero, lab_netD]
  have H3 : Hid (∀ e, atomV netR (1 : Nat) e → e = .returned (.tuple #[.agg #[.int .u32 20, .int .u32 24], .bool true])) := Lib.hid fun e h => by
    rw [atomV_in h (by rw [atm_netR]; decide)]
    simp only [atm_netR, List.getElem_cons_succ, List.getElem_cons_zero]
    rfl
  have hi : ∀ k : Nat, k ≤ 10 → isI (k : Int) := fun k h => by unfold isI; omega
  go_enter Tryz.func7, Tryz.ntmps7
  go_upto_region 2 with (first
    | (go_at_call 19; refine (net_any _).mono ?_; rintro e w1 ⟨A1, c1, A2, c2, A3, c3, rfl, hN, b1⟩)
    | (go_at_call 6; refine (of_right O noH netP netK netR w1 (noH_lt _) HR.out HW.out hN.no).mono ?_; rintro e w2 ⟨p, rfl, hl, b2⟩; obtain ⟨bp, rfl⟩ := O.ptr hl))
  have bw2 := b1.trans (b2.mono b1.size)
  have HL := Lib.hid hl
  have k3 := O.delete noH netP netK netR 5 w2 (noH_lt _) HR.out HW.out (by unfold isI; omega) hl
  clear hN hl b1 b2
  go_upto_region 5 with (go_at_call 10; refine k3.mono ?_; rintro e w3 ⟨h3, b3⟩; obtain ⟨q, rfl, hq⟩ := h3.resolve_right (fun h => h.1 del_netR) |>.2; obtain ⟨bq, rfl⟩ := O.ptr hq)
  have bw3 := bw2.trans (b3.mono bw2.size)
  have HL3 := Lib.hid (O.keep HL.out (exc_of b3 noH))
  rw [netD_is] at hq
  have k4 := O.at' noH netP netK netR 2 (1 : Nat) w3 HR.out HW.out (by unfold isI; omega) (by unfold isI; omega) HL3.out
  clear k3 b3 bw2
  go_upto_region 6 with (go_at_call 20; refine k4.mono ?_; rintro e w4 ⟨h4, b4⟩; obtain rfl := H1.out e h4)
  have bw4 := bw3.trans (b4.mono bw3.size)
  have HL4 := Lib.hid (O.keep HL3.out (exc_of b4 noH))
  have HQ4 := Lib.hid (O.keep hq (exc_of b4 noH))
  have k5 := O.at' noH netP netK netD 2 (1 : Nat) w4 HRD.out HWD.out (by unfold isI; omega) (by unfold isI; omega) HQ4.out
  clear k4 b4 bw3 hq
  go_upto_region 7 with (go_at_call 20; refine k5.mono ?_; rintro e w5 ⟨h5, b5⟩; obtain rfl := H2.out e h5)
  have bw5 := bw4.trans (b5.mono bw4.size)
  have HL5 := Lib.hid (O.keep HL4.out (exc_of b5 noH))
  have HQ5 := Lib.hid (O.keep HQ4.out (exc_of b5 noH))
  have k6 := O.atom noH netP netK netR (1 : Nat) w5 HR.out HW.out (by unfold isI; omega) HL5.out
  clear k5 b5 bw4
  go_upto_region 8 with (go_at_call 21; refine k6.mono ?_; rintro e w6 ⟨h6, b6⟩; obtain rfl := H3.out e h6)
  obtain ⟨w7, hw7⟩ : ∃ w7, w7 = w6.alloc (.cells #[.int .u32 20, .int .u32 24] 39) := ⟨_, rfl⟩
  have R7 := At.new w6 #[.int .u32 20, .int .u32 24] 39
  have b7 : Below w5.heap.size w5 w7 := by rw [hw7]; exact b6.alloc b6.size _
  rw [← hw7] at R7 ⊢
  have bw7 := bw5.trans (b7.mono bw5.size)
  have HL7 := Lib.hid (O.keep HL5.out (exc_of b7 noH))
  have HQ7 := Lib.hid (O.keep HQ5.out (exc_of b7 noH))
  clear hw7 k6 b6 b7 bw5
  have r0 := (R7.cell 0).trans rfl; have r1 := (R7.cell 1).trans rfl
  have k8 := O.atoms noH netP netK netR w7 HR.out HW.out HL7.out
  rw [atm_netR] at k8
  go_wp2_with (first
    | (go_at_call 22; refine k8.mono ?_; rintro e w8 ⟨rfl, b8⟩; have HQ8 := Lib.hid (O.keep HQ7.out (exc_of b8 noH)); have bw8 := bw7.trans (b8.mono bw7.size); have k9 := O.atoms noH netP netK netD w8 HRD.out HWD.out HQ8.out; rw [atm_netD] at k9; clear k8)
    | (go_at_call 22; refine k9.mono ?_; rintro e w9 ⟨rfl, b9⟩))
  go_ret
  exact ⟨rfl, bw8.trans (b9.mono bw8.size)⟩
end Go.Proofs.YtlhfaildeemngaaGreat
/- Contracts: ahead, taking's closure. -/
namespace Go.Proofs.YtlhfaildeemngaaGreat
open Go.RowKit Go.Shelf

set_option maxRecDepth 100000 in
theorem ahead_any (x y : Ru) (w : World) : Calls Tryz.prog 94 #[.agg (ruA x), .agg (ruA y)] w fun e w' => e = .returned (.bool (aheadB x y)) ∧ Below w.heap.size w w' := by
  obtain ⟨id, dv, pr, kd, f, t, pt⟩ := x
  obtain ⟨id', dv', pr', kd', f', t', pt'⟩ := y
  have hb : Below w.heap.size w ((w.alloc (.cells #[.int .i64 id, .int .i64 dv, .int .i64 pr, .int .i64 kd, .int .u32 f, .int .u32 t, .int .i64 pt] 41)).alloc (.cells #[.int .i64 id', .int .i64 dv', .int .i64 pr', .int .i64 kd', .int .u32 f', .int .u32 t', .int .i64 pt'] 41)) := ((Below.refl _ _).alloc (Nat.le_refl _) _).alloc (by simp) _
  rw [ruA_mk, ruA_mk]
  unfold aheadB
  dsimp only
  cases h1 : decide (pr' < pr) with
  | true =>
    rw [Bool.true_or]
    have := of_decide_eq_true h1
    go_enter Tryz.func94, Tryz.ntmps94
    go_wp2
    go_ret
    exact ⟨rfl, hb⟩
  | false =>
    rw [Bool.false_or]
    have := of_decide_eq_false h1
    cases h2 : decide (pr = pr') with
    | true =>
      have e := of_decide_eq_true h2
      have h3 : (pr == pr') = true := by simpa using e
      clear e
      rw [Bool.true_and]
      go_enter Tryz.func94, Tryz.ntmps94
      go_wp2
      go_ret
      exact ⟨rfl, hb⟩
    | false =>
      have e := of_decide_eq_false h2
      have h3 : (pr == pr') = false := by simpa using e
      clear e
      rw [Bool.false_and]
      go_enter Tryz.func94, Tryz.ntmps94
      go_wp2
      go_ret
      exact ⟨rfl, hb⟩

set_option maxRecDepth 100000 in
/-- taking's closure. -/
theorem taking1_any (x : Ru) (d one oth : Int) (a C0 C1 C2 C3 : Nat) (w : World) (hA0 : At w C0 #[.int .i64 d] 3) (hA1 : At w C1 #[.int .i64 one] 36) (hA2 : At w C2 #[.int .i64 oth] 36) (hA3 : At w C3 #[.int .u32 a] 37) :
    Calls Tryz.prog 95 (#[.agg (ruA x)] ++ #[.pointer (some ⟨C0, 0, none⟩), .pointer (some ⟨C1, 0, none⟩), .pointer (some ⟨C2, 0, none⟩), .pointer (some ⟨C3, 0, none⟩)]) w fun e w' => e = .returned (.bool (takesB x d one oth a)) ∧ Below w.heap.size w w' := by
  obtain ⟨id, dv, pr, kd, f, t, pt⟩ := x
  have c0 := ((hA0.alloc (.cells #[.int .i64 id, .int .i64 dv, .int .i64 pr, .int .i64 kd, .int .u32 f, .int .u32 t, .int .i64 pt] 41)).cell 0).trans rfl
  have c1 := ((hA1.alloc (.cells #[.int .i64 id, .int .i64 dv, .int .i64 pr, .int .i64 kd, .int .u32 f, .int .u32 t, .int .i64 pt] 41)).cell 0).trans rfl
  have c2 := ((hA2.alloc (.cells #[.int .i64 id, .int .i64 dv, .int .i64 pr, .int .i64 kd, .int .u32 f, .int .u32 t, .int .i64 pt] 41)).cell 0).trans rfl
  have c3 := ((hA3.alloc (.cells #[.int .i64 id, .int .i64 dv, .int .i64 pr, .int .i64 kd, .int .u32 f, .int .u32 t, .int .i64 pt] 41)).cell 0).trans rfl
  have hb : Below w.heap.size w (w.alloc (.cells #[.int .i64 id, .int .i64 dv, .int .i64 pr, .int .i64 kd, .int .u32 f, .int .u32 t, .int .i64 pt] 41)) := (Below.refl _ _).alloc (Nat.le_refl _) _
  clear hA0 hA1 hA2 hA3
  rw [ruA_mk]
  unfold takesB
  dsimp only
  show Calls Tryz.prog 95 #[_, _, _, _, _] w _
  cases h1 : decide (dv = d) with
  | false =>
    have h1b : (dv == d) = false := by have e := of_decide_eq_false h1; simpa using e
    simp only [Bool.false_and]
    go_enter Tryz.func95, Tryz.ntmps95
    go_wp2
    go_ret
    exact ⟨rfl, hb⟩
  | true =>
    have h1b : (dv == d) = true := by have e := of_decide_eq_true h1; simpa using e
    cases h2 : decide (kd = one) with
    | true =>
      have h2b : (kd == one) = true := by have e := of_decide_eq_true h2; simpa using e
      cases h4 : decide (f ≤ a) with
      | false =>
        have h4i : decide ((f : Int) ≤ (a : Int)) = false := by rw [← h4]; congr 1; simp
        simp only [Bool.true_and, Bool.false_and, Bool.true_or]
        go_enter Tryz.func95, Tryz.ntmps95
        go_wp2
        go_ret
        exact ⟨rfl, hb⟩
      | true =>
        have h4i : decide ((f : Int) ≤ (a : Int)) = true := by rw [← h4]; congr 1; simp
        simp only [Bool.true_and, Bool.true_or]
        go_enter Tryz.func95, Tryz.ntmps95
        go_wp2
        go_ret
        exact ⟨rfl, hb⟩
    | false =>
      have h2b : (kd == one) = false := by have e := of_decide_eq_false h2; simpa using e
      cases h3 : decide (kd = oth) with
      | false =>
        have h3b : (kd == oth) = false := by have e := of_decide_eq_false h3; simpa using e
        simp only [Bool.true_and, Bool.or_self, Bool.false_and]
        go_enter Tryz.func95, Tryz.ntmps95
        go_wp2
        go_ret
        exact ⟨rfl, hb⟩
      | true =>
        have h3b : (kd == oth) = true := by have e := of_decide_eq_true h3; simpa using e
        cases h4 : decide (f ≤ a) with
        | false =>
          have h4i : decide ((f : Int) ≤ (a : Int)) = false := by rw [← h4]; congr 1; simp
          simp only [Bool.true_and, Bool.false_and, Bool.false_or]
          go_enter Tryz.func95, Tryz.ntmps95
          go_wp2
          go_ret
          exact ⟨rfl, hb⟩
        | true =>
          have h4i : decide ((f : Int) ≤ (a : Int)) = true := by rw [← h4]; congr 1; simp
          simp only [Bool.true_and, Bool.false_or]
          go_enter Tryz.func95, Tryz.ntmps95
          go_wp2
          go_ret
          exact ⟨rfl, hb⟩
end Go.Proofs.YtlhfaildeemngaaGreat
/- Contracts: first, over any closure that asks. -/
namespace Go.Proofs.YtlhfaildeemngaaGreat
open Go.RowKit Go.Shelf

/-- What is asked of a closure at each rule of a list. -/
def Asks (g : Nat) (lb : Array Value) (L : List Ru) (p : Ru → Bool) (w : World) : Prop :=
  ∀ k (hk : k < L.length) W, Below w.heap.size w W → Calls Tryz.prog g (#[.agg (ruA L[k])] ++ lb) W fun e W' => e = .returned (.bool (p L[k])) ∧ Below W.heap.size W W'

set_option maxRecDepth 100000 in
set_option maxHeartbeats 1000000 in
theorem first_any {v : Value} (g : Nat) (lb : Array Value) (eg : ∀ args w, (callFunc g args).run Tryz.prog w = .ok (.enter g args) w) (L : List Ru) (p : Ru → Bool) (w : World) (hs : Asks g lb L p w) (h : IsR w v L) :
    Calls Tryz.prog 86 #[v, .func (.func g) #[] lb] w fun e w' => e = .returned (firstV (firstL p L)) ∧ Below w.heap.size w w' := by
  obtain ⟨A1, c1, rfl, n1, m1, z1⟩ := h
  have hL : L.length ≤ 9223372036854775807 := Nat.le_trans n1 m1
  have H1 := Lib.hid z1
  have HS := Lib.hid hs
  clear z1 hs
  obtain ⟨fo, hfo⟩ : ∃ fo, fo = firstL p L := ⟨_, rfl⟩
  rw [← hfo]
  have HFO := Lib.hid hfo
  clear hfo
  go_enter Tryz.func86, Tryz.ntmps86
  go_wp2
  go_loopw [7, 12] (fun b i wr => ∃ k : Nat, Hid (FirI p L w i b k wr)) (fun _ i _ => L.length - (intOf i).toNat)
  case atStart =>
    refine ⟨0, Lib.hid ⟨rfl, rfl, by omega, ?_, ?_, ?_⟩⟩
    · exact ((Below.refl _ _).alloc (Nat.le_refl _) _).alloc (by simp) _
    · exact (At.new w _ _).alloc _
    · exact At.new1 w _ _ _
  case round =>
    obtain ⟨k, HF⟩ := hrel
    obtain ⟨rfl, rfl, hk, hb, hA, hB⟩ := HF.out
    clear HF
    by_cases hlt : k < L.length
    · have hq := firstL_snoc p L k hlt
      obtain ⟨g1, o1, e1, _, r0, r1, r2, r3, r4, r5, r6⟩ := (H1.out.belows hb).at k hlt
      subst e1
      have i0 : (0 : Int) ≤ (k : Int) := by omega
      have i1 : (k : Int) < (L.length : Int) := by omega
      have hcall := HS.out k hlt
      generalize hx : L[k] = x at r0 r1 r2 r3 r4 r5 r6 hcall hq
      obtain ⟨id, dv, pr, kd, f, t, pt⟩ := x
      dsimp only at r0 r1 r2 r3 r4 r5 r6
      have hcall2 := hcall (wr.alloc (.cells (ruA ⟨id, dv, pr, kd, f, t, pt⟩) 41)) (hb.alloc hb.size _)
      have hA1 := hA.alloc (.cells (ruA ⟨id, dv, pr, kd, f, t, pt⟩) 41)
      have hB1 := hB.alloc (.cells (ruA ⟨id, dv, pr, kd, f, t, pt⟩) 41)
      have hR1 := At.new wr (ruA ⟨id, dv, pr, kd, f, t, pt⟩) 41
      have hb1 : Below w.heap.size w (wr.alloc (.cells (ruA ⟨id, dv, pr, kd, f, t, pt⟩) 41)) := hb.alloc hb.size _
      have hs1 : wr.heap.size < (wr.alloc (.cells (ruA ⟨id, dv, pr, kd, f, t, pt⟩) 41)).heap.size := by simp
      clear hcall hA hB
      generalize ho : firstL p (L.take k) = o at hq hB1
      rw [ruA_mk] at hcall2 hR1 hA1 hB1 hb1 hs1
      cases hp : p ⟨id, dv, pr, kd, f, t, pt⟩ with
      | false =>
        rw [hp] at hcall2
        have hq2 : firstL p (L.take (k + 1)) = o := by rw [hq]; unfold stepF; rw [hp]; rfl
        clear hq
        go_wp2_with (go_at_fn g; refine hcall2.mono ?_; rintro e w2 ⟨rfl, b2⟩)
        go_roundw
        case rel =>
          refine ⟨k + 1, Lib.hid ⟨by go_num, ?_, by omega, hb1.trans (b2.mono hb1.size), hA1.belows b2, ?_⟩⟩
          · rw [hq2]
          · rw [hq2]; exact hB1.belows b2
        case measure => simp [intOf]; omega
      | true =>
        rw [hp] at hcall2
        cases o with
        | none =>
          have hq2 : firstL p (L.take (k + 1)) = some ⟨id, dv, pr, kd, f, t, pt⟩ := by rw [hq]; unfold stepF; rw [hp]; rfl
          clear hq
          rw [show ruA ((none : Option Ru).getD ru0) = #[.int .i64 0, .int .i64 0, .int .i64 0, .int .i64 0, .int .u32 0, .int .u32 0, .int .i64 0] from rfl] at hB1
          go_wp2_with (go_at_fn g; refine hcall2.mono ?_; rintro e w2 ⟨rfl, b2⟩; have R2 := hR1.belows b2; have B2 := hB1.belows b2; have c0 := (R2.cell 0).trans rfl; have c1 := (R2.cell 1).trans rfl; have c2 := (R2.cell 2).trans rfl; have c3 := (R2.cell 3).trans rfl; have c4 := (R2.cell 4).trans rfl; have c5 := (R2.cell 5).trans rfl; have c6 := (R2.cell 6).trans rfl; have d0 := (B2.cell 0).trans rfl; have d1 := (B2.cell 1).trans rfl; have d2 := (B2.cell 2).trans rfl; have d3 := (B2.cell 3).trans rfl; have d4 := (B2.cell 4).trans rfl; have d5 := (B2.cell 5).trans rfl; have d6 := (B2.cell 6).trans rfl; have z0 := B2.frozen 0; have z1 := B2.frozen 1; have z2 := B2.frozen 2; have z3 := B2.frozen 3; have z4 := B2.frozen 4; have z5 := B2.frozen 5; have z6 := B2.frozen 6)
          refine ⟨⟨k + 1, Lib.hid ⟨by go_num, ?_, by omega, ?_, ?_, ?_⟩⟩, by simp [intOf]; omega⟩
          · rw [hq2]; rfl
          · exact below_fill (hb1.trans (b2.mono hb1.size)) (by omega) ⟨id, dv, pr, kd, f, t, pt⟩
          · exact (hA1.belows b2).fillo (by omega) ⟨id, dv, pr, kd, f, t, pt⟩
          · rw [hq2]; exact At.fill (y := ru0) B2 ⟨id, dv, pr, kd, f, t, pt⟩
        | some y =>
          obtain ⟨id', dv', pr', kd', f', t', pt'⟩ := y
          have hah := fun u : World => ahead_any ⟨id, dv, pr, kd, f, t, pt⟩ ⟨id', dv', pr', kd', f', t', pt'⟩ u
          rw [ruA_mk, ruA_mk] at hah
          rw [show ruA ((some (⟨id', dv', pr', kd', f', t', pt'⟩ : Ru)).getD ru0) = #[.int .i64 id', .int .i64 dv', .int .i64 pr', .int .i64 kd', .int .u32 f', .int .u32 t', .int .i64 pt'] from rfl] at hB1
          cases hh : aheadB ⟨id, dv, pr, kd, f, t, pt⟩ ⟨id', dv', pr', kd', f', t', pt'⟩ with
          | true =>
            rw [hh] at hah
            have hq2 : firstL p (L.take (k + 1)) = some ⟨id, dv, pr, kd, f, t, pt⟩ := by rw [hq]; unfold stepF; rw [hp]; simp only [Option.getD_some, hh, Bool.or_true, Bool.and_true, if_true]
            clear hq
            go_wp2_with (first | (go_at_fn g; refine hcall2.mono ?_; rintro e w2 ⟨rfl, b2⟩; have R2 := hR1.belows b2; have B2 := hB1.belows b2; have c0 := (R2.cell 0).trans rfl; have c1 := (R2.cell 1).trans rfl; have c2 := (R2.cell 2).trans rfl; have c3 := (R2.cell 3).trans rfl; have c4 := (R2.cell 4).trans rfl; have c5 := (R2.cell 5).trans rfl; have c6 := (R2.cell 6).trans rfl; have d0 := (B2.cell 0).trans rfl; have d1 := (B2.cell 1).trans rfl; have d2 := (B2.cell 2).trans rfl; have d3 := (B2.cell 3).trans rfl; have d4 := (B2.cell 4).trans rfl; have d5 := (B2.cell 5).trans rfl; have d6 := (B2.cell 6).trans rfl; have z0 := B2.frozen 0; have z1 := B2.frozen 1; have z2 := B2.frozen 2; have z3 := B2.frozen 3; have z4 := B2.frozen 4; have z5 := B2.frozen 5; have z6 := B2.frozen 6) | (go_at_call 94; refine (hah _).mono ?_; rintro e w3 ⟨rfl, b3⟩; have R3 := R2.belows b3; have B3 := B2.belows b3; clear c0 d0 z0 c1 d1 z1 c2 d2 z2 c3 d3 z3 c4 d4 z4 c5 d5 z5 c6 d6 z6; have c0 := (R3.cell 0).trans rfl; have c1 := (R3.cell 1).trans rfl; have c2 := (R3.cell 2).trans rfl; have c3 := (R3.cell 3).trans rfl; have c4 := (R3.cell 4).trans rfl; have c5 := (R3.cell 5).trans rfl; have c6 := (R3.cell 6).trans rfl; have d0 := (B3.cell 0).trans rfl; have d1 := (B3.cell 1).trans rfl; have d2 := (B3.cell 2).trans rfl; have d3 := (B3.cell 3).trans rfl; have d4 := (B3.cell 4).trans rfl; have d5 := (B3.cell 5).trans rfl; have d6 := (B3.cell 6).trans rfl; have z0 := B3.frozen 0; have z1 := B3.frozen 1; have z2 := B3.frozen 2; have z3 := B3.frozen 3; have z4 := B3.frozen 4; have z5 := B3.frozen 5; have z6 := B3.frozen 6))
            refine ⟨⟨k + 1, Lib.hid ⟨by go_num, ?_, by omega, ?_, ?_, ?_⟩⟩, by simp [intOf]; omega⟩
            · rw [hq2]; rfl
            · exact below_fill ((hb1.trans (b2.mono hb1.size)).trans (b3.mono (Nat.le_trans hb1.size b2.size))) (by omega) ⟨id, dv, pr, kd, f, t, pt⟩
            · exact ((hA1.belows b2).belows b3).fillo (by omega) ⟨id, dv, pr, kd, f, t, pt⟩
            · rw [hq2]; exact At.fill (y := ⟨id', dv', pr', kd', f', t', pt'⟩) B3 ⟨id, dv, pr, kd, f, t, pt⟩
          | false =>
            rw [hh] at hah
            have hq2 : firstL p (L.take (k + 1)) = some ⟨id', dv', pr', kd', f', t', pt'⟩ := by rw [hq]; unfold stepF; rw [hp]; simp only [Option.getD_some, hh, Option.isNone_some, Bool.or_false, Bool.and_false, Bool.false_eq_true, if_false]
            clear hq
            go_wp2_with (first | (go_at_fn g; refine hcall2.mono ?_; rintro e w2 ⟨rfl, b2⟩; have R2 := hR1.belows b2; have B2 := hB1.belows b2; have c0 := (R2.cell 0).trans rfl; have c1 := (R2.cell 1).trans rfl; have c2 := (R2.cell 2).trans rfl; have c3 := (R2.cell 3).trans rfl; have c4 := (R2.cell 4).trans rfl; have c5 := (R2.cell 5).trans rfl; have c6 := (R2.cell 6).trans rfl; have d0 := (B2.cell 0).trans rfl; have d1 := (B2.cell 1).trans rfl; have d2 := (B2.cell 2).trans rfl; have d3 := (B2.cell 3).trans rfl; have d4 := (B2.cell 4).trans rfl; have d5 := (B2.cell 5).trans rfl; have d6 := (B2.cell 6).trans rfl; have z0 := B2.frozen 0; have z1 := B2.frozen 1; have z2 := B2.frozen 2; have z3 := B2.frozen 3; have z4 := B2.frozen 4; have z5 := B2.frozen 5; have z6 := B2.frozen 6) | (go_at_call 94; refine (hah _).mono ?_; rintro e w3 ⟨rfl, b3⟩; have R3 := R2.belows b3; have B3 := B2.belows b3; clear c0 d0 z0 c1 d1 z1 c2 d2 z2 c3 d3 z3 c4 d4 z4 c5 d5 z5 c6 d6 z6; have c0 := (R3.cell 0).trans rfl; have c1 := (R3.cell 1).trans rfl; have c2 := (R3.cell 2).trans rfl; have c3 := (R3.cell 3).trans rfl; have c4 := (R3.cell 4).trans rfl; have c5 := (R3.cell 5).trans rfl; have c6 := (R3.cell 6).trans rfl; have d0 := (B3.cell 0).trans rfl; have d1 := (B3.cell 1).trans rfl; have d2 := (B3.cell 2).trans rfl; have d3 := (B3.cell 3).trans rfl; have d4 := (B3.cell 4).trans rfl; have d5 := (B3.cell 5).trans rfl; have d6 := (B3.cell 6).trans rfl; have z0 := B3.frozen 0; have z1 := B3.frozen 1; have z2 := B3.frozen 2; have z3 := B3.frozen 3; have z4 := B3.frozen 4; have z5 := B3.frozen 5; have z6 := B3.frozen 6))
            go_roundw
            case rel =>
              refine ⟨k + 1, Lib.hid ⟨by go_num, ?_, by omega, (hb1.trans (b2.mono hb1.size)).trans (b3.mono (Nat.le_trans hb1.size b2.size)), (hA1.belows b2).belows b3, ?_⟩⟩
              · rw [hq2]; rfl
              · rw [hq2]; exact B3
            case measure => simp [intOf]; omega
    · obtain rfl : k = L.length := by omega
      rw [List.take_length, ← HFO.out] at hB
      rw [List.take_length, ← HFO.out]
      obtain ⟨y, hy⟩ : ∃ y, y = fo.getD ru0 := ⟨_, rfl⟩
      rw [← hy] at hB
      have hV : firstV fo = .tuple #[.agg (ruA y), .bool fo.isSome] := by rw [hy]; rfl
      have HV := Lib.hid hV
      clear hV hy
      generalize fo.isSome = q at HV ⊢
      obtain ⟨id', dv', pr', kd', f', t', pt'⟩ := y
      rw [ruA_mk] at hB
      have Z := At.fill (y := ru0) hA ⟨id', dv', pr', kd', f', t', pt'⟩
      rw [rd0] at hA
      have d0 := (hB.cell 0).trans rfl; have e0 := (hA.cell 0).trans rfl; have z0 := hA.frozen 0; have d1 := (hB.cell 1).trans rfl; have e1 := (hA.cell 1).trans rfl; have z1 := hA.frozen 1; have d2 := (hB.cell 2).trans rfl; have e2 := (hA.cell 2).trans rfl; have z2 := hA.frozen 2; have d3 := (hB.cell 3).trans rfl; have e3 := (hA.cell 3).trans rfl; have z3 := hA.frozen 3; have d4 := (hB.cell 4).trans rfl; have e4 := (hA.cell 4).trans rfl; have z4 := hA.frozen 4; have d5 := (hB.cell 5).trans rfl; have e5 := (hA.cell 5).trans rfl; have z5 := hA.frozen 5; have d6 := (hB.cell 6).trans rfl; have e6 := (hA.cell 6).trans rfl; have z6 := hA.frozen 6
      go_wp2
      refine bodyPost_ret (v := firstV fo) ?_ rfl ⟨rfl, below_fill hb (by omega) ⟨id', dv', pr', kd', f', t', pt'⟩⟩
      unfold fillW ruA at Z
      have y0 := Z.cell 0; have y1 := Z.cell 1; have y2 := Z.cell 2; have y3 := Z.cell 3; have y4 := Z.cell 4; have y5 := Z.cell 5; have y6 := Z.cell 6
      dsimp only at y0 y1 y2 y3 y4 y5 y6
      simp [results, Tryz.results86, go_sem, y0, y1, y2, y3, y4, y5, y6, HV.out, ruA_mk]
end Go.Proofs.YtlhfaildeemngaaGreat
/- Contract: the document's Find. -/
namespace Go.Proofs.YtlhfaildeemngaaGreat
open Go.RowKit Go.Shelf

set_option maxRecDepth 100000 in
set_option maxHeartbeats 1000000 in
/-- The document's Find, of right rules. -/
theorem rfind_any {v : Value} (L : List Ru) (i : Int) (w : World) (hR : RR L) (h : IsR w v L) : Calls Tryz.prog 13 #[v, .int .i64 i] w fun e w' => e = .returned (firstV (firstL (fun r => decide (r.id = i)) L)) ∧ Below w.heap.size w w' := by
  obtain ⟨A1, c1, rfl, n1, m1, z1⟩ := h
  have hL : L.length ≤ 9223372036854775807 := Nat.le_trans n1 m1
  have H1 : Hid (∀ u, Below w.heap.size w u → Rs u A1 L) := Lib.hid fun u hu => z1.belows hu
  obtain ⟨fo, hfo⟩ : ∃ fo, fo = firstL (fun r => decide (r.id = i)) L := ⟨_, rfl⟩
  rw [← hfo]
  have HN : Hid ((∀ j (h1 : j < L.length), L[j].id ≠ i) → fo = none) := Lib.hid fun h => by
    rw [hfo]
    apply firstL_none
    intro r hr
    obtain ⟨k, hk, rfl⟩ := List.getElem_of_mem hr
    exact decide_eq_false (h k hk)
  have HS : Hid (∀ k (h1 : k < L.length), L[k].id = i → fo = some L[k]) := Lib.hid fun k h1 e => by
    rw [hfo, ← e]; exact hR.find (List.getElem_mem h1)
  have Z0 := At.new w (ruA ru0) 41
  have b0 : Below w.heap.size w (w.alloc (.cells (ruA ru0) 41)) := (Below.refl _ _).alloc (Nat.le_refl _) _
  rw [rd0] at Z0 b0
  clear z1 hR hfo
  go_enter Tryz.func13, Tryz.ntmps13
  obtain ⟨w0, hw0⟩ : ∃ w0, w0 = w.alloc (.cells #[.int .i64 0, .int .i64 0, .int .i64 0, .int .i64 0, .int .u32 0, .int .u32 0, .int .i64 0] 41) := ⟨_, rfl⟩
  rw [← hw0] at Z0 b0
  go_wp2
  rw [← hw0]
  clear hw0
  go_loopw [6] (fun i' wr => ∃ k : Nat, i' = .int .i64 k ∧ k ≤ L.length ∧ Hid (∀ j (h1 : j < L.length), j < k → L[j].id ≠ i) ∧ wr = w0) (fun i' _ => L.length - (intOf i').toNat)
  case atStart => exact ⟨0, rfl, by omega, Lib.hid (fun j _ hj => by omega), rfl⟩
  case round =>
    obtain ⟨k, rfl, hk, HK, rfl⟩ := hrel
    by_cases hlt : k < L.length
    · obtain ⟨g1, o1, e1, _, r0, r1, r2, r3, r4, r5, r6⟩ := (H1.out wr b0).at k hlt
      subst e1
      have HX : Hid (L[k].id ≠ i → ∀ j (h1 : j < L.length), j < k + 1 → L[j].id ≠ i) := Lib.hid fun e j h1 hj => by
        by_cases hjk : j = k
        · subst hjk; exact e
        · exact HK.out j h1 (by omega)
      have HY : Hid (L[k].id = i → fo = some L[k]) := Lib.hid (HS.out k hlt)
      generalize L[k] = x at r0 r1 r2 r3 r4 r5 r6 HX HY
      obtain ⟨id, dv, pr, kd, f, t, pt⟩ := x
      dsimp only at r0 r1 r2 r3 r4 r5 r6 HX HY
      have i0 : (0 : Int) ≤ (k : Int) := by omega
      have i1 : (k : Int) < (L.length : Int) := by omega
      by_cases h : id = i
      · have hv := HY.out h
        subst hv
        have q : (id == i) = true := by simp [h]
        clear HX HY HK h
        have y0 := (Z0.cell 0).trans rfl; have y1 := (Z0.cell 1).trans rfl; have y2 := (Z0.cell 2).trans rfl; have y3 := (Z0.cell 3).trans rfl; have y4 := (Z0.cell 4).trans rfl; have y5 := (Z0.cell 5).trans rfl; have y6 := (Z0.cell 6).trans rfl
        have z0 := Z0.frozen 0; have z1 := Z0.frozen 1; have z2 := Z0.frozen 2; have z3 := Z0.frozen 3; have z4 := Z0.frozen 4; have z5 := Z0.frozen 5; have z6 := Z0.frozen 6
        go_wp2
        have Z := At.fill (y := ru0) (by rw [rd0]; exact Z0) ⟨id, dv, pr, kd, f, t, pt⟩
        have Y0 := Z.cell 0; have Y1 := Z.cell 1; have Y2 := Z.cell 2; have Y3 := Z.cell 3; have Y4 := Z.cell 4; have Y5 := Z.cell 5; have Y6 := Z.cell 6
        unfold fillW at Y0 Y1 Y2 Y3 Y4 Y5 Y6
        refine bodyPost_ret (v := firstV (some ⟨id, dv, pr, kd, f, t, pt⟩)) ?_ rfl ⟨rfl, below_fill b0 (Nat.le_refl _) ⟨id, dv, pr, kd, f, t, pt⟩⟩
        simp [ruA] at Y0 Y1 Y2 Y3 Y4 Y5 Y6
        simp [results, Tryz.results13, go_sem, Y0, Y1, Y2, Y3, Y4, Y5, Y6, ruA, firstV]
      · have HV := Lib.hid (HX.out h)
        have q : (id == i) = false := by simp [h]
        clear HX HY HK h
        go_wp2
        go_roundw
        case rel => exact ⟨k + 1, by go_num, by omega, HV, (by first | rfl | trivial)⟩
        case measure => simp [intOf]; omega
    · have hv := HN.out (fun j h1 => HK.out j h1 (by omega))
      subst hv
      have hki : ¬ (k : Int) < (L.length : Int) := by omega
      have y0 := (Z0.cell 0).trans rfl; have y1 := (Z0.cell 1).trans rfl; have y2 := (Z0.cell 2).trans rfl; have y3 := (Z0.cell 3).trans rfl; have y4 := (Z0.cell 4).trans rfl; have y5 := (Z0.cell 5).trans rfl; have y6 := (Z0.cell 6).trans rfl
      have z0 := Z0.frozen 0; have z1 := Z0.frozen 1; have z2 := Z0.frozen 2; have z3 := Z0.frozen 3; have z4 := Z0.frozen 4; have z5 := Z0.frozen 5; have z6 := Z0.frozen 6
      go_wp2
      have Z := At.fill (y := ru0) (by rw [rd0]; exact Z0) ru0
      have Y0 := Z.cell 0; have Y1 := Z.cell 1; have Y2 := Z.cell 2; have Y3 := Z.cell 3; have Y4 := Z.cell 4; have Y5 := Z.cell 5; have Y6 := Z.cell 6
      unfold fillW at Y0 Y1 Y2 Y3 Y4 Y5 Y6
      refine bodyPost_ret (v := firstV none) ?_ rfl ⟨rfl, below_fill b0 (Nat.le_refl _) ru0⟩
      simp [ruA, ru0] at Y0 Y1 Y2 Y3 Y4 Y5 Y6
      simp [results, Tryz.results13, go_sem, Y0, Y1, Y2, Y3, Y4, Y5, Y6, ruA, ru0, firstV]

end Go.Proofs.YtlhfaildeemngaaGreat
/- Contract: the document's Insert. -/
namespace Go.Proofs.YtlhfaildeemngaaGreat
open Go.RowKit Go.Shelf

theorem ruA_one (r : Ru) : ∀ u ∈ (ruA r).toList, u.oneCell' = true := by
  intro u hu
  obtain ⟨a, b, c, d, f, t, p⟩ := r
  simp [ruA_mk] at hu
  rcases hu with rfl | rfl | rfl | rfl | rfl | rfl | rfl <;> rfl
theorem ruA_size7 (r : Ru) : (ruA r).size = 7 := rfl
theorem infoRule : (Tryz.prog.info? 41).map (fun i => (i.zero, i.size, i.bytes)) = some (some (.agg #[.int .i64 0, .int .i64 0, .int .i64 0, .int .i64 0, .int .u32 0, .int .u32 0, .int .i64 0]), 7, 48) := by kernel_rfl
/-- Where Insert's loop stands. -/
def InsAt (r : Ru) (L : List Ru) (k : Nat) (dn : Bool) (M : List Ru) : Prop := M.length ≤ k + 1 ∧ ((dn = false ∧ M.length ≤ k ∧ insL r L = M ++ insL r (L.drop k)) ∨ (dn = true ∧ insL r L = M ++ L.drop k))
theorem InsAt.start (r : Ru) (L : List Ru) : InsAt r L 0 false [] := ⟨Nat.zero_le _, .inl ⟨rfl, Nat.le_refl _, rfl⟩⟩
theorem InsAt.ahead {r : Ru} {L : List Ru} {k : Nat} {M : List Ru} (h : InsAt r L k false M) (hk : k < L.length) (hx : r.id < L[k].id) : InsAt r L (k + 1) true (M ++ [r] ++ [L[k]]) := by
  rcases h.2 with ⟨_, hm, e⟩ | ⟨e, _⟩
  · refine ⟨by simp; omega, .inr ⟨rfl, ?_⟩⟩
    rw [e, List.drop_eq_getElem_cons hk, insL, if_pos hx]; simp
  · cases e
theorem InsAt.on {r : Ru} {L : List Ru} {k : Nat} {M : List Ru} (h : InsAt r L k false M) (hk : k < L.length) (hx : ¬ r.id < L[k].id) : InsAt r L (k + 1) false (M ++ [L[k]]) := by
  rcases h.2 with ⟨_, hm, e⟩ | ⟨e, _⟩
  · refine ⟨by simp; omega, .inl ⟨rfl, by simp; omega, ?_⟩⟩
    rw [e, List.drop_eq_getElem_cons hk, insL, if_neg hx]; simp
  · cases e
theorem InsAt.done {r : Ru} {L : List Ru} {k : Nat} {M : List Ru} (h : InsAt r L k true M) (hk : k < L.length) : InsAt r L (k + 1) true (M ++ [L[k]]) := by
  refine ⟨by have := h.1; simp; omega, .inr ⟨rfl, ?_⟩⟩
  rcases h.2 with ⟨e, _⟩ | ⟨_, e⟩
  · cases e
  · rw [e, List.drop_eq_getElem_cons hk]; simp
theorem InsAt.end0 {r : Ru} {L : List Ru} {M : List Ru} (h : InsAt r L L.length false M) : M ++ [r] = insL r L := by
  rcases h.2 with ⟨_, _, e⟩ | ⟨e, _⟩
  · rw [e, List.drop_length, insL]
  · cases e
theorem InsAt.end1 {r : Ru} {L : List Ru} {M : List Ru} (h : InsAt r L L.length true M) : M = insL r L := by
  rcases h.2 with ⟨e, _⟩ | ⟨_, e⟩
  · cases e
  · rw [e, List.drop_length, List.append_nil]
/-- What is found. -/
theorem find_some (L : List Ru) (i : Int) : (firstL (fun r => decide (r.id = i)) L).isSome = hasId i L := by
  rcases firstL_is (fun r => decide (r.id = i)) L with ⟨h, hn⟩ | ⟨x, h, hm, hx, _⟩
  · rw [h]
    symm
    exact hasId_no.2 fun x hx => of_decide_eq_false (hn x hx)
  · rw [h]
    symm
    exact List.any_eq_true.2 ⟨x, hm, hx⟩
def netZ : Value := .agg #[.slice none 0 0, .slice none 0 0, .slice none 0 0]
/-- What Insert, Delete answer: the network with its new rules. -/
def NewOut (er : Int) (M : List Ru) (vp vl : Value) (w : World) (e : Ending) (w' : World) : Prop :=
  ((er ≠ 0 ∧ e = .returned (.tuple #[netZ, .int .i64 er])) ∨ (er = 0 ∧ ∃ v base, w.heap.size ≤ base ∧ e = .returned (.tuple #[.agg #[vp, vl, v], .int .i64 0]) ∧ w'.ownsRow base 41 7 v M.length (rcs M))) ∧ Below w.heap.size w w'
/-- Three stores into the result. -/
theorem net_set {W : World} {B : Nat} {T : TypeId} {x y z a b c : Value} (h : At W B #[x, y, z] T) : At (((W.setCell ⟨B, 0, none⟩ a).setCell ⟨B, 1, none⟩ b).setCell ⟨B, 2, none⟩ c) B #[a, b, c] T := ((h.set0 0 a).set0 1 b).set0 2 c
end Go.Proofs.YtlhfaildeemngaaGreat
