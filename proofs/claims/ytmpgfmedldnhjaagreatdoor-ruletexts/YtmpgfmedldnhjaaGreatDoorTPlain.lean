/- Plain mathematics of texts: decimal numerals, what stands between bytes, the address of a text. No program. -/
import Derived.Lib.ItoaNum
import Derived.Test.YtmpgfmedldnhjaaGreatDoorPlain
namespace Go.Proofs.YtmpgfmedldnhjaaGreatDoor
open Go

/-- A byte that is a figure. -/
def fig (c : UInt8) : Bool := decide (48 ≤ c.toNat) && decide (c.toNat ≤ 57)
/-- The number of figures. -/
def val (l : List UInt8) : Nat := l.foldl (fun n c => 10 * n + (c.toNat - 48)) 0
theorem val_nil : val [] = 0 := rfl
theorem val_snoc (l : List UInt8) (c : UInt8) : val (l ++ [c]) = 10 * val l + (c.toNat - 48) := by simp [val]
theorem fig_of (d : Nat) (h : d < 10) : (UInt8.ofNat (48 + d)).toNat = 48 + d := by simp; omega

theorem dd_fig (u : Nat) : ∀ c ∈ Lib.decDigits u, fig c = true := by
  induction u using Nat.strongRecOn with
  | _ u ih =>
    intro c hc
    rw [Lib.decDigits] at hc
    split at hc
    · rename_i h
      simp only [List.mem_singleton] at hc
      subst hc
      simp only [fig, fig_of u h, Bool.and_eq_true, decide_eq_true_eq]; omega
    · rename_i h
      rcases List.mem_append.1 hc with h1 | h1
      · exact ih (u / 10) (by omega) c h1
      · simp only [List.mem_singleton] at h1
        subst h1
        simp only [fig, fig_of (u % 10) (by omega), Bool.and_eq_true, decide_eq_true_eq]; omega
theorem dd_val (u : Nat) : val (Lib.decDigits u) = u := by
  induction u using Nat.strongRecOn with
  | _ u ih =>
    rw [Lib.decDigits]
    split
    · rename_i h
      rw [show [UInt8.ofNat (48 + u)] = [] ++ [UInt8.ofNat (48 + u)] from rfl, val_snoc, fig_of u h, val_nil]; omega
    · rename_i h
      rw [val_snoc, ih (u / 10) (by omega), fig_of (u % 10) (by omega)]; omega
theorem dd_ne (u : Nat) : Lib.decDigits u ≠ [] := by
  intro h
  have h1 := Lib.decDigits_length u
  rw [h] at h1
  have h2 := Lib.nDigits_pos u
  simp only [List.length_nil] at h1
  omega
theorem dd_inj {u v : Nat} (h : Lib.decDigits u = Lib.decDigits v) : u = v := by rw [← dd_val u, h, dd_val]
theorem dd_big {u : Nat} (h : ¬ u < 10) : Lib.decDigits u = Lib.decDigits (u / 10) ++ [UInt8.ofNat (48 + u % 10)] := by rw [Lib.decDigits, dif_neg h]
theorem head_app {m l : List UInt8} (h : m ≠ []) : (m ++ l).head? = m.head? := by
  cases m with
  | nil => exact absurd rfl h
  | cons a m => rfl
theorem dd_head (u : Nat) (h : u ≠ 0) : (Lib.decDigits u).head? ≠ some 48 := by
  induction u using Nat.strongRecOn with
  | _ u ih =>
    by_cases h1 : u < 10
    · rw [Lib.decDigits_one h1]
      intro e
      simp only [List.head?_cons, Option.some.injEq] at e
      have := fig_of u h1
      rw [e] at this
      simp at this; omega
    · rw [dd_big h1, head_app (dd_ne _)]
      exact ih (u / 10) (by omega) (by omega)
theorem dd_len1 (u : Nat) (h : (Lib.decDigits u).head? = some 48) : (Lib.decDigits u).length ≤ 1 := by
  by_cases h0 : u = 0
  · subst h0; rw [Lib.decDigits_one (by omega)]; simp
  · exact absurd h (dd_head u h0)

/-- Figures without noughts ahead. -/
def canB (l : List UInt8) : Bool := !l.isEmpty && l.all fig && (decide (l.length ≤ 1) || l.head? != some 48)
theorem can_dd (u : Nat) : canB (Lib.decDigits u) = true := by
  have h1 : (Lib.decDigits u).isEmpty = false := by
    cases h : Lib.decDigits u with
    | nil => exact absurd h (dd_ne u)
    | cons a l => rfl
  have h2 : (Lib.decDigits u).all fig = true := List.all_eq_true.2 (dd_fig u)
  unfold canB
  rw [h1, h2]
  by_cases h : (Lib.decDigits u).head? = some 48
  · have := dd_len1 u h; simp [this]
  · simp [h]
theorem ofNat_toNat (c : UInt8) : UInt8.ofNat c.toNat = c := by simp
theorem dd_of_can : ∀ (n : Nat) (l : List UInt8), l.length = n → l ≠ [] → l.all fig = true → (l.length ≤ 1 ∨ l.head? ≠ some 48) → l = Lib.decDigits (val l) ∧ (l.head? ≠ some 48 → 0 < val l)
  | 0, l, hl, h0, _, _ => absurd (List.eq_nil_of_length_eq_zero hl) h0
  | n + 1, l, hl, h0, h1, h2 => by
    obtain ⟨m, c, rfl⟩ : ∃ m c, l = m ++ [c] := ⟨l.dropLast, l.getLast h0, (List.dropLast_concat_getLast h0).symm⟩
    have hc : fig c = true := by simp only [List.all_append, List.all_cons, List.all_nil, Bool.and_true, Bool.and_eq_true] at h1; exact h1.2
    have hm : m.all fig = true := by simp only [List.all_append, Bool.and_eq_true] at h1; exact h1.1
    simp only [fig, Bool.and_eq_true, decide_eq_true_eq] at hc
    rw [val_snoc]
    by_cases hm0 : m = []
    · subst hm0
      refine ⟨?_, fun hh => ?_⟩
      · rw [val_nil, Lib.decDigits_one (by omega), show 48 + (10 * 0 + (c.toNat - 48)) = c.toNat by omega, ofNat_toNat]; rfl
      · simp only [List.nil_append, List.head?_cons, ne_eq, Option.some.injEq] at hh
        have : c.toNat ≠ 48 := fun e => hh (by rw [← ofNat_toNat c, e]; rfl)
        omega
    · have hlen : 0 < m.length := by cases m with
        | nil => exact absurd rfl hm0
        | cons a b => simp
      have hh : (m ++ [c]).head? = m.head? := head_app hm0
      have h2' : m.head? ≠ some 48 := by
        rcases h2 with h | h
        · simp only [List.length_append, List.length_singleton] at h; omega
        · rwa [hh] at h
      obtain ⟨e, hp⟩ := dd_of_can n m (by simp at hl; omega) hm0 hm (.inr h2')
      have hv := hp h2'
      refine ⟨?_, fun _ => by omega⟩
      rw [dd_big (by omega), show (10 * val m + (c.toNat - 48)) / 10 = val m by omega, show 48 + (10 * val m + (c.toNat - 48)) % 10 = c.toNat by omega, ofNat_toNat, ← e]
theorem can_is {l : List UInt8} (h : canB l = true) : l = Lib.decDigits (val l) := by
  unfold canB at h
  simp only [Bool.and_eq_true, Bool.or_eq_true, decide_eq_true_eq, bne_iff_ne, Bool.not_eq_true', ne_eq] at h
  exact (dd_of_can l.length l rfl (by rintro rfl; simp at h) h.1.2 (by rcases h.2 with h | h; exact .inl h; exact .inr h)).1

/-- The number, at most 'most', that is written just so. -/
def numOf (l : List UInt8) (most : Nat) : Option Nat := if canB l && decide (val l ≤ most) then some (val l) else none
theorem numOf_dd {n most : Nat} (h : n ≤ most) : numOf (Lib.decDigits n) most = some n := by
  unfold numOf; rw [can_dd, dd_val]; simp [h]
theorem numOf_some {l : List UInt8} {n most : Nat} (h : numOf l most = some n) : l = Lib.decDigits n ∧ n ≤ most := by
  unfold numOf at h
  split at h
  · rename_i hc
    simp only [Bool.and_eq_true, decide_eq_true_eq] at hc
    injection h with h
    subst h
    exact ⟨can_is hc.1, hc.2⟩
  · cases h
theorem numOf_fig {l : List UInt8} {n most : Nat} (h : numOf l most = some n) : ∀ c ∈ l, fig c = true := by
  rw [(numOf_some h).1]; exact dd_fig n
theorem numOf_none_fig {l : List UInt8} {most : Nat} {c : UInt8} (hc : c ∈ l) (hf : fig c = false) : numOf l most = none := by
  cases h : numOf l most with
  | none => rfl
  | some n => have := numOf_fig h c hc; rw [hf] at this; cases this
theorem numOf_nil (most : Nat) : numOf [] most = none := rfl

/-- A longer text's number is no less. -/
theorem val_mono (l m : List UInt8) : val l ≤ val (l ++ m) := by
  induction m generalizing l with
  | nil => simp
  | cons c m ih =>
    have h1 := ih (l ++ [c])
    rw [val_snoc] at h1
    rw [show l ++ c :: m = l ++ [c] ++ m by simp]
    omega
theorem val_lt (l : List UInt8) (h : l.all fig = true) : val l < 10 ^ l.length := by
  have key : ∀ (n : Nat) (l : List UInt8), l.length = n → l.all fig = true → val l < 10 ^ n := by
    intro n
    induction n with
    | zero => intro l hl _; rw [List.eq_nil_of_length_eq_zero hl]; simp [val]
    | succ n ih =>
      intro l hl h
      have h0 : l ≠ [] := by rintro rfl; simp at hl
      obtain ⟨m, c, rfl⟩ : ∃ m c, l = m ++ [c] := ⟨l.dropLast, l.getLast h0, (List.dropLast_concat_getLast h0).symm⟩
      simp only [List.all_append, List.all_cons, List.all_nil, Bool.and_true, Bool.and_eq_true] at h
      have hc := h.2
      simp only [fig, Bool.and_eq_true, decide_eq_true_eq] at hc
      have := ih m (by simp at hl; omega) h.1
      rw [val_snoc, Nat.pow_succ]
      omega
  exact key _ l rfl h

/-- What stands between bytes c. -/
def partsL (c : UInt8) : List UInt8 → List (List UInt8)
  | [] => [[]]
  | x :: l => if x = c then [] :: partsL c l else match partsL c l with
    | [] => [[x]]
    | p :: ps => (x :: p) :: ps
theorem parts_ne (c : UInt8) (l : List UInt8) : partsL c l ≠ [] := by
  cases l with
  | nil => simp [partsL]
  | cons x l => unfold partsL; split; simp; split <;> simp
theorem parts_none {c : UInt8} : ∀ {l : List UInt8}, c ∉ l → partsL c l = [l]
  | [], _ => rfl
  | x :: l, h => by
    simp only [List.mem_cons, not_or] at h
    unfold partsL
    rw [if_neg (fun e => h.1 e.symm), parts_none h.2]
theorem parts_cut {c : UInt8} : ∀ {b : List UInt8} (a : List UInt8), c ∉ b → partsL c (b ++ c :: a) = b :: partsL c a
  | [], a, _ => by simp [partsL]
  | x :: b, a, h => by
    simp only [List.mem_cons, not_or] at h
    rw [List.cons_append]
    conv => lhs; unfold partsL
    rw [if_neg (fun e => h.1 e.symm), parts_cut a h.2]
theorem parts_snoc_sep (c : UInt8) (l : List UInt8) : partsL c (l ++ [c]) = partsL c l ++ [[]] := by
  induction l with
  | nil => simp [partsL]
  | cons x l ih =>
    rw [List.cons_append]
    by_cases h : x = c
    · subst h; simp [partsL, ih]
    · unfold partsL
      rw [if_neg h, if_neg h, ih]
      cases hp : partsL c l with
      | nil => exact absurd hp (parts_ne c l)
      | cons p ps => rfl
theorem parts_snoc {c x : UInt8} (hx : x ≠ c) (l : List UInt8) : ∃ ini p, partsL c l = ini ++ [p] ∧ partsL c (l ++ [x]) = ini ++ [p ++ [x]] := by
  induction l with
  | nil => exact ⟨[], [], rfl, by simp [partsL, hx]⟩
  | cons y l ih =>
    obtain ⟨ini, p, h1, h2⟩ := ih
    rw [List.cons_append]
    by_cases h : y = c
    · subst h; exact ⟨[] :: ini, p, by simp [partsL, h1], by simp [partsL, h2]⟩
    · cases ini with
      | nil => exact ⟨[], y :: p, by simp [partsL, h, h1], by simp [partsL, h, h2]⟩
      | cons q ini => exact ⟨(y :: q) :: ini, p, by simp [partsL, h, h1], by simp [partsL, h, h2]⟩

/-- The address of a text. -/
def addrV (ps : List (List UInt8)) : Nat := ps.foldl (fun a p => 256 * a + (numOf p 255).getD 0) 0
def addrOf (l : List UInt8) : Option Nat := if (partsL 46 l).length = 4 ∧ (∀ p ∈ partsL 46 l, (numOf p 255).isSome = true) then some (addrV (partsL 46 l)) else none
theorem addrV_lt {a b c d : List UInt8} (h : ∀ p ∈ [a, b, c, d], (numOf p 255).isSome = true) : addrV [a, b, c, d] < 4294967296 := by
  have key : ∀ p, (numOf p 255).isSome = true → (numOf p 255).getD 0 ≤ 255 := fun p hp => by
    obtain ⟨n, hn⟩ := Option.isSome_iff_exists.1 hp
    rw [hn]; exact (numOf_some hn).2
  have h1 := key a (h a (by simp)); have h2 := key b (h b (by simp)); have h3 := key c (h c (by simp)); have h4 := key d (h d (by simp))
  simp only [addrV, List.foldl_cons, List.foldl_nil]
  omega
theorem addrOf_lt {l : List UInt8} {a : Nat} (h : addrOf l = some a) : a < 4294967296 := by
  unfold addrOf at h
  split at h
  · rename_i hc
    injection h with h
    subst h
    obtain ⟨h1, h2⟩ := hc
    match hp : partsL 46 l, h1, h2 with
    | [a, b, c, d], _, h2 => exact addrV_lt h2
  · cases h

/-- The address's text. -/
def addrT (a : Nat) : List UInt8 := Lib.decDigits (a / 16777216 % 256) ++ 46 :: (Lib.decDigits (a / 65536 % 256) ++ 46 :: (Lib.decDigits (a / 256 % 256) ++ 46 :: Lib.decDigits (a % 256)))
theorem no_sep {u : Nat} {c : UInt8} (hc : fig c = false) : c ∉ Lib.decDigits u := fun h => by have := dd_fig u c h; rw [hc] at this; cases this
theorem parts_addrT (a : Nat) : partsL 46 (addrT a) = [Lib.decDigits (a / 16777216 % 256), Lib.decDigits (a / 65536 % 256), Lib.decDigits (a / 256 % 256), Lib.decDigits (a % 256)] := by
  unfold addrT
  rw [parts_cut _ (no_sep (by decide)), parts_cut _ (no_sep (by decide)), parts_cut _ (no_sep (by decide)), parts_none (no_sep (by decide))]
theorem addr_back (a : Nat) (h : a < 4294967296) : addrOf (addrT a) = some a := by
  unfold addrOf
  rw [parts_addrT]
  have e : ∀ x, numOf (Lib.decDigits (x % 256)) 255 = some (x % 256) := fun x => numOf_dd (by omega)
  rw [if_pos ⟨rfl, by simp [e]⟩]
  simp only [addrV, List.foldl_cons, List.foldl_nil, e, Option.getD_some, Option.some.injEq]
  omega
end Go.Proofs.YtmpgfmedldnhjaaGreatDoor
