/- Words of 64 bits: what they have, how many, which is next, and what is listed: the plain mathematics. Of no program. -/
import Derived.Lib.TrailingZeros
import Derived.Lib.BitFns
namespace Go.Proofs.YtkglaoagiifejaaDoor

/-- The number whose first k bits are these. -/
def pack (q : Nat → Bool) : Nat → Nat
  | 0 => 0
  | k + 1 => pack q k ||| ((q k).toNat <<< k)
theorem pack_bit (q : Nat → Bool) : ∀ k j, (pack q k).testBit j = (decide (j < k) && q j)
  | 0, j => by simp [pack]
  | k + 1, j => by
    rw [pack, Nat.testBit_or, pack_bit q k j, Nat.testBit_shiftLeft]
    by_cases h1 : j < k
    · have : ¬ k ≤ j := by omega
      have h2 : j < k + 1 := by omega
      simp [h1, h2, this]
    · by_cases h2 : j = k
      · subst h2
        cases h : q j <;> simp
      · have h3 : ¬ j < k + 1 := by omega
        have h4 : k ≤ j := by omega
        have h5 : ∃ d, j - k = d + 1 := ⟨j - k - 1, by omega⟩
        obtain ⟨d, hd⟩ := h5
        rw [hd]
        simp only [h1, h3, decide_false, Bool.false_and, Bool.false_or]
        cases q k <;> simp [Nat.testBit_succ]
/-- Word w of a set. -/
def wd (p : Nat → Bool) (w : Nat) : Nat := pack (fun j => p (64 * w + j)) 64
theorem wd_bit (p : Nat → Bool) (w j : Nat) : (wd p w).testBit j = (decide (j < 64) && p (64 * w + j)) := pack_bit _ _ _
theorem wd_lt (p : Nat → Bool) (w : Nat) : wd p w < 18446744073709551616 :=
  Nat.lt_pow_two_of_testBit (n := 64) _ fun i hi => by rw [wd_bit]; simp; omega
theorem wd_of {p : Nat → Bool} {w x : Nat} (hx : x < 18446744073709551616) (h : ∀ j, j < 64 → x.testBit j = p (64 * w + j)) : x = wd p w := by
  refine Nat.eq_of_testBit_eq fun j => ?_
  rw [wd_bit]
  by_cases hj : j < 64
  · simp [hj, h j hj]
  · have hp : (18446744073709551616 : Nat) ≤ 2 ^ j := Nat.pow_le_pow_right (n := 2) (by decide) (show 64 ≤ j by omega)
    rw [Nat.testBit_lt_two_pow (by omega)]
    simp [hj]
theorem wd_congr {p q : Nat → Bool} {w : Nat} (h : ∀ j, j < 64 → p (64 * w + j) = q (64 * w + j)) : wd p w = wd q w :=
  wd_of (wd_lt p w) fun j hj => by rw [wd_bit]; simp [hj, h j hj]
theorem wd_and (p q : Nat → Bool) (w : Nat) : wd p w &&& wd q w = wd (fun i => p i && q i) w :=
  wd_of (Nat.lt_of_le_of_lt Nat.and_le_left (wd_lt p w)) fun j hj => by rw [Nat.testBit_and, wd_bit, wd_bit]; simp [hj]
theorem wd_or (p q : Nat → Bool) (w : Nat) : wd p w ||| wd q w = wd (fun i => p i || q i) w :=
  wd_of (Nat.or_lt_two_pow (n := 64) (wd_lt p w) (wd_lt q w)) fun j hj => by rw [Nat.testBit_or, wd_bit, wd_bit]; simp [hj]
theorem wd_andNot (p q : Nat → Bool) (w : Nat) : wd p w &&& (18446744073709551615 - wd q w) = wd (fun i => p i && !q i) w :=
  wd_of (Nat.lt_of_le_of_lt Nat.and_le_left (wd_lt p w)) fun j hj => by
    have e : 18446744073709551615 - wd q w = 2 ^ 64 - (wd q w + 1) := by have := wd_lt q w; omega
    rw [Nat.testBit_and, e, Nat.testBit_two_pow_sub_succ (wd_lt q w), wd_bit, wd_bit]; simp [hj]
theorem wd_zero (w : Nat) : wd (fun _ => false) w = 0 := (wd_of (by decide) fun j _ => by simp).symm
theorem wd_ne {p : Nat → Bool} {w : Nat} (h : wd p w = 0) : ∀ j, j < 64 → p (64 * w + j) = false := fun j hj => by
  have := wd_bit p w j
  rw [h] at this
  simpa [hj] using this.symm

/-- What is below i. -/
def blw (i : Int) (j : Nat) : Bool := decide ((j : Int) < i)
theorem blw_zero {i : Int} {w : Nat} (h : i ≤ 64 * (w : Int)) : wd (blw i) w = 0 :=
  (wd_of (by decide) fun j hj => by simp [blw]; omega).symm
theorem blw_all {i : Int} {w : Nat} (h : 64 ≤ i - 64 * (w : Int)) : wd (blw i) w = 18446744073709551615 :=
  (wd_of (by decide) fun j hj => by
    have := Nat.testBit_two_pow_sub_one 64 j
    rw [show (18446744073709551615 : Nat) = 2 ^ 64 - 1 by decide, this]; simp [blw, hj]; omega).symm
theorem blw_some {w d : Nat} (h : d < 64) : wd (blw (64 * (w : Int) + (d : Int))) w = 2 ^ d - 1 :=
  (wd_of (by have := Nat.pow_lt_pow_right (a := 2) (by decide) h; have := Nat.two_pow_pos d; omega) fun j hj => by
    rw [Nat.testBit_two_pow_sub_one]; simp [blw]).symm

/-- How many words. -/
def nw (n : Nat) : Nat := (n + 63) / 64
/-- A set has nothing from its size on. -/
def Sup (n : Nat) (p : Nat → Bool) : Prop := ∀ j, n ≤ j → p j = false
theorem nw_le (n : Nat) : n ≤ 64 * nw n := by unfold nw; omega
theorem nw_lt {n i : Nat} (h : i < n) : i / 64 < nw n := by unfold nw; omega
theorem nw_max {n : Nat} (h : n ≤ 1024) : nw n ≤ 16 := by unfold nw; omega

/-- How many of the first. -/
def cnt (p : Nat → Bool) (n : Nat) : Nat := (List.range n).countP p
theorem cnt_succ (p : Nat → Bool) (n : Nat) : cnt p (n + 1) = cnt p n + (p n).toNat := by
  unfold cnt
  rw [List.range_succ, List.countP_append]
  cases h : p n <;> simp [h]
theorem cnt_le (p : Nat → Bool) (n : Nat) : cnt p n ≤ n := by
  induction n with
  | zero => simp [cnt]
  | succ n ih => rw [cnt_succ]; cases p n <;> simp <;> omega
theorem cnt_same {p : Nat → Bool} {n m : Nat} (hs : Sup n p) (h : n ≤ m) : cnt p m = cnt p n := by
  induction m with
  | zero => obtain rfl : n = 0 := by omega
            rfl
  | succ m ih =>
    by_cases e : n = m + 1
    · rw [e]
    · rw [cnt_succ, ih (by omega), hs m (by omega)]; rfl
theorem cnt_split (p : Nat → Bool) (a b : Nat) : cnt p (a + b) = cnt p a + cnt (fun j => p (a + j)) b := by
  induction b with
  | zero => simp [cnt]
  | succ b ih => rw [← Nat.add_assoc, cnt_succ, ih, cnt_succ]; omega
theorem cnt_congr {p q : Nat → Bool} {n : Nat} (h : ∀ j, j < n → p j = q j) : cnt p n = cnt q n := by
  induction n with
  | zero => rfl
  | succ n ih => rw [cnt_succ, cnt_succ, ih (fun j hj => h j (by omega)), h n (by omega)]
/-- How many bits a number has, of 64. -/
def ones (x : Nat) : Nat := cnt (fun j => x.testBit j) 64
theorem ones_wd (p : Nat → Bool) (w : Nat) : ones (wd p w) = cnt (fun j => p (64 * w + j)) 64 := cnt_congr fun j hj => by rw [wd_bit]; simp [hj]
theorem cnt_word (p : Nat → Bool) (w : Nat) : cnt p (64 * (w + 1)) = cnt p (64 * w) + ones (wd p w) := by
  rw [ones_wd, show 64 * (w + 1) = 64 * w + 64 by omega, cnt_split]

/-- The least one from i on, and whether there is one. -/
def NextIs (p : Nat → Bool) (i : Int) (x : Int) (b : Bool) : Prop :=
  (b = true ∧ ∃ k : Nat, x = k ∧ p k = true ∧ i ≤ k ∧ ∀ j : Nat, i ≤ j → j < k → p j = false) ∨ (b = false ∧ x = 0 ∧ ∀ j : Nat, i ≤ j → p j = false)
theorem ctz_bit {x : Nat} (h0 : x ≠ 0) (h : x < 18446744073709551616) : Lib.ctz 64 x < 64 ∧ x.testBit (Lib.ctz 64 x) = true ∧ ∀ j, j < Lib.ctz 64 x → x.testBit j = false := by
  obtain ⟨m, hm, hk⟩ := Lib.ctzFrom_spec 64 x (by omega) h
  have e : Lib.ctz 64 x = Lib.ctzFrom 64 x := by simp [Lib.ctz, h0]
  rw [e]
  generalize Lib.ctzFrom 64 x = c at *
  refine ⟨hk, ?_, fun j hj => ?_⟩
  · rw [hm, Nat.testBit_two_pow_mul]; simp
  · rw [hm, Nat.testBit_two_pow_mul]; simp; omega
/-- What is from i on. -/
def frm (p : Nat → Bool) (i : Int) (j : Nat) : Bool := p j && !blw i j
theorem next_found {p : Nat → Bool} {i : Int} {w : Nat} (hpre : ∀ j : Nat, j < 64 * w → frm p i j = false) (hx : wd (frm p i) w ≠ 0) :
    NextIs p i (64 * (w : Int) + (Lib.ctz 64 (wd (frm p i) w) : Int)) true := by
  obtain ⟨h1, h2, h3⟩ := ctz_bit hx (wd_lt _ _)
  generalize Lib.ctz 64 (wd (frm p i) w) = c at *
  rw [wd_bit] at h2
  simp only [h1, decide_true, Bool.true_and] at h2
  have h2' : p (64 * w + c) = true ∧ i ≤ ((64 * w + c : Nat) : Int) := by
    simp only [frm, blw, Bool.and_eq_true, Bool.not_eq_true', decide_eq_false_iff_not] at h2
    exact ⟨h2.1, by omega⟩
  refine .inl ⟨rfl, 64 * w + c, by omega, h2'.1, h2'.2, fun j hj hlt => ?_⟩
  have hf : frm p i j = false := by
    by_cases hw : j < 64 * w
    · exact hpre j hw
    · have := h3 (j - 64 * w) (by omega)
      rw [wd_bit] at this
      have e : 64 * w + (j - 64 * w) = j := by omega
      have e2 : j - 64 * w < 64 := by omega
      rw [e] at this
      simpa [e2] using this
  simp only [frm, blw, Bool.and_eq_false_iff, Bool.not_eq_false', decide_eq_true_eq] at hf
  rcases hf with h | h
  · exact h
  · omega
theorem next_step {p : Nat → Bool} {i : Int} {w : Nat} (hpre : ∀ j : Nat, j < 64 * w → frm p i j = false) (hx : wd (frm p i) w = 0) : ∀ j : Nat, j < 64 * (w + 1) → frm p i j = false := fun j hj => by
  by_cases hw : j < 64 * w
  · exact hpre j hw
  · have := wd_ne hx (j - 64 * w) (by omega)
    rwa [show 64 * w + (j - 64 * w) = j by omega] at this
theorem next_none {p : Nat → Bool} {i : Int} {n : Nat} (hs : Sup n p) (hpre : ∀ j : Nat, j < 64 * nw n → frm p i j = false) : NextIs p i 0 false := by
  refine .inr ⟨rfl, rfl, fun j hj => ?_⟩
  by_cases h : j < n
  · have := hpre j (by have := nw_le n; omega)
    simp only [frm, blw, Bool.and_eq_false_iff, Bool.not_eq_false', decide_eq_true_eq] at this
    rcases this with h | h
    · exact h
    · omega
  · exact hs j (by omega)
theorem next_has {p : Nat → Bool} {i x : Int} {b : Bool} (h : NextIs p i x b) : (b && decide (x = i)) = (decide (0 ≤ i) && p i.toNat) := by
  rcases h with ⟨rfl, k, rfl, hp, hi, hl⟩ | ⟨rfl, rfl, hn⟩
  · by_cases e : (k : Int) = i
    · subst e; simp [hp]
    · by_cases h0 : 0 ≤ i
      · have := hl i.toNat (by omega) (by omega)
        simp [e, this]
      · simp [e, h0]
  · by_cases h0 : 0 ≤ i
    · simp [hn i.toNat (by omega)]
    · simp [h0]

/-- All, rising. -/
def lst (p : Nat → Bool) (n : Nat) : List Nat := (List.range n).filter p
theorem lst_succ (p : Nat → Bool) (n : Nat) : lst p (n + 1) = lst p n ++ (if p n then [n] else []) := by
  unfold lst
  rw [List.range_succ, List.filter_append]
  cases h : p n <;> simp [h]
theorem lst_len (p : Nat → Bool) (n : Nat) : (lst p n).length = cnt p n := by
  unfold lst cnt; rw [List.countP_eq_length_filter]
theorem lst_gap {p : Nat → Bool} {a b : Nat} (h : a ≤ b) (hg : ∀ j, a ≤ j → j < b → p j = false) : lst p b = lst p a := by
  induction b with
  | zero => obtain rfl : a = 0 := by omega
            rfl
  | succ b ih =>
    by_cases e : a = b + 1
    · rw [e]
    · rw [lst_succ, ih (by omega) (fun j h1 h2 => hg j h1 (by omega)), hg b (by omega) (by omega)]; simp
theorem lst_next {p : Nat → Bool} {a k : Nat} (h : a ≤ k) (hp : p k = true) (hg : ∀ j, a ≤ j → j < k → p j = false) : lst p a ++ [k] = lst p (k + 1) := by
  rw [lst_succ, lst_gap h hg, hp]; simp
theorem lst_end {p : Nat → Bool} {a n : Nat} (h : a ≤ n) (hs : ∀ j, a ≤ j → p j = false) : lst p a = lst p n := (lst_gap h fun j h1 _ => hs j h1).symm
theorem lst_congr {p q : Nat → Bool} {n : Nat} (h : ∀ j, j < n → p j = q j) : lst p n = lst q n := by
  induction n with
  | zero => rfl
  | succ n ih => rw [lst_succ, lst_succ, ih (fun j hj => h j (by omega)), h n (by omega)]
theorem lst_mem {p : Nat → Bool} {n j : Nat} : j ∈ lst p n ↔ j < n ∧ p j = true := by simp [lst]

/-- Two counts. -/
theorem cnt_both (p q : Nat → Bool) (n : Nat) : cnt (fun i => p i && q i) n + cnt (fun i => p i || q i) n = cnt p n + cnt q n := by
  induction n with
  | zero => rfl
  | succ n ih => simp only [cnt_succ]; cases p n <;> cases q n <;> simp <;> omega
theorem cnt_not (p : Nat → Bool) (n : Nat) : cnt p n + cnt (fun i => blw n i && !p i) n = n := by
  have : ∀ m, m ≤ n → cnt p m + cnt (fun i => blw n i && !p i) m = m := by
    intro m
    induction m with
    | zero => intro _; rfl
    | succ m ih =>
      intro hm
      have := ih (by omega)
      have hb : blw n m = true := by simp [blw]; omega
      simp only [cnt_succ, hb]
      cases p m <;> simp <;> omega
  exact this n (Nat.le_refl _)
end Go.Proofs.YtkglaoagiifejaaDoor
