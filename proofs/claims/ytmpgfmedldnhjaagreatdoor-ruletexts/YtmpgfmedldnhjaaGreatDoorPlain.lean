/- Plain mathematics of prefixes: how many addresses one has, the widest one that begins at an address and does not go beyond another, and what a range is split into. No program. -/
namespace Go.Proofs.YtmpgfmedldnhjaaGreatDoor

/-- How many addresses a prefix of the length n has. -/
def sz (n : Nat) : Nat := 2 ^ (32 - n)
theorem sz_pos (n : Nat) : 0 < sz n := Nat.two_pow_pos _
theorem sz_le (n : Nat) : sz n ≤ 4294967296 := Nat.pow_le_pow_right (n := 2) (i := 32 - n) (j := 32) (by decide) (by omega)
theorem sz_32 : sz 32 = 1 := rfl
theorem sz_anti {m n : Nat} (h : m ≤ n) : sz n ≤ sz m := Nat.pow_le_pow_right (by decide) (by omega)
theorem sz_lt {m n : Nat} (h : m < n) (hn : n ≤ 32) : sz n < sz m := Nat.pow_lt_pow_right (by decide) (by omega)
theorem sz_dvd {m n : Nat} (h : m ≤ n) : sz n ∣ sz m := Nat.pow_dvd_pow 2 (by omega)
theorem mask_is (n : Nat) (h : n ≤ 32) : 4294967295 / 2 ^ n = sz n - 1 := by
  have : ∀ k : Fin 33, 4294967295 / 2 ^ k.val = 2 ^ (32 - k.val) - 1 := by decide +kernel
  exact this ⟨n, by omega⟩

/-- A prefix is right. -/
def rightB (a : Nat) (n : Int) : Bool := decide (0 ≤ n) && decide (n ≤ 32) && decide (a % sz n.toNat = 0)
theorem rightB_nat (a n : Nat) : rightB a n = (decide (n ≤ 32) && decide (a % sz n = 0)) := by
  unfold rightB
  have h1 : decide (0 ≤ (n : Int)) = true := by simp
  have h2 : decide ((n : Int) ≤ 32) = decide (n ≤ 32) := by apply decide_eq_decide.2; omega
  rw [h1, h2]; simp
theorem rightB_yes {a : Nat} {n : Int} (h : rightB a n = true) : ∃ k : Nat, n = k ∧ k ≤ 32 ∧ a % sz k = 0 := by
  unfold rightB at h
  simp only [Bool.and_eq_true, decide_eq_true_eq] at h
  exact ⟨n.toNat, by omega, by omega, h.2⟩
theorem rightB_mk {a k : Nat} (h : k ≤ 32) (h2 : a % sz k = 0) : rightB a k = true := by rw [rightB_nat]; simp [h, h2]

/-- A right prefix's last address is one of 32 bits. -/
theorem last_lt {a n : Nat} (ha : a < 4294967296) (h : a % sz n = 0) : a + sz n ≤ 4294967296 := by
  have h1 : sz n ∣ 4294967296 := (sz_dvd (m := 0) (n := n) (by omega))
  obtain ⟨c, hc⟩ := h1
  obtain ⟨d, hd⟩ := Nat.dvd_of_mod_eq_zero h
  have : d < c := by
    apply Nat.lt_of_not_le; intro hle
    have := Nat.mul_le_mul_left (sz n) hle
    omega
  have := Nat.mul_le_mul_left (sz n) (show d + 1 ≤ c from this)
  rw [Nat.mul_add] at this
  omega

theorem or_mask {a n : Nat} (h : a % sz n = 0) : a ||| (sz n - 1) = a + (sz n - 1) := by
  obtain ⟨d, hd⟩ := Nat.dvd_of_mod_eq_zero h
  rw [hd]
  exact (Nat.two_pow_add_eq_or_of_lt (i := 32 - n) (b := sz n - 1) (by have := sz_pos n; unfold sz at *; omega) d).symm
theorem and_mask (a n : Nat) : a &&& (sz n - 1) = a % sz n := Nat.and_two_pow_sub_one_eq_mod a (32 - n)
theorem xor_mask {a n : Nat} (h : a % sz n = 0) : a ^^^ (a + (sz n - 1)) = sz n - 1 := by
  rw [← or_mask h]
  have h0 : a &&& (sz n - 1) = 0 := by rw [and_mask]; exact h
  apply Nat.eq_of_testBit_eq
  intro i
  have h1 : (a &&& (sz n - 1)).testBit i = false := by rw [h0]; exact Nat.zero_testBit i
  rw [Nat.testBit_and] at h1
  rw [Nat.testBit_xor, Nat.testBit_or]
  cases ha : a.testBit i <;> cases hb : (sz n - 1).testBit i <;> simp_all

/-- A prefix of the length n that begins at f does not go beyond t. -/
def fits (f t n : Nat) : Bool := decide (f % sz n = 0) && decide (f + sz n ≤ t + 1)
theorem fits_iff {f t n : Nat} : fits f t n = true ↔ f % sz n = 0 ∧ f + sz n ≤ t + 1 := by simp [fits]
def plFrom (f t : Nat) : Nat → Nat → Nat
  | n, 0 => n
  | n, k + 1 => if fits f t n then n else plFrom f t (n + 1) k
/-- The least length of a prefix that begins at f and does not go beyond t. -/
def pl (f t : Nat) : Nat := plFrom f t 0 32
theorem fits_32 {f t : Nat} (h : f ≤ t) : fits f t 32 = true := by rw [fits_iff, sz_32]; omega
theorem plFrom_spec {f t : Nat} (h : f ≤ t) : ∀ (k n : Nat), n + k = 32 → (∀ m, m < n → fits f t m = false) → fits f t (plFrom f t n k) = true ∧ plFrom f t n k ≤ 32 ∧ ∀ m, m < plFrom f t n k → fits f t m = false
  | 0, n, hn, hm => by
    obtain rfl : n = 32 := by omega
    exact ⟨fits_32 h, by simp [plFrom], hm⟩
  | k + 1, n, hn, hm => by
    unfold plFrom
    by_cases hf : fits f t n = true
    · rw [if_pos hf]; exact ⟨hf, by omega, hm⟩
    · rw [if_neg hf]
      refine plFrom_spec h k (n + 1) (by omega) fun m hlt => ?_
      by_cases e : m = n
      · subst e; simpa using hf
      · exact hm m (by omega)
theorem pl_spec {f t : Nat} (h : f ≤ t) : fits f t (pl f t) = true ∧ pl f t ≤ 32 ∧ ∀ m, m < pl f t → fits f t m = false :=
  plFrom_spec h 32 0 rfl (fun m hm => absurd hm (by omega))
theorem pl_unique {f t n : Nat} (h : f ≤ t) (h1 : fits f t n = true) (h2 : ∀ m, m < n → fits f t m = false) : pl f t = n := by
  obtain ⟨p1, _, p3⟩ := pl_spec h
  rcases Nat.lt_trichotomy (pl f t) n with hl | hl | hl
  · rw [h2 _ hl] at p1; cases p1
  · exact hl
  · rw [p3 _ hl] at h1; cases h1
theorem pl_le {f t n : Nat} (h : f ≤ t) (h1 : fits f t n = true) : pl f t ≤ n := by
  apply Nat.le_of_not_lt; intro hl
  rw [(pl_spec h).2.2 _ hl] at h1; cases h1

/-- What a range is split into: each time the widest prefix. -/
def splitL (f t : Nat) : List (Nat × Nat) := if f ≤ t then (f, pl f t) :: splitL (f + sz (pl f t)) t else []
termination_by t + 1 - f
decreasing_by have := sz_pos (pl f t); omega
theorem splitL_nil {f t : Nat} (h : t < f) : splitL f t = [] := by rw [splitL, if_neg (by omega)]
theorem splitL_cons {f t : Nat} (h : f ≤ t) : splitL f t = (f, pl f t) :: splitL (f + sz (pl f t)) t := by rw [splitL, if_pos h]
theorem next_le {f t : Nat} (h : f ≤ t) : f + sz (pl f t) ≤ t + 1 := (fits_iff.1 (pl_spec h).1).2

/-- It is a prefix's range. -/
def isP (f t n : Nat) : Prop := n ≤ 32 ∧ f % sz n = 0 ∧ f + sz n = t + 1
theorem isP_pl {f t n : Nat} (h : isP f t n) : f ≤ t ∧ pl f t = n := by
  obtain ⟨h1, h2, h3⟩ := h
  have hp := sz_pos n
  refine ⟨by omega, pl_unique (by omega) (fits_iff.2 ⟨h2, by omega⟩) fun m hm => ?_⟩
  have := sz_lt hm h1
  simp [fits]; omega
theorem isP_one {f t n : Nat} (h : isP f t n) : splitL f t = [(f, n)] := by
  obtain ⟨hle, hp⟩ := isP_pl h
  rw [splitL_cons hle, hp, splitL_nil (by have := h.2.2; omega)]
theorem one_isP {f t : Nat} (h : f ≤ t) (h1 : (splitL f t).length = 1) : isP f t (pl f t) := by
  rw [splitL_cons h] at h1
  obtain ⟨p1, p2, _⟩ := pl_spec h
  obtain ⟨q1, q2⟩ := fits_iff.1 p1
  refine ⟨p2, q1, ?_⟩
  by_cases hlt : f + sz (pl f t) ≤ t
  · rw [splitL_cons hlt] at h1; simp at h1
  · omega
/-- No two that follow one another are one prefix's. -/
theorem no_merge {f t n : Nat} (h : f ≤ t) (h2 : f + sz (pl f t) ≤ t) : ¬ isP f (f + sz (pl f t) + sz (pl (f + sz (pl f t)) t) - 1) n := by
  intro hp
  obtain ⟨h1, h3, h4⟩ := hp
  have hz := sz_pos (pl (f + sz (pl f t)) t)
  have hz2 := sz_pos (pl f t)
  have hn := next_le h2
  have hlt : n < pl f t := by
    apply Nat.lt_of_not_le; intro hle
    have := sz_anti hle; omega
  have := (pl_spec h).2.2 n hlt
  rw [show fits f t n = true from fits_iff.2 ⟨h3, by omega⟩] at this
  cases this

/-- The exponent's form: 2^o is the greatest power that divides f and fits. -/
theorem pl_pow {f t o : Nat} (h : f ≤ t) (ho : o ≤ 32) (h1 : f % 2 ^ o = 0) (h2 : f + 2 ^ o ≤ t + 1) (h3 : ∀ o', o < o' → o' ≤ 32 → f % 2 ^ o' = 0 → t + 1 < f + 2 ^ o') : pl f t = 32 - o := by
  apply pl_unique h
  · rw [fits_iff]; unfold sz; rw [show 32 - (32 - o) = o by omega]; exact ⟨h1, h2⟩
  · intro m hm
    have := h3 (32 - m) (by omega) (by omega)
    simp only [fits, sz, Bool.and_eq_false_iff]
    by_cases e : f % 2 ^ (32 - m) = 0
    · right; have := this e; apply decide_eq_false; omega
    · left; exact decide_eq_false e

/-- Down: what is less than 2^k, from a multiple of it on. -/
theorem len_down : ∀ (k f t : Nat), k ≤ 32 → f % 2 ^ k = 0 → t + 1 < f + 2 ^ k → (splitL f t).length ≤ k
  | 0, f, t, _, _, h2 => by rw [splitL_nil (by simp at h2; omega)]; simp
  | k + 1, f, t, hk, h1, h2 => by
    have h1' : f % 2 ^ k = 0 := by
      have : 2 ^ k ∣ f := Nat.dvd_trans (Nat.pow_dvd_pow 2 (by omega)) (Nat.dvd_of_mod_eq_zero h1)
      exact Nat.mod_eq_zero_of_dvd this
    by_cases hs : t + 1 < f + 2 ^ k
    · have := len_down k f t (by omega) h1' hs; omega
    · have hp : 0 < 2 ^ k := Nat.two_pow_pos k
      have hle : f ≤ t := by omega
      have e : pl f t = 32 - k := pl_pow hle (by omega) h1' (by omega) fun o' ho _ _ => by
        have : 2 ^ (k + 1) ≤ 2 ^ o' := Nat.pow_le_pow_right (by decide) (by omega)
        omega
      rw [splitL_cons hle, e, List.length_cons]
      have e2 : sz (32 - k) = 2 ^ k := by unfold sz; rw [show 32 - (32 - k) = k by omega]
      rw [e2]
      have := len_down k (f + 2 ^ k) t (by omega) (by rw [Nat.add_mod_right]; exact h1') (by rw [Nat.pow_succ] at h2; omega)
      omega
/-- Up: to a multiple of 2^k that is nearer than that, and on. -/
theorem len_up : ∀ (d j k f m t : Nat), j + d = k → k ≤ 32 → f % 2 ^ j = 0 → m % 2 ^ k = 0 → f ≤ m → m < f + 2 ^ k → m ≤ t + 1 → (splitL f t).length ≤ d + (splitL m t).length
  | 0, j, k, f, m, t, hd, hk, h1, h2, h3, h4, h5 => by
    obtain rfl : j = k := by omega
    obtain ⟨a, ha⟩ := Nat.dvd_of_mod_eq_zero h1
    obtain ⟨b, hb⟩ := Nat.dvd_of_mod_eq_zero h2
    have : m = f := by
      have h6 : a ≤ b := (Nat.mul_le_mul_left_iff (Nat.two_pow_pos j)).1 (by rw [← ha, ← hb]; exact h3)
      have h7 : b < a + 1 := Nat.lt_of_mul_lt_mul_left (a := 2 ^ j) (by rw [Nat.mul_add, Nat.mul_one]; omega)
      obtain rfl : a = b := by omega
      omega
    subst this; omega
  | d + 1, j, k, f, m, t, hd, hk, h1, h2, h3, h4, h5 => by
    by_cases hm : f = m
    · subst hm; omega
    · by_cases hj : f % 2 ^ (j + 1) = 0
      · have := len_up d (j + 1) k f m t (by omega) hk hj h2 h3 h4 h5; omega
      · have hfit : f + 2 ^ j ≤ m := by
          obtain ⟨a, ha⟩ := Nat.dvd_of_mod_eq_zero h1
          obtain ⟨b, hb⟩ := Nat.dvd_trans (Nat.pow_dvd_pow 2 (show j ≤ k by omega)) (Nat.dvd_of_mod_eq_zero h2)
          have : a < b := Nat.lt_of_mul_lt_mul_left (a := 2 ^ j) (by omega)
          have := Nat.mul_le_mul_left (2 ^ j) (show a + 1 ≤ b from this)
          rw [Nat.mul_add] at this; omega
        have hle : f ≤ t := by have := Nat.two_pow_pos j; omega
        have e : pl f t = 32 - j := pl_pow hle (by omega) h1 (by omega) fun o' ho _ h' => by
          exfalso; apply hj
          exact Nat.mod_eq_zero_of_dvd (Nat.dvd_trans (Nat.pow_dvd_pow 2 (by omega)) (Nat.dvd_of_mod_eq_zero h'))
        have e2 : sz (32 - j) = 2 ^ j := by unfold sz; rw [show 32 - (32 - j) = j by omega]
        rw [splitL_cons hle, e, e2, List.length_cons]
        have hnx : (f + 2 ^ j) % 2 ^ (j + 1) = 0 := by
          obtain ⟨a, ha⟩ := Nat.dvd_of_mod_eq_zero h1
          have hodd : a % 2 = 1 := by
            rcases Nat.mod_two_eq_zero_or_one a with h | h
            · exfalso; apply hj
              rw [ha, Nat.pow_succ, Nat.mul_mod_mul_left, h]; rfl
            · exact h
          rw [ha, show 2 ^ j * a + 2 ^ j = 2 ^ j * (a + 1) by rw [Nat.mul_add, Nat.mul_one], Nat.pow_succ, Nat.mul_mod_mul_left]
          rw [show (a + 1) % 2 = 0 by omega]; rfl
        have := len_up d (j + 1) k (f + 2 ^ j) m t (by omega) hk hnx h2 hfit (by omega) h5
        omega
/-- Within a block of 2^(k+1) addresses. -/
theorem len_block : ∀ (k b f t : Nat), k + 1 ≤ 32 → b % 2 ^ (k + 1) = 0 → b ≤ f → f ≤ t → t + 1 ≤ b + 2 ^ (k + 1) → (splitL f t).length ≤ 2 * k ∨ (splitL f t).length ≤ 1
  | k, b, f, t, hk, hb, h1, h2, h3 => by
    have hp : 0 < 2 ^ k := Nat.two_pow_pos k
    have hpw : 2 ^ (k + 1) = 2 ^ k * 2 := Nat.pow_succ ..
    have hbk : b % 2 ^ k = 0 := Nat.mod_eq_zero_of_dvd (Nat.dvd_trans (Nat.pow_dvd_pow 2 (by omega)) (Nat.dvd_of_mod_eq_zero hb))
    have hmk : (b + 2 ^ k) % 2 ^ k = 0 := by rw [Nat.add_mod_right]; exact hbk
    by_cases hf : f = b
    · subst hf
      by_cases ht : t + 1 = f + 2 ^ (k + 1)
      · right
        have : isP f t (32 - (k + 1)) := ⟨by omega, by unfold sz; rw [show 32 - (32 - (k + 1)) = k + 1 by omega]; exact hb, by unfold sz; rw [show 32 - (32 - (k + 1)) = k + 1 by omega]; omega⟩
        rw [isP_one this]; simp
      · have hd := len_down (k + 1) f t hk hb (by omega)
        match k, hd with
        | 0, hd => right; omega
        | k + 1, hd => left; omega
    · by_cases ht : t + 1 = b + 2 ^ (k + 1)
      · have hu := len_up (k + 1) 0 (k + 1) f (t + 1) t (by omega) hk (by simp [Nat.mod_one]) (by rw [ht, Nat.add_mod_right]; exact hb) (by omega) (by omega) (by omega)
        rw [splitL_nil (f := t + 1) (by omega)] at hu
        simp at hu
        match k, hu with
        | 0, hu => right; omega
        | k + 1, hu => left; omega
      · by_cases c1 : t + 1 ≤ b + 2 ^ k
        · match k, hk, hb, h3, hp, hpw, hbk, hmk, ht, c1 with
          | 0, _, _, _, _, _, _, _, ht, c1 => simp at c1; omega
          | k + 1, hk, _, _, _, _, hbk, _, _, c1 =>
            rcases len_block k b f t (by omega) hbk h1 h2 c1 with h | h
            · left; omega
            · right; exact h
        · by_cases c2 : b + 2 ^ k ≤ f
          · match k, hk, hb, h3, hp, hpw, hbk, hmk, ht, c2 with
            | 0, _, _, h3, _, hpw, _, _, ht, c2 => simp at c2 ht h3; omega
            | k + 1, hk, _, h3, _, hpw, _, hmk, _, c2 =>
              rcases len_block k (b + 2 ^ (k + 1)) f t (by omega) hmk c2 h2 (by omega) with h | h
              · left; omega
              · right; exact h
          · left
            have hu := len_up k 0 k f (b + 2 ^ k) t (by omega) (by omega) (by simp [Nat.mod_one]) hmk (by omega) (by omega) (by omega)
            have hd := len_down k (b + 2 ^ k) t (by omega) hmk (by omega)
            omega
theorem len_62 {f t : Nat} (h : f ≤ t) (ht : t < 4294967296) : (splitL f t).length ≤ 62 := by
  rcases len_block 31 0 f t (by omega) (by simp) (by omega) h (by show t + 1 ≤ 0 + 4294967296; omega) with h | h <;> omega
theorem len_pos {f t : Nat} (h : f ≤ t) : 1 ≤ (splitL f t).length := by rw [splitL_cons h]; simp

/-- Two prefixes' ranges lie one within the other, or apart. -/
theorem nested {a b n m : Nat} (ha : a % sz n = 0) (hb : b % sz m = 0) (hnm : n ≤ m) : b + sz m ≤ a ∨ a + sz n ≤ b ∨ (a ≤ b ∧ b + sz m ≤ a + sz n) := by
  obtain ⟨c, hc⟩ := Nat.dvd_trans (sz_dvd hnm) (Nat.dvd_of_mod_eq_zero ha)
  obtain ⟨d, hd⟩ := Nat.dvd_of_mod_eq_zero hb
  obtain ⟨s, hs⟩ := sz_dvd hnm
  have hp := sz_pos m
  rcases Nat.lt_or_ge d c with h | h
  · left
    have := Nat.mul_le_mul_left (sz m) (show d + 1 ≤ c from h)
    rw [Nat.mul_add] at this; omega
  · rcases Nat.lt_or_ge d (c + s) with h' | h'
    · right; right
      have h1 := Nat.mul_le_mul_left (sz m) h
      have h2 := Nat.mul_le_mul_left (sz m) (show d + 1 ≤ c + s from h')
      rw [Nat.mul_add, Nat.mul_add] at h2
      omega
    · right; left
      have h2 := Nat.mul_le_mul_left (sz m) h'
      rw [Nat.mul_add] at h2
      omega
end Go.Proofs.YtmpgfmedldnhjaaGreatDoor
