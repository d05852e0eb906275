/-
  Plain mathematics of numbers as bytes: how many base-256 figures, the figures, the value of figures; nothing of the program.
-/
namespace Go.Proofs.Ytnjghodjpbalcaa

/-- How many base-256 figures (0 has none). -/
def bw (n : Nat) : Nat := if n = 0 then 0 else bw (n / 256) + 1
termination_by n
decreasing_by omega

theorem bw_zero : bw 0 = 0 := by unfold bw; simp
theorem bw_pos {n : Nat} (h : 0 < n) : bw n = bw (n / 256) + 1 := by rw [bw]; simp; omega
theorem bw_le (n k : Nat) : n < 256 ^ k → bw n ≤ k := by
  induction k generalizing n with
  | zero => intro h; simp at h; subst h; rw [bw_zero]; omega
  | succ k ih =>
    intro h
    rcases Nat.eq_zero_or_pos n with h0 | h0
    · subst h0; rw [bw_zero]; omega
    · rw [bw_pos h0]
      have := ih (n / 256) (by rw [Nat.pow_succ] at h; omega)
      omega
theorem bw_lt (n k : Nat) : 256 ^ k ≤ n → k < bw n := by
  induction k generalizing n with
  | zero => intro h; simp at h; rw [bw_pos (by omega)]; omega
  | succ k ih =>
    intro h
    have h1 : 256 ^ k ≤ n / 256 := by rw [Nat.pow_succ] at h; omega
    have hp : 0 < 256 ^ k := Nat.pow_pos (by omega)
    have := ih _ h1
    rw [bw_pos (by omega)]
    omega
theorem bw_is (n k : Nat) (h1 : 256 ^ k ≤ n) (h2 : n < 256 ^ (k + 1)) : bw n = k + 1 := by
  have := bw_le n (k + 1) h2
  have := bw_lt n k h1
  omega
theorem lt_of_bw (n : Nat) : n < 256 ^ (bw n) := by
  rcases Nat.lt_or_ge n (256 ^ bw n) with h | h
  · exact h
  · have := bw_lt n _ h; omega
theorem bw_eight {n : Nat} (h : n < 18446744073709551616) : bw n ≤ 8 := bw_le n 8 (by simpa using h)

/-- The bits' count of bits.Len64, told by what width asks of it alone. -/
theorem bw_of_len (n t : Nat) (k : Nat) (h1 : 256 ^ k ≤ n) (h2 : n < 256 ^ (k + 1)) (ht : 8 * k < t) (ht2 : t ≤ 8 * (k + 1)) : (t + 7) / 8 = bw n := by
  rw [bw_is n k h1 h2]; omega

/-- k figures, the highest first. -/
def be (k n : Nat) : List UInt8 := (List.range k).map fun i => UInt8.ofNat (n / 256 ^ (k - 1 - i))
theorem be_length (k n : Nat) : (be k n).length = k := by simp [be]
theorem be_take_succ (k n i : Nat) (h : i < k) : (be k n).take (i + 1) = (be k n).take i ++ [UInt8.ofNat (n / 256 ^ (k - 1 - i))] := by
  rw [List.take_succ_eq_append_getElem (by rw [be_length]; exact h)]
  simp [be]
theorem be_take_all (k n : Nat) : (be k n).take k = be k n := List.take_of_length_le (by rw [be_length]; omega)
theorem be_cons (k n : Nat) : be (k + 1) n = UInt8.ofNat (n / 256 ^ k) :: be k n := by
  unfold be
  rw [List.range_succ_eq_map, List.map_cons, List.map_map]
  congr 1
  apply List.map_congr_left
  intro i hi
  simp only [Function.comp]
  congr 2
  simp at hi
  congr 1
  omega

/-- A number's bytes. -/
def enc (n : Nat) : List UInt8 := if n < 240 then [UInt8.ofNat n] else UInt8.ofNat (239 + bw n) :: be (bw n) n
/-- A text's bytes. -/
def encT (s : List UInt8) : List UInt8 := enc s.length ++ s

theorem enc_low {n : Nat} (h : n < 240) : enc n = [UInt8.ofNat n] := by simp [enc, h]
theorem enc_high {n : Nat} (h : ¬ n < 240) : enc n = UInt8.ofNat (239 + bw n) :: be (bw n) n := by simp [enc, h]
theorem enc_len (n : Nat) (h : n < 18446744073709551616) : 0 < (enc n).length ∧ (enc n).length ≤ 9 := by
  by_cases h0 : n < 240
  · rw [enc_low h0]; simp
  · rw [enc_high h0]; have := bw_eight h; simp [be_length]; omega

/-- The value of figures, as a 64-bit machine reckons it. -/
def vm (l : List UInt8) : Nat := l.foldl (fun a b => a * 256 % 18446744073709551616 + b.toNat) 0
theorem vm_snoc (l : List UInt8) (b : UInt8) : vm (l ++ [b]) = vm l * 256 % 18446744073709551616 + b.toNat := by simp [vm]
theorem vm_lt (l : List UInt8) : vm l < 18446744073709551616 := by
  rcases List.eq_nil_or_concat l with rfl | ⟨r, b, rfl⟩
  · simp [vm]
  · rw [List.concat_eq_append, vm_snoc]
    have := b.toNat_lt
    omega

/-- The number with which bytes begin, and how many bytes it has. -/
def num1 : List UInt8 → Option (Nat × Nat)
  | [] => none
  | b :: r =>
    if b.toNat < 240 then some (b.toNat, 1)
    else if r.length < b.toNat - 239 then none
    else if vm (r.take (b.toNat - 239)) < 240 ∨ bw (vm (r.take (b.toNat - 239))) < b.toNat - 239 then none
    else some (vm (r.take (b.toNat - 239)), b.toNat - 239 + 1)
theorem num1_low {b : UInt8} (r : List UInt8) (h : b.toNat < 240) : num1 (b :: r) = some (b.toNat, 1) := by simp [num1, h]
theorem num1_short {b : UInt8} (r : List UInt8) (h : ¬ b.toNat < 240) (h2 : r.length < b.toNat - 239) : num1 (b :: r) = none := by simp [num1, h, h2]
theorem num1_bad {b : UInt8} (r : List UInt8) (h : ¬ b.toNat < 240) (h2 : ¬ r.length < b.toNat - 239) (h3 : vm (r.take (b.toNat - 239)) < 240 ∨ bw (vm (r.take (b.toNat - 239))) < b.toNat - 239) : num1 (b :: r) = none := by
  rw [num1, if_neg h, if_neg h2, if_pos h3]
theorem num1_high {b : UInt8} (r : List UInt8) (h : ¬ b.toNat < 240) (h2 : ¬ r.length < b.toNat - 239) (h3 : ¬ (vm (r.take (b.toNat - 239)) < 240 ∨ bw (vm (r.take (b.toNat - 239))) < b.toNat - 239)) :
    num1 (b :: r) = some (vm (r.take (b.toNat - 239)), b.toNat - 239 + 1) := by
  rw [num1, if_neg h, if_neg h2, if_neg h3]
theorem num1_le {l : List UInt8} {v n : Nat} (h : num1 l = some (v, n)) : 0 < n ∧ n ≤ l.length ∧ v < 18446744073709551616 := by
  cases l with
  | nil => cases h
  | cons b r =>
    have := b.toNat_lt
    by_cases h1 : b.toNat < 240
    · rw [num1_low r h1] at h
      injection h with h; injection h with h h'
      subst h h'
      simp; omega
    · by_cases h2 : r.length < b.toNat - 239
      · rw [num1_short r h1 h2] at h; cases h
      · by_cases h3 : vm (r.take (b.toNat - 239)) < 240 ∨ bw (vm (r.take (b.toNat - 239))) < b.toNat - 239
        · rw [num1_bad r h1 h2 h3] at h; cases h
        · rw [num1_high r h1 h2 h3] at h
          injection h with h; injection h with h h'
          subst h h'
          have := vm_lt (r.take (b.toNat - 239))
          simp; omega

theorem shr_byte (n m : Nat) : ((n : Int) / 2 ^ (8 * m) % 256) = ((UInt8.ofNat (n / 256 ^ m)).toNat : Int) := by
  have h : (2 : Nat) ^ (8 * m) = 256 ^ m := by rw [Nat.pow_mul]
  have h2 : ((2 : Int) ^ (8 * m)) = ((256 ^ m : Nat) : Int) := by rw [← h, Int.natCast_pow]; rfl
  rw [h2, UInt8.toNat_ofNat', Int.natCast_emod, Int.natCast_ediv]
  rfl
end Go.Proofs.Ytnjghodjpbalcaa
