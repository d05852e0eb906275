/- Plain: numbers' bytes in order. -/
import Derived.Test.YtnjghodjpbalcaaPlain
import GoSem.Op.String
namespace Go.Proofs.Ytnjghodjpbalcaa

theorem bl_head {a b : UInt8} (x y : List UInt8) (h : a.toNat < b.toNat) : Op.bytesLess (a :: x) (b :: y) = true := by
  have : a < b := UInt8.lt_iff_toNat_lt.2 h
  simp [Op.bytesLess, this]
theorem bl_same (a : UInt8) (x y : List UInt8) : Op.bytesLess (a :: x) (a :: y) = Op.bytesLess x y := by simp [Op.bytesLess]
theorem bl_irrefl : ∀ x : List UInt8, Op.bytesLess x x = false
  | [] => rfl
  | a :: x => by rw [bl_same]; exact bl_irrefl x
theorem bl_asymm : ∀ x y : List UInt8, Op.bytesLess x y = true → Op.bytesLess y x = false
  | _, [], h => by simp [Op.bytesLess] at h
  | [], _ :: _, _ => rfl
  | a :: x, b :: y, h => by
    simp only [Op.bytesLess, Bool.or_eq_true, Bool.and_eq_true, decide_eq_true_eq, beq_iff_eq] at h
    rcases h with h | ⟨rfl, h⟩
    · have h' := UInt8.lt_iff_toNat_lt.1 h
      have h1 : ¬ b < a := fun hh => by have := UInt8.lt_iff_toNat_lt.1 hh; omega
      have h2 : (b == a) = false := beq_eq_false_iff_ne.2 (fun e => by subst e; omega)
      simp [Op.bytesLess, h1, h2]
    · rw [bl_same]; exact bl_asymm x y h
theorem bl_ne {x y : List UInt8} (h : Op.bytesLess x y = true) : x ≠ y := fun e => by subst e; rw [bl_irrefl] at h; cases h

theorem be_mod (k n : Nat) : be k n = be k (n % 256 ^ k) := by
  unfold be
  apply List.map_congr_left
  intro i hi
  simp at hi
  apply UInt8.toNat_inj.1
  rw [UInt8.toNat_ofNat', UInt8.toNat_ofNat']
  have e : 256 ^ k = 256 ^ (k - 1 - i) * (256 * 256 ^ i) := by
    rw [← Nat.pow_succ', ← Nat.pow_add]; congr 1; omega
  rw [e, Nat.mod_mul_right_div_self]
  show n / 256 ^ (k - 1 - i) % 256 = n / 256 ^ (k - 1 - i) % (256 * 256 ^ i) % 256
  rw [Nat.mod_mul_right_mod]
theorem be_less : ∀ (k n m : Nat), n < m → m < 256 ^ k → Op.bytesLess (be k n) (be k m) = true
  | 0, n, m, h, h2 => by simp at h2; omega
  | k + 1, n, m, h, h2 => by
    rw [be_cons, be_cons]
    have hp : 0 < 256 ^ k := Nat.pow_pos (by omega)
    have hm : m / 256 ^ k < 256 := Nat.div_lt_of_lt_mul (by rw [← Nat.pow_succ]; exact h2)
    have hle : n / 256 ^ k ≤ m / 256 ^ k := Nat.div_le_div_right (by omega)
    rcases Nat.lt_or_eq_of_le hle with hlt | heq
    · apply bl_head
      rw [UInt8.toNat_ofNat', UInt8.toNat_ofNat']
      show n / 256 ^ k % 256 < m / 256 ^ k % 256
      rw [Nat.mod_eq_of_lt hm, Nat.mod_eq_of_lt (Nat.lt_trans hlt hm)]
      exact hlt
    · rw [heq, bl_same, be_mod k n, be_mod k m]
      apply be_less
      · have a := Nat.div_add_mod n (256 ^ k)
        have b := Nat.div_add_mod m (256 ^ k)
        rw [heq] at a
        omega
      · exact Nat.mod_lt _ hp
theorem bw_mono {n m : Nat} (h : n ≤ m) : bw n ≤ bw m := bw_le n _ (Nat.lt_of_le_of_lt h (lt_of_bw m))

/-- Of two numbers the lesser one's bytes come ahead, and are no more. -/
theorem enc_less {n m : Nat} (h : n < m) (hm : m < 18446744073709551616) : Op.bytesLess (enc n) (enc m) = true ∧ (enc n).length ≤ (enc m).length ∧ (enc n).take (enc n).length ≠ (enc m).take (enc n).length := by
  have b8 := bw_eight hm
  have hmo := bw_mono (Nat.le_of_lt h)
  by_cases h2 : m < 240
  · have hb : Op.bytesLess (enc n) (enc m) = true := by
      rw [enc_low h2, enc_low (by omega)]
      apply bl_head
      rw [UInt8.toNat_ofNat', UInt8.toNat_ofNat']
      show n % 256 < m % 256
      omega
    refine ⟨hb, by rw [enc_low h2, enc_low (by omega)]; simp, ?_⟩
    have := bl_ne hb
    rw [enc_low h2, enc_low (by omega)] at this ⊢
    simpa using this
  · by_cases h1 : n < 240
    · have hh : (UInt8.ofNat n).toNat < (UInt8.ofNat (239 + bw m)).toNat := by
        have : 0 < bw m := by rw [bw_pos (by omega)]; omega
        rw [UInt8.toNat_ofNat', UInt8.toNat_ofNat']
        show n % 256 < (239 + bw m) % 256
        omega
      rw [enc_low h1, enc_high h2]
      refine ⟨bl_head _ _ hh, by simp, ?_⟩
      show [UInt8.ofNat n] ≠ [UInt8.ofNat (239 + bw m)]
      intro e
      injection e with e _
      rw [e] at hh
      omega
    · rw [enc_high h1, enc_high h2]
      rcases Nat.lt_or_eq_of_le hmo with hlt | heq
      · have hh : (UInt8.ofNat (239 + bw n)).toNat < (UInt8.ofNat (239 + bw m)).toNat := by
          rw [UInt8.toNat_ofNat', UInt8.toNat_ofNat']
          show (239 + bw n) % 256 < (239 + bw m) % 256
          omega
        refine ⟨bl_head _ _ hh, by simp [be_length]; omega, ?_⟩
        simp only [List.length_cons, List.take_succ_cons]
        intro e
        injection e with e _
        rw [e] at hh
        omega
      · have hb := be_less (bw m) n m h (lt_of_bw m)
        rw [heq]
        refine ⟨by rw [bl_same]; exact hb, by simp [be_length], ?_⟩
        rw [List.take_of_length_le (by simp [be_length]), List.take_of_length_le (by simp [be_length])]
        intro e
        injection e with _ e
        exact bl_ne hb e
end Go.Proofs.Ytnjghodjpbalcaa
