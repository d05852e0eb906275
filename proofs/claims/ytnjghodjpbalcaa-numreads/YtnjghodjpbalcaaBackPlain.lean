/- Plain: there and back, one way. -/
import Derived.Test.YtnjghodjpbalcaaPlain
namespace Go.Proofs.Ytnjghodjpbalcaa

theorem be_snoc (k n : Nat) : be (k + 1) n = be k (n / 256) ++ [UInt8.ofNat n] := by
  unfold be
  rw [List.range_succ, List.map_append]
  congr 1
  · apply List.map_congr_left
    intro i hi
    simp at hi
    congr 1
    rw [Nat.div_div_eq_div_mul, ← Nat.pow_succ']
    congr 2
    omega
  · simp
theorem vm_be : ∀ (k n : Nat), k ≤ 8 → vm (be k n) = n % 256 ^ k
  | 0, n, _ => by simp [be, vm, Nat.mod_one]
  | k + 1, n, h => by
    rw [be_snoc, vm_snoc, vm_be k (n / 256) (by omega)]
    have hp : 0 < 256 ^ k := Nat.pow_pos (by omega)
    have h1 : n / 256 % 256 ^ k < 256 ^ k := Nat.mod_lt _ hp
    have h2 : 256 ^ k ≤ 256 ^ 7 := Nat.pow_le_pow_right (by omega) (by omega)
    have h3 : (256 : Nat) ^ 7 = 72057594037927936 := by decide
    rw [Nat.mod_eq_of_lt (by omega), UInt8.toNat_ofNat']
    have h4 : n % 256 ^ (k + 1) = n % 256 + 256 * (n / 256 % 256 ^ k) := by rw [Nat.pow_succ', Nat.mod_mul]
    rw [h4]
    show _ + n % 256 = _
    omega
theorem vm_lt_pow : ∀ (l : List UInt8), l.length ≤ 8 → vm l < 256 ^ l.length ∧ be l.length (vm l) = l := by
  intro l
  induction h : l.length generalizing l with
  | zero => intro _; have : l = [] := List.eq_nil_of_length_eq_zero h; subst this; simp [vm, be]
  | succ k ih =>
    intro h8
    rcases List.eq_nil_or_concat l with rfl | ⟨r, b, rfl⟩
    · simp at h
    · rw [List.concat_eq_append] at *
      simp at h
      obtain ⟨h1, h2⟩ := ih r h (by omega)
      have h3 : 256 ^ k ≤ 256 ^ 7 := Nat.pow_le_pow_right (by omega) (by omega)
      have h4 : (256 : Nat) ^ 7 = 72057594037927936 := by decide
      have hb := b.toNat_lt
      rw [vm_snoc, Nat.mod_eq_of_lt (by omega)]
      refine ⟨by rw [Nat.pow_succ]; omega, ?_⟩
      rw [be_snoc, show (vm r * 256 + b.toNat) / 256 = vm r from by omega, h2]
      congr 2
      apply UInt8.toNat_inj.1
      rw [UInt8.toNat_ofNat']
      show (vm r * 256 + b.toNat) % 256 = _
      omega

/-- There and back. -/
theorem num1_enc (v : Nat) (r : List UInt8) (h : v < 18446744073709551616) : num1 (enc v ++ r) = some (v, (enc v).length) := by
  by_cases h1 : v < 240
  · rw [enc_low h1]
    have e : (UInt8.ofNat v).toNat = v := by rw [UInt8.toNat_ofNat']; show v % 256 = v; omega
    rw [List.singleton_append, num1_low r (by rw [e]; exact h1), e]
    rfl
  · have h8 := bw_eight h
    have hp : 0 < bw v := by rw [bw_pos (by omega)]; omega
    rw [enc_high h1, List.cons_append]
    have e : (UInt8.ofNat (239 + bw v)).toNat = 239 + bw v := by rw [UInt8.toNat_ofNat']; show (239 + bw v) % 256 = _; omega
    have e2 : (UInt8.ofNat (239 + bw v)).toNat - 239 = bw v := by omega
    have et : (be (bw v) v ++ r).take (bw v) = be (bw v) v := by rw [List.take_append_of_le_length (by rw [be_length]; omega), be_take_all]
    have ev : vm (be (bw v) v) = v := by rw [vm_be _ _ h8, Nat.mod_eq_of_lt (lt_of_bw v)]
    rw [num1_high _ (by omega) (by rw [e2]; simp [be_length]) (by rw [e2, et, ev]; omega), e2, et, ev]
    simp [be_length]

set_option maxRecDepth 100000 in
/-- One way. -/
theorem enc_num1 {l : List UInt8} {v n : Nat} (h : num1 l = some (v, n)) : n = (enc v).length ∧ l.take n = enc v := by
  cases l with
  | nil => cases h
  | cons b r =>
    have hb := b.toNat_lt
    by_cases h1 : b.toNat < 240
    · rw [num1_low r h1] at h
      injection h with h; injection h with h h'
      subst h h'
      rw [enc_low h1]
      simp
    · by_cases h2 : r.length < b.toNat - 239
      · rw [num1_short r h1 h2] at h; cases h
      · by_cases h3 : vm (r.take (b.toNat - 239)) < 240 ∨ bw (vm (r.take (b.toNat - 239))) < b.toNat - 239
        · rw [num1_bad r h1 h2 h3] at h; cases h
        · rw [num1_high r h1 h2 h3] at h
          injection h with h; injection h with h h'
          have hlt := vm_lt (r.take (b.toNat - 239))
          have h8 := bw_eight hlt
          have hlen : (r.take (b.toNat - 239)).length = b.toNat - 239 := by simp; omega
          obtain ⟨q1, q2⟩ := vm_lt_pow (r.take (b.toNat - 239)) (by rw [hlen]; omega)
          rw [hlen] at q1 q2
          have hbw : bw v = b.toNat - 239 := by
            have := bw_le _ _ q1
            rw [h] at this h3
            omega
          rw [h] at q2 h3
          subst h'
          rw [enc_high (by omega), hbw, q2]
          refine ⟨by simp [hlen], ?_⟩
          rw [List.take_succ_cons]
          congr 1
          apply UInt8.toNat_inj.1
          rw [UInt8.toNat_ofNat']
          show b.toNat = (239 + (b.toNat - 239)) % 256
          omega
end Go.Proofs.Ytnjghodjpbalcaa
