/- How many bits a word has, as math/bits.OnesCount64 reckons it: byte by byte. Of no program. -/
import Derived.Test.YtkglaoagiifejaaDoorPlain
namespace Go.Proofs.YtkglaoagiifejaaDoor

/-- A byte, k times. -/
def rep (m : Nat) : Nat → Nat
  | 0 => 0
  | k + 1 => m + 256 * rep m k
theorem and_byte (a m M : Nat) (hm : m < 256) : a &&& (m + 256 * M) = (a % 256 &&& m) + 256 * (a / 256 &&& M) := by
  have h1 : (a &&& (m + 256 * M)) % 256 = a % 256 &&& m := by
    have := Nat.and_mod_two_pow (a := a) (b := m + 256 * M) (n := 8)
    simp only [show (2 : Nat) ^ 8 = 256 by decide] at this
    rw [this]
    congr 1; omega
  have h2 : (a &&& (m + 256 * M)) / 256 = a / 256 &&& M := by
    have := Nat.and_div_two_pow (a := a) (b := m + 256 * M) (n := 8)
    simp only [show (2 : Nat) ^ 8 = 256 by decide] at this
    rw [this]
    congr 1; omega
  rw [← h1, ← h2]; omega
def B0 (b : Nat) : Nat := (b / 2 &&& 85) + (b &&& 85)
def B1 (b : Nat) : Nat := (b / 4 &&& 51) + (b &&& 51)
def B2 (b : Nat) : Nat := (B1 (B0 b) / 16 + B1 (B0 b)) % 16
theorem b0_dec : ∀ y, y < 512 → ((y / 2) % 256 &&& 85) + (y % 256 &&& 85) = B0 (y % 256) ∧ B0 (y % 256) < 256 := by decide +kernel
theorem b1_dec : ∀ y, y < 1024 → ((y / 4) % 256 &&& 51) + (y % 256 &&& 51) = B1 (y % 256) := by decide +kernel
theorem b2_dec : ∀ b, b < 256 → B1 (B0 b) % 16 ≤ 4 ∧ B1 (B0 b) ≤ 68 := by decide +kernel
theorem b2_cnt : ∀ b, b < 256 → B2 b = cnt (fun j => b.testBit j) 8 := by decide +kernel
def f0 (k x : Nat) : Nat := (x / 2 &&& rep 85 k) + (x &&& rep 85 k)
def f1 (k x : Nat) : Nat := (x / 4 &&& rep 51 k) + (x &&& rep 51 k)
def f2 (k x : Nat) : Nat := x / 16 + x &&& rep 15 k
theorem f0_succ (k x : Nat) : f0 (k + 1) x = B0 (x % 256) + 256 * f0 k (x / 256) := by
  obtain ⟨h, _⟩ := b0_dec (x % 512) (Nat.mod_lt _ (by decide))
  unfold f0
  rw [rep, and_byte _ _ _ (by decide), and_byte x _ _ (by decide)]
  have e1 : x % 512 / 2 % 256 = x / 2 % 256 := by omega
  have e2 : x % 512 % 256 = x % 256 := by omega
  have e3 : x / 2 / 256 = x / 256 / 2 := by omega
  rw [e1, e2] at h
  rw [e3, ← h]; omega
theorem f1_succ (k x : Nat) : f1 (k + 1) x = B1 (x % 256) + 256 * f1 k (x / 256) := by
  have h := b1_dec (x % 1024) (Nat.mod_lt _ (by decide))
  unfold f1
  rw [rep, and_byte _ _ _ (by decide), and_byte x _ _ (by decide)]
  have e1 : x % 1024 / 4 % 256 = x / 4 % 256 := by omega
  have e2 : x % 1024 % 256 = x % 256 := by omega
  have e3 : x / 4 / 256 = x / 256 / 4 := by omega
  rw [e1, e2] at h
  rw [e3, ← h]; omega
theorem f10_succ (k x : Nat) : f1 (k + 1) (f0 (k + 1) x) = B1 (B0 (x % 256)) + 256 * f1 k (f0 k (x / 256)) := by
  obtain ⟨_, h⟩ := b0_dec (x % 256) (by omega)
  rw [Nat.mod_mod] at h
  rw [f1_succ, f0_succ]
  rw [show (B0 (x % 256) + 256 * f0 k (x / 256)) % 256 = B0 (x % 256) by omega, show (B0 (x % 256) + 256 * f0 k (x / 256)) / 256 = f0 k (x / 256) by omega]
theorem f10_low (k x : Nat) : f1 k (f0 k x) % 16 ≤ 4 := by
  cases k with
  | zero => simp [f1, f0, rep]
  | succ k =>
    have := (b2_dec (x % 256) (Nat.mod_lt _ (by decide))).1
    rw [f10_succ]; omega
theorem f210_succ (k x : Nat) : f2 (k + 1) (f1 (k + 1) (f0 (k + 1) x)) = B2 (x % 256) + 256 * f2 k (f1 k (f0 k (x / 256))) := by
  have h1 := f10_low k (x / 256)
  have h2 := (b2_dec (x % 256) (Nat.mod_lt _ (by decide))).2
  rw [f10_succ]
  unfold f2 B2
  generalize B1 (B0 (x % 256)) = b at *
  generalize f1 k (f0 k (x / 256)) = y at *
  rw [rep, and_byte _ _ _ (by decide)]
  have e1 : ((b + 256 * y) / 16 + (b + 256 * y)) / 256 = y / 16 + y := by omega
  have e2 : ∀ z, z % 256 &&& 15 = z % 16 := fun z => by
    have := Nat.and_two_pow_sub_one_eq_mod (z % 256) 4
    simp only [show (2 : Nat) ^ 4 - 1 = 15 by decide, show (2 : Nat) ^ 4 = 16 by decide] at this
    rw [this]; omega
  rw [e1, e2]
  have e3 : ((b + 256 * y) / 16 + (b + 256 * y)) % 16 = (b / 16 + b) % 16 := by omega
  rw [e3]
theorem cnt_bytes (k x : Nat) : cnt (fun j => x.testBit j) (8 * (k + 1)) = B2 (x % 256) + cnt (fun j => (x / 256).testBit j) (8 * k) := by
  rw [show 8 * (k + 1) = 8 + 8 * k by omega, cnt_split, b2_cnt _ (Nat.mod_lt _ (by decide))]
  congr 1
  · refine cnt_congr fun j hj => ?_
    have := Nat.testBit_mod_two_pow x 8 j
    simp only [show (2 : Nat) ^ 8 = 256 by decide] at this
    rw [this]; simp [hj]
  · refine cnt_congr fun j hj => ?_
    have : (x / 2 ^ 8).testBit j = x.testBit (j + 8) := Nat.testBit_div_two_pow x j
    simp only [show (2 : Nat) ^ 8 = 256 by decide] at this
    rw [this, Nat.add_comm]
theorem b2_le (x : Nat) : B2 (x % 256) ≤ 8 := by rw [b2_cnt _ (Nat.mod_lt _ (by decide))]; exact cnt_le _ 8
/-- All the steps behind the first three. -/
theorem pop_end (x : Nat) (y : Nat) (hy : y = f2 8 (f1 8 (f0 8 x))) :
    y < 1152921504606846976 ∧ y + y / 256 < 4611686018427387904 ∧ y + y / 256 + (y + y / 256) / 65536 < 4611686018427387904 ∧
    y + y / 256 + (y + y / 256) / 65536 + (y + y / 256 + (y + y / 256) / 65536) / 4294967296 < 9223372036854775808 ∧
    (y + y / 256 + (y + y / 256) / 65536 + (y + y / 256 + (y + y / 256) / 65536) / 4294967296) % 128 = ones x := by
  have ho : ones x = cnt (fun j => x.testBit j) (8 * 8) := rfl
  rw [ho]
  clear ho
  simp only [f210_succ, cnt_bytes] at *
  have hz : ∀ z, f2 0 (f1 0 (f0 0 z)) = 0 := fun z => by simp [f2, rep]
  have hc : ∀ z : Nat, cnt (fun j => z.testBit j) (8 * 0) = 0 := fun z => rfl
  rw [hz] at hy
  rw [hc]
  have l0 := b2_le x
  have l1 := b2_le (x / 256)
  have l2 := b2_le (x / 256 / 256)
  have l3 := b2_le (x / 256 / 256 / 256)
  have l4 := b2_le (x / 256 / 256 / 256 / 256)
  have l5 := b2_le (x / 256 / 256 / 256 / 256 / 256)
  have l6 := b2_le (x / 256 / 256 / 256 / 256 / 256 / 256)
  have l7 := b2_le (x / 256 / 256 / 256 / 256 / 256 / 256 / 256)
  generalize B2 (x % 256) = c0 at *
  generalize B2 (x / 256 % 256) = c1 at *
  generalize B2 (x / 256 / 256 % 256) = c2 at *
  generalize B2 (x / 256 / 256 / 256 % 256) = c3 at *
  generalize B2 (x / 256 / 256 / 256 / 256 % 256) = c4 at *
  generalize B2 (x / 256 / 256 / 256 / 256 / 256 % 256) = c5 at *
  generalize B2 (x / 256 / 256 / 256 / 256 / 256 / 256 % 256) = c6 at *
  generalize B2 (x / 256 / 256 / 256 / 256 / 256 / 256 / 256 % 256) = c7 at *
  have e1 : y + y / 256 = (c0 + c1) + 256 * ((c1 + c2) + 256 * ((c2 + c3) + 256 * ((c3 + c4) + 256 * ((c4 + c5) + 256 * ((c5 + c6) + 256 * ((c6 + c7) + 256 * c7)))))) := by omega
  have e2 : y + y / 256 + (y + y / 256) / 65536 = (c0 + c1 + c2 + c3) + 256 * ((c1 + c2 + c3 + c4) + 256 * ((c2 + c3 + c4 + c5) + 256 * ((c3 + c4 + c5 + c6) + 256 * ((c4 + c5 + c6 + c7) + 256 * ((c5 + c6 + c7) + 256 * ((c6 + c7) + 256 * c7)))))) := by rw [e1]; omega
  have e3 : (y + y / 256 + (y + y / 256) / 65536) / 4294967296 = (c4 + c5 + c6 + c7) + 256 * ((c5 + c6 + c7) + 256 * ((c6 + c7) + 256 * c7)) := by rw [e2]; omega
  rw [e3, e2, e1]
  clear e1 e2 e3
  refine ⟨by omega, by omega, by omega, by omega, by omega⟩
theorem rep85 : rep 85 8 = 6148914691236517205 := by decide
theorem rep51 : rep 51 8 = 3689348814741910323 := by decide
theorem rep15 : rep 15 8 = 1085102592571150095 := by decide
theorem f0_lt (x : Nat) : f0 8 x ≤ 12297829382473034410 := by
  have h1 : x / 2 &&& rep 85 8 ≤ rep 85 8 := Nat.and_le_right
  have h2 : x &&& rep 85 8 ≤ rep 85 8 := Nat.and_le_right
  rw [rep85] at h1 h2
  unfold f0; rw [rep85]; omega
theorem f1_lt (x : Nat) : f1 8 x ≤ 7378697629483820646 := by
  have h1 : x / 4 &&& rep 51 8 ≤ rep 51 8 := Nat.and_le_right
  have h2 : x &&& rep 51 8 ≤ rep 51 8 := Nat.and_le_right
  rw [rep51] at h1 h2
  unfold f1; rw [rep51]; omega
end Go.Proofs.YtkglaoagiifejaaDoor
