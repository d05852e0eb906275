/- Contracts: bits.TrailingZeros32, prefix.widest. -/
import Derived.Test.YtojdnfhklmfjmaaDoorC0
import Derived.Lib.ItoaNum
namespace Go.Proofs.YtojdnfhklmfjmaaDoor
open Go.RowKit

theorem pl_min {f t : Nat} (h : f ≤ t) (ht : t < 4294967296) : pl f t = 32 - min (Lib.ctz 32 f) (Lib.bitLen (t - f + 1) - 1) ∧ min (Lib.ctz 32 f) (Lib.bitLen (t - f + 1) - 1) ≤ 32 := by
  obtain ⟨b1, b2, b3⟩ := Lib.bitLenAux_bounds 64 (t - f + 1) (by omega) (by omega)
  change 1 ≤ Lib.bitLen (t - f + 1) at b1
  change 2 ^ (Lib.bitLen (t - f + 1) - 1) ≤ t - f + 1 at b2
  change t - f + 1 < 2 ^ Lib.bitLen (t - f + 1) at b3
  generalize Lib.bitLen (t - f + 1) = bl at *
  have c1 : Lib.ctz 32 f ≤ 32 := by
    unfold Lib.ctz; split
    · omega
    · obtain ⟨m, _, hk⟩ := Lib.ctzFrom_spec 32 f (by omega) (by omega); omega
  have c2 : 2 ^ Lib.ctz 32 f ∣ f := by
    unfold Lib.ctz; split
    · rename_i h0; rw [h0]; exact Nat.dvd_zero _
    · obtain ⟨m, hm, hk⟩ := Lib.ctzFrom_spec 32 f (by omega) (by omega)
      exact ⟨2 * m + 1, hm⟩
  have c3 : ∀ o, Lib.ctz 32 f < o → o ≤ 32 → f % 2 ^ o ≠ 0 := by
    intro o ho ho2 hd
    unfold Lib.ctz at ho; split at ho
    · omega
    · obtain ⟨m, hm, hk⟩ := Lib.ctzFrom_spec 32 f (by omega) (by omega)
      generalize Lib.ctzFrom 32 f = c at *
      have h1 : 2 ^ (c + 1) ∣ f := Nat.dvd_trans (Nat.pow_dvd_pow 2 (by omega)) (Nat.dvd_of_mod_eq_zero hd)
      obtain ⟨q, hq⟩ := h1
      rw [Nat.pow_succ, Nat.mul_assoc] at hq
      have : 2 * m + 1 = 2 * q := Nat.eq_of_mul_eq_mul_left (Nat.two_pow_pos c) (hm.symm.trans hq)
      omega
  refine ⟨pl_pow h (by omega) ?_ ?_ ?_, by omega⟩
  · exact Nat.mod_eq_zero_of_dvd (Nat.dvd_trans (Nat.pow_dvd_pow 2 (by omega)) c2)
  · have : 2 ^ min (Lib.ctz 32 f) (bl - 1) ≤ 2 ^ (bl - 1) := Nat.pow_le_pow_right (by decide) (by omega)
    omega
  · intro o' h1 h2 h3
    have h4 : ¬ Lib.ctz 32 f < o' := fun hl => c3 o' hl h2 h3
    have : 2 ^ bl ≤ 2 ^ o' := Nat.pow_le_pow_right (by decide) (by omega)
    omega

set_option maxHeartbeats 1000000 in
theorem tz32_core (x k idx : Nat) (w : World) (hx0 : ((x : Int) == 0) = false)
    (key : bits BinOp.and IntKind.u32 (x : Int) (-(x : Int) % 4294967296) * 125613361 % 4294967296 / 134217728 = (idx : Int))
    (hi : idx < 32) (hk : k < 32) (hcell : w.cell? ⟨0, idx, none⟩ = some (.int .u8 k)) :
    Calls Tryd.prog 49 #[.int .u32 x] w fun e w' => e = .returned (.int .i64 k) ∧ w' = w := by
  go_enter Tryd.func49, Tryd.ntmps49
  go_wp2_with (simp only [key])
  go_ret
  exact ⟨rfl, rfl⟩
theorem tz32_zero (w : World) : Calls Tryd.prog 49 #[.int .u32 0] w fun e w' => e = .returned (.int .i64 32) ∧ w' = w := by
  go_enter Tryd.func49, Tryd.ntmps49
  go_wp2
  go_ret
  exact ⟨rfl, rfl⟩
/-- bits.TrailingZeros32. -/
theorem tz32_any (x : Nat) (hx : x < 4294967296) (w : World) (hT : TabAt 0 Lib.deBruijn32tab w) :
    Calls Tryd.prog 49 #[.int .u32 x] w fun e w' => e = .returned (.int .i64 (Lib.ctz 32 x)) ∧ w = w' := by
  by_cases hx0 : x = 0
  · subst hx0
    exact (tz32_zero w).mono fun _ _ h => ⟨h.1, h.2.symm⟩
  · obtain ⟨hlow, hk⟩ := Lib.lowest_bit 32 x hx0 hx
    obtain ⟨hi, htab⟩ := Lib.deBruijn32_at _ hk
    have hcell := hT _ hi
    rw [htab] at hcell
    exact (tz32_core x _ _ w (by simp; omega) (tz32_key x _ hx hx0 hlow) hi hk hcell).mono fun _ _ h => ⟨h.1, h.2.symm⟩

theorem tab_alloc {w : World} {g : Nat} {tab : List Nat} (h : TabAt g tab w) (hn : 0 < tab.length) (o : Obj) : TabAt g tab (w.alloc o) := fun j hj => by
  have hb := World.block_lt_of_cell? w _ (h j hj)
  rw [World.cell?_alloc_lt w o _ hb]; exact h j hj
set_option maxHeartbeats 1000000 in
/-- prefix.widest. -/
theorem widest_any (f t : Nat) (w : World) (hf : f ≤ t) (ht : t < 4294967296) (hT : TabAt 0 Lib.deBruijn32tab w) :
    Calls Tryd.prog 45 #[.int .u32 f, .int .u32 t] w fun e w' => e = .returned (.agg #[.int .u32 f, .int .i64 (pl f t : Nat)]) ∧ Below w.heap.size w w' := by
  obtain ⟨hm, hm2⟩ := pl_min hf ht
  have hT2 : ∀ o, TabAt 0 Lib.deBruijn32tab (w.alloc o) := fun o => tab_alloc hT (by decide) o
  have HT := Lib.hid hT2
  have HM := Lib.hid hm
  clear hT hT2 hm
  obtain ⟨b1, _, _⟩ := Lib.bitLenAux_bounds 64 (t - f + 1) (by omega) (by omega)
  change 1 ≤ Lib.bitLen (t - f + 1) at b1
  have b2 : Lib.bitLen (t - f + 1) ≤ 64 := Lib.bitLen_le _ 64 (by omega) (by omega)
  have c1 : Lib.ctz 32 f ≤ 32 := by
    unfold Lib.ctz; split
    · omega
    · obtain ⟨m, _, hk⟩ := Lib.ctzFrom_spec 32 f (by omega) (by omega); omega
  have hcount : ((t : Int) - (f : Int) + 1) = ((t - f + 1 : Nat) : Int) := by omega
  go_enter Tryd.func45, Tryd.ntmps45
  go_wp2_with (first | (go_at_call 49; refine (tz32_any f (by omega) _ (HT.out _)).mono ?_; rintro e w1 ⟨rfl, rfl⟩) | (go_at_call 50; refine (len64 _ _ (by omega) (by omega)).mono ?_; rintro e w1 ⟨rfl, rfl⟩))
  have e : (32 - min (Lib.ctz 32 f : Int) ((Lib.bitLen (t - f + 1) : Int) - 1)) = ((pl f t : Nat) : Int) := by rw [HM.out]; omega
  refine bodyPost_ret (v := .agg #[.int .u32 f, .int .i64 (32 - min (Lib.ctz 32 f : Int) ((Lib.bitLen (t - f + 1) : Int) - 1))]) (by simp [results, Tryd.results45, go_sem]) rfl ⟨by rw [e], ?_⟩
  exact (Below.refl _ _).alloc (Nat.le_refl _) _
end Go.Proofs.YtojdnfhklmfjmaaDoor
