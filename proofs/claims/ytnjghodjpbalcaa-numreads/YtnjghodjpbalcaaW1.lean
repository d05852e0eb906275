/- Contracts of bits.Len64 and num.width. -/
import Derived.Test.YtnjghodjpbalcaaRows
import Derived.Test.YtnjghodjpbalcaaBase
import Derived.Test.YtnjghodjpbalcaaPlain
import Derived.Outline
import Derived.Deep.CutRange
import Derived.Deep.DeepCutAuto
import Derived.Deep.RegionWith
import Derived.Deep.LoopGhost
import Derived.Deep.QuietTactic
import Derived.BigQuiet
import Derived.Deep.DeepMust
import Derived.Deep.DeepFit
import Derived.Deep.Light
import Derived.Lib.Hide
import Derived.Lib.BitFns
namespace Go.Proofs.Ytnjghodjpbalcaa
open Go.RowKit

/-- What num.width asks of bits.Len64. -/
def LenOf (x : Int) (w : World) (e : Ending) (w' : World) : Prop := ∃ t : Int, e = .returned (.int .i64 t) ∧ 0 ≤ t ∧ t ≤ 64 ∧ (t + 7) / 8 = bw x.toNat ∧ w = w'

theorem bl_pos (y : Nat) (h : 0 < y) : 1 ≤ Lib.bitLen y := by
  unfold Lib.bitLen
  rw [show (64 : Nat) = 63 + 1 from rfl, Lib.bitLenAux, if_neg (by omega)]
  omega
theorem tab_at (y : Nat) (h : y < Lib.len8tab.size) : ((Lib.len8tab[y]).toNat : Int) = Lib.bitLen y := by
  have h2 : y < 256 := by rw [Lib.len8tab_size] at h; exact h
  have := Lib.len8_of (y : Int) (by omega) (by omega)
  unfold Lib.len8 at this
  simpa [h] using this
theorem len_at (x : Int) (y : Int) (k : Nat) (c : Int) (w : World) (h : y.toNat < Lib.len8tab.size) (h1 : 256 ^ k ≤ x.toNat) (h2 : x.toNat < 256 ^ (k + 1)) (hk : k ≤ 7) (hc : c = 8 * k) (hy0 : 0 < y) (hy1 : y < 256) :
    LenOf x w (.returned (.int .i64 (wrap64 (c + wrap64 (Lib.len8tab[y.toNat].toNat))))) w := by
  have l := Lib.bitLen_le8' y (by omega) (by omega)
  have p := bl_pos y.toNat (by omega)
  rw [tab_at y.toNat h]
  have e1 : wrap64 (Lib.bitLen y.toNat : Int) = (Lib.bitLen y.toNat : Int) := by unfold wrap64; omega
  have e2 : wrap64 (c + (Lib.bitLen y.toNat : Int)) = c + (Lib.bitLen y.toNat : Int) := by unfold wrap64; omega
  rw [e1, e2]
  refine ⟨_, rfl, by omega, by omega, ?_, rfl⟩
  rw [bw_is x.toNat k h1 h2]
  omega
theorem len_low (x : Int) (w : World) (h : x.toNat < Lib.len8tab.size) (h0 : 0 ≤ x) (h1 : x < 256) :
    LenOf x w (.returned (.int .i64 (wrap64 (wrap64 (Lib.len8tab[x.toNat].toNat))))) w := by
  have l := Lib.bitLen_le8' x (by omega) (by omega)
  rw [tab_at x.toNat h]
  have e1 : wrap64 (Lib.bitLen x.toNat : Int) = (Lib.bitLen x.toNat : Int) := by unfold wrap64; omega
  rw [e1, e1]
  refine ⟨_, rfl, by omega, by omega, ?_, rfl⟩
  rcases Int.lt_or_eq_of_le h0 with hp | hp
  · have p := bl_pos x.toNat (by omega)
    rw [bw_is x.toNat 0 (by omega) (by omega)]
    omega
  · subst hp
    simp [bw_zero, Lib.bitLen, Lib.bitLenAux]
set_option maxHeartbeats 4000000 in
set_option maxRecDepth 100000 in
theorem len64_any (x : Int) (w : World) (h0 : 0 ≤ x) (h1 : x ≤ 18446744073709551615) : Calls Try.prog 22 #[.int .u64 x] w (LenOf x w) := by
  have hsz : ((Lib.len8tab.size : Nat) : Int) = 256 := by rw [Lib.len8tab_size]; rfl
  go_enter Try.func22, Try.ntmps22
  go_wp2
  all_goals go_ret
  · exact len_at x _ 7 56 w _ (by omega) (by omega) (by omega) rfl (by omega) (by omega)
  · exact len_at x _ 6 48 w _ (by omega) (by omega) (by omega) rfl (by omega) (by omega)
  · exact len_at x _ 5 40 w _ (by omega) (by omega) (by omega) rfl (by omega) (by omega)
  · exact len_at x _ 4 32 w _ (by omega) (by omega) (by omega) rfl (by omega) (by omega)
  · exact len_at x _ 3 24 w _ (by omega) (by omega) (by omega) rfl (by omega) (by omega)
  · exact len_at x _ 2 16 w _ (by omega) (by omega) (by omega) rfl (by omega) (by omega)
  · exact len_at x _ 1 8 w _ (by omega) (by omega) (by omega) rfl (by omega) (by omega)
  · exact len_low x w _ (by omega) (by omega)

/-- num.width. -/
theorem width_any (x : Int) (w : World) (h0 : 0 ≤ x) (h1 : x ≤ 18446744073709551615) : Calls Try.prog 20 #[.int .u64 x] w fun e w' => e = .returned (.int .i64 (bw x.toNat)) ∧ w = w' := by
  go_enter Try.func20, Try.ntmps20
  go_wp2_with (go_at_call 22; refine (len64_any _ _ h0 h1).mono ?_; rintro e w' ⟨t, rfl, ht0, ht1, ht2, rfl⟩; have HT := Lib.hid ht2; clear ht2)
  go_ret
  exact ⟨by rw [← HT.out]; rfl, rfl⟩
end Go.Proofs.Ytnjghodjpbalcaa
