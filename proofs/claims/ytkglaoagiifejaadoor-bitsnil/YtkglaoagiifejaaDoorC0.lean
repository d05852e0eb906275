/- Words of this seat's walks: blocks, bits of 64; the library's TrailingZeros64 and OnesCount64; wordsOf, below. -/
import Derived.Test.YtkglaoagiifejaaDoorRows
import Derived.Test.YtkglaoagiifejaaDoorPop
import Derived.Shelf.Spec.TrailingZeros
import Derived.Lib.LaidTab
import Derived.WalkKit
import Derived.Outline
import Derived.Deep.CutRange
import Derived.Deep.DeepCutAuto
import Derived.Deep.RegionWith
import Derived.Deep.LoopGhost
import Derived.Deep.QuietTactic
import Derived.BigQuiet
import Derived.Deep.DeepMust
import Derived.Deep.DeepFit
import Derived.Deep.Light
import Derived.Deep.RegionHeld3
import Derived.Deep.OwnRows
import Derived.IntWalk
import Derived.Lib.Hide
import Derived.Shelf.Abstract
namespace Go.Proofs.YtkglaoagiifejaaDoor
open Go.RowKit

theorem bc {W w1 : World} (hb : Below W.heap.size W w1) : (∀ b o, b < W.heap.size → w1.cell? ⟨b, o, none⟩ = W.cell? ⟨b, o, none⟩) ∧ (∀ b o, b < W.heap.size → w1.frozen? ⟨b, o, none⟩ = W.frozen? ⟨b, o, none⟩) :=
  ⟨fun b o h => hb.cell (p := ⟨b, o, none⟩) h, fun b o h => hb.frozen (p := ⟨b, o, none⟩) h⟩

theorem bdrewN {B : Nat} {a w : World} (h : Below B a w) (k : Nat) : Below B a (w.drewN k) := ⟨h.os, h.tape, h.output, h.size, h.block⟩
theorem same_of {P : Program} {f : FuncId} {args : Array Value} {w : World} {v : Value} (h : Calls P f args w fun e w' => e = .returned v ∧ w = w') : Calls P f args w fun e w' => e = .returned v ∧ w' = w := h.mono fun _ _ h => ⟨h.1, h.2.symm⟩
/-- Block B holds just these cells. -/
def At (W : World) (B : Nat) (cs : Array Value) (t : TypeId) : Prop := W.heap[B]? = some (.cells cs t (0, 0))
theorem At.lt {W : World} {B : Nat} {cs : Array Value} {t : TypeId} (h : At W B cs t) : B < W.heap.size := (Array.getElem?_eq_some_iff.1 h).1
theorem At.kept {W W' : World} {row : Option Nat} {B : Nat} {cs : Array Value} {t : TypeId} (h : At W B cs t) (hg : W.grownBy W' row) (hne : some B ≠ row) : At W' B cs t := (hg.block B h.lt hne).trans h
theorem At.cell {W : World} {B : Nat} {cs : Array Value} {t : TypeId} (h : At W B cs t) (j : Nat) : W.cell? ⟨B, j, none⟩ = cs[j]? := cell_of_row W B j cs t _ h
theorem At.frozen {W : World} {B : Nat} {cs : Array Value} {t : TypeId} (h : At W B cs t) (j : Nat) : W.frozen? ⟨B, j, none⟩ = false := by simp [World.frozen?, show W.heap[B]? = _ from h]
theorem At.new (W : World) (cs : Array Value) (t : TypeId) : At (W.alloc (.cells cs t)) W.heap.size cs t := heap_alloc_new W _
theorem At.new1 (W : World) (o : Obj) (cs : Array Value) (t : TypeId) : At ((W.alloc o).alloc (.cells cs t)) (W.heap.size + 1) cs t := by
  have := At.new (W.alloc o) cs t
  rwa [World.size_alloc] at this
theorem At.new2 (W : World) (o o' : Obj) (cs : Array Value) (t : TypeId) : At (((W.alloc o).alloc o').alloc (.cells cs t)) (W.heap.size + 1 + 1) cs t := by
  have := At.new1 (W.alloc o) o' cs t
  rwa [World.size_alloc] at this
theorem At.alloc {W : World} {B : Nat} {cs : Array Value} {t : TypeId} (h : At W B cs t) (o : Obj) : At (W.alloc o) B cs t := h.kept (World.grownBy_alloc W o none) (by simp)
theorem At.drew {W : World} {B : Nat} {cs : Array Value} {t : TypeId} (h : At W B cs t) : At W.drew B cs t := h
theorem At.drewN {W : World} {B : Nat} {cs : Array Value} {t : TypeId} (h : At W B cs t) (k : Nat) : At (W.drewN k) B cs t := h
theorem At.below {W W' : World} {B n : Nat} {cs : Array Value} {t : TypeId} (h : At W B cs t) (hb : Below n W W') (hn : B < n) : At W' B cs t := (hb.block B hn).trans h
theorem At.belows {W W' : World} {B : Nat} {cs : Array Value} {t : TypeId} (h : At W B cs t) (hb : Below W.heap.size W W') : At W' B cs t := h.below hb h.lt
theorem At.set0 {W : World} {B : Nat} {cs : Array Value} {t : TypeId} (h : At W B cs t) (j : Nat) (v : Value) : At (W.setCell ⟨B, j, none⟩ v) B (cs.setIfInBounds j v) t := by
  show (W.heap.modify B _)[B]? = _
  rw [Array.getElem?_modify, show W.heap[B]? = _ from h, if_pos rfl]
  rfl
theorem At.other {W : World} {B : Nat} {cs : Array Value} {t : TypeId} (h : At W B cs t) {B' : Nat} (hne : B ≠ B') (j : Nat) (v : Value) : At (W.setCell ⟨B', j, none⟩ v) B cs t := (Below.heap_setCell W _ v B hne).trans h

theorem ret_int {k : IntKind} {a b : Int} (h : a = b) : Ending.returned (.int k a) = .returned (.int k b) := by rw [h]
theorem ret_bool {a b : Bool} (h : a = b) : Ending.returned (.bool a) = .returned (.bool b) := by rw [h]

theorem bits_andNot_u64_nat (a b : Nat) (ha : a < 18446744073709551616) (hb : b < 18446744073709551616) : bits .andNot .u64 (a : Int) (b : Int) = ((a &&& (18446744073709551615 - b) : Nat) : Int) := by
  have hx : a &&& (18446744073709551615 - b) < 18446744073709551616 := Nat.lt_of_le_of_lt Nat.and_le_left ha
  have h1 : (BitVec.ofInt 64 (a : Int)).toNat = a := by
    rw [BitVec.ofInt_natCast, BitVec.toNat_ofNat]; exact Nat.mod_eq_of_lt (by omega)
  have h2 : (BitVec.ofInt 64 (b : Int)).toNat = b := by
    rw [BitVec.ofInt_natCast, BitVec.toNat_ofNat]; exact Nat.mod_eq_of_lt (by omega)
  show IntKind.u64.wrap ((BitVec.ofInt 64 (a : Int) &&& ~~~BitVec.ofInt 64 (b : Int)).toNat : Int) = _
  rw [BitVec.toNat_and, BitVec.toNat_not, h1, h2, IntKind.wrap_u64]
  have e : (2 ^ 64 - 1 - b : Nat) = 18446744073709551615 - b := by omega
  rw [e]; omega
theorem bits_andNot_wd (p q : Nat → Bool) (w : Nat) : bits .andNot .u64 (wd p w : Nat) (wd q w : Nat) = ((wd (fun i => p i && !q i) w : Nat) : Int) := by
  rw [bits_andNot_u64_nat _ _ (wd_lt _ _) (wd_lt _ _), wd_andNot]
theorem bits_and_wd (p q : Nat → Bool) (w : Nat) : bits .and .u64 (wd p w : Nat) (wd q w : Nat) = ((wd (fun i => p i && q i) w : Nat) : Int) := by
  rw [bits_and_u64_nat _ _ (wd_lt _ _) (wd_lt _ _), wd_and]
theorem bits_or_wd (p q : Nat → Bool) (w : Nat) : bits .or .u64 (wd p w : Nat) (wd q w : Nat) = ((wd (fun i => p i || q i) w : Nat) : Int) := by
  rw [bits_or_u64_nat _ _ (wd_lt _ _) (wd_lt _ _), wd_or]

/-- The library's table. -/
def Tb (w : World) : Prop := TabAt 0 Lib.deBruijn64tab w ∧ 0 < w.heap.size
theorem Tb.below {w w' : World} {n : Nat} (h : Tb w) (hn : 0 < n) (hb : Below n w w') : Tb w' :=
  ⟨fun j hj => (hb.cell (p := ⟨0, j, none⟩) hn).trans (h.1 j hj), Nat.lt_of_lt_of_le h.2 hb.size⟩
theorem Tb.belows {w w' : World} (h : Tb w) (hb : Below w.heap.size w w') : Tb w' := h.below h.2 hb
set_option maxHeartbeats 1000000 in
theorem tz64_core (x k idx : Nat) (w : World) (hx0 : ((x : Int) == 0) = false)
    (key : IntKind.u64.wrap (bits BinOp.and IntKind.u64 (x : Int) (IntKind.u64.wrap (-(x : Int))) * 285870213051353865) / 288230376151711744 = (idx : Int))
    (hi : idx < 64) (hk : k < 64) (hcell : w.cell? ⟨0, idx, none⟩ = some (.int .u8 k)) :
    Calls Tryd.prog 32 #[.int .u64 x] w fun e w' => e = .returned (.int .i64 k) ∧ w = w' := by
  go_enter Tryd.func32, Tryd.ntmps32
  go_wp2_with (simp only [key])
  go_ret
  exact ⟨rfl, rfl⟩
/-- bits.TrailingZeros64, of a number that is not 0. -/
theorem tz64_any (x : Nat) (hx : x < 18446744073709551616) (hx0 : x ≠ 0) (w : World) (hT : Tb w) :
    Calls Tryd.prog 32 #[.int .u64 x] w fun e w' => e = .returned (.int .i64 (Lib.ctz 64 x)) ∧ w = w' := by
  obtain ⟨hlow, hk⟩ := Lib.lowest_bit 64 x hx0 hx
  obtain ⟨hi, htab⟩ := Lib.deBruijn64_at _ hk
  have hcell := hT.1 _ hi
  rw [htab] at hcell
  exact tz64_core x _ _ w (by simp; omega) (tz64_key x _ hx hx0 hlow) hi hk hcell
theorem wordsOf_any (n : Nat) (w : World) (hn : n ≤ 1024) : Calls Tryd.prog 31 #[.int .i64 n] w fun e w' => e = .returned (.int .i64 (nw n : Nat)) ∧ w = w' := by
  go_enter Tryd.func31, Tryd.ntmps31
  go_wp2
  go_ret
  exact ⟨ret_int (by unfold nw; omega), rfl⟩
/-- bits.below. -/
theorem below_any (i : Int) (k : Nat) (w : World) (hi : -9223372036854775808 ≤ i) (hi2 : i ≤ 9223372036854775807) (hk : k ≤ 16) : Calls Tryd.prog 29 #[.int .i64 i, .int .i64 k] w fun e w' => e = .returned (.int .u64 (wd (blw i) k : Nat)) ∧ w = w' := by
  by_cases h1 : i ≤ (k : Int) * 64
  · have e := blw_zero (i := i) (w := k) (by omega)
    rw [e]
    go_enter Tryd.func29, Tryd.ntmps29
    go_wp2
    go_ret
    exact ⟨rfl, rfl⟩
  · by_cases h2 : 64 ≤ i - (k : Int) * 64
    · have e := blw_all (i := i) (w := k) (by omega)
      rw [e]
      go_enter Tryd.func29, Tryd.ntmps29
      go_wp2
      go_ret
      exact ⟨rfl, rfl⟩
    · obtain ⟨d, hd⟩ : ∃ d : Nat, i - (k : Int) * 64 = d := ⟨(i - (k : Int) * 64).toNat, by omega⟩
      have hd2 : d < 64 := by omega
      have e := blw_some (w := k) hd2
      rw [show 64 * (k : Int) + (d : Int) = i by omega] at e
      rw [e]
      have hp : 1 ≤ 2 ^ d ∧ 2 ^ d ≤ 9223372036854775808 := ⟨Nat.two_pow_pos d, Nat.pow_le_pow_right (n := 2) (by decide) (show d ≤ 63 by omega)⟩
      go_enter Tryd.func29, Tryd.ntmps29
      go_wp2
      go_ret
      refine ⟨ret_int ?_, rfl⟩
      have ep : ((2 : Int) ^ d) = ((2 ^ d : Nat) : Int) := by rw [Int.natCast_pow]; rfl
      rw [IntKind.wrap_u64, IntKind.wrap_u64, ep]
      generalize 2 ^ d = y at hp
      omega
theorem bits_and_u64_lit (a b : Nat) (ha : a < 18446744073709551616) (hb : b < 18446744073709551616) (A B : Int) (hA : A = (a : Int)) (hB : B = (b : Int)) : bits .and .u64 A B = ((a &&& b : Nat) : Int) := by rw [hA, hB, bits_and_u64_nat a b ha hb]
theorem bits_and_i64_127 (a : Nat) (ha : a < 9223372036854775808) : bits .and .i64 (a : Int) 127 = ((a % 128 : Nat) : Int) := by
  have h1 : (BitVec.ofInt 64 (a : Int)).toNat = a := by
    rw [BitVec.ofInt_natCast, BitVec.toNat_ofNat]; exact Nat.mod_eq_of_lt (by omega)
  show IntKind.i64.wrap ((BitVec.ofInt 64 (a : Int) &&& BitVec.ofInt 64 127).toNat : Int) = _
  rw [BitVec.toNat_and, h1, show (BitVec.ofInt 64 127).toNat = 2 ^ 7 - 1 by decide, Nat.and_two_pow_sub_one_eq_mod]
  exact IntWalk.i64_in _ (by omega)
set_option maxHeartbeats 1000000 in
/-- bits.OnesCount64. -/
theorem ones_any (x : Nat) (w : World) (hx : x < 18446744073709551616) : Calls Tryd.prog 38 #[.int .u64 x] w fun e w' => e = .returned (.int .i64 (ones x : Nat)) ∧ w = w' := by
  have a1 : bits .and .u64 ((x : Int) / 2) 6148914691236517205 = ((x / 2 &&& rep 85 8 : Nat) : Int) := bits_and_u64_lit _ _ (by omega) (by rw [rep85]; decide) _ _ (by omega) (by rw [rep85]; rfl)
  have a2 : bits .and .u64 (x : Int) 6148914691236517205 = ((x &&& rep 85 8 : Nat) : Int) := bits_and_u64_lit _ _ (by omega) (by rw [rep85]; decide) _ _ (by omega) (by rw [rep85]; rfl)
  have l0 := f0_lt x
  have d0 : ((x / 2 &&& rep 85 8 : Nat) : Int) + ((x &&& rep 85 8 : Nat) : Int) = (f0 8 x : Nat) := by unfold f0; omega
  have hy := pop_end x _ rfl
  have l1 := f1_lt (f0 8 x)
  generalize hy0 : f0 8 x = y0 at *
  have a3 : bits .and .u64 ((y0 : Int) / 4) 3689348814741910323 = ((y0 / 4 &&& rep 51 8 : Nat) : Int) := bits_and_u64_lit _ _ (by omega) (by rw [rep51]; decide) _ _ (by omega) (by rw [rep51]; rfl)
  have a4 : bits .and .u64 (y0 : Int) 3689348814741910323 = ((y0 &&& rep 51 8 : Nat) : Int) := bits_and_u64_lit _ _ (by omega) (by rw [rep51]; decide) _ _ (by omega) (by rw [rep51]; rfl)
  have d1 : ((y0 / 4 &&& rep 51 8 : Nat) : Int) + ((y0 &&& rep 51 8 : Nat) : Int) = (f1 8 y0 : Nat) := by unfold f1; omega
  generalize hy1 : f1 8 y0 = y1 at *
  have a5 : bits .and .u64 ((y1 : Int) / 16 + (y1 : Int)) 1085102592571150095 = ((f2 8 y1 : Nat) : Int) := bits_and_u64_lit _ _ (by omega) (by rw [rep15]; decide) _ _ (by omega) (by rw [rep15]; rfl)
  generalize hy2 : f2 8 y1 = y2 at *
  obtain ⟨k1, k2, k3, k4, k5⟩ := hy
  have a6 : bits .and .i64 ((y2 : Int) + (y2 : Int) / 256 + ((y2 : Int) + (y2 : Int) / 256) / 65536 + ((y2 : Int) + (y2 : Int) / 256 + ((y2 : Int) + (y2 : Int) / 256) / 65536) / 4294967296) 127 = ((ones x : Nat) : Int) := by
    rw [← k5, ← bits_and_i64_127 _ k4]
    congr 1
  have c1 : IntKind.u64.wrap (((x / 2 &&& rep 85 8 : Nat) : Int) + ((x &&& rep 85 8 : Nat) : Int)) = (y0 : Int) := by rw [d0, IntKind.wrap_u64]; omega
  have c2 : IntKind.u64.wrap (((y0 / 4 &&& rep 51 8 : Nat) : Int) + ((y0 &&& rep 51 8 : Nat) : Int)) = (y1 : Int) := by rw [d1, IntKind.wrap_u64]; omega
  generalize ones x = z at *
  clear hy0 hy1 hy2 k5 d0 d1
  go_enter Tryd.func38, Tryd.ntmps38
  go_wp2_with (simp only [a1, a2, a3, a4, a5, a6, c1, c2])
  go_ret
  exact ⟨rfl, rfl⟩
end Go.Proofs.YtkglaoagiifejaaDoor
