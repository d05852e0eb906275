/- Words of this seat's walks: the tables, the bits of 32, what a world keeps. -/
import Derived.Test.YtmpgfmedldnhjaaGreatDoorRows
import Derived.Test.YtmpgfmedldnhjaaGreatDoorPlain
import Derived.Test.YtmpgfmedldnhjaaGreatDoorShelf
import Derived.Test.YtmpgfmedldnhjaaGreatDoorSeg
import Derived.Shelf.Spec.TrailingZeros
import Derived.Lib.AppendIntMem
import Derived.Lib.LaidTab
import Derived.WalkKit
import Derived.Outline
import Derived.Deep.CutRange
import Derived.Deep.DeepCutAuto
import Derived.Deep.RegionWith
import Derived.Deep.LoopGhost
import Derived.Deep.QuietTactic
import Derived.BigQuiet
import Derived.Deep.DeepMust
import Derived.Deep.DeepFit
import Derived.Deep.Light
import Derived.Deep.RegionHeld3
import Derived.IntWalk
import Derived.Lib.Hide
import Derived.Lib.BitFns
namespace Go.Proofs.YtmpgfmedldnhjaaGreatDoor
open Go.RowKit

theorem bc {W w1 : World} (hb : Below W.heap.size W w1) : (∀ b o, b < W.heap.size → w1.cell? ⟨b, o, none⟩ = W.cell? ⟨b, o, none⟩) ∧ (∀ b o, b < W.heap.size → w1.frozen? ⟨b, o, none⟩ = W.frozen? ⟨b, o, none⟩) :=
  ⟨fun b o h => hb.cell (p := ⟨b, o, none⟩) h, fun b o h => hb.frozen (p := ⟨b, o, none⟩) h⟩

theorem bdrewN {B : Nat} {a w : World} (h : Below B a w) (k : Nat) : Below B a (w.drewN k) := ⟨h.os, h.tape, h.output, h.size, h.block⟩
theorem same_of {P : Program} {f : FuncId} {args : Array Value} {w : World} {v : Value} (h : Calls P f args w fun e w' => e = .returned v ∧ w = w') : Calls P f args w fun e w' => e = .returned v ∧ w' = w := h.mono fun _ _ h => ⟨h.1, h.2.symm⟩
/-- Block B holds just these cells. -/
def At (W : World) (B : Nat) (cs : Array Value) (t : TypeId) : Prop := W.heap[B]? = some (.cells cs t (0, 0))
theorem At.lt {W : World} {B : Nat} {cs : Array Value} {t : TypeId} (h : At W B cs t) : B < W.heap.size := (Array.getElem?_eq_some_iff.1 h).1
theorem At.kept {W W' : World} {row : Option Nat} {B : Nat} {cs : Array Value} {t : TypeId} (h : At W B cs t) (hg : W.grownBy W' row) (hne : some B ≠ row) : At W' B cs t := (hg.block B h.lt hne).trans h
theorem At.cell {W : World} {B : Nat} {cs : Array Value} {t : TypeId} (h : At W B cs t) (j : Nat) : W.cell? ⟨B, j, none⟩ = cs[j]? := cell_of_row W B j cs t _ h
theorem At.frozen {W : World} {B : Nat} {cs : Array Value} {t : TypeId} (h : At W B cs t) (j : Nat) : W.frozen? ⟨B, j, none⟩ = false := by simp [World.frozen?, show W.heap[B]? = _ from h]
theorem At.new (W : World) (cs : Array Value) (t : TypeId) : At (W.alloc (.cells cs t)) W.heap.size cs t := heap_alloc_new W _
theorem At.new1 (W : World) (o : Obj) (cs : Array Value) (t : TypeId) : At ((W.alloc o).alloc (.cells cs t)) (W.heap.size + 1) cs t := by
  have := At.new (W.alloc o) cs t
  rwa [World.size_alloc] at this
theorem At.new2 (W : World) (o o' : Obj) (cs : Array Value) (t : TypeId) : At (((W.alloc o).alloc o').alloc (.cells cs t)) (W.heap.size + 1 + 1) cs t := by
  have := At.new1 (W.alloc o) o' cs t
  rwa [World.size_alloc] at this
theorem At.alloc {W : World} {B : Nat} {cs : Array Value} {t : TypeId} (h : At W B cs t) (o : Obj) : At (W.alloc o) B cs t := h.kept (World.grownBy_alloc W o none) (by simp)
theorem At.drew {W : World} {B : Nat} {cs : Array Value} {t : TypeId} (h : At W B cs t) : At W.drew B cs t := h
theorem At.drewN {W : World} {B : Nat} {cs : Array Value} {t : TypeId} (h : At W B cs t) (k : Nat) : At (W.drewN k) B cs t := h
theorem At.below {W W' : World} {B n : Nat} {cs : Array Value} {t : TypeId} (h : At W B cs t) (hb : Below n W W') (hn : B < n) : At W' B cs t := (hb.block B hn).trans h
theorem At.belows {W W' : World} {B : Nat} {cs : Array Value} {t : TypeId} (h : At W B cs t) (hb : Below W.heap.size W W') : At W' B cs t := h.below hb h.lt
theorem At.set0 {W : World} {B : Nat} {cs : Array Value} {t : TypeId} (h : At W B cs t) (j : Nat) (v : Value) : At (W.setCell ⟨B, j, none⟩ v) B (cs.setIfInBounds j v) t := by
  show (W.heap.modify B _)[B]? = _
  rw [Array.getElem?_modify, show W.heap[B]? = _ from h, if_pos rfl]
  rfl
theorem At.other {W : World} {B : Nat} {cs : Array Value} {t : TypeId} (h : At W B cs t) {B' : Nat} (hne : B ≠ B') (j : Nat) (v : Value) : At (W.setCell ⟨B', j, none⟩ v) B cs t := (Below.heap_setCell W _ v B hne).trans h
theorem bits_or_u32_nat (a b : Nat) (ha : a < 4294967296) (hb : b < 4294967296) : bits .or .u32 (a : Int) (b : Int) = ((a ||| b : Nat) : Int) := by
  have hx : a ||| b < 2 ^ 32 := Nat.or_lt_two_pow (by omega) (by omega)
  have h1 : (BitVec.ofInt 32 (a : Int)).toNat = a := by
    rw [BitVec.ofInt_natCast, BitVec.toNat_ofNat]; exact Nat.mod_eq_of_lt (by omega)
  have h2 : (BitVec.ofInt 32 (b : Int)).toNat = b := by
    rw [BitVec.ofInt_natCast, BitVec.toNat_ofNat]; exact Nat.mod_eq_of_lt (by omega)
  show IntKind.u32.wrap ((BitVec.ofInt 32 (a : Int) ||| BitVec.ofInt 32 (b : Int)).toNat : Int) = _
  rw [BitVec.toNat_or, h1, h2, wrap_u32']
  omega
theorem bits_xor_u32_nat (a b : Nat) (ha : a < 4294967296) (hb : b < 4294967296) : bits .xor .u32 (a : Int) (b : Int) = ((a ^^^ b : Nat) : Int) := by
  have hx : a ^^^ b < 2 ^ 32 := Nat.xor_lt_two_pow (by omega) (by omega)
  have h1 : (BitVec.ofInt 32 (a : Int)).toNat = a := by
    rw [BitVec.ofInt_natCast, BitVec.toNat_ofNat]; exact Nat.mod_eq_of_lt (by omega)
  have h2 : (BitVec.ofInt 32 (b : Int)).toNat = b := by
    rw [BitVec.ofInt_natCast, BitVec.toNat_ofNat]; exact Nat.mod_eq_of_lt (by omega)
  show IntKind.u32.wrap ((BitVec.ofInt 32 (a : Int) ^^^ BitVec.ofInt 32 (b : Int)).toNat : Int) = _
  rw [BitVec.toNat_xor, h1, h2, wrap_u32']
  omega

theorem ret_int {k : IntKind} {a b : Int} (h : a = b) : Ending.returned (.int k a) = .returned (.int k b) := by rw [h]
theorem ret_bool {a b : Bool} (h : a = b) : Ending.returned (.bool a) = .returned (.bool b) := by rw [h]

theorem mask_int (n : Nat) (h : n ≤ 32) : (4294967295 : Int) / 2 ^ n = ((sz n - 1 : Nat) : Int) := by
  rw [← mask_is n h, Int.natCast_ediv, Int.natCast_pow]; rfl
theorem sz_int (n : Nat) : (2 : Int) ^ (32 - n) = ((sz n : Nat) : Int) := by unfold sz; rw [Int.natCast_pow]; rfl
/-- prefix.behind: all bits but the first n. -/
theorem behind_any (n : Nat) (w : World) (hn : n ≤ 32) : Calls Tryz.prog 101 #[.int .i64 n] w fun e w' => e = .returned (.int .u32 (sz n - 1 : Nat)) ∧ w = w' := by
  go_enter Tryz.func101, Tryz.ntmps101
  go_wp2
  go_ret
  exact ⟨ret_int (mask_int n hn), rfl⟩
theorem size_any (n : Nat) (w : World) (hn : n ≤ 32) : Calls Tryz.prog 69 #[.int .i64 n] w fun e w' => e = .returned (.int .i64 (sz n : Nat)) ∧ w = w' := by
  have h := sz_le n
  go_enter Tryz.func69, Tryz.ntmps69
  go_wp2
  go_ret
  refine ⟨ret_int ?_, rfl⟩
  rw [sz_int]
  unfold wrap64; omega
/-- prefix.rightRange. -/
theorem rightRange_any (f t : Nat) (w : World) : Calls Tryz.prog 43 #[.agg #[.int .u32 f, .int .u32 t]] w fun e w' => e = .returned (.bool (decide (f ≤ t))) ∧ Below w.heap.size w w' := by
  go_enter Tryz.func43, Tryz.ntmps43
  go_wp2
  go_ret
  exact ⟨rfl, (Below.refl _ _).alloc (Nat.le_refl _) _⟩
end Go.Proofs.YtmpgfmedldnhjaaGreatDoor
