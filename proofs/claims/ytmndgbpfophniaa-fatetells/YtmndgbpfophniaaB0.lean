/- Words of this seat's walks: what a world keeps. -/
import Derived.Test.YtmndgbpfophniaaRows
import Derived.Test.YtmndgbpfophniaaSeg
import Derived.Test.YtmndgbpfophniaaTail
import Derived.WalkKit
import Derived.Outline
import Derived.Deep.CutRange
import Derived.Deep.DeepCutAuto
import Derived.Deep.RegionWith
import Derived.Deep.LoopGhost
import Derived.Deep.QuietTactic
import Derived.BigQuiet
import Derived.Deep.DeepMust
import Derived.Deep.DeepFit
import Derived.Deep.Light
import Derived.Deep.RegionHeld3
import Derived.IntWalk
import Derived.Lib.Hide
import Derived.Deep.AppendSrc
import Derived.Shelf.RegionOpen
import Derived.Shelf.SlicesQ.Load
import Derived.RangeFuncBox
import Derived.OwnWalk
import Derived.Laws.AppendOwn
import Derived.Maps.AppendAt
import Derived.StillTailTactics
namespace Go.Proofs.Ytmndgbpfophniaa
open Go.RowKit

theorem bc {W w1 : World} (hb : Below W.heap.size W w1) : (∀ b o, b < W.heap.size → w1.cell? ⟨b, o, none⟩ = W.cell? ⟨b, o, none⟩) ∧ (∀ b o, b < W.heap.size → w1.frozen? ⟨b, o, none⟩ = W.frozen? ⟨b, o, none⟩) :=
  ⟨fun b o h => hb.cell (p := ⟨b, o, none⟩) h, fun b o h => hb.frozen (p := ⟨b, o, none⟩) h⟩

theorem bdrewN {B : Nat} {a w : World} (h : Below B a w) (k : Nat) : Below B a (w.drewN k) := ⟨h.os, h.tape, h.output, h.size, h.block⟩
theorem same_of {P : Program} {f : FuncId} {args : Array Value} {w : World} {v : Value} (h : Calls P f args w fun e w' => e = .returned v ∧ w = w') : Calls P f args w fun e w' => e = .returned v ∧ w' = w := h.mono fun _ _ h => ⟨h.1, h.2.symm⟩
/-- Block B holds just these cells. -/
def At (W : World) (B : Nat) (cs : Array Value) (t : TypeId) : Prop := W.heap[B]? = some (.cells cs t (0, 0))
theorem At.lt {W : World} {B : Nat} {cs : Array Value} {t : TypeId} (h : At W B cs t) : B < W.heap.size := (Array.getElem?_eq_some_iff.1 h).1
theorem At.kept {W W' : World} {row : Option Nat} {B : Nat} {cs : Array Value} {t : TypeId} (h : At W B cs t) (hg : W.grownBy W' row) (hne : some B ≠ row) : At W' B cs t := (hg.block B h.lt hne).trans h
theorem At.cell {W : World} {B : Nat} {cs : Array Value} {t : TypeId} (h : At W B cs t) (j : Nat) : W.cell? ⟨B, j, none⟩ = cs[j]? := cell_of_row W B j cs t _ h
theorem At.frozen {W : World} {B : Nat} {cs : Array Value} {t : TypeId} (h : At W B cs t) (j : Nat) : W.frozen? ⟨B, j, none⟩ = false := by simp [World.frozen?, show W.heap[B]? = _ from h]
theorem At.new (W : World) (cs : Array Value) (t : TypeId) : At (W.alloc (.cells cs t)) W.heap.size cs t := heap_alloc_new W _
theorem At.new1 (W : World) (o : Obj) (cs : Array Value) (t : TypeId) : At ((W.alloc o).alloc (.cells cs t)) (W.heap.size + 1) cs t := by
  have := At.new (W.alloc o) cs t
  rwa [World.size_alloc] at this
theorem At.new2 (W : World) (o o' : Obj) (cs : Array Value) (t : TypeId) : At (((W.alloc o).alloc o').alloc (.cells cs t)) (W.heap.size + 1 + 1) cs t := by
  have := At.new1 (W.alloc o) o' cs t
  rwa [World.size_alloc] at this
theorem At.alloc {W : World} {B : Nat} {cs : Array Value} {t : TypeId} (h : At W B cs t) (o : Obj) : At (W.alloc o) B cs t := h.kept (World.grownBy_alloc W o none) (by simp)
theorem At.drew {W : World} {B : Nat} {cs : Array Value} {t : TypeId} (h : At W B cs t) : At W.drew B cs t := h
theorem At.drewN {W : World} {B : Nat} {cs : Array Value} {t : TypeId} (h : At W B cs t) (k : Nat) : At (W.drewN k) B cs t := h
theorem At.below {W W' : World} {B n : Nat} {cs : Array Value} {t : TypeId} (h : At W B cs t) (hb : Below n W W') (hn : B < n) : At W' B cs t := (hb.block B hn).trans h
theorem At.belows {W W' : World} {B : Nat} {cs : Array Value} {t : TypeId} (h : At W B cs t) (hb : Below W.heap.size W W') : At W' B cs t := h.below hb h.lt
theorem At.set0 {W : World} {B : Nat} {cs : Array Value} {t : TypeId} (h : At W B cs t) (j : Nat) (v : Value) : At (W.setCell ⟨B, j, none⟩ v) B (cs.setIfInBounds j v) t := by
  show (W.heap.modify B _)[B]? = _
  rw [Array.getElem?_modify, show W.heap[B]? = _ from h, if_pos rfl]
  rfl
theorem At.other {W : World} {B : Nat} {cs : Array Value} {t : TypeId} (h : At W B cs t) {B' : Nat} (hne : B ≠ B') (j : Nat) (v : Value) : At (W.setCell ⟨B', j, none⟩ v) B cs t := (Below.heap_setCell W _ v B hne).trans h
theorem ret_int {k : IntKind} {a b : Int} (h : a = b) : Ending.returned (.int k a) = .returned (.int k b) := by rw [h]
theorem ret_bool {a b : Bool} (h : a = b) : Ending.returned (.bool a) = .returned (.bool b) := by rw [h]

theorem add_none (g j : Nat) : (⟨g, 0, none⟩ : Addr).add j = ⟨g, j, none⟩ := by unfold Addr.add; split <;> simp_all
theorem addr_off (g o j : Nat) : (⟨g, o, none⟩ : Addr).add j = ⟨g, o + j, none⟩ := by unfold Addr.add; split <;> simp_all
def isI (x : Int) : Prop := -9223372036854775808 ≤ x ∧ x ≤ 9223372036854775807
theorem grownBy_set (W : World) (b j : Nat) (v : Value) : W.grownBy (W.setCell ⟨b, j, none⟩ v) (some b) :=
  ⟨rfl, rfl, rfl, by simp, fun k _ hk => Below.heap_setCell W ⟨b, j, none⟩ v k fun e => hk (by rw [e])⟩
/-- A row that is not empty has a block. -/
theorem row_some {w : World} {base : Nat} {e : TypeId} {n : Nat} {v : Value} {k : Nat} {xs : List Value} (h : w.ownsRow base e n v k xs) (hk : 0 < k) : ∃ g cap, v = .slice (some ⟨g, 0, none⟩) k cap ∧ base ≤ g ∧ g < w.heap.size := by
  rcases h.2 with ⟨rfl, h0⟩ | ⟨g, cap, cur, rfl, hb, hg, hnc, hm, _⟩
  · omega
  · exact ⟨g, cap, rfl, hb, (Array.getElem?_eq_some_iff.1 hg).1⟩
/-- A row is kept by what is written below its base. -/
theorem row_far {w w' : World} {base b : Nat} {e : TypeId} {n : Nat} {v : Value} {k : Nat} {xs : List Value} (h : w.ownsRow base e n v k xs) (hg : w.grownBy w' (some b)) (hb : b < base) : w'.ownsRow base e n v k xs := by
  refine h.kept hg ?_
  cases hv : v.ownBlock with
  | none => exact .inl rfl
  | some c => exact .inr fun e => by have := (h.lt c hv).1; cases e; omega
/-- How long a slice in a cell is. -/
def lenAt (w : World) (b : Nat) : Nat := match w.cell? ⟨b, 0, none⟩ with
  | some (.slice _ n _) => n
  | _ => 0
theorem lenAt_of {w : World} {b : Nat} {A : Option Addr} {n c : Nat} (h : w.cell? ⟨b, 0, none⟩ = some (.slice A n c)) : lenAt w b = n := by unfold lenAt; rw [h]
end Go.Proofs.Ytmndgbpfophniaa
