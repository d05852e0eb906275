/- Words of this seat's walks: a block that holds just these cells; a tree in memory; a slice that reads as pairs. -/
import Derived.Test.YtjljkpecpofbcaaRows
import Derived.Test.YtjljkpecpofbcaaPlain
import Derived.WalkKit
import Derived.Outline
import Derived.Deep.CutRange
import Derived.Deep.DeepCutAuto
import Derived.Deep.RegionWith
import Derived.Deep.LoopGhost
import Derived.Deep.QuietTactic
import Derived.BigQuiet
import Derived.Deep.DeepMust
import Derived.Deep.DeepFit
import Derived.Deep.Light
import Derived.Deep.RegionHeld3
import Derived.Deep.AppendLies
import Derived.IntWalk
import Derived.Lib.Hide
import Derived.Shelf.Abstract
namespace Go.Proofs.Ytjljkpecpofbcaa
open Go.RowKit

theorem bc {W w1 : World} (hb : Below W.heap.size W w1) : (∀ b o, b < W.heap.size → w1.cell? ⟨b, o, none⟩ = W.cell? ⟨b, o, none⟩) ∧ (∀ b o, b < W.heap.size → w1.frozen? ⟨b, o, none⟩ = W.frozen? ⟨b, o, none⟩) :=
  ⟨fun b o h => hb.cell (p := ⟨b, o, none⟩) h, fun b o h => hb.frozen (p := ⟨b, o, none⟩) h⟩

theorem bdrewN {B : Nat} {a w : World} (h : Below B a w) (k : Nat) : Below B a (w.drewN k) := ⟨h.os, h.tape, h.output, h.size, h.block⟩
theorem same_of {P : Program} {f : FuncId} {args : Array Value} {w : World} {v : Value} (h : Calls P f args w fun e w' => e = .returned v ∧ w = w') : Calls P f args w fun e w' => e = .returned v ∧ w' = w := h.mono fun _ _ h => ⟨h.1, h.2.symm⟩
/-- Block B holds just these cells. -/
def At (W : World) (B : Nat) (cs : Array Value) (t : TypeId) : Prop := W.heap[B]? = some (.cells cs t (0, 0))
theorem At.lt {W : World} {B : Nat} {cs : Array Value} {t : TypeId} (h : At W B cs t) : B < W.heap.size := (Array.getElem?_eq_some_iff.1 h).1
theorem At.kept {W W' : World} {row : Option Nat} {B : Nat} {cs : Array Value} {t : TypeId} (h : At W B cs t) (hg : W.grownBy W' row) (hne : some B ≠ row) : At W' B cs t := (hg.block B h.lt hne).trans h
theorem At.cell {W : World} {B : Nat} {cs : Array Value} {t : TypeId} (h : At W B cs t) (j : Nat) : W.cell? ⟨B, j, none⟩ = cs[j]? := cell_of_row W B j cs t _ h
theorem At.frozen {W : World} {B : Nat} {cs : Array Value} {t : TypeId} (h : At W B cs t) (j : Nat) : W.frozen? ⟨B, j, none⟩ = false := by simp [World.frozen?, show W.heap[B]? = _ from h]
theorem At.new (W : World) (cs : Array Value) (t : TypeId) : At (W.alloc (.cells cs t)) W.heap.size cs t := heap_alloc_new W _
theorem At.new1 (W : World) (o : Obj) (cs : Array Value) (t : TypeId) : At ((W.alloc o).alloc (.cells cs t)) (W.heap.size + 1) cs t := by
  have := At.new (W.alloc o) cs t
  rwa [World.size_alloc] at this
theorem At.new2 (W : World) (o o' : Obj) (cs : Array Value) (t : TypeId) : At (((W.alloc o).alloc o').alloc (.cells cs t)) (W.heap.size + 1 + 1) cs t := by
  have := At.new1 (W.alloc o) o' cs t
  rwa [World.size_alloc] at this
theorem At.alloc {W : World} {B : Nat} {cs : Array Value} {t : TypeId} (h : At W B cs t) (o : Obj) : At (W.alloc o) B cs t := h.kept (World.grownBy_alloc W o none) (by simp)
theorem At.drew {W : World} {B : Nat} {cs : Array Value} {t : TypeId} (h : At W B cs t) : At W.drew B cs t := h
theorem At.drewN {W : World} {B : Nat} {cs : Array Value} {t : TypeId} (h : At W B cs t) (k : Nat) : At (W.drewN k) B cs t := h
theorem At.below {W W' : World} {B n : Nat} {cs : Array Value} {t : TypeId} (h : At W B cs t) (hb : Below n W W') (hn : B < n) : At W' B cs t := (hb.block B hn).trans h
theorem At.belows {W W' : World} {B : Nat} {cs : Array Value} {t : TypeId} (h : At W B cs t) (hb : Below W.heap.size W W') : At W' B cs t := h.below hb h.lt
theorem At.set0 {W : World} {B : Nat} {cs : Array Value} {t : TypeId} (h : At W B cs t) (j : Nat) (v : Value) : At (W.setCell ⟨B, j, none⟩ v) B (cs.setIfInBounds j v) t := by
  show (W.heap.modify B _)[B]? = _
  rw [Array.getElem?_modify, show W.heap[B]? = _ from h, if_pos rfl]
  rfl
theorem At.other {W : World} {B : Nat} {cs : Array Value} {t : TypeId} (h : At W B cs t) {B' : Nat} (hne : B ≠ B') (j : Nat) (v : Value) : At (W.setCell ⟨B', j, none⟩ v) B cs t := (Below.heap_setCell W _ v B hne).trans h

theorem ret_int {k : IntKind} {a b : Int} (h : a = b) : Ending.returned (.int k a) = .returned (.int k b) := by rw [h]
theorem ret_bool {a b : Bool} (h : a = b) : Ending.returned (.bool a) = .returned (.bool b) := by rw [h]
theorem grown_none {W W' : World} (h : Below W.heap.size W W') : W.grownBy W' none := ⟨h.os, h.tape, h.output, h.size, fun k hk _ => h.block k hk⟩

/-- A tree in memory: a node is a block of six cells; none is written once it is made. -/
def IsT (w : World) : Value → Bt → Prop
  | v, .nil => v = .pointer none
  | v, .node l x r => ∃ (B : Nat) (vl vr : Value), v = .pointer (some ⟨B, 0, none⟩) ∧ At w B #[.int .u64 x.1, .int .i64 x.2, vl, vr, .int .i64 ((l.size + 1 + r.size : Nat) : Int), .int .i64 ((max l.ht r.ht + 1 : Nat) : Int)] 92 ∧ IsT w vl l ∧ IsT w vr r
theorem IsT.ptr {w : World} {v : Value} {t : Bt} (h : IsT w v t) : ∃ p, v = .pointer p := by
  cases t with
  | nil => exact ⟨_, h⟩
  | node l x r => obtain ⟨B, vl, vr, e, _⟩ := h; exact ⟨_, e⟩
theorem IsT.below {w w' : World} {n : Nat} (hn : w.heap.size ≤ n) (hb : Below n w w') : ∀ {v : Value} {t : Bt}, IsT w v t → IsT w' v t
  | _, .nil, h => h
  | _, .node _ _ _, ⟨B, vl, vr, e, ha, hl, hr⟩ => ⟨B, vl, vr, e, ha.below hb (Nat.lt_of_lt_of_le ha.lt hn), IsT.below hn hb hl, IsT.below hn hb hr⟩
theorem IsT.belows {w w' : World} (hb : Below w.heap.size w w') {v : Value} {t : Bt} (h : IsT w v t) : IsT w' v t := h.below (Nat.le_refl _) hb
/-- A node with this pair, or none. -/
def AtN (w : World) (v : Value) : Option (Int × Int) → Prop
  | none => v = .pointer none
  | some x => ∃ (B : Nat) (a b c d : Value), v = .pointer (some ⟨B, 0, none⟩) ∧ At w B #[.int .u64 x.1, .int .i64 x.2, a, b, c, d] 92
theorem AtN.belows {w w' : World} (hb : Below w.heap.size w w') {v : Value} {o : Option (Int × Int)} (h : AtN w v o) : AtN w' v o := by
  cases o with
  | none => exact h
  | some x => obtain ⟨B, a, b, c, d, e, ha⟩ := h; exact ⟨B, a, b, c, d, e, ha.belows hb⟩
theorem AtN.ptr {w : World} {v : Value} {o : Option (Int × Int)} (h : AtN w v o) : ∃ p, v = .pointer p := by
  cases o with
  | none => exact ⟨_, h⟩
  | some x => obtain ⟨B, a, b, c, d, e, _⟩ := h; exact ⟨_, e⟩

/-- Pairs as cells. -/
def pcells (l : List (Int × Int)) : List Value := l.flatMap fun x => [.int .u64 x.1, .int .i64 x.2]
theorem pcells_snoc (l : List (Int × Int)) (x : Int × Int) : pcells (l ++ [x]) = pcells l ++ [.int .u64 x.1, .int .i64 x.2] := by simp [pcells]
theorem pcells_append (l m : List (Int × Int)) : pcells (l ++ m) = pcells l ++ pcells m := by simp [pcells]
theorem pcells_nil : pcells [] = [] := rfl
theorem pcells_length (l : List (Int × Int)) : (pcells l).length = l.length * 2 := by induction l with
  | nil => rfl
  | cons x l ih => simp [pcells] at *; omega
theorem pcells_one (l : List (Int × Int)) : ∀ u ∈ pcells l, u.oneCell' = true := by
  intro u hu
  obtain ⟨x, _, h⟩ := List.mem_flatMap.1 hu
  simp at h
  rcases h with rfl | rfl <;> rfl
theorem pcells_at (L : List (Int × Int)) (k : Nat) (hk : k < L.length) : (pcells L)[2 * k]? = some (.int .u64 L[k].1) ∧ (pcells L)[2 * k + 1]? = some (.int .i64 L[k].2) := by
  induction L generalizing k with
  | nil => simp at hk
  | cons x L ih =>
    have e : pcells (x :: L) = .int .u64 x.1 :: .int .i64 x.2 :: pcells L := by simp [pcells]
    rw [e]
    match k with
    | 0 => simp
    | k + 1 =>
      have := ih k (by simpa using hk)
      rw [show 2 * (k + 1) = 2 * k + 1 + 1 by omega]
      simpa using this
theorem info68 : (Try.prog.info? 68).map (fun i => (i.zero, i.size, i.bytes)) = some (some (.agg #[.int .u64 0, .int .i64 0]), 2, 16) := by kernel_rfl
theorem add_none (g j : Nat) : (⟨g, 0, none⟩ : Addr).add j = ⟨g, j, none⟩ := by unfold Addr.add; split <;> simp_all

theorem add_off (g o j : Nat) : (⟨g, o, none⟩ : Addr).add j = ⟨g, o + j, none⟩ := by unfold Addr.add; split <;> simp_all

/-- The address of a slice that reads as these pairs. -/
def Ps (w : World) (A : Option Addr) (L : List (Int × Int)) : Prop := 0 < L.length → ∃ g o, A = some ⟨g, o, none⟩ ∧ (∃ cur t, w.heap[g]? = some (.cells cur t (0, 0)) ∧ t ≠ 28) ∧
  ∀ k (hk : k < L.length), w.cell? ⟨g, o + k * 2, none⟩ = some (.int .u64 L[k].1) ∧ w.cell? ⟨g, o + k * 2 + 1, none⟩ = some (.int .i64 L[k].2)
/-- A value that is a slice of these pairs. -/
def IsP (w : World) (v : Value) (L : List (Int × Int)) : Prop := ∃ A c, v = .slice A L.length c ∧ L.length ≤ c ∧ c ≤ maxLen ∧ Ps w A L
theorem Ps.nil (w : World) (A : Option Addr) : Ps w A [] := fun h => absurd h (by simp)
theorem Ps.kept {w w' : World} {A : Option Addr} {L : List (Int × Int)} (h : Ps w A L) (hk : ∀ (g : Nat) (cur : Array Value) (t : TypeId), w.heap[g]? = some (.cells cur t (0, 0)) → t ≠ 28 → w'.heap[g]? = w.heap[g]?) : Ps w' A L := fun hn => by
  obtain ⟨g, o, e, ⟨cur, t, hg, ht⟩, hc⟩ := h hn
  have hb := hk g cur t hg ht
  have hcell : ∀ j, w'.cell? ⟨g, j, none⟩ = w.cell? ⟨g, j, none⟩ := fun j => by unfold World.cell?; rw [hb]
  exact ⟨g, o, e, ⟨cur, t, hb.trans hg, ht⟩, fun k hk => ⟨(hcell _).trans (hc k hk).1, (hcell _).trans (hc k hk).2⟩⟩
theorem Ps.below {w w' : World} {A : Option Addr} {L : List (Int × Int)} {B : Nat} (h : Ps w A L) (hB : w.heap.size ≤ B) (hb : Below B w w') : Ps w' A L := h.kept fun g cur t hg _ => hb.block g (Nat.lt_of_lt_of_le (Array.getElem?_eq_some_iff.1 hg).1 hB)
theorem Ps.belows {w w' : World} {A : Option Addr} {L : List (Int × Int)} (h : Ps w A L) (hb : Below w.heap.size w w') : Ps w' A L := h.below (Nat.le_refl _) hb
theorem IsP.belows {w w' : World} {v : Value} {L : List (Int × Int)} (h : IsP w v L) (hb : Below w.heap.size w w') : IsP w' v L := by
  obtain ⟨A, c, e, h1, h2, h3⟩ := h
  exact ⟨A, c, e, h1, h2, h3.belows hb⟩
theorem Ps.drop {w : World} {A : Option Addr} {L : List (Int × Int)} (h : Ps w A L) {k cap : Nat} (hc : L.length ≤ cap) : Ps w (if cap = k then A else A.map (·.add (k * 2))) (L.drop k) := by
  intro hn
  have hl : k < L.length := by simp at hn; omega
  obtain ⟨g, o, rfl, hg, hcell⟩ := h (by omega)
  rw [if_neg (by omega)]
  refine ⟨g, o + k * 2, by rw [Option.map_some, add_off], hg, fun j hj => ?_⟩
  have hj' : k + j < L.length := by simp at hj; omega
  have := hcell (k + j) hj'
  simp only [List.getElem_drop]
  rw [show o + k * 2 + j * 2 = o + (k + j) * 2 by omega]
  exact this
/-- What is owned reads. -/
theorem isP_of_row {w : World} {base : Nat} {e : TypeId} (he : e ≠ 28) {v : Value} {L : List (Int × Int)} (h : w.ownsRow base e 2 v L.length (pcells L)) : IsP w v L := by
  rcases h.2 with ⟨rfl, h0⟩ | ⟨g, cap, cur, rfl, hb, hg, hnc, hm, _⟩
  · obtain rfl := List.eq_nil_of_length_eq_zero h0
    exact ⟨none, 0, rfl, Nat.le_refl _, by simp, Ps.nil _ _⟩
  · refine ⟨_, cap, rfl, hnc, hm, fun _ => ⟨g, 0, rfl, ⟨cur, e, hg, he⟩, fun k hk => ?_⟩⟩
    obtain ⟨h1, h2⟩ := pcells_at L k hk
    have e1 := World.ownsRow.cells h (g := g) rfl _ _ h1
    have e2 := World.ownsRow.cells h (g := g) rfl _ _ h2
    rw [add_none, Nat.mul_comm] at e1 e2
    rw [Nat.zero_add]
    exact ⟨e1, e2⟩
end Go.Proofs.Ytjljkpecpofbcaa
