/- From the listed table to what the walks ask; the door's own heap meets the condition; arguments opened: a slice of numbers, an array of two, a struct of two slices. -/
import Derived.Test.YtkglaoagiifejaaDoorV1
import Derived.Test.YtkglaoagiifejaaDoorLift
import Derived.LaidMore
import Derived.Stop.Joined
import Derived.Stop.LaidErr
import Derived.ProofKit
import Derived.OpenShut
import Derived.Deep.Slices
import Derived.Deep.Fields
import Derived.Lib.SmallJoins
namespace Go.Proofs.YtkglaoagiifejaaDoor
open Go.ChangeShapes Go.WideShapes Go.ChangeAt Go.RowKit

/-- The listed table. -/
def laid1 : List (String × DataW Unit) := [("math/bits.deBruijn64tab", Rows.laid_math_bits_deBruijn64tab)]
theorem own : ownKnob Tryd.prog.godebug = none := by kernel_rfl
theorem laidOut : laidOutB Tryd.prog = true := by kernel_rfl
theorem door_met (os : Os) (args : Array Value) : laidMetH Tryd.prog laid1 ((World.doorLaid Tryd.prog 14 os).forCall (fun _ _ => 0) ⟨#[], args, []⟩).memory :=
  laidMetH_of_parts3 (fuel := 8) (laidMet_of_run' 8 (by kernel_rfl) (by kernel_rfl)) (by kernel_rfl) (by kernel_rfl)
theorem g64 : Tryd.prog.globalNamed "math/bits.deBruijn64tab" = some 0 := by kernel_rfl
theorem t64 : (Tryd.prog.globals[0]?).map (·.type) = some 63 := by kernel_rfl
theorem tb_of_laid {W : World} (h : laidMetH Tryd.prog laid1 W) : Tb W := by
  rw [MakeChecks.laidMetH_plain _ _ _ (by kernel_rfl)] at h
  have h1 : Lib.TabIs Tryd.prog W "math/bits.deBruijn64tab" .u8 (Lib.deBruijn64tab.map fun n : Nat => (n : Int)) := Lib.tabIs_of_head (n := 64) (t := 63) (e := 5) (g := 0) g64 t64 Tryd.underlying63 Tryd.underlying5 (by kernel_rfl) (by kernel_rfl) h
  have hT : TabAt 0 Lib.deBruijn64tab W := fun j hj => by
    have := World.var?_cell g64 h1 j
    rw [this]
    rw [List.getElem?_toArray, List.getElem?_map, List.getElem?_map, List.getD_eq_getElem?_getD, List.getElem?_eq_getElem hj]; rfl
  exact ⟨hT, World.block_lt_of_cell? W _ (hT 0 (by decide))⟩

theorem addr_block (a : Addr) (n : Nat) : (a.add n).block = a.block := by unfold Addr.add; split <;> rfl
theorem addr_add (a : Addr) (i j : Nat) : (a.add i).add j = a.add (i + j) := by
  unfold Addr.add
  by_cases hi : i = 0 <;> by_cases hj : j = 0 <;> simp [hi, hj, Nat.add_assoc]
theorem list_of_fun {α : Type} [Inhabited α] (n : Nat) (p : Nat → α → Prop) (h : ∀ i, i < n → ∃ x, p i x) : ∃ l : List α, l.length = n ∧ ∀ i x, l[i]? = some x → p i x := by
  induction n with
  | zero => exact ⟨[], rfl, by simp⟩
  | succ n ih =>
    obtain ⟨l, hl, hp⟩ := ih (fun i hi => h i (by omega))
    obtain ⟨x, hx⟩ := h n (by omega)
    refine ⟨l ++ [x], by simp [hl], fun i y hy => ?_⟩
    rw [List.getElem?_append] at hy
    split at hy
    · exact hp i y hy
    · rename_i hge
      have : i = n := by
        rcases Nat.lt_or_ge (i - l.length) 1 with h1 | h1
        · omega
        · rw [List.getElem?_eq_none (by simpa using h1)] at hy; cases hy
      subst this
      rw [hl] at hy
      simp at hy
      subst hy
      exact hx

theorem i64_wf {a : Int} (h : (Lit.int .i64 a).wf = true) : -9223372036854775808 ≤ a ∧ a ≤ 9223372036854775807 := by
  simp [Lit.wf, IntKind.min, IntKind.max, IntKind.signed, IntKind.bits] at h
  omega
theorem cells3 : Tryd.prog.cellsOf 3 = 1 := by kernel_rfl
theorem cells23 : Tryd.prog.cellsOf 23 = 2 := by kernel_rfl
section
variable {H : Type} {enc : TypeId × Value → H} {W : World}
/-- A slice of numbers, by its cells. -/
theorem open_ints' {v : Value} {m : Nat} {y : DataW H × List MemPlace} (h : DataW.trod enc Tryd.prog W 0 (fun _ => true) true m 22 [v] = some y) : ∃ L, IsV W v (ints L) := by
  rcases Deep.open_slice1 Tryd.underlying22 cells3 h with ⟨hcs, _⟩ | ⟨a, len, cap, k, n, V, D, Pl, hcs, _, hl, hm, hmm, _, hi⟩
  · injection hcs with hcs
    subst hcs
    exact ⟨[], none, 0, rfl, Nat.le_refl _, by simp, Vs.nil _ _⟩
  · injection hcs with hcs
    subst hcs
    simp at hmm
    subst hmm
    obtain ⟨l, hln, hp⟩ := list_of_fun len (fun i (x : Int) => W.cell? (a.add i) = some (.int .i64 x)) (fun i hin => by
      obtain ⟨hc, ht⟩ := hi i (by omega)
      obtain ⟨z, q, _, _⟩ := DataW.trod_int Tryd.underlying3 ht
      injection q with q
      exact ⟨z, by rw [hc, q]⟩)
    subst hln
    have hlen : (ints l).length = l.length := by simp [ints]
    refine ⟨l, some a, k, by rw [hlen], by rw [hlen]; exact hl, hm, fun h0 => ?_⟩
    rw [hlen] at h0
    have f0 := hp 0 _ (List.getElem?_eq_getElem h0)
    have hB := World.block_lt_of_cell? W _ f0
    rw [addr_block] at hB
    have hsp : a.spot = none := by
      cases hs : a.spot with
      | none => rfl
      | some s =>
        rw [show a.add 0 = a by simp [Addr.add]] at f0
        unfold World.cell? at f0
        rw [hs] at f0
        split at f0 <;> simp at f0
    obtain ⟨b, o, sp⟩ := a
    obtain rfl : sp = none := hsp
    refine ⟨b, o, rfl, hB, fun j hj => ?_⟩
    have hj' : j < l.length := by omega
    have f1 := hp j _ (List.getElem?_eq_getElem hj')
    rw [add_off] at f1
    rw [f1]
    simp [ints]
/-- A slice of numbers. -/
theorem open_ints {v : Value} {d : DataW H} {p : List MemPlace} (h : DataW.Trod enc Tryd.prog W 0 (fun _ => true) true 22 v d p) (hv : ∃ A n c, v = .slice A n c) : ∃ L, IsV W v (ints L) := by
  obtain ⟨A, n, c, rfl⟩ := hv
  obtain ⟨fuel, hf⟩ := h
  exact open_ints' (by simpa [Value.cells] using hf)
/-- A struct of two slices of numbers. -/
theorem open_two {r : Reach} {b0 : Nat} {v : Value} {d : DataW H} {p : List MemPlace} (hv : Value.okWide Tryd.prog W r b0 41 v) (h : DataW.Trod enc Tryd.prog W 0 (fun _ => true) true 41 v d p) : ∃ (v0 v1 : Value) (L M : List Int), v = .agg #[v0, v1] ∧ IsV W v0 (ints L) ∧ IsV W v1 (ints M) := by
  obtain ⟨v0, v1, y0, y1, n, rfl, _, _, h0, h1⟩ := Joins.open_agg2 Tryd.underlying41 (by kernel_rfl) (by kernel_rfl) hv h
  obtain ⟨L, hL⟩ := open_ints' h0
  obtain ⟨M, hM⟩ := open_ints' h1
  exact ⟨v0, v1, L, M, rfl, hL, hM⟩
/-- An array of two numbers. -/
theorem open_arr2 {r : Reach} {b0 : Nat} {v : Value} {d : DataW H} {p : List MemPlace} (hv : Value.okWide Tryd.prog W r b0 23 v) (h : DataW.Trod enc Tryd.prog W 0 (fun _ => true) true 23 v d p) : ∃ (a b : Int), v = .agg #[.int .i64 a, .int .i64 b] := by
  simp only [Value.okWide, Tryd.underlying23] at hv
  obtain ⟨cs, rfl, hsz, _⟩ := hv
  rw [cells23] at hsz
  obtain ⟨fuel, hf⟩ := h
  obtain ⟨xs, m, _, _, hcl, hxl, hi⟩ := DataW.trod_array Tryd.underlying23 hf
  obtain ⟨c0, c1, rfl⟩ : ∃ c0 c1, cs = #[c0, c1] := Joins.array2 hsz
  have h0 := hi 0 (by decide)
  have h1 := hi 1 (by decide)
  rw [List.getElem?_eq_getElem (by omega)] at h0 h1
  simp only [cells3, Value.cells, Nat.zero_mul, Nat.one_mul, List.drop_zero, List.take_succ_cons, List.take_zero, List.drop_succ_cons] at h0 h1
  obtain ⟨z0, q0, _, _⟩ := DataW.trod_int Tryd.underlying3 h0
  obtain ⟨z1, q1, _, _⟩ := DataW.trod_int Tryd.underlying3 h1
  injection q0 with q0
  injection q1 with q1
  subst q0 q1
  exact ⟨z0, z1, rfl⟩
end
end Go.Proofs.YtkglaoagiifejaaDoor
