/- Arguments: a rule, a slice of rules: what lies in memory, element by element. -/
import Derived.Test.YtmpgfmedldnhjaaGreatDoorS1
import Derived.Deep.Slices
import Derived.Deep.Fields
import Derived.ProofKit
import Derived.OpenShut
import Derived.ChangeOld
import Derived.ChangeSame
import Derived.Lib.SmallJoins
namespace Go.Proofs.YtmpgfmedldnhjaaGreatDoor
open Go.ChangeShapes Go.WideShapes Go.ChangeAt Go.RowKit

theorem addr_block (a : Addr) (n : Nat) : (a.add n).block = a.block := by unfold Addr.add; split <;> rfl
theorem addr_add (a : Addr) (i j : Nat) : (a.add i).add j = a.add (i + j) := by
  unfold Addr.add
  by_cases hi : i = 0 <;> by_cases hj : j = 0 <;> simp [hi, hj, Nat.add_assoc]
theorem addr_off (g o j : Nat) : (⟨g, o, none⟩ : Addr).add j = ⟨g, o + j, none⟩ := by unfold Addr.add; split <;> simp_all
theorem list_of_fun {α : Type} [Inhabited α] (n : Nat) (p : Nat → α → Prop) (h : ∀ i, i < n → ∃ x, p i x) : ∃ l : List α, l.length = n ∧ ∀ i x, l[i]? = some x → p i x := by
  induction n with
  | zero => exact ⟨[], rfl, by simp⟩
  | succ n ih =>
    obtain ⟨l, hl, hp⟩ := ih (fun i hi => h i (by omega))
    obtain ⟨x, hx⟩ := h n (by omega)
    refine ⟨l ++ [x], by simp [hl], fun i y hy => ?_⟩
    rw [List.getElem?_append] at hy
    split at hy
    · exact hp i y hy
    · rename_i hge
      have : i = n := by
        rcases Nat.lt_or_ge (i - l.length) 1 with h1 | h1
        · omega
        · rw [List.getElem?_eq_none (by simpa using h1)] at hy; cases hy
      subst this
      rw [hl] at hy
      simp at hy
      subst hy
      exact hx
theorem u32_wf {a : Int} (h : (Lit.int .u32 a).wf = true) : ∃ n : Nat, a = n ∧ n < 4294967296 := by
  simp [Lit.wf, IntKind.min, IntKind.max, IntKind.signed, IntKind.bits] at h
  exact ⟨a.toNat, by omega, by omega⟩
theorem i64_wf {a : Int} (h : (Lit.int .i64 a).wf = true) : isI a := by
  simp [Lit.wf, IntKind.min, IntKind.max, IntKind.signed, IntKind.bits] at h
  unfold isI; omega
section
variable {H : Type} {enc : TypeId × Value → H} {P : Program} {w : World}
/-- Of a slice: each element's cells and its own reading. -/
theorem slice_elems {t e : TypeId} {C : Nat} {v : Value} {d : DataW H} {p : List MemPlace} (ht : P.underlying t = some (.slice e)) (hC : P.cellsOf e = C) (hpos : 0 < C) (h : DataW.Trod enc P w 0 (fun _ => true) true t v d p) (hv : ∃ A n c, v = .slice A n c) :
    ∃ A n c, v = .slice A n c ∧ n ≤ c ∧ c ≤ maxLen ∧ (n = 0 ∨ ∃ a : Addr, A = some a ∧ ∀ i, i < n → ∃ (cs : List Value) (m : Nat) (y : DataW H × List MemPlace), cs.length = C ∧ (∀ j, j < C → w.cell? (a.add (i * C + j)) = cs[j]?) ∧ DataW.trod enc P w 0 (fun _ => true) true m e cs = some y) := by
  obtain ⟨A, n, c, rfl⟩ := hv
  obtain ⟨fuel, hf⟩ := h
  rcases Deep.open_slice ht hf with ⟨hcs, _⟩ | ⟨a, len, cap, m, k, D, Pl, hcs, _, hl, hm, hmm, hx, hi⟩
  · simp [Value.cells] at hcs
    obtain ⟨rfl, rfl, rfl⟩ := hcs
    exact ⟨none, 0, 0, rfl, Nat.le_refl _, by simp, .inl rfl⟩
  · simp [Value.cells] at hcs
    obtain ⟨rfl, rfl, rfl⟩ := hcs
    simp at hmm
    subst hmm
    refine ⟨_, n, m, rfl, hl, hm, .inr ⟨a, rfl, fun i hin => ?_⟩⟩
    obtain ⟨cs, hc, ht'⟩ := hi i (by omega)
    rw [hC] at hc
    obtain ⟨_, hcl, hat⟩ := World.cells?_some hc
    exact ⟨cs, _, _, by omega, fun j hj => by rw [← addr_add]; exact hat j hj, ht'⟩
end
theorem cells3 : Tryz.prog.cellsOf 3 = 1 := by kernel_rfl
theorem cellsKind : Tryz.prog.cellsOf 27 = 1 := by kernel_rfl
theorem cellsU32 : Tryz.prog.cellsOf 24 = 1 := by kernel_rfl
theorem cellsRange : Tryz.prog.cellsOf 29 = 2 := by kernel_rfl
theorem cellsRule : Tryz.prog.cellsOf 31 = 7 := by kernel_rfl
section
variable {H : Type} {enc : TypeId × Value → H} {W : World} {base : Nat} {spare : Nat → Bool} {held : Bool}
set_option maxRecDepth 100000 in
/-- A rule, by its cells. -/
theorem trod_rule {m : Nat} {cs : List Value} {y : DataW H × List MemPlace} (h : DataW.trod enc Tryz.prog W base spare held m 31 cs = some y) : ∃ r : Ru, r.wf ∧ cs = (ruA r).toList := by
  obtain ⟨xs, n, _, _, hl, hxl, hf⟩ := DataW.trod_struct Tryz.underlying31 h
  rw [cellsRule] at hl
  have g : ∀ i, i < 6 → ∃ x, xs[i]? = some x := fun i hi => ⟨xs[i]'(by rw [hxl]; exact hi), List.getElem?_eq_getElem _⟩
  obtain ⟨x0, g0⟩ := g 0 (by decide)
  obtain ⟨x1, g1⟩ := g 1 (by decide)
  obtain ⟨x2, g2⟩ := g 2 (by decide)
  obtain ⟨x3, g3⟩ := g 3 (by decide)
  obtain ⟨x4, g4⟩ := g 4 (by decide)
  obtain ⟨x5, g5⟩ := g 5 (by decide)
  have h0 : DataW.trod enc Tryz.prog W base spare held n 3 ((cs.drop 0).take (Tryz.prog.cellsOf 3)) = some x0 := (hf 0 _ rfl).trans g0
  have h1 : DataW.trod enc Tryz.prog W base spare held n 3 ((cs.drop 1).take (Tryz.prog.cellsOf 3)) = some x1 := (hf 1 _ rfl).trans g1
  have h2 : DataW.trod enc Tryz.prog W base spare held n 3 ((cs.drop 2).take (Tryz.prog.cellsOf 3)) = some x2 := (hf 2 _ rfl).trans g2
  have h3 : DataW.trod enc Tryz.prog W base spare held n 27 ((cs.drop 3).take (Tryz.prog.cellsOf 27)) = some x3 := (hf 3 _ rfl).trans g3
  have h4 : DataW.trod enc Tryz.prog W base spare held n 29 ((cs.drop 4).take (Tryz.prog.cellsOf 29)) = some x4 := (hf 4 _ rfl).trans g4
  have h5 : DataW.trod enc Tryz.prog W base spare held n 3 ((cs.drop 6).take (Tryz.prog.cellsOf 3)) = some x5 := (hf 5 _ rfl).trans g5
  match cs, hl with
  | [c0, c1, c2, c3, c4, c5, c6], _ =>
    simp only [cells3, cellsKind, cellsRange, List.drop_zero, List.take_succ_cons, List.take_zero, List.drop_succ_cons] at h0 h1 h2 h3 h4 h5
    obtain ⟨y2, y3, m2, _, _, h6, h7⟩ := trod_struct2 Tryz.underlying29 h4
    simp only [cellsU32, List.drop_zero, List.take_succ_cons, List.take_zero, List.drop_succ_cons] at h6 h7
    obtain ⟨z0, q0, _, w0⟩ := DataW.trod_int Tryz.underlying3 h0
    obtain ⟨z1, q1, _, w1⟩ := DataW.trod_int Tryz.underlying3 h1
    obtain ⟨z2, q2, _, w2⟩ := DataW.trod_int Tryz.underlying3 h2
    obtain ⟨z3, q3, _, w3⟩ := DataW.trod_int Tryz.underlying27 h3
    obtain ⟨z4, q4, _, w4⟩ := DataW.trod_int Tryz.underlying24 h6
    obtain ⟨z5, q5, _, w5⟩ := DataW.trod_int Tryz.underlying24 h7
    obtain ⟨z6, q6, _, w6⟩ := DataW.trod_int Tryz.underlying3 h5
    injection q0 with q0; injection q1 with q1; injection q2 with q2; injection q3 with q3; injection q4 with q4; injection q5 with q5; injection q6 with q6
    subst q0 q1 q2 q3 q4 q5 q6
    obtain ⟨n4, rfl, b4⟩ := u32_wf w4
    obtain ⟨n5, rfl, b5⟩ := u32_wf w5
    exact ⟨⟨z0, z1, z2, z3, n4, n5, z6⟩, ⟨i64_wf w0, i64_wf w1, i64_wf w2, i64_wf w3, b4, b5, i64_wf w6⟩, rfl⟩
set_option maxRecDepth 100000 in
/-- An argument that is a rule. -/
theorem open_rule {r : Reach} {b0 : Nat} {v : Value} {d : DataW H} {p : List MemPlace} (hv : Value.okWide Tryz.prog W r b0 31 v) (h : DataW.Trod enc Tryz.prog W base spare held 31 v d p) : ∃ x : Ru, v = .agg (ruA x) ∧ x.wf := by
  obtain ⟨cs, rfl, hsz⟩ := okWide_struct Tryz.underlying31 hv
  obtain ⟨fuel, hf⟩ := h
  obtain ⟨x, hw, e⟩ := trod_rule hf
  refine ⟨x, ?_, hw⟩
  have e' : cs.toList = (ruA x).toList := by simpa [Value.cells] using e
  rw [Array.toList_inj.1 e']
set_option maxRecDepth 100000 in
/-- An argument that is a slice of rules. -/
theorem open_rules {v : Value} {d : DataW H} {p : List MemPlace} (h : DataW.Trod enc Tryz.prog W 0 (fun _ => true) true 22 v d p) (hv : ∃ A n c, v = .slice A n c) :
    ∃ L : List Ru, IsR W v L ∧ ∀ r ∈ L, r.wf := by
  obtain ⟨A, n, c, rfl, hnc, hcm, hr⟩ := slice_elems Tryz.underlying22 cellsRule (by decide) h hv
  rcases hr with rfl | ⟨a, rfl, hc⟩
  · exact ⟨[], ⟨A, c, rfl, hnc, hcm, Rs.nil _ _⟩, fun r hr => by simp at hr⟩
  · obtain ⟨l, hl, hp⟩ := list_of_fun n (fun i (x : Ru) => (∀ j, j < 7 → W.cell? (a.add (i * 7 + j)) = (ruA x)[j]?) ∧ x.wf) (fun i hi => by
      obtain ⟨cs, m, y, hlen, hat, hy⟩ := hc i hi
      obtain ⟨r, hw, rfl⟩ := trod_rule hy
      exact ⟨r, fun j hj => by rw [hat j hj]; simp, hw⟩)
    subst hl
    refine ⟨l, ⟨_, c, rfl, hnc, hcm, fun h0 => ?_⟩, fun r hr => ?_⟩
    · have f0 := (hp 0 _ (List.getElem?_eq_getElem h0)).1 0 (by decide)
      have f0' : W.cell? (a.add (0 * 7 + 0)) = some (.int .i64 l[0].id) := f0
      have hB := World.block_lt_of_cell? W _ f0'
      rw [addr_block] at hB
      have hsp : a.spot = none := by
        cases hs : a.spot with
        | none => rfl
        | some s =>
          rw [show a.add (0 * 7 + 0) = a by simp [Addr.add]] at f0'
          unfold World.cell? at f0'
          rw [hs] at f0'
          split at f0' <;> simp at f0'
      obtain ⟨b, o, sp⟩ := a
      obtain rfl : sp = none := hsp
      refine ⟨b, o, rfl, hB, fun k hk j hj => ?_⟩
      have f1 := (hp k _ (List.getElem?_eq_getElem hk)).1 j hj
      rw [addr_off, ← Nat.add_assoc] at f1
      exact f1
    · obtain ⟨k, hk, rfl⟩ := List.getElem_of_mem hr
      exact (hp k _ (List.getElem?_eq_getElem hk)).2
end
end Go.Proofs.YtmpgfmedldnhjaaGreatDoor
