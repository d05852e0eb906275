/- Arguments: a slice of acts, a slice of ranges, a range: what lies in memory, element by element. -/
import Derived.Test.YtjljkpecpofbcaaS1
import Derived.Deep.Slices
import Derived.Deep.Fields
import Derived.ProofKit
import Derived.OpenShut
import Derived.ChangeOld
import Derived.ChangeSame
import Derived.Lib.SmallJoins
namespace Go.Proofs.Ytjljkpecpofbcaa
open Go.ChangeShapes Go.WideShapes Go.ChangeAt Go.RowKit

theorem addr_block (a : Addr) (n : Nat) : (a.add n).block = a.block := by unfold Addr.add; split <;> rfl
theorem addr_add (a : Addr) (i j : Nat) : (a.add i).add j = a.add (i + j) := by
  unfold Addr.add
  by_cases hi : i = 0 <;> by_cases hj : j = 0 <;> simp [hi, hj, Nat.add_assoc]
section
variable {H : Type} {enc : TypeId × Value → H} {P : Program} {w : World}
/-- Of a slice of structs of one-cell fields: each field's cell and its own reading. -/
theorem struct_cells {t e : TypeId} {fs : Array Field} {v : Value} {d : DataW H} {p : List MemPlace} (ht : P.underlying t = some (.slice e)) (he : P.underlying e = some (.struct fs))
    (hone : Deep.oneCellFields P fs = true) (hC : P.cellsOf e = fs.size) (hpos : 0 < fs.size) (h : DataW.Trod enc P w 0 (fun _ => true) true t v d p) (hv : ∃ A n c, v = .slice A n c) :
    ∃ A n c, v = .slice A n c ∧ n ≤ c ∧ c ≤ maxLen ∧ (n = 0 ∨ ∃ a : Addr, A = some a ∧ a.block < w.heap.size ∧
      ∀ i, i < n → ∀ (j : Nat) (f : Field), fs[j]? = some f → ∃ (u : Value) (m : Nat) (y : DataW H × List MemPlace), w.cell? (a.add (i * fs.size + j)) = some u ∧ DataW.trod enc P w 0 (fun _ => true) true m f.type [u] = some y) := by
  obtain ⟨A, n, c, rfl⟩ := hv
  obtain ⟨fuel, hf⟩ := h
  rcases Deep.open_slice ht hf with ⟨hcs, _⟩ | ⟨a, len, cap, m, k, D, Pl, hcs, _, hl, hm, hmm, hx, hi⟩
  · simp [Value.cells] at hcs
    obtain ⟨rfl, rfl, rfl⟩ := hcs
    exact ⟨none, 0, 0, rfl, Nat.le_refl _, by simp, .inl rfl⟩
  · simp [Value.cells] at hcs
    obtain ⟨rfl, rfl, rfl⟩ := hcs
    simp at hmm
    subst hmm
    refine ⟨_, n, m, rfl, hl, hm, ?_⟩
    rcases Nat.eq_zero_or_pos n with h0 | h0
    · exact .inl h0
    have cellsAt : ∀ i, i < n → ∀ (j : Nat) (f : Field), fs[j]? = some f → ∃ (u : Value) (m : Nat) (y : DataW H × List MemPlace), w.cell? (a.add (i * fs.size + j)) = some u ∧ DataW.trod enc P w 0 (fun _ => true) true m f.type [u] = some y := by
      intro i hin j f hj
      obtain ⟨cs, hc, ht'⟩ := hi i (by omega)
      rw [hC] at hc
      obtain ⟨ys, n', _, _, _, hyl, hg⟩ := DataW.trod_struct he ht'
      obtain ⟨_, hcl, hat⟩ := World.cells?_some hc
      obtain ⟨ho, hk⟩ := Deep.hone_of hone j f hj
      have hjl : j < fs.size := (Array.getElem?_eq_some_iff.1 hj).1
      have h1 := hg j f hj
      rw [ho, hk, List.drop_eq_getElem_cons (by omega)] at h1
      have hys : ys[j]? = some (ys[j]'(by omega)) := List.getElem?_eq_getElem (by omega)
      refine ⟨cs[j]'(by omega), n', ys[j]'(by omega), ?_, h1.trans hys⟩
      rw [← addr_add, hat j hjl, List.getElem?_eq_getElem (by omega)]
    refine .inr ⟨a, rfl, ?_, cellsAt⟩
    obtain ⟨u, _, _, hu, _⟩ := cellsAt 0 h0 0 fs[0] (by simp [hpos])
    have := World.block_lt_of_cell? w _ hu
    rwa [addr_block] at this
end
theorem list_of_fun {α : Type} [Inhabited α] (n : Nat) (p : Nat → α → Prop) (h : ∀ i, i < n → ∃ x, p i x) : ∃ l : List α, l.length = n ∧ ∀ i x, l[i]? = some x → p i x := by
  induction n with
  | zero => exact ⟨[], rfl, by simp⟩
  | succ n ih =>
    obtain ⟨l, hl, hp⟩ := ih (fun i hi => h i (by omega))
    obtain ⟨x, hx⟩ := h n (by omega)
    refine ⟨l ++ [x], by simp [hl], fun i y hy => ?_⟩
    rw [List.getElem?_append] at hy
    split at hy
    · exact hp i y hy
    · rename_i hge
      have : i = n := by
        rcases Nat.lt_or_ge (i - l.length) 1 with h1 | h1
        · omega
        · rw [List.getElem?_eq_none (by simpa using h1)] at hy; cases hy
      subst this
      rw [hl] at hy
      simp at hy
      subst hy
      exact hx
theorem u32_wf {a : Int} (h : (Lit.int .u32 a).wf = true) : ∃ n : Nat, a = n ∧ n < 4294967296 := by
  simp [Lit.wf, IntKind.min, IntKind.max, IntKind.signed, IntKind.bits] at h
  exact ⟨a.toNat, by omega, by omega⟩
/-- The opener of an argument that is a slice of ranges. -/
theorem open_ranges {H : Type} {enc : TypeId × Value → H} {W : World} {v : Value} {d : DataW H} {p : List MemPlace} (h : DataW.Trod enc Try.prog W 0 (fun _ => true) true 26 v d p) (hv : ∃ A n c, v = .slice A n c) :
    ∃ L, IsZ W v L ∧ U32 L := by
  obtain ⟨A, n, c, rfl, hnc, hcm, hr⟩ := struct_cells Try.underlying26 Try.underlying32 (by kernel_rfl) (by kernel_rfl) (by decide) h hv
  rcases hr with rfl | ⟨a, rfl, hB, hc⟩
  · exact ⟨[], ⟨A, c, rfl, hnc, hcm, Zs.nil _ _⟩, fun r hr => by simp at hr⟩
  · obtain ⟨l, hl, hp⟩ := list_of_fun n (fun i (x : Nat × Nat) => W.cell? (a.add (i * 2)) = some (.int .u32 x.1) ∧ W.cell? (a.add (i * 2 + 1)) = some (.int .u32 x.2) ∧ x.1 < 4294967296 ∧ x.2 < 4294967296) (fun i hi => by
      obtain ⟨u0, m0, y0, e0, t0⟩ := hc i hi 0 _ rfl
      obtain ⟨u1, m1, y1, e1, t1⟩ := hc i hi 1 _ rfl
      obtain ⟨z0, q0, _, w0⟩ := DataW.trod_int Try.underlying30 t0
      obtain ⟨z1, q1, _, w1⟩ := DataW.trod_int Try.underlying30 t1
      injection q0 with q0; injection q1 with q1
      subst q0 q1
      obtain ⟨n0, rfl, b0⟩ := u32_wf w0
      obtain ⟨n1, rfl, b1⟩ := u32_wf w1
      exact ⟨(n0, n1), e0, e1, b0, b1⟩)
    subst hl
    refine ⟨l, ⟨_, c, rfl, hnc, hcm, fun h0 => ?_⟩, fun r hr => ?_⟩
    · obtain ⟨f0, _⟩ := hp 0 _ (List.getElem?_eq_getElem h0)
      have hsp : a.spot = none := by
        cases hs : a.spot with
        | none => rfl
        | some s =>
          rw [show a.add (0 * 2) = a by simp [Addr.add]] at f0
          unfold World.cell? at f0
          rw [hs] at f0
          split at f0 <;> simp at f0
      obtain ⟨b, o, sp⟩ := a
      obtain rfl : sp = none := hsp
      refine ⟨b, o, rfl, hB, fun k hk => ?_⟩
      obtain ⟨f1, f2, _⟩ := hp k _ (List.getElem?_eq_getElem hk)
      rw [add_off] at f1 f2
      exact ⟨f1, by rw [Nat.add_assoc]; exact f2⟩
    · obtain ⟨k, hk, rfl⟩ := List.getElem_of_mem hr
      exact (hp k _ (List.getElem?_eq_getElem hk)).2.2
section
variable {H : Type} {enc : TypeId × Value → H} {P : Program} {w : World}
/-- Of a slice: each element's cells and its own reading. -/
theorem slice_elems {t e : TypeId} {C : Nat} {v : Value} {d : DataW H} {p : List MemPlace} (ht : P.underlying t = some (.slice e)) (hC : P.cellsOf e = C) (hpos : 0 < C) (h : DataW.Trod enc P w 0 (fun _ => true) true t v d p) (hv : ∃ A n c, v = .slice A n c) :
    ∃ A n c, v = .slice A n c ∧ n ≤ c ∧ c ≤ maxLen ∧ (n = 0 ∨ ∃ a : Addr, A = some a ∧ ∀ i, i < n → ∃ (cs : List Value) (m : Nat) (y : DataW H × List MemPlace), cs.length = C ∧ (∀ j, j < C → w.cell? (a.add (i * C + j)) = cs[j]?) ∧ DataW.trod enc P w 0 (fun _ => true) true m e cs = some y) := by
  obtain ⟨A, n, c, rfl⟩ := hv
  obtain ⟨fuel, hf⟩ := h
  rcases Deep.open_slice ht hf with ⟨hcs, _⟩ | ⟨a, len, cap, m, k, D, Pl, hcs, _, hl, hm, hmm, hx, hi⟩
  · simp [Value.cells] at hcs
    obtain ⟨rfl, rfl, rfl⟩ := hcs
    exact ⟨none, 0, 0, rfl, Nat.le_refl _, by simp, .inl rfl⟩
  · simp [Value.cells] at hcs
    obtain ⟨rfl, rfl, rfl⟩ := hcs
    simp at hmm
    subst hmm
    refine ⟨_, n, m, rfl, hl, hm, .inr ⟨a, rfl, fun i hin => ?_⟩⟩
    obtain ⟨cs, hc, ht'⟩ := hi i (by omega)
    rw [hC] at hc
    obtain ⟨_, hcl, hat⟩ := World.cells?_some hc
    exact ⟨cs, _, _, by omega, fun j hj => by rw [← addr_add]; exact hat j hj, ht'⟩
end
theorem cells34 : Try.prog.cellsOf 34 = 3 := by kernel_rfl
theorem cells32 : Try.prog.cellsOf 32 = 2 := by kernel_rfl
theorem cells30 : Try.prog.cellsOf 30 = 1 := by kernel_rfl
theorem cells4 : Try.prog.cellsOf 4 = 1 := by kernel_rfl
/-- The opener of an argument that is a slice of acts. -/
theorem open_acts {H : Type} {enc : TypeId × Value → H} {W : World} {v : Value} {d : DataW H} {p : List MemPlace} (h : DataW.Trod enc Try.prog W 0 (fun _ => true) true 22 v d p) (hv : ∃ A n c, v = .slice A n c) :
    ∃ S, IsS W v S := by
  obtain ⟨A, n, c, rfl, hnc, hcm, hr⟩ := slice_elems Try.underlying22 cells34 (by decide) h hv
  rcases hr with rfl | ⟨a, rfl, hc⟩
  · exact ⟨[], A, c, rfl, hnc, hcm, fun h => absurd h (by simp)⟩
  · obtain ⟨l, hl, hp⟩ := list_of_fun n (fun i (x : ActT) => (W.cell? (a.add (i * 3)) = some (.bool x.1) ∧ W.cell? (a.add (i * 3 + 1)) = some (.int .u32 x.2.1) ∧ W.cell? (a.add (i * 3 + 2)) = some (.int .u32 x.2.2)) ∧ x.2.1 < 4294967296 ∧ x.2.2 < 4294967296) (fun i hi => by
      obtain ⟨cs, m, y, hlen, hat, hy⟩ := hc i hi
      match cs, hlen with
      | [c0, c1, c2], _ =>
        obtain ⟨y0, y1, m1, _, _, h0, h1⟩ := trod_struct2 Try.underlying34 hy
        simp only [cells4, cells32, List.drop_zero, List.take_succ_cons, List.take_zero, List.drop_succ_cons] at h0 h1
        obtain ⟨y2, y3, m2, _, _, h2, h3⟩ := trod_struct2 Try.underlying32 h1
        simp only [cells30, List.drop_zero, List.take_succ_cons, List.take_zero, List.drop_succ_cons] at h2 h3
        obtain ⟨z0, q0, _⟩ := DataW.trod_bool Try.underlying4 h0
        obtain ⟨z1, q1, _, w1⟩ := DataW.trod_int Try.underlying30 h2
        obtain ⟨z2, q2, _, w2⟩ := DataW.trod_int Try.underlying30 h3
        injection q0 with q0; injection q1 with q1; injection q2 with q2
        subst q0 q1 q2
        obtain ⟨n1, rfl, b1⟩ := u32_wf w1
        obtain ⟨n2, rfl, b2⟩ := u32_wf w2
        exact ⟨(z0, n1, n2), ⟨by simpa using hat 0 (by decide), by simpa using hat 1 (by decide), by simpa using hat 2 (by decide)⟩, b1, b2⟩)
    subst hl
    refine ⟨l, _, c, rfl, hnc, hcm, fun h0 => ?_⟩
    obtain ⟨⟨f0, _⟩, _⟩ := hp 0 _ (List.getElem?_eq_getElem h0)
    have hB := World.block_lt_of_cell? W _ f0
    rw [addr_block] at hB
    have hsp : a.spot = none := by
      cases hs : a.spot with
      | none => rfl
      | some s =>
        rw [show a.add (0 * 3) = a by simp [Addr.add]] at f0
        unfold World.cell? at f0
        rw [hs] at f0
        split at f0 <;> simp at f0
    obtain ⟨b, o, sp⟩ := a
    obtain rfl : sp = none := hsp
    refine ⟨b, o, rfl, hB, fun k hk => ?_⟩
    obtain ⟨⟨f1, f2, f3⟩, f4⟩ := hp k _ (List.getElem?_eq_getElem hk)
    rw [add_off] at f1 f2 f3
    exact ⟨⟨f1, by rw [Nat.add_assoc]; exact f2, by rw [Nat.add_assoc]; exact f3⟩, f4⟩
set_option maxRecDepth 100000 in
/-- The opener of an argument that is a range. -/
theorem open_rng {H : Type} {enc : TypeId × Value → H} {w : World} {base : Nat} {spare : Nat → Bool} {held : Bool} {r : Reach} {b0 : Nat} {v : Value} {d : DataW H} {p : List MemPlace} (hv : Value.okWide Try.prog w r b0 32 v) (h : DataW.Trod enc Try.prog w base spare held 32 v d p) : ∃ (a b : Nat), v = .agg #[.int .u32 a, .int .u32 b] ∧ a < 4294967296 ∧ b < 4294967296 := by
  obtain ⟨v0, v1, y0, y1, n, rfl, rfl, rfl, h0, h1⟩ := Joins.open_agg2 Try.underlying32 (by kernel_rfl) (by kernel_rfl) hv h
  obtain ⟨a, e0, rfl, w0⟩ := DataW.trod_int Try.underlying30 h0
  obtain ⟨b, e1, rfl, w1⟩ := DataW.trod_int Try.underlying30 h1
  obtain ⟨m, rfl, hm⟩ := u32_wf w0
  obtain ⟨m', rfl, hm'⟩ := u32_wf w1
  cases e0; cases e1
  exact ⟨m, m', rfl, hm, hm'⟩
end Go.Proofs.Ytjljkpecpofbcaa
