/- Arguments: a topology, a port, rules, arrays of two and three: what lies in memory, element by element. -/
import Derived.Test.YtmndgbpfophniaaW0
import Derived.Test.YtmndgbpfophniaaS1
import Derived.Deep.Slices
import Derived.Deep.Fields
import Derived.ProofKit
import Derived.OpenShut
import Derived.ChangeOld
import Derived.ChangeSame
import Derived.Lib.SmallJoins
namespace Go.Proofs.Ytmndgbpfophniaa
open Go.ChangeShapes Go.WideShapes Go.ChangeAt Go.RowKit

theorem addr_block (a : Addr) (n : Nat) : (a.add n).block = a.block := by unfold Addr.add; split <;> rfl
theorem addr_add (a : Addr) (i j : Nat) : (a.add i).add j = a.add (i + j) := by
  unfold Addr.add
  by_cases hi : i = 0 <;> by_cases hj : j = 0 <;> simp [hi, hj, Nat.add_assoc]
theorem list_of_fun {α : Type} [Inhabited α] (n : Nat) (p : Nat → α → Prop) (h : ∀ i, i < n → ∃ x, p i x) : ∃ l : List α, l.length = n ∧ ∀ i x, l[i]? = some x → p i x := by
  induction n with
  | zero => exact ⟨[], rfl, by simp⟩
  | succ n ih =>
    obtain ⟨l, hl, hp⟩ := ih (fun i hi => h i (by omega))
    obtain ⟨x, hx⟩ := h n (by omega)
    refine ⟨l ++ [x], by simp [hl], fun i y hy => ?_⟩
    rw [List.getElem?_append] at hy
    split at hy
    · exact hp i y hy
    · rename_i hge
      have : i = n := by
        rcases Nat.lt_or_ge (i - l.length) 1 with h1 | h1
        · omega
        · rw [List.getElem?_eq_none (by simpa using h1)] at hy; cases hy
      subst this
      rw [hl] at hy
      simp at hy
      subst hy
      exact hx
theorem u32_wf {a : Int} (h : (Lit.int .u32 a).wf = true) : ∃ n : Nat, a = n ∧ n < 4294967296 := by
  simp [Lit.wf, IntKind.min, IntKind.max, IntKind.signed, IntKind.bits] at h
  exact ⟨a.toNat, by omega, by omega⟩
theorem i64_wf {a : Int} (h : (Lit.int .i64 a).wf = true) : isI a := by
  simp [Lit.wf, IntKind.min, IntKind.max, IntKind.signed, IntKind.bits] at h
  unfold isI; omega
section
variable {H : Type} {enc : TypeId × Value → H} {P : Program} {w : World}
/-- Of a slice: each element's cells and its own reading. -/
theorem slice_elems {t e : TypeId} {C : Nat} {v : Value} {d : DataW H} {p : List MemPlace} (ht : P.underlying t = some (.slice e)) (hC : P.cellsOf e = C) (_ : 0 < C) (h : DataW.Trod enc P w 0 (fun _ => true) true t v d p) (hv : ∃ A n c, v = .slice A n c) :
    ∃ A n c, v = .slice A n c ∧ n ≤ c ∧ c ≤ maxLen ∧ (n = 0 ∨ ∃ a : Addr, A = some a ∧ ∀ i, i < n → ∃ (cs : List Value) (m : Nat) (y : DataW H × List MemPlace), cs.length = C ∧ (∀ j, j < C → w.cell? (a.add (i * C + j)) = cs[j]?) ∧ DataW.trod enc P w 0 (fun _ => true) true m e cs = some y) := by
  obtain ⟨A, n, c, rfl⟩ := hv
  obtain ⟨fuel, hf⟩ := h
  rcases Deep.open_slice ht hf with ⟨hcs, _⟩ | ⟨a, len, cap, m, k, D, Pl, hcs, _, hl, hm, hmm, hx, hi⟩
  · simp [Value.cells] at hcs
    obtain ⟨rfl, rfl, rfl⟩ := hcs
    exact ⟨none, 0, 0, rfl, Nat.le_refl _, by simp, .inl rfl⟩
  · simp [Value.cells] at hcs
    obtain ⟨rfl, rfl, rfl⟩ := hcs
    simp at hmm
    subst hmm
    refine ⟨_, n, m, rfl, hl, hm, .inr ⟨a, rfl, fun i hin => ?_⟩⟩
    obtain ⟨cs, hc, ht'⟩ := hi i (by omega)
    rw [hC] at hc
    obtain ⟨_, hcl, hat⟩ := World.cells?_some hc
    exact ⟨cs, _, _, by omega, fun j hj => by rw [← addr_add]; exact hat j hj, ht'⟩
end
section
variable {H : Type} {enc : TypeId × Value → H} {P : Program} {w : World} {α : Type} [Inhabited α] {f : α → Array Value}
/-- Of a slice that is a field: each element's cells and its own reading. -/
theorem slice_elems1 {t e : TypeId} {C m : Nat} {v : Value} {y : DataW H × List MemPlace} (ht : P.underlying t = some (.slice e)) (hC : P.cellsOf e = C) (h : DataW.trod enc P w 0 (fun _ => true) true m t [v] = some y) :
    ∃ A n c, v = .slice A n c ∧ n ≤ c ∧ c ≤ maxLen ∧ (n = 0 ∨ ∃ a : Addr, A = some a ∧ ∀ i, i < n → ∃ (cs : List Value) (m : Nat) (y : DataW H × List MemPlace), cs.length = C ∧ (∀ j, j < C → w.cell? (a.add (i * C + j)) = cs[j]?) ∧ DataW.trod enc P w 0 (fun _ => true) true m e cs = some y) := by
  rcases Deep.open_slice ht h with ⟨hcs, _⟩ | ⟨a, len, cap, m, k, D, Pl, hcs, _, hl, hm, hmm, hx, hi⟩
  · injection hcs with hcs
    subst hcs
    exact ⟨none, 0, 0, rfl, Nat.le_refl _, by simp, .inl rfl⟩
  · injection hcs with hcs
    subst hcs
    simp at hmm
    subst hmm
    refine ⟨_, len, _, rfl, hl, hm, .inr ⟨a, rfl, fun i hin => ?_⟩⟩
    obtain ⟨cs, hc, ht'⟩ := hi i (by omega)
    rw [hC] at hc
    obtain ⟨_, hcl, hat⟩ := World.cells?_some hc
    exact ⟨cs, _, _, by omega, fun j hj => by rw [← addr_add]; exact hat j hj, ht'⟩
/-- Such a slice reads as a list. -/
theorem open_vec {Q : α → Prop} {t e : TypeId} {n m : Nat} {v : Value} {y : DataW H × List MemPlace} (hf : ∀ x, (f x).size = n) (hn : 0 < n) (ht : P.underlying t = some (.slice e)) (hC : P.cellsOf e = n)
    (hr : ∀ (m : Nat) (cs : List Value) (y : DataW H × List MemPlace), DataW.trod enc P w 0 (fun _ => true) true m e cs = some y → cs.length = n → ∃ x, Q x ∧ cs = (f x).toList)
    (h : DataW.trod enc P w 0 (fun _ => true) true m t [v] = some y) : ∃ L : List α, IsF n f w v L ∧ ∀ x ∈ L, Q x := by
  obtain ⟨A, k, c, rfl, hnc, hcm, hh⟩ := slice_elems1 ht hC h
  rcases hh with rfl | ⟨a, rfl, hc⟩
  · exact ⟨[], ⟨A, c, rfl, hnc, hcm, fun h => absurd h (by simp)⟩, by simp⟩
  · obtain ⟨l, hl, hp⟩ := list_of_fun k (fun i (x : α) => Q x ∧ ∀ j, j < n → w.cell? (a.add (i * n + j)) = (f x)[j]?) (fun i hi => by
      obtain ⟨cs, m, y, hlen, hat, hy⟩ := hc i hi
      obtain ⟨r, hq, rfl⟩ := hr m cs y hy hlen
      exact ⟨r, hq, fun j hj => by rw [hat j hj]; simp⟩)
    subst hl
    refine ⟨l, ⟨_, c, rfl, hnc, hcm, fun h0 => ?_⟩, fun x hx => by obtain ⟨k, hk, rfl⟩ := List.getElem_of_mem hx; exact (hp k _ (List.getElem?_eq_getElem hk)).1⟩
    have f0 := (hp 0 _ (List.getElem?_eq_getElem h0)).2 0 hn
    have hs : 0 < (f l[0]).size := by rw [hf]; exact hn
    rw [Array.getElem?_eq_getElem hs] at f0
    have hB := World.block_lt_of_cell? w _ f0
    rw [addr_block] at hB
    have hsp : a.spot = none := by
      cases hs : a.spot with
      | none => rfl
      | some s =>
        rw [show a.add (0 * n + 0) = a by simp [Addr.add]] at f0
        unfold World.cell? at f0
        rw [hs] at f0
        split at f0 <;> simp at f0
    obtain ⟨b, o, sp⟩ := a
    obtain rfl : sp = none := hsp
    refine ⟨b, o, rfl, hB, fun k hk j hj => ?_⟩
    have f1 := (hp k _ (List.getElem?_eq_getElem hk)).2 j hj
    rw [addr_off, ← Nat.add_assoc] at f1
    exact f1
end
theorem cells3 : Try.prog.cellsOf 3 = 1 := by kernel_rfl
theorem cellsKind : Try.prog.cellsOf 59 = 1 := by kernel_rfl
theorem cellsU32 : Try.prog.cellsOf 29 = 1 := by kernel_rfl
theorem cellsRange : Try.prog.cellsOf 61 = 2 := by kernel_rfl
theorem cellsRule : Try.prog.cellsOf 63 = 7 := by kernel_rfl
theorem cellsPort : Try.prog.cellsOf 34 = 2 := by kernel_rfl
theorem cellsLink : Try.prog.cellsOf 67 = 4 := by kernel_rfl
theorem cellsTwo : Try.prog.cellsOf 48 = 2 := by kernel_rfl
instance : Inhabited Pt := ⟨⟨0, 0⟩⟩
instance : Inhabited Lk := ⟨⟨⟨0, 0⟩, ⟨0, 0⟩⟩⟩
section
variable {H : Type} {enc : TypeId × Value → H} {W : World} {base : Nat} {spare : Nat → Bool} {held : Bool}
set_option maxRecDepth 100000 in
/-- A rule, by its cells. -/
theorem trod_rule {m : Nat} {cs : List Value} {y : DataW H × List MemPlace} (h : DataW.trod enc Try.prog W base spare held m 63 cs = some y) : ∃ r : Ru, r.wf ∧ cs = (ruA r).toList := by
  obtain ⟨xs, n, _, _, hl, hxl, hf⟩ := DataW.trod_struct Try.underlying63 h
  rw [cellsRule] at hl
  have g : ∀ i, i < 6 → ∃ x, xs[i]? = some x := fun i hi => ⟨xs[i]'(by rw [hxl]; exact hi), List.getElem?_eq_getElem _⟩
  obtain ⟨x0, g0⟩ := g 0 (by decide)
  obtain ⟨x1, g1⟩ := g 1 (by decide)
  obtain ⟨x2, g2⟩ := g 2 (by decide)
  obtain ⟨x3, g3⟩ := g 3 (by decide)
  obtain ⟨x4, g4⟩ := g 4 (by decide)
  obtain ⟨x5, g5⟩ := g 5 (by decide)
  have h0 : DataW.trod enc Try.prog W base spare held n 3 ((cs.drop 0).take (Try.prog.cellsOf 3)) = some x0 := (hf 0 _ rfl).trans g0
  have h1 : DataW.trod enc Try.prog W base spare held n 3 ((cs.drop 1).take (Try.prog.cellsOf 3)) = some x1 := (hf 1 _ rfl).trans g1
  have h2 : DataW.trod enc Try.prog W base spare held n 3 ((cs.drop 2).take (Try.prog.cellsOf 3)) = some x2 := (hf 2 _ rfl).trans g2
  have h3 : DataW.trod enc Try.prog W base spare held n 59 ((cs.drop 3).take (Try.prog.cellsOf 59)) = some x3 := (hf 3 _ rfl).trans g3
  have h4 : DataW.trod enc Try.prog W base spare held n 61 ((cs.drop 4).take (Try.prog.cellsOf 61)) = some x4 := (hf 4 _ rfl).trans g4
  have h5 : DataW.trod enc Try.prog W base spare held n 3 ((cs.drop 6).take (Try.prog.cellsOf 3)) = some x5 := (hf 5 _ rfl).trans g5
  match cs, hl with
  | [c0, c1, c2, c3, c4, c5, c6], _ =>
    simp only [cells3, cellsKind, cellsRange, List.drop_zero, List.take_succ_cons, List.take_zero, List.drop_succ_cons] at h0 h1 h2 h3 h4 h5
    obtain ⟨y2, y3, m2, _, _, h6, h7⟩ := trod_struct2 Try.underlying61 h4
    simp only [cellsU32, List.drop_zero, List.take_succ_cons, List.take_zero, List.drop_succ_cons] at h6 h7
    obtain ⟨z0, q0, _, w0⟩ := DataW.trod_int Try.underlying3 h0
    obtain ⟨z1, q1, _, w1⟩ := DataW.trod_int Try.underlying3 h1
    obtain ⟨z2, q2, _, w2⟩ := DataW.trod_int Try.underlying3 h2
    obtain ⟨z3, q3, _, w3⟩ := DataW.trod_int Try.underlying59 h3
    obtain ⟨z4, q4, _, w4⟩ := DataW.trod_int Try.underlying29 h6
    obtain ⟨z5, q5, _, w5⟩ := DataW.trod_int Try.underlying29 h7
    obtain ⟨z6, q6, _, w6⟩ := DataW.trod_int Try.underlying3 h5
    injection q0 with q0; injection q1 with q1; injection q2 with q2; injection q3 with q3; injection q4 with q4; injection q5 with q5; injection q6 with q6
    subst q0 q1 q2 q3 q4 q5 q6
    obtain ⟨n4, rfl, b4⟩ := u32_wf w4
    obtain ⟨n5, rfl, b5⟩ := u32_wf w5
    exact ⟨⟨z0, z1, z2, z3, n4, n5, z6⟩, ⟨i64_wf w0, i64_wf w1, i64_wf w2, i64_wf w3, b4, b5, i64_wf w6⟩, rfl⟩
set_option maxRecDepth 100000 in
/-- An argument that is a rule. -/
theorem open_rule {r : Reach} {b0 : Nat} {v : Value} {d : DataW H} {p : List MemPlace} (hv : Value.okWide Try.prog W r b0 63 v) (h : DataW.Trod enc Try.prog W base spare held 63 v d p) : ∃ x : Ru, v = .agg (ruA x) ∧ x.wf := by
  obtain ⟨cs, rfl, hsz⟩ := okWide_struct Try.underlying63 hv
  obtain ⟨fuel, hf⟩ := h
  obtain ⟨x, hw, e⟩ := trod_rule hf
  refine ⟨x, ?_, hw⟩
  have e' : cs.toList = (ruA x).toList := by simpa [Value.cells] using e
  rw [Array.toList_inj.1 e']
set_option maxRecDepth 100000 in
/-- An argument that is a slice of rules. -/
theorem open_rules {v : Value} {d : DataW H} {p : List MemPlace} (h : DataW.Trod enc Try.prog W 0 (fun _ => true) true 26 v d p) (hv : ∃ A n c, v = .slice A n c) :
    ∃ L : List Ru, IsR W v L ∧ ∀ r ∈ L, r.wf := by
  obtain ⟨A, n, c, rfl, hnc, hcm, hr⟩ := slice_elems Try.underlying26 cellsRule (by decide) h hv
  rcases hr with rfl | ⟨a, rfl, hc⟩
  · exact ⟨[], ⟨A, c, rfl, hnc, hcm, Rs.nil _ _⟩, fun r hr => by simp at hr⟩
  · obtain ⟨l, hl, hp⟩ := list_of_fun n (fun i (x : Ru) => (∀ j, j < 7 → W.cell? (a.add (i * 7 + j)) = (ruA x)[j]?) ∧ x.wf) (fun i hi => by
      obtain ⟨cs, m, y, hlen, hat, hy⟩ := hc i hi
      obtain ⟨r, hw, rfl⟩ := trod_rule hy
      exact ⟨r, fun j hj => by rw [hat j hj]; simp, hw⟩)
    subst hl
    refine ⟨l, ⟨_, c, rfl, hnc, hcm, fun h0 => ?_⟩, fun r hr => ?_⟩
    · have f0 := (hp 0 _ (List.getElem?_eq_getElem h0)).1 0 (by decide)
      have f0' : W.cell? (a.add (0 * 7 + 0)) = some (.int .i64 l[0].id) := f0
      have hB := World.block_lt_of_cell? W _ f0'
      rw [addr_block] at hB
      have hsp : a.spot = none := by
        cases hs : a.spot with
        | none => rfl
        | some s =>
          rw [show a.add (0 * 7 + 0) = a by simp [Addr.add]] at f0'
          unfold World.cell? at f0'
          rw [hs] at f0'
          split at f0' <;> simp at f0'
      obtain ⟨b, o, sp⟩ := a
      obtain rfl : sp = none := hsp
      refine ⟨b, o, rfl, hB, fun k hk j hj => ?_⟩
      have f1 := (hp k _ (List.getElem?_eq_getElem hk)).1 j hj
      rw [addr_off, ← Nat.add_assoc] at f1
      exact f1
    · obtain ⟨k, hk, rfl⟩ := List.getElem_of_mem hr
      exact (hp k _ (List.getElem?_eq_getElem hk)).2
/-- A number, by its cell. -/
theorem trod_num {m : Nat} {cs : List Value} {y : DataW H × List MemPlace} (h : DataW.trod enc Try.prog W base spare held m 3 cs = some y) (hl : cs.length = 1) : ∃ x : Int, isI x ∧ cs = (intA x).toList := by
  match cs, hl with
  | [c0], _ =>
    obtain ⟨z0, q0, _, w0⟩ := DataW.trod_int Try.underlying3 h
    injection q0 with q0
    subst q0
    exact ⟨z0, i64_wf w0, rfl⟩
set_option maxRecDepth 100000 in
/-- A port, by its cells. -/
theorem trod_port {m : Nat} {cs : List Value} {y : DataW H × List MemPlace} (h : DataW.trod enc Try.prog W base spare held m 34 cs = some y) (hl : cs.length = 2) : ∃ p : Pt, isPt p ∧ cs = (ptA p).toList := by
  match cs, hl with
  | [c0, c1], _ =>
    obtain ⟨y2, y3, m2, _, _, h6, h7⟩ := trod_struct2 Try.underlying34 h
    simp only [cells3, List.drop_zero, List.take_succ_cons, List.take_zero, List.drop_succ_cons] at h6 h7
    obtain ⟨z0, q0, _, w0⟩ := DataW.trod_int Try.underlying3 h6
    obtain ⟨z1, q1, _, w1⟩ := DataW.trod_int Try.underlying3 h7
    injection q0 with q0; injection q1 with q1
    subst q0 q1
    exact ⟨⟨z0, z1⟩, ⟨i64_wf w0, i64_wf w1⟩, rfl⟩
set_option maxRecDepth 100000 in
/-- A link, by its cells. -/
theorem trod_link {m : Nat} {cs : List Value} {y : DataW H × List MemPlace} (h : DataW.trod enc Try.prog W base spare held m 67 cs = some y) (hl : cs.length = 4) : ∃ l : Lk, (isPt l.a ∧ isPt l.b) ∧ cs = (lkA l).toList := by
  match cs, hl with
  | [c0, c1, c2, c3], _ =>
    obtain ⟨y2, y3, m2, _, _, h6, h7⟩ := trod_struct2 Try.underlying67 h
    simp only [cellsPort, List.drop_zero, List.take_succ_cons, List.take_zero, List.drop_succ_cons] at h6 h7
    obtain ⟨p, hp, e0⟩ := trod_port h6 rfl
    obtain ⟨q, hq, e1⟩ := trod_port h7 rfl
    injection e0 with e0 e2
    injection e2 with e2
    injection e1 with e1 e3
    injection e3 with e3
    subst e0 e1 e2 e3
    exact ⟨⟨p, q⟩, ⟨hp, hq⟩, rfl⟩
set_option maxRecDepth 100000 in
/-- An argument that is a port. -/
theorem open_port {r : Reach} {b0 : Nat} {v : Value} {d : DataW H} {p : List MemPlace} (hv : Value.okWide Try.prog W r b0 34 v) (h : DataW.Trod enc Try.prog W base spare held 34 v d p) : ∃ x : Pt, v = .agg (ptA x) ∧ isPt x := by
  obtain ⟨cs, rfl, hsz⟩ := okWide_struct Try.underlying34 hv
  rw [cellsPort] at hsz
  obtain ⟨fuel, hf⟩ := h
  obtain ⟨x, hx, e⟩ := trod_port hf (by simpa [Value.cells] using hsz)
  refine ⟨x, ?_, hx⟩
  have e' : cs.toList = (ptA x).toList := by simpa [Value.cells] using e
  rw [Array.toList_inj.1 e']
set_option maxRecDepth 100000 in
/-- An argument that is a topology. -/
theorem open_topo {r : Reach} {b0 : Nat} {v : Value} {d : DataW H} {p : List MemPlace} (hv : Value.okWide Try.prog W r b0 25 v) (h : DataW.Trod enc Try.prog W 0 (fun _ => true) true 25 v d p) : ∃ (v0 v1 : Value) (ps : List Int) (ls : List Lk), v = .agg #[v0, v1] ∧ IsT W v0 v1 ps ls ∧ TW ps ls := by
  obtain ⟨v0, v1, y0, y1, n, rfl, _, _, h0, h1⟩ := Joins.open_agg2 Try.underlying25 (by kernel_rfl) (by kernel_rfl) hv h
  obtain ⟨L, hL, qL⟩ := open_vec intA_size (by decide) Try.underlying22 cells3 (fun m cs y hy hl => trod_num hy hl) h0
  obtain ⟨M, hM, qM⟩ := open_vec lkA_size (by decide) Try.underlying23 cellsLink (fun m cs y hy hl => trod_link hy hl) h1
  exact ⟨v0, v1, L, M, rfl, ⟨hL, hM⟩, qL, qM⟩
set_option maxRecDepth 100000 in
/-- An array of two numbers. -/
theorem open_arr2 {r : Reach} {b0 : Nat} {v : Value} {d : DataW H} {p : List MemPlace} (hv : Value.okWide Try.prog W r b0 48 v) (h : DataW.Trod enc Try.prog W 0 (fun _ => true) true 48 v d p) : ∃ (a b : Int), v = .agg #[.int .i64 a, .int .i64 b] ∧ isI a ∧ isI b := by
  simp only [Value.okWide, Try.underlying48] at hv
  obtain ⟨cs, rfl, hsz, _⟩ := hv
  rw [cellsTwo] at hsz
  obtain ⟨fuel, hf⟩ := h
  obtain ⟨xs, m, _, _, hcl, hxl, hi⟩ := DataW.trod_array Try.underlying48 hf
  obtain ⟨c0, c1, rfl⟩ : ∃ c0 c1, cs = #[c0, c1] := Joins.array2 hsz
  have h0 := hi 0 (by decide)
  have h1 := hi 1 (by decide)
  rw [List.getElem?_eq_getElem (by omega)] at h0 h1
  simp only [cells3, Value.cells, Nat.zero_mul, Nat.one_mul, List.drop_zero, List.take_succ_cons, List.take_zero, List.drop_succ_cons] at h0 h1
  obtain ⟨z0, q0, _, w0⟩ := DataW.trod_int Try.underlying3 h0
  obtain ⟨z1, q1, _, w1⟩ := DataW.trod_int Try.underlying3 h1
  injection q0 with q0
  injection q1 with q1
  subst q0 q1
  exact ⟨z0, z1, rfl, i64_wf w0, i64_wf w1⟩
theorem array3 {α : Type} {cs : Array α} (h : cs.size = 3) : ∃ a b c, cs = #[a, b, c] := by
  obtain ⟨l⟩ := cs
  match l, h with
  | [a, b, c], _ => exact ⟨a, b, c, rfl⟩
set_option maxRecDepth 100000 in
end
end Go.Proofs.Ytmndgbpfophniaa
