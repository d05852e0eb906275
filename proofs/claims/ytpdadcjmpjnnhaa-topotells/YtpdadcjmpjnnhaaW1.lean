/- The laws' own words: the program's calls, as the chapter asks them; two, alive, fits. -/
import Derived.Test.YtpdadcjmpjnnhaaT7
import Derived.Test.YtpdadcjmpjnnhaaT4
import Derived.Test.YtpdadcjmpjnnhaaT5
import Derived.Test.YtpdadcjmpjnnhaaT6
namespace Go.Proofs.Ytpdadcjmpjnnhaa
open Go.RowKit Go.Shelf

/-- Numbers of 64 bits. -/
def isPt (p : Pt) : Prop := isI p.d ∧ isI p.p
structure TW (ps : List Int) (ls : List Lk) : Prop where
  nums : ∀ x ∈ ps, isI x
  links : ∀ l ∈ ls, isPt l.a ∧ isPt l.b
theorem TW.pt {ps : List Int} {ls : List Lk} (h : TW ps ls) {q : Pt} (hq : q ∈ ends ls) : isPt q := by
  obtain ⟨l, hl, rfl | rfl⟩ := mem_ends.1 hq
  · exact (h.links l hl).1
  · exact (h.links l hl).2
/-- The program's calls. -/
structure Own : Prop where
  right : ∀ {vp vl : Value} (ps : List Int) (ls : List Lk) (w : World), TW ps ls → IsT w vp vl ps ls → Calls Try.prog 10 #[.agg #[vp, vl]] w fun e w' => e = .returned (.bool (rightT ps ls)) ∧ Below w.heap.size w w'
  same : ∀ {vp vl up ul : Value} (ps qs : List Int) (ls ms : List Lk) (w : World), TW ps ls → TW qs ms → IsT w vp vl ps ls → IsT w up ul qs ms → Calls Try.prog 11 #[.agg #[vp, vl], .agg #[up, ul]] w fun e w' => e = .returned (.bool (decide (ps = qs ∧ ls = ms))) ∧ Below w.heap.size w w'
  has : ∀ {vp vl : Value} (ps : List Int) (ls : List Lk) (p : Pt) (w : World), RT ps ls → TW ps ls → isPt p → IsT w vp vl ps ls → Calls Try.prog 15 #[.agg #[vp, vl], .agg (ptA p)] w fun e w' => e = .returned (.bool (hasT ps p)) ∧ Below w.heap.size w w'
  next : ∀ {vp vl : Value} (ps : List Int) (ls : List Lk) (p : Pt) (w : World), RT ps ls → TW ps ls → isPt p → IsT w vp vl ps ls → Calls Try.prog 13 #[.agg #[vp, vl], .agg (ptA p)] w fun e w' => e = .returned (nextV (nextT ls p)) ∧ Below w.heap.size w w'
  edges : ∀ {vp vl : Value} (ps : List Int) (ls : List Lk) (w : World), RT ps ls → TW ps ls → IsT w vp vl ps ls → Calls Try.prog 18 #[.agg #[vp, vl]] w (EdgOut (edgesT ps ls) w)
  reaches : ∀ {vp vl : Value} (ps : List Int) (ls : List Lk) (a b : Int) (w : World), RT ps ls → TW ps ls → isI a → isI b → IsT w vp vl ps ls → Calls Try.prog 21 #[.agg #[vp, vl], .int .i64 a, .int .i64 b] w fun e w' => e = .returned (.bool (reachT ps ls a b)) ∧ Below w.heap.size w w'
  fits : ∀ {vp vl vr : Value} (ps : List Int) (ls : List Lk) (L : List Ru) (w : World), RT ps ls → TW ps ls → (∀ r ∈ L, r.wf) → allB L = true → IsT w vp vl ps ls → IsR w vr L → Calls Try.prog 23 #[.agg #[vp, vl], vr] w fun e w' => e = .returned (.bool (fitsT ps L)) ∧ Below w.heap.size w w'

def twoP : List Int := [2, 1, 1]
def twoL : List Lk := [⟨⟨0, 1⟩, ⟨1, 0⟩⟩]
theorem two_right : RT twoP twoL := (rightT_iff _ _).1 (by decide +kernel)
theorem two_w : TW twoP twoL := ⟨by simp [twoP, isI], by simp [twoL, isPt, isI]⟩
theorem two_next : nextT twoL ⟨1, 0⟩ = some ⟨0, 1⟩ := by decide +kernel
theorem two_edges : (edgesT twoP twoL).length = 2 := by decide +kernel
theorem two_r1 : reachT twoP twoL 1 0 = true := by decide +kernel
theorem two_r2 : reachT twoP twoL 1 2 = false := by decide +kernel
def TwoOut (w : World) (e : Ending) (w' : World) : Prop := ∃ vp vl, e = .returned (.agg #[vp, vl]) ∧ IsT w' vp vl twoP twoL ∧ Below w.heap.size w w'
set_option maxRecDepth 100000 in
set_option maxHeartbeats 2000000 in
theorem two_any (w : World) : Calls Try.prog 25 #[] w (TwoOut w) := by
  go_enter Try.func25, Try.ntmps25
  go_wp2
  refine bodyPost_ret (results_cell_row rfl _ _ w.heap.size 25 _ (0, 0) _ rfl (((At.new w _ _).alloc _).alloc _) Try.underlying25 rfl (by kernel_rfl)) rfl ?_
  exact ⟨_, _, rfl, ⟨isF_of_at intA_size (L := twoP) (c := 3) ((At.new1 w _ _ _).alloc _) rfl (by decide) (by decide), isF_of_at lkA_size (L := twoL) (c := 1) (At.new2 w _ _ _ _) rfl (by decide) (by decide)⟩, (((Below.refl _ _).alloc (Nat.le_refl _) _).alloc (by simp) _).alloc (by simp; omega) _⟩

set_option maxRecDepth 100000 in
set_option maxHeartbeats 2000000 in
/-- fits. -/
theorem lfits_any {vp vl : Value} (ps : List Int) (ls : List Lk) (w : World) (h : IsT w vp vl ps ls) : Calls Try.prog 7 #[.agg #[vp, vl]] w fun e w' => e = .returned (.bool (decide (ps.length ≤ 30) && decide (ls.length ≤ 30))) ∧ Below w.heap.size w w' := by
  obtain ⟨⟨A1, c1, rfl, n1, m1, z1⟩, ⟨A2, c2, rfl, n2, m2, z2⟩⟩ := h
  have hM : ps.length ≤ 9223372036854775807 := Nat.le_trans n1 m1
  have hL : ls.length ≤ 9223372036854775807 := Nat.le_trans n2 m2
  have D0 := At.new w #[.slice A1 ps.length c1, .slice A2 ls.length c2] 25
  have b0 : Below w.heap.size w (w.alloc (.cells #[.slice A1 ps.length c1, .slice A2 ls.length c2] 25)) := (Below.refl _ w).alloc (Nat.le_refl _) _
  have x0 := (D0.cell 0).trans rfl
  have x1 := (D0.cell 1).trans rfl
  by_cases h1 : ps.length ≤ 30
  · have e1 : decide ((ps.length : Int) ≤ 30) = true := decide_eq_true (by omega)
    have f1 : decide (ps.length ≤ 30) = true := decide_eq_true h1
    by_cases h2 : ls.length ≤ 30
    · have e2 : decide ((ls.length : Int) ≤ 30) = true := decide_eq_true (by omega)
      have f2 : decide (ls.length ≤ 30) = true := decide_eq_true h2
      rw [f1, f2]
      clear f1 f2 h1 h2
      go_enter Try.func7, Try.ntmps7
      go_wp2
      go_ret
      exact ⟨rfl, b0⟩
    · have e2 : decide ((ls.length : Int) ≤ 30) = false := decide_eq_false (by omega)
      have f2 : decide (ls.length ≤ 30) = false := decide_eq_false h2
      rw [f1, f2]
      clear f1 f2 h1 h2
      go_enter Try.func7, Try.ntmps7
      go_wp2
      go_ret
      exact ⟨rfl, b0⟩
  · have e1 : decide ((ps.length : Int) ≤ 30) = false := decide_eq_false (by omega)
    have f1 : decide (ps.length ≤ 30) = false := decide_eq_false h1
    rw [f1]
    clear f1 h1
    go_enter Try.func7, Try.ntmps7
    go_wp2
    go_ret
    exact ⟨rfl, b0⟩
theorem le2 {n : Nat} (h : n = 2) : decide ((n : Int) = 2) = true := decide_eq_true (by omega)
theorem ln1 (O : Own) {vp vl : Value} (u : World) (h : IsT u vp vl twoP twoL) : Calls Try.prog 13 #[.agg #[vp, vl], .agg #[.int .i64 1, .int .i64 0]] u fun e w' => e = .returned (.tuple #[.agg #[.int .i64 0, .int .i64 1], .bool true]) ∧ Below u.heap.size u w' := by
  have := O.next twoP twoL ⟨1, 0⟩ u two_right two_w (by simp [isPt, isI]) h; rw [two_next] at this; exact this
theorem lr1 (O : Own) {vp vl : Value} (u : World) (h : IsT u vp vl twoP twoL) : Calls Try.prog 10 #[.agg #[vp, vl]] u fun e w' => e = .returned (.bool true) ∧ Below u.heap.size u w' := by
  have := O.right twoP twoL u two_w h; rw [(rightT_iff _ _).2 two_right] at this; exact this
theorem lh1 (O : Own) {vp vl : Value} (u : World) (h : IsT u vp vl twoP twoL) : Calls Try.prog 21 #[.agg #[vp, vl], .int .i64 1, .int .i64 0] u fun e w' => e = .returned (.bool true) ∧ Below u.heap.size u w' := by
  have := O.reaches twoP twoL 1 0 u two_right two_w (by simp [isI]) (by simp [isI]) h; rw [two_r1] at this; exact this
theorem lh2 (O : Own) {vp vl : Value} (u : World) (h : IsT u vp vl twoP twoL) : Calls Try.prog 21 #[.agg #[vp, vl], .int .i64 1, .int .i64 2] u fun e w' => e = .returned (.bool false) ∧ Below u.heap.size u w' := by
  have := O.reaches twoP twoL 1 2 u two_right two_w (by simp [isI]) (by simp [isI]) h; rw [two_r2] at this; exact this
def LenOut (w : World) (e : Ending) (w' : World) : Prop := ∃ A c, e = .returned (.slice A 2 c) ∧ Below w.heap.size w w'
theorem ld1 (O : Own) {vp vl : Value} (u : World) (h : IsT u vp vl twoP twoL) : Calls Try.prog 18 #[.agg #[vp, vl]] u (LenOut u) := by
  refine (O.edges twoP twoL u two_right two_w h).mono ?_
  rintro e w' ⟨v, rfl, ⟨A, c, rfl, _⟩, hb⟩
  rw [two_edges]
  exact ⟨A, c, rfl, hb⟩
set_option maxRecDepth 100000 in
set_option maxHeartbeats 4000000 in
/-- alive. -/
theorem alive_any (O : Own) (w : World) : Calls Try.prog 8 #[] w fun e w' => e = .returned (.bool true) ∧ Below w.heap.size w w' := by
  have hq : ∀ u : World, (binOp .eql 27 (.agg #[.int .i64 0, .int .i64 1]) (.agg #[.int .i64 0, .int .i64 1])).run Try.prog u = .ok (.bool true) u := fun u => eql_pt ⟨0, 1⟩ ⟨0, 1⟩ u
  go_enter Try.func8, Try.ntmps8
  go_wp2_with fail
  refine (two_any _).mono ?_
  rintro e w1 ⟨vp, vl, rfl, hv, b1⟩
  have hm := ln1 O _ hv
  obtain ⟨⟨A1, c1, rfl, _⟩, ⟨A2, c2, rfl, _⟩⟩ := hv
  go_wp2_with fail
  refine hm.mono ?_
  rintro e w2 ⟨rfl, b2⟩
  have bb2 := b1.trans (b2.mono b1.size)
  clear hm b1 b2
  have X := At.new w2 #[.int .i64 0, .int .i64 1] 27
  have bb3 := bb2.alloc bb2.size (.cells #[.int .i64 0, .int .i64 1] 27)
  go_wp2_with fail
  refine (two_any _).mono ?_
  rintro e w3 ⟨vp, vl, rfl, hv, b3⟩
  have hm := lr1 O _ hv
  obtain ⟨⟨A3, c3, rfl, _⟩, ⟨A4, c4, rfl, _⟩⟩ := hv
  go_wp2_with fail
  refine hm.mono ?_
  rintro e w4 ⟨rfl, b4⟩
  have b34 := b3.trans (b4.mono b3.size)
  have bb4 := bb3.trans (b34.mono bb3.size)
  have X4 := X.belows b34
  have y0 := (X4.cell 0).trans rfl
  have y1 := (X4.cell 1).trans rfl
  clear hm b3 b4 X b34 bb3 bb2
  go_wp2_with fail
  refine (two_any _).mono ?_
  rintro e w5 ⟨vp, vl, rfl, hv, b5⟩
  have hm := ld1 O _ hv
  obtain ⟨⟨A5, c5, rfl, _⟩, ⟨A6, c6, rfl, _⟩⟩ := hv
  go_wp2_with fail
  refine hm.mono ?_
  rintro e w6 ⟨A7, c7, rfl, b6⟩
  have b56 := b5.trans (b6.mono b5.size)
  have bb6 := bb4.trans (b56.mono bb4.size)
  clear hm b5 b6 b56 bb4 y0 y1 X4
  go_wp2_with fail
  refine (two_any _).mono ?_
  rintro e w7 ⟨vp, vl, rfl, hv, b7⟩
  have hm := lh1 O _ hv
  obtain ⟨⟨A8, c8, rfl, _⟩, ⟨A9, c9, rfl, _⟩⟩ := hv
  go_wp2_with fail
  refine hm.mono ?_
  rintro e w8 ⟨rfl, b8⟩
  have bb8 := bb6.trans ((b7.trans (b8.mono b7.size)).mono bb6.size)
  clear hm b7 b8 bb6
  go_wp2_with fail
  refine (two_any _).mono ?_
  rintro e w9 ⟨vp, vl, rfl, hv, b9⟩
  have hm := lh2 O _ hv
  obtain ⟨⟨B1, d1, rfl, _⟩, ⟨B2, d2, rfl, _⟩⟩ := hv
  go_wp2_with fail
  refine hm.mono ?_
  rintro e w10 ⟨rfl, b10⟩
  have bb10 := bb8.trans ((b9.trans (b10.mono b9.size)).mono bb8.size)
  clear hm b9 b10 bb8
  go_wp2
  go_ret
  exact ⟨rfl, bb10⟩
end Go.Proofs.Ytpdadcjmpjnnhaa
