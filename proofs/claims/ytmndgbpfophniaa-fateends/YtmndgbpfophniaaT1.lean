/- Words: topologies in memory; ports, links as cells; when two are alike. The document's Has. -/
import Derived.Test.YtmndgbpfophniaaVec
import Derived.Test.YtmndgbpfophniaaPl
namespace Go.Proofs.Ytmndgbpfophniaa
open Go.RowKit Go.Shelf

def intA (x : Int) : Array Value := #[.int .i64 x]
def ptA (p : Pt) : Array Value := #[.int .i64 p.d, .int .i64 p.p]
def lkA (l : Lk) : Array Value := #[.int .i64 l.a.d, .int .i64 l.a.p, .int .i64 l.b.d, .int .i64 l.b.p]
theorem intA_size (x : Int) : (intA x).size = 1 := rfl
theorem ptA_size (p : Pt) : (ptA p).size = 2 := rfl
theorem lkA_size (l : Lk) : (lkA l).size = 4 := rfl
theorem ptA_one (p : Pt) : ∀ u ∈ (ptA p).toList, u.oneCell' = true := by
  intro u hu; simp [ptA] at hu; rcases hu with rfl | rfl <;> rfl
/-- A topology in memory. -/
def IsT (w : World) (vp vl : Value) (ps : List Int) (ls : List Lk) : Prop := IsF 1 intA w vp ps ∧ IsF 4 lkA w vl ls
theorem IsT.belows {w w' : World} {vp vl : Value} {ps : List Int} {ls : List Lk} (h : IsT w vp vl ps ls) (hb : Below w.heap.size w w') : IsT w' vp vl ps ls := ⟨h.1.belows hb, h.2.belows hb⟩

theorem infoPt : (Try.prog.info? 34).map (fun i => (i.zero, i.size, i.bytes)) = some (some (.agg (ptA ⟨0, 0⟩)), 2, 16) := by kernel_rfl
theorem fsPt : Try.prog.underlying 34 = some (.struct (Try.prog.fieldsOf 34)) := by kernel_rfl
theorem hdPt : Try.prog.stoodInHeld 34 = false := by kernel_rfl
theorem eq_pt (x y : Pt) (w : World) : (Op.equalIn 10000 34 (.agg (ptA x)) (.agg (ptA y))).run Try.prog w = .ok (decide (x = y)) w := by
  obtain ⟨a, b⟩ := x
  obtain ⟨a', b'⟩ := y
  have u1 := Try.underlying34
  have hPt := (Option.some.inj (fsPt.symm.trans u1))
  injection hPt with hPt
  rw [run_equalIn_agg w 9999 _ _ _ fsPt hdPt, hPt]
  simp [ptA, go_sem, Op.eqFields, Pt.eq_iff]
  by_cases h1 : a = a'
  · by_cases h2 : b = b' <;> simp [h1, h2]
  · simp [h1]
theorem eql_pt (x y : Pt) (w : World) : (binOp .eql 34 (.agg (ptA x)) (.agg (ptA y))).run Try.prog w = .ok (.bool (decide (x = y))) w := by
  rw [run_eql_struct, eq_pt]; rfl
theorem neq_pt (x y : Pt) (w : World) : (binOp .neq 34 (.agg (ptA x)) (.agg (ptA y))).run Try.prog w = .ok (.bool (!decide (x = y))) w := by
  rw [run_neq_struct, eq_pt]; rfl

set_option maxRecDepth 100000 in
set_option maxHeartbeats 1000000 in
/-- The document's Has. -/
theorem rhas_any {vp vl : Value} (ps : List Int) (ls : List Lk) (p : Pt) (w : World) (h : IsT w vp vl ps ls) : Calls Try.prog 36 #[.agg #[vp, vl], .agg (ptA p)] w fun e w' => e = .returned (.bool (hasT ps p)) ∧ Below w.heap.size w w' := by
  obtain ⟨⟨A1, c1, rfl, n1, m1, z1⟩, ⟨A2, c2, rfl, n2, m2, _⟩⟩ := h
  have hL : ps.length ≤ 9223372036854775807 := Nat.le_trans n1 m1
  obtain ⟨d, q⟩ := p
  have bf : ∀ k, Below w.heap.size w (((w.alloc (.cells #[.slice A1 ps.length c1, .slice A2 ls.length c2] 25)).alloc (.cells #[.int .i64 d, .int .i64 q] 34)).drewN k) := fun k => bdrewN (((Below.refl _ w).alloc (Nat.le_refl _) _).alloc (by simp) _) k
  unfold hasT ptA
  dsimp only
  by_cases h0 : 0 ≤ d
  · have e0 : decide (0 ≤ d) = true := decide_eq_true h0
    by_cases h1 : d < (ps.length : Int)
    · have e1 : decide (d < (ps.length : Int)) = true := decide_eq_true h1
      obtain ⟨k, rfl⟩ := Int.eq_ofNat_of_zero_le h0
      have hk : k < ps.length := by omega
      obtain ⟨g, o, rfl, hg, hc⟩ := z1.at k hk
      have c0 : w.cell? ⟨g, o + k, none⟩ = some (.int .i64 ps[k]) := by have := hc 0 (by decide); simpa [intA] using this
      have eg : ps[(k : Int).toNat]?.getD 0 = ps[k] := by simp [hk]
      rw [eg]
      generalize ps[k] = x at c0 ⊢
      clear z1 hc eg
      by_cases h2 : 0 ≤ q
      · have e2 : decide (0 ≤ q) = true := decide_eq_true h2
        rw [e0, e1, e2]
        simp only [Bool.true_and]
        have c1 : ((w.alloc (.cells #[.slice (some ⟨g, o, none⟩) ps.length c1, .slice A2 ls.length c2] 25)).alloc (.cells #[.int .i64 k, .int .i64 q] 34)).cell? ⟨g, o + k, none⟩ = some (.int .i64 x) := ((bf 0).cell (p := ⟨g, o + k, none⟩) hg).trans c0
        go_enter Try.func36, Try.ntmps36
        go_wp2_with fail
        go_quiet (fail)
        go_wp2
        go_ret
        exact ⟨rfl, bf _⟩
      · have e2 : decide (0 ≤ q) = false := decide_eq_false h2
        rw [e0, e1, e2]
        simp only [Bool.true_and, Bool.false_and]
        go_enter Try.func36, Try.ntmps36
        go_wp2_with fail
        go_quiet (fail)
        go_wp2
        go_ret
        exact ⟨rfl, bf _⟩
    · have e1 : decide (d < (ps.length : Int)) = false := decide_eq_false h1
      rw [e0, e1]
      simp only [Bool.true_and, Bool.false_and]
      clear z1
      go_enter Try.func36, Try.ntmps36
      go_wp2_with fail
      go_quiet (fail)
      go_wp2
      go_ret
      exact ⟨rfl, bf _⟩
  · have e0 : decide (0 ≤ d) = false := decide_eq_false h0
    rw [e0]
    simp only [Bool.false_and]
    clear z1
    go_enter Try.func36, Try.ntmps36
    go_wp2_with fail
    go_quiet (fail)
    go_wp2
    go_ret
    exact ⟨rfl, bf _⟩
end Go.Proofs.Ytmndgbpfophniaa
