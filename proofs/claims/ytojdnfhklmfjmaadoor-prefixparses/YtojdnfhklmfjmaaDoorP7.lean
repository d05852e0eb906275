/- Contract: the law's 'same'. -/
import Derived.Test.YtojdnfhklmfjmaaDoorP6
namespace Go.Proofs.YtojdnfhklmfjmaaDoor
open Go.RowKit

theorem pcells_at (L : List (Nat × Nat)) (k : Nat) (hk : k < L.length) : (pcells L)[2 * k]? = some (.int .u32 L[k].1) ∧ (pcells L)[2 * k + 1]? = some (.int .i64 L[k].2) := by
  induction L generalizing k with
  | nil => simp at hk
  | cons x L ih =>
    have e : pcells (x :: L) = .int .u32 x.1 :: .int .i64 x.2 :: pcells L := by simp [pcells]
    rw [e]
    match k with
    | 0 => simp
    | k + 1 =>
      have := ih k (by simpa using hk)
      rw [show 2 * (k + 1) = 2 * k + 1 + 1 by omega]
      simpa using this
theorem add_none (g j : Nat) : (⟨g, 0, none⟩ : Addr).add j = ⟨g, j, none⟩ := by unfold Addr.add; split <;> simp_all
/-- A slice of prefixes in memory: its form, and its cells. -/
theorem prow {w : World} {base : Nat} {v : Value} {L : List (Nat × Nat)} (h : w.ownsRow base 24 2 v L.length (pcells L)) : (v = .slice none 0 0 ∧ L = []) ∨ ∃ g cap, v = .slice (some ⟨g, 0, none⟩) L.length cap ∧ L.length ≤ cap ∧ base ≤ g ∧ g < w.heap.size ∧
    ∀ k (hk : k < L.length), w.cell? ⟨g, k * 2, none⟩ = some (.int .u32 L[k].1) ∧ w.cell? ⟨g, k * 2 + 1, none⟩ = some (.int .i64 L[k].2) := by
  rcases h.2 with ⟨rfl, h0⟩ | ⟨g, cap, cur, rfl, hb, hg, hnc, hm, _⟩
  · exact .inl ⟨rfl, List.eq_nil_of_length_eq_zero h0⟩
  · refine .inr ⟨g, cap, rfl, hnc, hb, (Array.getElem?_eq_some_iff.1 hg).1, fun k hk => ?_⟩
    obtain ⟨h1, h2⟩ := pcells_at L k hk
    have e1 := World.ownsRow.cells h (g := g) rfl _ _ h1
    have e2 := World.ownsRow.cells h (g := g) rfl _ _ h2
    rw [add_none, Nat.mul_comm] at e1 e2
    exact ⟨e1, e2⟩

theorem same_nil (w : World) : Calls Tryd.prog 17 #[.slice none 0 0, .slice none 0 0] w fun e w' => e = .returned (.bool true) ∧ Below w.heap.size w w' := by
  go_enter Tryd.func17, Tryd.ntmps17
  go_wp2
  go_loop [5] (fun i => i = .int .i64 0) (fun _ => 0)
  case atStart => rfl
  case round =>
    subst hrel
    go_wp2
    go_ret
    exact ⟨rfl, Below.refl _ _⟩
set_option maxRecDepth 100000 in
set_option maxHeartbeats 1000000 in
theorem same_some (g1 g2 c1 c2 : Nat) (L : List (Nat × Nat)) (w : World) (hL : L.length ≤ 62) (n1 : L.length ≤ c1) (n2 : L.length ≤ c2)
    (h1 : ∀ k (hk : k < L.length), w.cell? ⟨g1, k * 2, none⟩ = some (.int .u32 L[k].1) ∧ w.cell? ⟨g1, k * 2 + 1, none⟩ = some (.int .i64 L[k].2))
    (h2 : ∀ k (hk : k < L.length), w.cell? ⟨g2, k * 2, none⟩ = some (.int .u32 L[k].1) ∧ w.cell? ⟨g2, k * 2 + 1, none⟩ = some (.int .i64 L[k].2)) :
    Calls Tryd.prog 17 #[.slice (some ⟨g1, 0, none⟩) L.length c1, .slice (some ⟨g2, 0, none⟩) L.length c2] w fun e w' => e = .returned (.bool true) ∧ Below w.heap.size w w' := by
  have H1 := Lib.hid h1
  have H2 := Lib.hid h2
  clear h1 h2
  go_enter Tryd.func17, Tryd.ntmps17
  go_wp2
  go_loopw [5] (fun i wr => ∃ k : Nat, i = .int .i64 k ∧ k ≤ L.length ∧ ∃ q, wr = w.drewN q) (fun i _ => L.length - (intOf i).toNat)
  case atStart => exact ⟨0, rfl, by omega, 0, rfl⟩
  case round =>
    obtain ⟨k, rfl, hk, q, rfl⟩ := hrel
    by_cases hlt : k < L.length
    · obtain ⟨c10, c11⟩ := H1.out k hlt
      obtain ⟨c20, c21⟩ := H2.out k hlt
      generalize L[k] = x at c10 c11 c20 c21
      have i0 : (0 : Int) ≤ (k : Int) := by omega
      have i1 : (k : Int) < (L.length : Int) := by omega
      go_wp2_with fail
      go_quiet (fail)
      go_wp2
      go_roundw
      case rel => exact ⟨k + 1, by go_num, by omega, q + nq, rfl⟩
      case measure => simp [intOf]; omega
    · go_wp2
      go_ret
      exact ⟨rfl, bdrewN (Below.refl _ _) _⟩
/-- The law's 'same', of one list twice. -/
theorem same_any {b1 b2 : Nat} {v1 v2 : Value} (L : List (Nat × Nat)) (w : World) (hL : L.length ≤ 62) (h1 : w.ownsRow b1 24 2 v1 L.length (pcells L)) (h2 : w.ownsRow b2 24 2 v2 L.length (pcells L)) :
    Calls Tryd.prog 17 #[v1, v2] w fun e w' => e = .returned (.bool true) ∧ Below w.heap.size w w' := by
  rcases prow h1 with ⟨rfl, e⟩ | ⟨g1, c1, rfl, n1, _, _, r1⟩
  · subst e
    rcases h2.2 with ⟨rfl, _⟩ | ⟨g, cap, cur, rfl, _⟩
    · exact same_nil w
    · go_enter Tryd.func17, Tryd.ntmps17
      go_wp2
      go_loop [5] (fun i => i = .int .i64 0) (fun _ => 0)
      case atStart => rfl
      case round =>
        subst hrel
        go_wp2
        go_ret
        exact ⟨rfl, Below.refl _ _⟩
  · rcases prow h2 with ⟨rfl, e⟩ | ⟨g2, c2, rfl, n2, _, _, r2⟩
    · subst e
      go_enter Tryd.func17, Tryd.ntmps17
      go_wp2
      go_loop [5] (fun i => i = .int .i64 0) (fun _ => 0)
      case atStart => rfl
      case round =>
        subst hrel
        go_wp2
        go_ret
        exact ⟨rfl, Below.refl _ _⟩
    · exact same_some g1 g2 c1 c2 L w hL n1 n2 r1 r2
end Go.Proofs.YtojdnfhklmfjmaaDoor
