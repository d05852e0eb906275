/- Contract: an act of a script upon a table and the document's ranges. -/
import Derived.Test.YtjljkpecpofbcaaD4
namespace Go.Proofs.Ytjljkpecpofbcaa
open Go.RowKit Go.Shelf

theorem At.held {W W' : World} {B Bh : Nat} {cs cs' : Array Value} {t : TypeId} (h : At W B cs t) (hA : At W Bh cs' 28) (ht : t ≠ 28) (hg : W.grownBy W' (some Bh)) : At W' B cs t :=
  h.kept hg fun e => by
    injection e with e
    subst e
    have := (show W.heap[B]? = _ from h).symm.trans hA
    injection this with this
    injection this with _ this
    exact ht this
theorem IsT.held {W W' : World} {Bh : Nat} {cs' : Array Value} (hA : At W Bh cs' 28) (hg : W.grownBy W' (some Bh)) : ∀ {v : Value} {t : Bt}, IsT W v t → IsT W' v t
  | _, .nil, h => h
  | _, .node _ _ _, ⟨B, vl, vr, e, ha, hl, hr⟩ => ⟨B, vl, vr, e, ha.held hA (by decide) hg, IsT.held hA hg hl, IsT.held hA hg hr⟩
theorem IsTree.held {W W' : World} {Bh : Nat} {cs' : Array Value} {v : Value} {L : List (Int × Int)} (h : IsTree W v L) (hA : At W Bh cs' 28) (hg : W.grownBy W' (some Bh)) : IsTree W' v L := by
  rcases h with h | ⟨h1, h2, B, vn, t, e, ha, hi, he, hf⟩
  · exact .inl h
  · exact .inr ⟨h1, h2, B, vn, t, e, ha.held hA (by decide) hg, hi.held hA hg, he, hf⟩
theorem IsTab.held {W W' : World} {Bh : Nat} {cs' : Array Value} {v : Value} {L : List (Nat × Nat)} (h : IsTab W v L) (hA : At W Bh cs' 28) (hg : W.grownBy W' (some Bh)) : IsTab W' v L := by
  obtain ⟨h1, B, vr, vc, R, C, e, ha, hr, hc, tr, tc⟩ := h
  exact ⟨h1, B, vr, vc, R, C, e, ha.held hA (by decide) hg, hr.held hA hg, hc.held hA hg, tr, tc⟩
theorem IsZ.held {W W' : World} {Bh : Nat} {cs' : Array Value} {v : Value} {L : List (Nat × Nat)} (h : IsZ W v L) (ht : Ty W v) (hA : At W Bh cs' 28) (hg : W.grownBy W' (some Bh)) : IsZ W' v L ∧ Ty W' v := by
  obtain ⟨A, c, e, h1, h2, h3⟩ := h
  have key : ∀ g o, A = some ⟨g, o, none⟩ → W'.heap[g]? = W.heap[g]? := fun g o eA => by
    obtain ⟨cur, hgc⟩ := ht A L.length c e g o eA
    refine hg.block g (Array.getElem?_eq_some_iff.1 hgc).1 fun e => ?_
    injection e with e
    subst e
    have := hgc.symm.trans hA
    injection this with this
    injection this with _ this
    cases this
  refine ⟨⟨A, c, e, h1, h2, fun hn => ?_⟩, fun A' n' c' e' g o eA => ?_⟩
  · obtain ⟨g, o, eA, hlt, hc⟩ := h3 hn
    have hb := key g o eA
    have hcell : ∀ j, W'.cell? ⟨g, j, none⟩ = W.cell? ⟨g, j, none⟩ := fun j => by unfold World.cell?; rw [hb]
    exact ⟨g, o, eA, Nat.lt_of_lt_of_le hlt hg.size, fun k hk => ⟨(hcell _).trans (hc k hk).1, (hcell _).trans (hc k hk).2⟩⟩
  · rw [e] at e'
    injection e' with e1
    obtain ⟨cur, hgc⟩ := ht A L.length c e g o (e1.trans eA)
    exact ⟨cur, (key g o (e1.trans eA)).trans hgc⟩
/-- A table, and the document's ranges. -/
def Hd (W : World) (Bh : Nat) (L : List (Nat × Nat)) : Prop := ∃ (B : Nat) (A : Option Addr) (n c : Nat), At W Bh #[.pointer (some ⟨B, 0, none⟩), .slice A n c] 28 ∧ IsTab W (.pointer (some ⟨B, 0, none⟩)) L ∧ IsZ W (.slice A n c) L ∧ Ty W (.slice A n c)
theorem Hd.belows {W W' : World} {Bh : Nat} {L : List (Nat × Nat)} (h : Hd W Bh L) (hb : Below W.heap.size W W') : Hd W' Bh L := by
  obtain ⟨B, A, n, c, h1, h2, h3, h4⟩ := h
  exact ⟨B, A, n, c, h1.belows hb, h2.belows hb, h3.belows hb, h4.belows hb⟩
theorem Hd.rl {W : World} {Bh : Nat} {L : List (Nat × Nat)} (h : Hd W Bh L) : RL L := by
  obtain ⟨B, A, n, c, h1, h2, h3, h4⟩ := h
  exact h2.1
/-- What an act makes of the ranges. -/
def actL (L : List (Nat × Nat)) (d : Bool) (r : Nat × Nat) : List (Nat × Nat) := if d then L.erase r else if r.1 ≤ r.2 ∧ L.length < 500 then L ++ [r] else L
def Did (W : World) (Bh : Nat) (M : List (Nat × Nat)) (e : Ending) (W' : World) : Prop := e = .returned (.bool true) ∧ Hd W' Bh M ∧ W.grownBy W' (some Bh)
theorem grown_set (W : World) (B j : Nat) (v : Value) : W.grownBy (W.setCell ⟨B, j, none⟩ v) (some B) := ⟨rfl, rfl, rfl, by simp, fun k _ hne => Below.heap_setCell W _ v k (fun e => hne (by rw [e]))⟩
/-- Behind the two stores. -/
theorem hd_stored {W : World} {Bh B B0 : Nat} {v0 : Value} {A : Option Addr} {n c : Nat} {L : List (Nat × Nat)} (hA : At W Bh #[.pointer (some ⟨B0, 0, none⟩), v0] 28) (ht : IsTab W (.pointer (some ⟨B, 0, none⟩)) L) (hp : IsZ W (.slice A n c) L) (hy : Ty W (.slice A n c)) :
    Hd ((W.setCell ⟨Bh, 0, none⟩ (.pointer (some ⟨B, 0, none⟩))).setCell ⟨Bh, 1, none⟩ (.slice A n c)) Bh L ∧ W.grownBy ((W.setCell ⟨Bh, 0, none⟩ (.pointer (some ⟨B, 0, none⟩))).setCell ⟨Bh, 1, none⟩ (.slice A n c)) (some Bh) := by
  have hA2 := (hA.set0 0 (.pointer (some ⟨B, 0, none⟩))).set0 1 (.slice A n c)
  have hg : W.grownBy ((W.setCell ⟨Bh, 0, none⟩ (.pointer (some ⟨B, 0, none⟩))).setCell ⟨Bh, 1, none⟩ (.slice A n c)) (some Bh) := World.grownBy.trans (grown_set _ _ _ _) (grown_set _ _ _ _)
  obtain ⟨q1, q2⟩ := hp.held hy hA hg
  exact ⟨⟨B, A, n, c, hA2, ht.held hA hg, q1, q2⟩, hg⟩
/-- A table, or an error. -/
def ToutE (w : World) (M : List (Nat × Nat)) (ea : Int) (e : Ending) (w' : World) : Prop := ∃ p, e = .returned (.tuple #[.pointer p, .int .i64 ea]) ∧ (ea = 0 → IsTab w' (.pointer p) M) ∧ (ea ≠ 0 → p = none) ∧ Below w.heap.size w w'
/-- Ranges, or an error. -/
def LoutE (w : World) (M : List (Nat × Nat)) (ea : Int) (e : Ending) (w' : World) : Prop := ∃ A n c, e = .returned (.tuple #[.slice A n c, .int .i64 ea]) ∧ (ea = 0 → IsZ w' (.slice A n c) M ∧ Ty w' (.slice A n c)) ∧ Below w.heap.size w w'
theorem LOut.pack {w w' : World} {M : List (Nat × Nat)} {e : Ending} (h : LOut w M e w') : LoutE w M 0 e w' := by
  obtain ⟨v', rfl, hz, hy, hb⟩ := h
  obtain ⟨A, c, rfl, q⟩ := hz
  exact ⟨A, _, c, rfl, fun _ => ⟨⟨A, c, rfl, q⟩, hy⟩, hb⟩
theorem LErr.pack {w w' : World} {M : List (Nat × Nat)} {n : Int} {e : Ending} (hn : n ≠ 0) (h : LErr w n e w') : LoutE w M n e w' := by
  obtain ⟨rfl, hb⟩ := h
  exact ⟨none, 0, 0, rfl, fun e => absurd e hn, hb⟩
theorem TabOut.pack {w w' : World} {M : List (Nat × Nat)} {e : Ending} (h : TabOut w M e w') : ToutE w M 0 e w' := by
  obtain ⟨v', rfl, hz, hb⟩ := h
  obtain ⟨B, rfl⟩ := hz.ptr
  exact ⟨_, rfl, fun _ => hz, fun h => absurd rfl h, hb⟩
theorem ErrOut.pack {w w' : World} {M : List (Nat × Nat)} {n : Int} {e : Ending} (hn : n ≠ 0) (h : ErrOut w n e w') : ToutE w M n e w' := by
  obtain ⟨rfl, hb⟩ := h
  exact ⟨none, rfl, fun e => absurd e hn, fun _ => rfl, hb⟩
/-- Both ways to add. -/
theorem add_both (L : List (Nat × Nat)) (f t : Nat) (ht : t < 4294967296) (hL : RL L) : ∃ ea : Int, (ea = 0 → actL L false (f, t) = L ++ [(f, t)]) ∧ (ea ≠ 0 → actL L false (f, t) = L) ∧
    (∀ (v : Value) (W : World), IsTab0 W v L → Calls Try.prog 24 #[v, .agg #[.int .u32 f, .int .u32 t]] W (ToutE W (L ++ [(f, t)]) ea)) ∧
    (∀ (v : Value) (W : World), IsZ W v L → Calls Try.prog 26 #[v, .agg #[.int .u32 f, .int .u32 t]] W (LoutE W (L ++ [(f, t)]) ea)) := by
  by_cases h1 : f ≤ t
  · by_cases h2 : L.length < 500
    · exact ⟨0, fun _ => by simp [actL, h1, h2], fun h => absurd rfl h, fun v W h => (add_ok L f t W h h1 ht h2).mono fun _ _ h => h.pack, fun v W h => (radd_ok L f t W h h1 h2).mono fun _ _ h => h.pack⟩
    · have h3 : L.length = 500 := by have := hL.2; omega
      exact ⟨41, fun h => absurd h (by decide), fun _ => by simp [actL, h3], fun v W h => (add_full L f t W h h1 h3).mono fun _ _ h => h.pack (by decide), fun v W h => (radd_full L f t W h h1 h3).mono fun _ _ h => h.pack (by decide)⟩
  · exact ⟨51, fun h => absurd h (by decide), fun _ => by simp [actL, h1], fun v W h => (add_wrong L f t W h (by omega)).mono fun _ _ h => h.pack (by decide), fun v W h => (radd_wrong L f t W h (by omega)).mono fun _ _ h => h.pack (by decide)⟩
/-- Both ways to drop. -/
theorem drop_both (L : List (Nat × Nat)) (f t : Nat) (hf : f < 4294967296) (ht : t < 4294967296) (hL : RL L) : ∃ ea : Int, (ea ≠ 0 → actL L true (f, t) = L) ∧ (ea = 0 ↔ (f, t) ∈ L) ∧
    (∀ (v : Value) (W : World), IsTab0 W v L → Calls Try.prog 25 #[v, .agg #[.int .u32 f, .int .u32 t]] W (ToutE W (actL L true (f, t)) ea)) ∧
    (∀ (v : Value) (W : World), IsZ W v L → Calls Try.prog 27 #[v, .agg #[.int .u32 f, .int .u32 t]] W (LoutE W (actL L true (f, t)) ea)) := by
  have e1 : actL L true (f, t) = L.erase (f, t) := rfl
  by_cases h : (f, t) ∈ L
  · exact ⟨0, fun h => absurd rfl h, ⟨fun _ => h, fun _ => rfl⟩, fun v W hv => (drop5_ok L f t W hv h).mono fun _ _ h => h.pack, fun v W hv => (rdrop_any L f t W hv hL.2).mono fun _ _ hd => (hd.1 h).pack⟩
  · exact ⟨51, fun _ => by rw [e1, List.erase_of_not_mem h], ⟨fun h => absurd h (by decide), fun h2 => absurd h2 h⟩, fun v W hv => (drop5_no L f t W hf ht hv h).mono fun _ _ h => h.pack (by decide), fun v W hv => (rdrop_any L f t W hv hL.2).mono fun _ _ hd => (hd.2 h).pack (by decide)⟩
end Go.Proofs.Ytjljkpecpofbcaa
