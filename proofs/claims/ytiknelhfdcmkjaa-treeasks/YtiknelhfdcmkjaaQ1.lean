/- What is asked of a tree and of the document's pairs: the same answers. -/
import Derived.Test.YtiknelhfdcmkjaaR2
namespace Go.Proofs.Ytiknelhfdcmkjaa
open Go.RowKit

theorem get_pack (o : Option (Int × Int)) : ∃ (x : Int) (b : Bool), getV o = .tuple #[.int .i64 x, .bool b] := by
  cases o with
  | none => exact ⟨0, false, rfl⟩
  | some x => exact ⟨x.2, true, rfl⟩
section
variable {L : List (Int × Int)} {k : Int}
theorem floor_spec (hu : Up L) : (floorL L k = none ∧ floorI L k = -1) ∨ (∃ f : Nat, ∃ hf : f < L.length, floorI L k = f ∧ floorL L k = some L[f]) := by
  rcases pos_is (k := k) hu with ⟨v, hl, e1, e2, e3⟩ | ⟨e2, e3, _⟩
  · right
    refine ⟨posL L k, hl, by unfold floorI; rw [isK_some e2]; rfl, ?_⟩
    have hL : L = lowL L k ++ (k, v) :: gtL L k := by
      have := low_high (k := k) hu
      have h2 := pos_drop (k := k) hu
      rw [List.drop_eq_getElem_cons hl, e1, e3] at h2
      rw [← h2] at this
      exact this.symm
    have hu' : Up (lowL L k ++ (k, v) :: gtL L k) := by rw [← hL]; exact hu
    rw [e1]
    have := floor_right hu' (Int.le_refl k)
    rw [← hL] at this
    rw [this]
    have hg : floorL (gtL L k) k = none := by
      unfold floorL
      rw [filter_no (l := gtL L k)]; rfl
      intro p hp
      have := (List.mem_filter.1 hp).2
      simp at this ⊢; omega
    rw [hg]; rfl
  · rw [floor_none hu e2]
    unfold floorI
    rw [isK_none e2, if_neg (by simp)]
    rcases Nat.eq_zero_or_pos (posL L k) with h0 | h0
    · left
      have : lowL L k = [] := List.eq_nil_of_length_eq_zero h0
      exact ⟨by rw [this]; rfl, by rw [h0]; rfl⟩
    · right
      have hpl := pos_le (k := k) hu
      refine ⟨posL L k - 1, by omega, by omega, ?_⟩
      rw [List.getLast?_eq_getElem?]
      have e : (lowL L k)[(lowL L k).length - 1]? = L[posL L k - 1]? := by
        have h1 := take_low (k := k) hu
        have : (L.take (posL L k))[posL L k - 1]? = L[posL L k - 1]? := by rw [List.getElem?_take, if_pos (by omega)]
        rw [← this, pos_take hu]; rfl
      rw [e, List.getElem?_eq_getElem (by omega)]
theorem ceil_spec (hu : Up L) : (ceilL L k = none ∧ ceilI L k = -1) ∨ (∃ f : Nat, ∃ hf : f < L.length, ceilI L k = f ∧ ceilL L k = some L[f]) := by
  have hpl := pos_le (k := k) hu
  unfold ceilI
  by_cases h : posL L k = L.length
  · left
    rw [if_pos h]
    have hd := pos_drop (k := k) hu
    rw [h, List.drop_length] at hd
    exact ⟨by unfold ceilL; rw [← hd]; rfl, rfl⟩
  · right
    rw [if_neg h]
    have hl : posL L k < L.length := by omega
    exact ⟨posL L k, hl, rfl, (pos_at hu hl).2.2⟩
/-- A pair of the tree's, the document's place of it. -/
def Pack (L : List (Int × Int)) (o : Option (Int × Int)) (fi : Int) (fk fv : Int) (fa : Bool) : Prop := toldV o = .tuple #[.agg #[.int .u64 fk, .int .i64 fv], .bool fa] ∧ decide (0 ≤ fi) = fa ∧ (fa = true → ∃ f : Nat, fi = f ∧ ∃ hf : f < L.length, L[f] = (fk, fv))
theorem pack_of {o : Option (Int × Int)} {fi : Int} (h : (o = none ∧ fi = -1) ∨ (∃ f : Nat, ∃ hf : f < L.length, fi = f ∧ o = some L[f])) : ∃ (fk fv : Int) (fa : Bool), Pack L o fi fk fv fa := by
  rcases h with ⟨rfl, rfl⟩ | ⟨f, hf, rfl, rfl⟩
  · exact ⟨0, 0, false, rfl, rfl, fun h => by cases h⟩
  · exact ⟨L[f].1, L[f].2, true, rfl, by simp, fun _ => ⟨f, rfl, hf, rfl⟩⟩
theorem at_pack (L : List (Int × Int)) (i : Int) : ∃ (fk fv : Int) (fa : Bool), toldV (atL L i) = .tuple #[.agg #[.int .u64 fk, .int .i64 fv], .bool fa] ∧ (0 ≤ i → decide (i < (L.length : Int)) = fa) ∧ (¬ 0 ≤ i → fa = false) ∧ (fa = true → ∃ f : Nat, i = f ∧ ∃ hf : f < L.length, L[f] = (fk, fv)) := by
  by_cases h0 : 0 ≤ i
  · by_cases h1 : i < (L.length : Int)
    · have hf : i.toNat < L.length := by omega
      refine ⟨L[i.toNat].1, L[i.toNat].2, true, ?_, fun _ => decide_eq_true h1, fun h => absurd h0 h, fun _ => ⟨i.toNat, by omega, hf, rfl⟩⟩
      unfold atL
      rw [if_pos h0, List.getElem?_eq_getElem hf]; rfl
    · refine ⟨0, 0, false, ?_, fun _ => decide_eq_false h1, fun h => absurd h0 h, fun h => by cases h⟩
      unfold atL
      rw [if_pos h0, List.getElem?_eq_none (by omega)]; rfl
  · refine ⟨0, 0, false, ?_, fun h => absurd h h0, fun _ => rfl, fun h => by cases h⟩
    unfold atL
    rw [if_neg h0]; rfl
end
end Go.Proofs.Ytiknelhfdcmkjaa
