/- Plain mathematics: what the document's Parse reads of a right rule's text. -/
import Derived.Test.YtmpgfmedldnhjaaGreatDoorR8
import Derived.Test.YtmpgfmedldnhjaaGreatDoorS12
import Derived.Test.YtmpgfmedldnhjaaGreatDoorR4
namespace Go.Proofs.YtmpgfmedldnhjaaGreatDoor
open Go.RowKit Go.Shelf

theorem numI_dg {n : Int} {most : Nat} (h0 : 0 ≤ n) (h1 : n ≤ most) : numI (dg n) most = n := by
  have hv := dd_val n.toNat
  have e : numOf (dg n) most = some n.toNat := by
    have := numOf_is (l := dg n) (most := most) (by unfold dg; rw [hv])
    unfold dg at this ⊢
    rw [hv, if_pos (by omega)] at this
    exact this
  rw [numI_some e]; omega
theorem numI_isI (l : List UInt8) (most : Nat) (h : most ≤ 9999999999) : isI (numI l most) := by
  unfold numI isI
  cases hn : numOf l most with
  | none => simp
  | some n => have := (numOf_some hn).2; simp; omega
/-- The kind that a word is of, among the first k. -/
def kdf (p : ByteArray) : Nat → Nat
  | 0 => 0
  | k + 1 => if wS k = p then k else kdf p k
theorem kdf_le (p : ByteArray) : ∀ k, k ≤ 4 → kdf p k ≤ 3
  | 0, _ => by simp [kdf]
  | k + 1, h => by
    have := kdf_le p k (by omega)
    unfold kdf; split <;> omega
theorem wS_inj {j k : Nat} (hj : j ≤ 3) (hk : k ≤ 3) (h : wS j = wS k) : j = k := by
  have : word (j : Int) = word (k : Int) := by
    have := congrArg (fun b : ByteArray => b.data.toList) h
    simpa [wS] using this
  have := word_inj (by omega) (by omega) (by omega) (by omega) this
  omega
theorem kdf_word {k : Nat} (hk : k ≤ 3) : kdf (wS k) 4 = k := by
  have h : ∀ j, j ≤ 3 → j ≠ k → wS j ≠ wS k := fun j hj hne e => hne (wS_inj hj hk e)
  have : k = 0 ∨ k = 1 ∨ k = 2 ∨ k = 3 := by omega
  rcases this with rfl | rfl | rfl | rfl
  · simp [kdf, h 1 (by omega) (by omega), h 2 (by omega) (by omega), h 3 (by omega) (by omega)]
  · simp [kdf, h 2 (by omega) (by omega), h 3 (by omega) (by omega)]
  · simp [kdf, h 3 (by omega) (by omega)]
  · simp [kdf]
/-- What the document's ParseRange answers. -/
def RRgOut (s : ByteArray) (w : World) (e : Ending) (w' : World) : Prop := ∃ (f t : Nat) (er : Int), e = .returned (.tuple #[.agg #[.int .u32 f, .int .u32 t], .int .i64 er]) ∧ f < 4294967296 ∧ t < 4294967296 ∧ (∀ f' t' : Nat, f' ≤ t' → t' < 4294967296 → s.data.toList = rngT f' t' → f = f' ∧ t = t' ∧ er = 0) ∧ Below w.heap.size w w'
theorem rrg_any (s : ByteArray) (w : World) (hz : s.size ≤ 80) : Calls Tryz.prog 36 #[.string s] w (RRgOut s w) := by
  refine (rparseRange_any s w hz).mono ?_
  rintro e w' ⟨rfl, hb⟩
  cases h : rangeOf s.data.toList with
  | none =>
    refine ⟨0, 0, 21, by rw [prV_none h]; rfl, by omega, by omega, fun f' t' h1 h2 e => ?_, hb⟩
    rw [e, range_back h1 h2] at h; cases h
  | some ft =>
    obtain ⟨f, t⟩ := ft
    obtain ⟨h1, h2⟩ := rangeOf_lt h
    refine ⟨f, t, 0, by rw [prV_some h], h1, h2, fun f' t' h3 h4 e => ?_, hb⟩
    rw [e, range_back h3 h4] at h
    cases h; exact ⟨rfl, rfl, rfl⟩
/-- The rule that parts are read as. -/
def rdR (p0 p1 p2 : List UInt8) (k f t : Nat) (pt : Int) : Ru := ⟨numI p0 1048576, numI p1 9, numI p2 1024, k, f, t, pt⟩
theorem rdR_wf {p0 p1 p2 : List UInt8} {k f t : Nat} {pt : Int} (hk : k ≤ 3) (hf : f < 4294967296) (ht : t < 4294967296) (hp : isI pt) : (rdR p0 p1 p2 k f t pt).wf :=
  ⟨numI_isI _ _ (by decide), numI_isI _ _ (by decide), numI_isI _ _ (by decide), by unfold isI; simp [rdR]; omega, hf, ht, hp⟩
theorem rd_len (r : Ru) (h : ruB r = true) : (partsR r).length = 5 ∨ (partsR r).length = 6 := by
  unfold partsR
  by_cases h : r.kd = 0
  · right; simp [h]
  · left; simp [h]
/-- Five parts. -/
theorem rd_five {p0 p1 p2 p3 p4 : List UInt8} {f t : Nat} {er : Int} {r : Ru} (hr : ruB r = true) (hwf : r.wf) (hp : [p0, p1, p2, p3, p4] = partsR r) (hx : ∀ f' t' : Nat, f' ≤ t' → t' < 4294967296 → p4 = rngT f' t' → f = f' ∧ t = t' ∧ er = 0) :
    rdR p0 p1 p2 (kdf ⟨p3.toArray⟩ 4) f t 0 = r ∧ er = 0 := by
  obtain ⟨⟨h1, h2⟩, ⟨h3, h4⟩, ⟨h5, h6⟩, h7, h8, h9, h10, h11, h12⟩ := (ruB_iff r).1 hr
  obtain ⟨_, _, _, _, _, wt, _⟩ := hwf
  by_cases h : r.kd = 0
  · have := congrArg List.length hp
    simp [partsR, h] at this
  · simp [partsR, h] at hp
    obtain ⟨rfl, rfl, rfl, rfl, rfl⟩ := hp
    obtain ⟨e1, e2, e3⟩ := hx r.f r.t h9 wt rfl
    refine ⟨?_, e3⟩
    have hw : (⟨(word r.kd).toArray⟩ : ByteArray) = wS r.kd.toNat := by unfold wS; rw [show ((r.kd.toNat : Nat) : Int) = r.kd by omega]
    rw [hw, kdf_word (by omega), Ru.eq_iff]
    exact ⟨numI_dg (by omega) (by omega), numI_dg (by omega) (by omega), numI_dg (by omega) (by omega), by simp [rdR]; omega, e1, e2, by simp [rdR]; omega⟩
/-- Six parts. -/
theorem rd_six {p0 p1 p2 p3 p4 p5 : List UInt8} {f t : Nat} {er : Int} {r : Ru} (hr : ruB r = true) (hwf : r.wf) (hp : [p0, p1, p2, p3, p4, p5] = partsR r) (hx : ∀ f' t' : Nat, f' ≤ t' → t' < 4294967296 → p4 = rngT f' t' → f = f' ∧ t = t' ∧ er = 0) :
    rdR p0 p1 p2 (kdf ⟨p3.toArray⟩ 4) f t (numI p5 9) = r ∧ er = 0 := by
  obtain ⟨⟨h1, h2⟩, ⟨h3, h4⟩, ⟨h5, h6⟩, h7, h8, h9, h10, h11, h12⟩ := (ruB_iff r).1 hr
  obtain ⟨_, _, _, _, _, wt, _⟩ := hwf
  by_cases h : r.kd = 0
  · simp [partsR, h] at hp
    obtain ⟨rfl, rfl, rfl, rfl, rfl, rfl⟩ := hp
    obtain ⟨e1, e2, e3⟩ := hx r.f r.t h9 wt rfl
    refine ⟨?_, e3⟩
    have hw : (⟨(word 0).toArray⟩ : ByteArray) = wS 0 := rfl
    rw [hw, kdf_word (by omega), Ru.eq_iff]
    exact ⟨numI_dg (by omega) (by omega), numI_dg (by omega) (by omega), numI_dg (by omega) (by omega), by simp [rdR]; omega, e1, e2, numI_dg (by omega) (by omega)⟩
  · have := congrArg List.length hp
    simp [partsR, h] at this
end Go.Proofs.YtmpgfmedldnhjaaGreatDoor
