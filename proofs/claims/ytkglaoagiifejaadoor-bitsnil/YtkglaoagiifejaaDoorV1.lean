/- Slices that read as numbers, or as yes and no. -/
import Derived.Test.YtkglaoagiifejaaDoorS2
import Derived.Deep.AppendSrc
import Derived.Deep.RegionLaw
import Derived.Laws.OwnMore
namespace Go.Proofs.YtkglaoagiifejaaDoor
open Go.RowKit Go.Shelf

theorem add_none (g j : Nat) : (⟨g, 0, none⟩ : Addr).add j = ⟨g, j, none⟩ := by unfold Addr.add; split <;> simp_all
theorem add_off (g o j : Nat) : (⟨g, o, none⟩ : Addr).add j = ⟨g, o + j, none⟩ := by unfold Addr.add; split <;> simp_all
/-- The address of a slice of one-cell elements that reads so. -/
def Vs (w : World) (A : Option Addr) (cs : List Value) : Prop := 0 < cs.length → ∃ g o, A = some ⟨g, o, none⟩ ∧ g < w.heap.size ∧ ∀ k (hk : k < cs.length), w.cell? ⟨g, o + k, none⟩ = some cs[k]
theorem Vs.nil (w : World) (A : Option Addr) : Vs w A [] := fun h => absurd h (by simp)
theorem Vs.below {w w' : World} {A : Option Addr} {cs : List Value} {B : Nat} (h : Vs w A cs) (hB : w.heap.size ≤ B) (hb : Below B w w') : Vs w' A cs := fun hn => by
  obtain ⟨g, o, e, hg, hc⟩ := h hn
  exact ⟨g, o, e, Nat.lt_of_lt_of_le hg hb.size, fun k hk => (hb.cell (p := ⟨g, _, none⟩) (by show g < B; omega)).trans (hc k hk)⟩
theorem Vs.none {w : World} {A : Option Addr} {cs : List Value} (h : Vs w A cs) (hA : A = .none) : cs = [] := by
  cases cs with
  | nil => rfl
  | cons r L => obtain ⟨g, o, e, _⟩ := h (by simp); rw [hA] at e; cases e
theorem Vs.news {w : World} {ad : Addr} {cs : List Value} (h : Vs w (some ad) cs) : ∀ j u, cs[j]? = some u → w.cell? (ad.add j) = some u := by
  intro j u hj
  obtain ⟨hlt, rfl⟩ := List.getElem?_eq_some_iff.1 hj
  obtain ⟨g, o, e, _, hc⟩ := h (by omega)
  cases e
  rw [add_off]
  exact hc j hlt
/-- A slice of these cells. -/
def IsV (w : World) (v : Value) (cs : List Value) : Prop := ∃ A c, v = .slice A cs.length c ∧ cs.length ≤ c ∧ c ≤ maxLen ∧ Vs w A cs
theorem IsV.belows {w w' : World} {v : Value} {cs : List Value} (h : IsV w v cs) (hb : Below w.heap.size w w') : IsV w' v cs := by
  obtain ⟨A, c, e, h1, h2, h3⟩ := h
  exact ⟨A, c, e, h1, h2, h3.below (Nat.le_refl _) hb⟩
theorem isV_of_row {w : World} {base : Nat} {e : TypeId} {v : Value} {cs : List Value} (h : w.ownsRow base e 1 v cs.length cs) : IsV w v cs := by
  rcases h.2 with ⟨rfl, h0⟩ | ⟨g, cap, cur, rfl, hb, hg, hnc, hm, _⟩
  · obtain rfl := List.eq_nil_of_length_eq_zero h0
    exact ⟨none, 0, rfl, Nat.le_refl _, by simp, Vs.nil _ _⟩
  · refine ⟨_, cap, rfl, hnc, hm, fun _ => ⟨g, 0, rfl, (Array.getElem?_eq_some_iff.1 hg).1, fun k hk => ?_⟩⟩
    rw [Nat.zero_add, World.ownsRow.cellAt h k (by omega)]
    exact List.getElem?_eq_getElem hk
def ints (L : List Int) : List Value := L.map fun x => .int .i64 x
def nats (L : List Nat) : List Value := L.map fun x => .int .i64 (x : Nat)
def yes (L : List Bool) : List Value := L.map fun x => .bool x
/-- The document's set: whether each number is in. -/
def bl (p : Nat → Bool) (n : Nat) : List Value := (List.range n).map fun k => .bool (p k)
theorem bl_len (p : Nat → Bool) (n : Nat) : (bl p n).length = n := by simp [bl]
theorem bl_get {p : Nat → Bool} {n k : Nat} (h : k < (bl p n).length) : (bl p n)[k] = .bool (p k) := by simp [bl]
theorem bl_congr {p q : Nat → Bool} {n : Nat} (h : ∀ j, j < n → p j = q j) : bl p n = bl q n := by
  unfold bl
  exact List.map_congr_left fun k hk => by rw [h k (by simpa using hk)]
/-- The numbers of a list. -/
def inL (L : List Int) (j : Nat) : Bool := decide ((j : Int) ∈ L)
theorem inL_snoc (L : List Int) (x : Nat) : inL (L ++ [(x : Int)]) = fun j => inL L j || decide (j = x) := by
  funext j
  simp only [inL, List.mem_append, List.mem_singleton, Bool.decide_or]
  congr 1
  by_cases h : j = x
  · simp [h]
  · have : ¬ (j : Int) = (x : Int) := by omega
    simp [h, this]
theorem inL_sup {L : List Int} {n : Nat} (h : ∀ x ∈ L, 0 ≤ x ∧ x < (n : Int)) : Sup n (inL L) := fun j hj => by
  simp only [inL, decide_eq_false_iff_not]
  intro hm
  have := h _ hm
  omega
/-- One more bit. -/
theorem wd_put (p : Nat → Bool) (i : Nat) : wd p (i / 64) ||| 2 ^ (i % 64) = wd (fun j => p j || decide (j = i)) (i / 64) :=
  wd_of (Nat.or_lt_two_pow (n := 64) (wd_lt p _) (Nat.pow_lt_pow_right (by decide) (by omega))) fun j hj => by
    rw [Nat.testBit_or, wd_bit, Nat.testBit_two_pow]
    have h1 : (decide (i % 64 = j)) = decide (64 * (i / 64) + j = i) := by
      by_cases h : i % 64 = j
      · have : 64 * (i / 64) + j = i := by omega
        simp [h, this]
      · have : ¬ 64 * (i / 64) + j = i := by omega
        simp [h, this]
    simp [hj, h1]
theorem ws_put {p : Nat → Bool} {n i : Nat} : (ws p n).setIfInBounds (i / 64) (.int .u64 (wd (fun j => p j || decide (j = i)) (i / 64) : Nat)) = ws (fun j => p j || decide (j = i)) n :=
  ws_set rfl fun k hk => wd_congr fun j hj => by
    have : ¬ 64 * k + j = i := by intro h; apply hk; omega
    simp [this]
theorem bl_put {p : Nat → Bool} {n i : Nat} : (bl p n).toArray.setIfInBounds i (.bool true) = (bl (fun j => p j || decide (j = i)) n).toArray := by
  apply Array.ext_getElem?
  intro j
  rw [Array.getElem?_setIfInBounds]
  by_cases hj : j < n
  · by_cases e : i = j
    · subst e; simp [bl, hj]
    · have e' : ¬ j = i := fun h => e h.symm
      simp [bl, hj, e, e']
  · by_cases e : i = j <;> simp [bl, hj, e]
end Go.Proofs.YtkglaoagiifejaaDoor
