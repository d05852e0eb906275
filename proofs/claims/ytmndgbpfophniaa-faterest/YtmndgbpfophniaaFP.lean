/- Plain mathematics: what becomes of a packet at a device, and its trace. -/
import Derived.Test.YtmndgbpfophniaaFW
import Derived.Test.YtmndgbpfophniaaPl
import Derived.Test.YtmndgbpfophniaaT1
namespace Go.Proofs.Ytmndgbpfophniaa
open Go.RowKit Go.Shelf

/-- Does a device deny an address? -/
def denB (L : List Ru) (d : Int) (a : Nat) : Bool := (firstL (tk d 2 3 a) L).isSome && decide (((firstL (tk d 2 3 a) L).getD ru0).kd = 3)
/-- What is matched: its fate's number, and the port. -/
def goP (ls : List Lk) (d : Int) : Option Ru → Int × Pt
  | none => (0, ⟨0, 0⟩)
  | some r => if r.kd = 1 then (1, ⟨0, 0⟩) else if (nextT ls ⟨d, r.pt⟩).isSome then (4, ⟨d, r.pt⟩) else (3, ⟨d, r.pt⟩)
/-- What becomes of a packet at a device. -/
def stepN (ls : List Lk) (L : List Ru) (d : Int) (a : Nat) : Int × Pt := if denB L d a then (2, ⟨0, 0⟩) else goP ls d (firstL (tk d 0 1 a) L)
theorem stepN_den {ls : List Lk} {L : List Ru} {d : Int} {a : Nat} (h : denB L d a = true) : stepN ls L d a = (2, ⟨0, 0⟩) := by unfold stepN; rw [h]; rfl
theorem stepN_go {ls : List Lk} {L : List Ru} {d : Int} {a : Nat} (h : denB L d a = false) : stepN ls L d a = goP ls d (firstL (tk d 0 1 a) L) := by unfold stepN; rw [h]; rfl
theorem goP_drop {ls : List Lk} {d : Int} {r : Ru} (h : r.kd = 1) : goP ls d (some r) = (1, ⟨0, 0⟩) := if_pos h
theorem goP_on {ls : List Lk} {d : Int} {r : Ru} (h : r.kd ≠ 1) {q : Pt} (hn : nextT ls ⟨d, r.pt⟩ = some q) : goP ls d (some r) = (4, ⟨d, r.pt⟩) := by
  show (if r.kd = 1 then _ else if (nextT ls ⟨d, r.pt⟩).isSome then _ else _) = _
  rw [if_neg h, hn]; rfl
theorem goP_out {ls : List Lk} {d : Int} {r : Ru} (h : r.kd ≠ 1) (hn : nextT ls ⟨d, r.pt⟩ = none) : goP ls d (some r) = (3, ⟨d, r.pt⟩) := by
  show (if r.kd = 1 then _ else if (nextT ls ⟨d, r.pt⟩).isSome then _ else _) = _
  rw [if_neg h, hn]; rfl
/-- The ways there are. -/
theorem stepN_is (ls : List Lk) (L : List Ru) (d : Int) (a : Nat) :
    (0 ≤ (stepN ls L d a).1 ∧ (stepN ls L d a).1 ≤ 2 ∧ (stepN ls L d a).2 = ⟨0, 0⟩) ∨ (stepN ls L d a).2.d = d ∧
      ((stepN ls L d a).1 = 3 ∧ nextT ls (stepN ls L d a).2 = none ∨ (stepN ls L d a).1 = 4 ∧ ∃ q, nextT ls (stepN ls L d a).2 = some q) := by
  cases hd : denB L d a with
  | true => rw [stepN_den hd]; exact .inl ⟨by simp, by simp, rfl⟩
  | false =>
    rw [stepN_go hd]
    cases firstL (tk d 0 1 a) L with
    | none => exact .inl ⟨Int.le_refl _, by show (0 : Int) ≤ 2; omega, rfl⟩
    | some r =>
      by_cases h : r.kd = 1
      · rw [goP_drop h]; exact .inl ⟨by simp, by simp, rfl⟩
      · cases hn : nextT ls ⟨d, r.pt⟩ with
        | none => rw [goP_out h hn]; exact .inr ⟨rfl, .inl ⟨rfl, hn⟩⟩
        | some q => rw [goP_on h hn]; exact .inr ⟨rfl, .inr ⟨rfl, q, hn⟩⟩
/-- Where it goes on to. -/
def onTo (ls : List Lk) (L : List Ru) (d : Int) (a : Nat) : Int := ((nextT ls (stepN ls L d a).2).getD ⟨0, 0⟩).d
/-- A trace: the devices, the fate, the port. -/
structure Tc where
  ds : List Int
  ft : Int
  out : Pt
theorem Tc.eq_iff (x y : Tc) : x = y ↔ x.ds = y.ds ∧ x.ft = y.ft ∧ x.out = y.out := by cases x; cases y; simp
instance : DecidableEq Tc := fun a b => decidable_of_iff _ (Tc.eq_iff a b).symm
/-- The trace from a device on, behind those that it came to ahead. -/
def trc (ls : List Lk) (L : List Ru) (a : Nat) : Nat → List Int → Int → Tc
  | 0, s, d => ⟨s ++ [d], 4, ⟨0, 0⟩⟩
  | n + 1, s, d => if d ∈ s then ⟨s ++ [d], 4, ⟨0, 0⟩⟩ else if (stepN ls L d a).1 = 4 then trc ls L a n (s ++ [d]) (onTo ls L d a) else ⟨s ++ [d], (stepN ls L d a).1, (stepN ls L d a).2⟩
theorem trc_in {ls : List Lk} {L : List Ru} {a n : Nat} {s : List Int} {d : Int} (h : d ∈ s) : trc ls L a (n + 1) s d = ⟨s ++ [d], 4, ⟨0, 0⟩⟩ := by unfold trc; rw [if_pos h]
theorem trc_end {ls : List Lk} {L : List Ru} {a n : Nat} {s : List Int} {d : Int} (h : d ∉ s) (h4 : (stepN ls L d a).1 ≠ 4) : trc ls L a (n + 1) s d = ⟨s ++ [d], (stepN ls L d a).1, (stepN ls L d a).2⟩ := by unfold trc; rw [if_neg h, if_neg h4]
theorem trc_on {ls : List Lk} {L : List Ru} {a n : Nat} {s : List Int} {d : Int} (h : d ∉ s) (h4 : (stepN ls L d a).1 = 4) : trc ls L a (n + 1) s d = trc ls L a n (s ++ [d]) (onTo ls L d a) := by
  show (if d ∈ s then _ else if (stepN ls L d a).1 = 4 then _ else _) = _
  rw [if_neg h, if_pos h4]
/-- Is there such a device? -/
def inD (ps : List Int) (d : Int) : Prop := 0 ≤ d ∧ d < (ps.length : Int)
instance (ps : List Int) (d : Int) : Decidable (inD ps d) := inferInstanceAs (Decidable (_ ∧ _))
theorem onTo_in {ps : List Int} {ls : List Lk} (hR : RT ps ls) {L : List Ru} {d : Int} {a : Nat} (h4 : (stepN ls L d a).1 = 4) : inD ps (onTo ls L d a) := by
  rcases stepN_is ls L d a with ⟨h1, h2, _⟩ | ⟨_, ⟨h3, _⟩ | ⟨_, q, hq⟩⟩
  · omega
  · omega
  · unfold onTo
    rw [hq]
    obtain ⟨_, _, _, hm⟩ := nextT_both hR.nodup hq
    have := hR.has q hm
    simp only [hasT, Bool.and_eq_true, decide_eq_true_eq] at this
    exact ⟨this.1, this.2.1⟩
/-- Devices, each once, are at most as many as there are. -/
theorem nodup_room {n : Nat} {s : List Int} (hn : s.Nodup) (hs : ∀ x ∈ s, 0 ≤ x ∧ x < (n : Int)) : s.length ≤ n := by
  have hm : ((List.range n).map fun i : Nat => (i : Int)).Nodup := by
    rw [List.Nodup, List.pairwise_map]
    exact List.Pairwise.imp (fun h e => h (by omega)) List.nodup_range
  have hp : s.Perm (((List.range n).map fun i : Nat => (i : Int)).filter fun x => decide (x ∈ s)) := by
    refine (List.perm_ext_iff_of_nodup hn (hm.filter _)).2 fun x => ?_
    simp only [List.mem_filter, List.mem_map, List.mem_range, decide_eq_true_eq]
    constructor
    · intro hx
      obtain ⟨h0, h1⟩ := hs x hx
      exact ⟨⟨x.toNat, by omega, by omega⟩, hx⟩
    · exact fun h => h.2
  have h := List.length_filter_le (fun x => decide (x ∈ s)) ((List.range n).map fun i : Nat => (i : Int))
  rw [← hp.length_eq] at h
  simpa using h
/-- More fuel than devices is fuel enough. -/
theorem trc_more {ps : List Int} {ls : List Lk} (hR : RT ps ls) {L : List Ru} {a : Nat} : ∀ (n m : Nat) (s : List Int) (d : Int), s.Nodup → (∀ x ∈ s, inD ps x) → inD ps d → ps.length ≤ n + s.length → ps.length ≤ m + s.length → trc ls L a (n + 1) s d = trc ls L a (m + 1) s d := by
  intro n
  induction n with
  | zero =>
    intro m s d hs hi hd hn hm
    by_cases hds : d ∈ s
    · rw [trc_in hds, trc_in hds]
    · have := nodup_room (n := ps.length) (s := d :: s) (List.nodup_cons.2 ⟨hds, hs⟩) (by
        intro x hx
        rcases List.mem_cons.1 hx with rfl | hx
        · exact hd
        · exact hi x hx)
      simp at this; omega
  | succ n ih =>
    intro m s d hs hi hd hn hm
    by_cases hds : d ∈ s
    · rw [trc_in hds, trc_in hds]
    · by_cases h4 : (stepN ls L d a).1 = 4
      · rw [trc_on hds h4, trc_on hds h4]
        have hsn : (s ++ [d]).Nodup := by
          rw [List.nodup_append]
          exact ⟨hs, by simp, fun x hx y hy => by simp at hy; subst hy; exact fun e => hds (e ▸ hx)⟩
        have hsi : ∀ x ∈ s ++ [d], inD ps x := by
          intro x hx
          rcases List.mem_append.1 hx with hx | hx
          · exact hi x hx
          · simp at hx; subst hx; exact hd
        have hroom := nodup_room (n := ps.length) hsn hsi
        match m with
        | 0 => simp at hroom; omega
        | m + 1 => exact ih m _ _ hsn hsi (onTo_in hR h4) (by simp; omega) (by simp; omega)
      · rw [trc_end hds h4, trc_end hds h4]
/-- The trace from a device on. -/
def trcN (ps : List Int) (ls : List Lk) (L : List Ru) (a : Nat) (d : Int) : Tc := trc ls L a (ps.length + 1) [] d
end Go.Proofs.Ytmndgbpfophniaa
