/- Plain mathematics: the devices to which a packet comes, one behind another, in any network. -/
import Derived.Test.YtmndgbpfophniaaFP
namespace Go.Proofs.Ytmndgbpfophniaa
open Go.RowKit Go.Shelf

/-- The i-th device. -/
def dvI (ls : List Lk) (L : List Ru) (a : Nat) (d : Int) : Nat → Int
  | 0 => d
  | i + 1 => onTo ls L (dvI ls L a d i) a
/-- The first ones. -/
def dvs (ls : List Lk) (L : List Ru) (a : Nat) (d : Int) (k : Nat) : List Int := (List.range k).map (dvI ls L a d)
theorem dvs_len (ls : List Lk) (L : List Ru) (a : Nat) (d : Int) (k : Nat) : (dvs ls L a d k).length = k := by simp [dvs]
theorem dvs_succ (ls : List Lk) (L : List Ru) (a : Nat) (d : Int) (k : Nat) : dvs ls L a d (k + 1) = dvs ls L a d k ++ [dvI ls L a d k] := by simp [dvs, List.range_succ]
/-- It goes on, so far. -/
def goes (ls : List Lk) (L : List Ru) (a : Nat) (d : Int) (k : Nat) : Prop := ∀ i, i < k → (stepN ls L (dvI ls L a d i) a).1 = 4
theorem nodup_snoc_iff {s : List Int} {x : Int} : (s ++ [x]).Nodup ↔ s.Nodup ∧ x ∉ s := by
  rw [List.nodup_append]
  constructor
  · rintro ⟨h1, _, h3⟩
    exact ⟨h1, fun hx => h3 x hx x (by simp) rfl⟩
  · rintro ⟨h1, h2⟩
    exact ⟨h1, by simp, fun y hy z hz => by simp at hz; subst hz; exact fun e => h2 (e ▸ hy)⟩
theorem trc_at {ls : List Lk} {L : List Ru} {a : Nat} {d : Int} (K : Nat) : ∀ k, k ≤ K → goes ls L a d k → (dvs ls L a d k).Nodup → trc ls L a K [] d = trc ls L a (K - k) (dvs ls L a d k) (dvI ls L a d k) := by
  intro k
  induction k with
  | zero => intro _ _ _; rfl
  | succ k ih =>
    intro hk hg hn
    rw [dvs_succ] at hn
    obtain ⟨h1, h2⟩ := nodup_snoc_iff.1 hn
    rw [ih (by omega) (fun i hi => hg i (by omega)) h1, show K - k = (K - (k + 1)) + 1 by omega, trc_on h2 (hg k (by omega)), dvs_succ]
    rfl
theorem nodup_in : ∀ {s M : List Int}, s.Nodup → (∀ x ∈ s, x ∈ M) → s.length ≤ M.length := by
  intro s
  induction s with
  | nil => intro M _ _; exact Nat.zero_le _
  | cons x t ih =>
    intro M hn hm
    obtain ⟨hx, ht⟩ := List.nodup_cons.1 hn
    have h := ih (M := M.erase x) ht fun y hy => (List.mem_erase_of_ne (fun e : y = x => hx (by rw [← e]; exact hy))).2 (hm y (List.mem_cons_of_mem _ hy))
    have hmx := hm x (List.mem_cons_self ..)
    rw [List.length_erase_of_mem hmx] at h
    have := List.length_pos_of_mem hmx
    simp; omega
/-- A device from which it goes on has a rule. -/
theorem goes_rule {ls : List Lk} {L : List Ru} {a : Nat} {d : Int} (h : (stepN ls L d a).1 = 4) : d ∈ L.map (·.dv) := by
  cases hd : denB L d a with
  | true => rw [stepN_den hd] at h; simp at h
  | false =>
    rw [stepN_go hd] at h
    rcases firstL_is (tk d 0 1 a) L with ⟨h0, _⟩ | ⟨x, h0, hm, ht, _⟩
    · rw [h0] at h; simp [goP] at h
    · refine List.mem_map.2 ⟨x, hm, ?_⟩
      simp only [tk, takesB, Bool.and_eq_true, decide_eq_true_eq] at ht
      exact ht.1
theorem goes_room {ls : List Lk} {L : List Ru} {a : Nat} {d : Int} {k : Nat} (hg : goes ls L a d k) (hn : (dvs ls L a d k).Nodup) : k ≤ L.length := by
  have := nodup_in (M := L.map (·.dv)) hn fun x hx => by
    obtain ⟨i, hi, rfl⟩ := List.mem_map.1 hx
    exact goes_rule (hg i (List.mem_range.1 hi))
  rwa [dvs_len, List.length_map] at this
/-- How much fuel is enough for any network. -/
def fuelN (ps : List Int) (L : List Ru) : Nat := L.length + ps.length + 3
/-- The trace in any network. -/
def trcA (ps : List Int) (ls : List Lk) (L : List Ru) (a : Nat) (d : Int) : Tc := trc ls L a (fuelN ps L) [] d
theorem trcA_right {ps : List Int} {ls : List Lk} (hR : RT ps ls) (L : List Ru) (a : Nat) {d : Int} (hd : inD ps d) : trcA ps ls L a d = trcN ps ls L a d :=
  trc_more hR (L.length + ps.length + 2) ps.length [] d List.nodup_nil (fun x hx => by simp at hx) hd (by simp; omega) (by simp)
/-- .. where it comes to a device once more, .. -/
theorem trcA_in {ps : List Int} {ls : List Lk} {L : List Ru} {a : Nat} {d : Int} {k : Nat} (hg : goes ls L a d k) (hn : (dvs ls L a d k).Nodup) (hm : dvI ls L a d k ∈ dvs ls L a d k) : trcA ps ls L a d = ⟨dvs ls L a d k ++ [dvI ls L a d k], 4, ⟨0, 0⟩⟩ := by
  have hk := goes_room hg hn
  unfold trcA fuelN
  rw [trc_at _ k (by omega) hg hn, show L.length + ps.length + 3 - k = (L.length + ps.length + 2 - k) + 1 by omega, trc_in hm]
/-- .. and where it ends. -/
theorem trcA_end {ps : List Int} {ls : List Lk} {L : List Ru} {a : Nat} {d : Int} {k : Nat} (hg : goes ls L a d k) (hn : (dvs ls L a d (k + 1)).Nodup) (h4 : (stepN ls L (dvI ls L a d k) a).1 ≠ 4) :
    trcA ps ls L a d = ⟨dvs ls L a d (k + 1), (stepN ls L (dvI ls L a d k) a).1, (stepN ls L (dvI ls L a d k) a).2⟩ := by
  rw [dvs_succ] at hn ⊢
  obtain ⟨h1, h2⟩ := nodup_snoc_iff.1 hn
  have hk := goes_room hg h1
  unfold trcA fuelN
  rw [trc_at _ k (by omega) hg h1, show L.length + ps.length + 3 - k = (L.length + ps.length + 2 - k) + 1 by omega, trc_end h2 h4]
end Go.Proofs.Ytmndgbpfophniaa
