/- Plain mathematics: who is reached, by going on from each device to those that are not yet reached. -/
import Derived.Test.YtpdadcjmpjnnhaaPl
namespace Go.Proofs.Ytpdadcjmpjnnhaa

/-- Behind a visit of d, that began where S was reached, T is. -/
structure Vis (ls : List Lk) (S : Int → Bool) (d : Int) (T : Int → Bool) : Prop where
  sub : ∀ i, S i = true → T i = true
  self : T d = true
  rch : ∀ i, T i = true → S i = false → Rch ls d i
  cl : ∀ x y, T x = true → S x = false → jn ls x y → T y = true
/-- .. in its midst: k ports are gone through. -/
structure VI (ls : List Lk) (S : Int → Bool) (d : Int) (T : Int → Bool) (k : Nat) : Prop where
  sub : ∀ i, S i = true → T i = true
  self : T d = true
  rch : ∀ i, T i = true → S i = false → Rch ls d i
  cl : ∀ x y, T x = true → S x = false → x ≠ d → jn ls x y → T y = true
  pts : ∀ j : Nat, j < k → ∀ q, nextT ls ⟨d, j⟩ = some q → T q.d = true
/-- One more. -/
def setS (S : Int → Bool) (d : Int) : Int → Bool := fun i => if i = d then true else S i
theorem VI.zero (ls : List Lk) {S : Int → Bool} {d : Int} : VI ls S d (setS S d) 0 := by
  refine ⟨fun i h => ?_, by simp [setS], fun i h hs => ?_, fun x y h hs hne _ => ?_, fun j hj => by omega⟩
  · unfold setS; split
    · rfl
    · exact h
  · unfold setS at h
    by_cases hi : i = d
    · subst hi; exact .refl
    · rw [if_neg hi, hs] at h; cases h
  · unfold setS at h
    rw [if_neg hne, hs] at h; cases h
theorem VI.none {ls : List Lk} {S T : Int → Bool} {d : Int} {k : Nat} (h : VI ls S d T k) (hn : nextT ls ⟨d, k⟩ = Option.none) : VI ls S d T (k + 1) :=
  ⟨h.sub, h.self, h.rch, h.cl, fun j hj q hq => by
    by_cases hjk : j = k
    · subst hjk; rw [hn] at hq; cases hq
    · exact h.pts j (by omega) q hq⟩
theorem VI.seen {ls : List Lk} {S T : Int → Bool} {d : Int} {k : Nat} (h : VI ls S d T k) {q : Pt} (hn : nextT ls ⟨d, k⟩ = some q) (hT : T q.d = true) : VI ls S d T (k + 1) :=
  ⟨h.sub, h.self, h.rch, h.cl, fun j hj q' hq => by
    by_cases hjk : j = k
    · subst hjk; rw [hn] at hq; cases hq; exact hT
    · exact h.pts j (by omega) q' hq⟩
theorem next_jn {ls : List Lk} {p q : Pt} (h : nextT ls p = some q) : jn ls p.d q.d := by
  obtain ⟨l, hl, hh⟩ := nextT_some h
  refine ⟨l, hl, ?_⟩
  rcases hh with ⟨rfl, rfl⟩ | ⟨rfl, rfl⟩
  · exact .inl ⟨rfl, rfl⟩
  · exact .inr ⟨rfl, rfl⟩
theorem VI.went {ls : List Lk} {S T U : Int → Bool} {d : Int} {k : Nat} (h : VI ls S d T k) {q : Pt} (hn : nextT ls ⟨d, k⟩ = some q) (hU : Vis ls T q.d U) : VI ls S d U (k + 1) := by
  refine ⟨fun i hi => hU.sub i (h.sub i hi), hU.sub _ h.self, fun i hi hs => ?_, fun x y hx hs hne hj => ?_, fun j hj q' hq => ?_⟩
  · cases hT : T i with
    | true => exact h.rch i hT hs
    | false => exact (Rch.refl.step (next_jn hn)).trans (hU.rch i hi hT)
  · cases hT : T x with
    | true => exact hU.sub y (h.cl x y hT hs hne hj)
    | false => exact hU.cl x y hx hT hj
  · by_cases hjk : j = k
    · subst hjk; rw [hn] at hq; cases hq; exact hU.self
    · exact hU.sub _ (h.pts j (by omega) q' hq)
theorem VI.fin {ps : List Int} {ls : List Lk} (hR : RT ps ls) {S T : Int → Bool} {d k : Nat} (h : VI ls S d T k) (hd : d < ps.length) (hk : ps[d] ≤ (k : Int)) : Vis ls S d T := by
  refine ⟨h.sub, h.self, h.rch, fun x y hx hs hj => ?_⟩
  by_cases hxd : x = d
  · subst hxd
    obtain ⟨l, hl, hh⟩ := hj
    have go : ∀ p q : Pt, p.d = (d : Int) → q.d = y → p ∈ ends ls → nextT ls p = some q → T y = true := by
      intro p q hp hq hm hn
      have hp' := hR.has p hm
      obtain ⟨pd, pp⟩ := p
      dsimp only at hp
      subst hp
      simp only [hasT, Bool.and_eq_true, decide_eq_true_eq] at hp'
      obtain ⟨_, _, h0, h1⟩ := hp'
      obtain ⟨m, rfl⟩ := Int.eq_ofNat_of_zero_le h0
      rw [Int.toNat_natCast, List.getElem?_eq_getElem hd] at h1
      simp only [Option.getD_some] at h1
      rw [← hq]
      exact h.pts m (by omega) q hn
    rcases hh with ⟨h1, h2⟩ | ⟨h1, h2⟩
    · exact go l.a l.b h1 h2 (mem_ends.2 ⟨l, hl, .inl rfl⟩) (nextT_of hR.nodup ⟨l, hl, .inl ⟨rfl, rfl⟩⟩)
    · exact go l.b l.a h1 h2 (mem_ends.2 ⟨l, hl, .inr rfl⟩) (nextT_of hR.nodup ⟨l, hl, .inr ⟨rfl, rfl⟩⟩)
  · exact h.cl x y hx hs hxd hj
/-- From the beginning on: just who is reached. -/
theorem Vis.all {ls : List Lk} {a : Int} {T : Int → Bool} (h : Vis ls (fun _ => false) a T) (b : Int) : T b = true ↔ Rch ls a b :=
  ⟨fun hb => h.rch b hb rfl, fun hr => hr.within (S := fun i => T i = true) h.self fun x y hx hj => h.cl x y hx rfl hj⟩
/-- A visit leaves fewer that are not yet reached. -/
theorem VI.less {ls : List Lk} {S T : Int → Bool} {d k : Nat} (h : VI ls S d T k) (hd : d < 8) (hS : S d = false) : cntS 8 S < cntS 8 T := cnt_more h.sub hd hS h.self
theorem cnt_room {S : Int → Bool} {d : Nat} (hd : d < 8) (hS : S d = false) : cntS 8 S < 8 :=
  Nat.lt_of_lt_of_le (cnt_more (T := fun _ => true) (fun _ _ => rfl) hd hS rfl) (cnt_le 8 _)
/-- The device behind a port is one. -/
theorem next_dev {ps : List Int} {ls : List Lk} (hR : RT ps ls) {p q : Pt} (h : nextT ls p = some q) : ∃ m : Nat, q.d = (m : Int) ∧ m < ps.length := by
  obtain ⟨_, _, _, hq⟩ := nextT_both hR.nodup h
  have := hR.has q hq
  simp only [hasT, Bool.and_eq_true, decide_eq_true_eq] at this
  obtain ⟨h0, h1, _⟩ := this
  obtain ⟨m, hm⟩ := Int.eq_ofNat_of_zero_le h0
  exact ⟨m, hm, by omega⟩
end Go.Proofs.Ytpdadcjmpjnnhaa
