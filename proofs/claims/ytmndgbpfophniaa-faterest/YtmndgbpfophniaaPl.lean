/- Plain mathematics: topologies: ports, who is joined, which are free, who is reached. -/
import Derived.ProofKit
namespace Go.Proofs.Ytmndgbpfophniaa

/-- A port. -/
structure Pt where
  d : Int
  p : Int
instance : Inhabited Pt := ⟨⟨0, 0⟩⟩
theorem Pt.eq_iff (a b : Pt) : a = b ↔ a.d = b.d ∧ a.p = b.p := by
  cases a; cases b; simp
instance : DecidableEq Pt := fun a b => decidable_of_iff _ (Pt.eq_iff a b).symm
/-- A link. -/
structure Lk where
  a : Pt
  b : Pt
instance : Inhabited Lk := ⟨⟨default, default⟩⟩
theorem Lk.eq_iff (x y : Lk) : x = y ↔ x.a = y.a ∧ x.b = y.b := by
  cases x; cases y; simp
instance : DecidableEq Lk := fun a b => decidable_of_iff _ (Lk.eq_iff a b).symm

/-- Is there such a port? -/
def hasT (ps : List Int) (p : Pt) : Bool := decide (0 ≤ p.d) && (decide (p.d < (ps.length : Int)) && (decide (0 ≤ p.p) && decide (p.p < ps[p.d.toNat]?.getD 0)))
/-- The ports of links, in their order. -/
def ends (ls : List Lk) : List Pt := ls.flatMap fun l => [l.a, l.b]
theorem ends_cons (l : Lk) (ls : List Lk) : ends (l :: ls) = l.a :: l.b :: ends ls := rfl
theorem ends_append (l m : List Lk) : ends (l ++ m) = ends l ++ ends m := by simp [ends]
theorem ends_length (ls : List Lk) : (ends ls).length = 2 * ls.length := by
  induction ls with
  | nil => rfl
  | cons l ls ih => rw [ends_cons]; simp only [List.length_cons, ih]; omega
theorem mem_ends {ls : List Lk} {p : Pt} : p ∈ ends ls ↔ ∃ l ∈ ls, l.a = p ∨ l.b = p := by
  simp only [ends, List.mem_flatMap, List.mem_cons, List.mem_nil_iff, or_false]
  exact ⟨fun ⟨l, h1, h2⟩ => ⟨l, h1, h2.imp Eq.symm Eq.symm⟩, fun ⟨l, h1, h2⟩ => ⟨l, h1, h2.imp Eq.symm Eq.symm⟩⟩
/-- A right topology. -/
structure RT (ps : List Int) (ls : List Lk) : Prop where
  n1 : 1 ≤ ps.length
  n8 : ps.length ≤ 8
  l16 : ls.length ≤ 16
  ports : ∀ x ∈ ps, 1 ≤ x ∧ x ≤ 4
  has : ∀ p ∈ ends ls, hasT ps p = true
  nodup : (ends ls).Nodup
/-- Is it right? -/
def rightT (ps : List Int) (ls : List Lk) : Bool := decide (1 ≤ ps.length) && (decide (ps.length ≤ 8) && (decide (ls.length ≤ 16) && (ps.all (fun x => decide (1 ≤ x) && decide (x ≤ 4)) && ((ends ls).all (hasT ps) && decide (ends ls).Nodup))))
theorem rightT_iff (ps : List Int) (ls : List Lk) : rightT ps ls = true ↔ RT ps ls := by
  simp only [rightT, Bool.and_eq_true, decide_eq_true_eq, List.all_eq_true]
  exact ⟨fun ⟨h1, h2, h3, h4, h5, h6⟩ => ⟨h1, h2, h3, h4, h5, h6⟩, fun h => ⟨h.n1, h.n8, h.l16, h.ports, h.has, h.nodup⟩⟩

/-- The port to which a port is joined. -/
def nextT : List Lk → Pt → Option Pt
  | [], _ => none
  | l :: r, p => if l.a = p then some l.b else if l.b = p then some l.a else nextT r p
theorem nextT_none {ls : List Lk} {p : Pt} : nextT ls p = none ↔ p ∉ ends ls := by
  induction ls with
  | nil => simp [nextT, ends]
  | cons l ls ih =>
    rw [ends_cons]
    unfold nextT
    by_cases h1 : l.a = p
    · simp [h1]
    · by_cases h2 : l.b = p
      · simp [h1, h2]
      · rw [if_neg h1, if_neg h2, ih]
        simp [Ne.symm h1, Ne.symm h2]
theorem nextT_some {ls : List Lk} {p q : Pt} (h : nextT ls p = some q) : ∃ l ∈ ls, (l.a = p ∧ l.b = q) ∨ (l.b = p ∧ l.a = q) := by
  induction ls with
  | nil => cases h
  | cons l ls ih =>
    unfold nextT at h
    by_cases h1 : l.a = p
    · rw [if_pos h1] at h; cases h; exact ⟨l, List.mem_cons_self, .inl ⟨h1, rfl⟩⟩
    · rw [if_neg h1] at h
      by_cases h2 : l.b = p
      · rw [if_pos h2] at h; cases h; exact ⟨l, List.mem_cons_self, .inr ⟨h2, rfl⟩⟩
      · rw [if_neg h2] at h
        obtain ⟨m, hm, hh⟩ := ih h
        exact ⟨m, List.mem_cons_of_mem _ hm, hh⟩
theorem nextT_of {ls : List Lk} {p q : Pt} (hn : (ends ls).Nodup) (h : ∃ l ∈ ls, (l.a = p ∧ l.b = q) ∨ (l.b = p ∧ l.a = q)) : nextT ls p = some q := by
  induction ls with
  | nil => obtain ⟨l, hl, _⟩ := h; cases hl
  | cons l ls ih =>
    rw [ends_cons, List.nodup_cons, List.nodup_cons] at hn
    obtain ⟨n1, n2, n3⟩ := hn
    obtain ⟨m, hm, hh⟩ := h
    unfold nextT
    rcases List.mem_cons.1 hm with rfl | hm
    · rcases hh with ⟨h1, h2⟩ | ⟨h1, h2⟩
      · rw [if_pos h1, h2]
      · have hne : m.a ≠ p := fun e => n1 (by rw [e, ← h1]; exact List.mem_cons_self)
        rw [if_neg hne, if_pos h1, h2]
    · have hp : p ∈ ends ls := mem_ends.2 ⟨m, hm, hh.imp (·.1) (·.1)⟩
      have ha : l.a ≠ p := fun e => n1 (by rw [e]; exact List.mem_cons_of_mem _ hp)
      have hb : l.b ≠ p := fun e => n2 (by rw [e]; exact hp)
      rw [if_neg ha, if_neg hb]
      exact ih n3 ⟨m, hm, hh⟩
theorem ends_apart {ls : List Lk} (hn : (ends ls).Nodup) {l : Lk} (hl : l ∈ ls) : l.a ≠ l.b := by
  induction ls with
  | nil => cases hl
  | cons m ls ih =>
    rw [ends_cons, List.nodup_cons, List.nodup_cons] at hn
    rcases List.mem_cons.1 hl with rfl | hl
    · exact fun e => hn.1 (by rw [e]; exact List.mem_cons_self)
    · exact ih hn.2.2 hl
/-- Both ways. -/
theorem nextT_both {ls : List Lk} (hn : (ends ls).Nodup) {p q : Pt} (h : nextT ls p = some q) : nextT ls q = some p ∧ q ≠ p ∧ p ∈ ends ls ∧ q ∈ ends ls := by
  obtain ⟨l, hl, hh⟩ := nextT_some h
  refine ⟨nextT_of hn ⟨l, hl, ?_⟩, ?_, mem_ends.2 ⟨l, hl, ?_⟩, mem_ends.2 ⟨l, hl, ?_⟩⟩
  · rcases hh with ⟨h1, h2⟩ | ⟨h1, h2⟩
    · exact .inr ⟨h2, h1⟩
    · exact .inl ⟨h2, h1⟩
  · have := ends_apart hn hl
    rcases hh with ⟨h1, h2⟩ | ⟨h1, h2⟩
    · rw [← h1, ← h2]; exact Ne.symm this
    · rw [← h1, ← h2]; exact this
  · exact hh.imp (·.1) (·.1)
  · rcases hh with ⟨h1, h2⟩ | ⟨h1, h2⟩
    · exact .inr h2
    · exact .inl h2

/-- All ports of a device. -/
def portsOf (ps : List Int) (i : Nat) : List Pt := (List.range (ps[i]?.getD 0).toNat).map fun k : Nat => (⟨(i : Int), (k : Int)⟩ : Pt)
/-- All ports, by device, then by port. -/
def allP (ps : List Int) : List Pt := (List.range ps.length).flatMap (portsOf ps)
/-- The ports that are joined to none. -/
def edgesT (ps : List Int) (ls : List Lk) : List Pt := (allP ps).filter fun p => (nextT ls p).isNone
theorem mem_allP {ps : List Int} {p : Pt} : p ∈ allP ps ↔ hasT ps p = true := by
  obtain ⟨d, q⟩ := p
  simp only [allP, portsOf, List.mem_flatMap, List.mem_range, List.mem_map, hasT, Bool.and_eq_true, decide_eq_true_eq, Pt.mk.injEq]
  constructor
  · rintro ⟨i, hi, k, hk, rfl, rfl⟩
    refine ⟨by omega, by omega, by omega, ?_⟩
    simp only [Int.toNat_natCast]
    omega
  · rintro ⟨h1, h2, h3, h4⟩
    exact ⟨d.toNat, by omega, q.toNat, by omega, by omega, by omega⟩
theorem allP_nodup (ps : List Int) : (allP ps).Nodup := by
  unfold allP
  rw [List.Nodup, List.pairwise_flatMap]
  refine ⟨fun i _ => ?_, ?_⟩
  · unfold portsOf
    rw [List.pairwise_map]
    refine List.Pairwise.imp ?_ List.nodup_range
    intro a b hab e
    simp only [Pt.mk.injEq] at e
    omega
  · refine List.Pairwise.imp ?_ List.nodup_range
    intro i j hij x hx y hy hxy
    subst hxy
    obtain ⟨k, _, e1⟩ := List.mem_map.1 hx
    obtain ⟨m, _, e2⟩ := List.mem_map.1 hy
    have e := congrArg Pt.d (e1.trans e2.symm)
    have e' : (i : Int) = (j : Int) := e
    omega
theorem mem_edges {ps : List Int} {ls : List Lk} {p : Pt} : p ∈ edgesT ps ls ↔ hasT ps p = true ∧ nextT ls p = none := by
  simp only [edgesT, List.mem_filter, mem_allP, Option.isNone_iff_eq_none]
/-- All ports are those of the links, and the others. -/
theorem edges_count {ps : List Int} {ls : List Lk} (h : RT ps ls) : (allP ps).length = (edgesT ps ls).length + 2 * ls.length := by
  have e1 : (allP ps).length = (edgesT ps ls).length + ((allP ps).filter fun p => !(nextT ls p).isNone).length := by
    unfold edgesT
    generalize allP ps = l
    induction l with
    | nil => rfl
    | cons x l ih =>
      cases hx : (nextT ls x).isNone with
      | true =>
        rw [List.filter_cons_of_pos (p := fun p => (nextT ls p).isNone) hx, List.filter_cons_of_neg (p := fun p => !(nextT ls p).isNone) (by simp [hx]), List.length_cons, List.length_cons, ih]; omega
      | false =>
        rw [List.filter_cons_of_neg (p := fun p => (nextT ls p).isNone) (by simp [hx]), List.filter_cons_of_pos (p := fun p => !(nextT ls p).isNone) (by simp [hx]), List.length_cons, List.length_cons, ih]; omega
  have e2 : ((allP ps).filter fun p => !(nextT ls p).isNone).length = (ends ls).length := by
    apply List.Perm.length_eq
    refine (List.perm_ext_iff_of_nodup ((allP_nodup ps).filter _) h.nodup).2 fun p => ?_
    simp only [List.mem_filter, mem_allP, Bool.not_eq_true', Option.isNone_eq_false_iff]
    constructor
    · rintro ⟨_, hs⟩
      apply Classical.byContradiction
      intro hn
      rw [nextT_none.2 hn] at hs; cases hs
    · intro hp
      refine ⟨h.has p hp, ?_⟩
      cases hq : nextT ls p with
      | none => exact absurd hp (nextT_none.1 hq)
      | some q => rfl
  rw [e1, e2, ends_length]

/-! Who is reached. -/
/-- Two devices are joined. -/
def jn (ls : List Lk) (x y : Int) : Prop := ∃ l ∈ ls, (l.a.d = x ∧ l.b.d = y) ∨ (l.b.d = x ∧ l.a.d = y)
theorem jn_symm {ls : List Lk} {x y : Int} (h : jn ls x y) : jn ls y x := by
  obtain ⟨l, hl, hh⟩ := h
  exact ⟨l, hl, hh.elim (fun h => .inr ⟨h.2, h.1⟩) (fun h => .inl ⟨h.2, h.1⟩)⟩
/-- One comes from a to another one. -/
inductive Rch (ls : List Lk) (a : Int) : Int → Prop
  | refl : Rch ls a a
  | step {x y : Int} : Rch ls a x → jn ls x y → Rch ls a y
theorem Rch.trans {ls : List Lk} {a b c : Int} (h : Rch ls a b) (h' : Rch ls b c) : Rch ls a c := by
  induction h' with
  | refl => exact h
  | step _ hj ih => exact ih.step hj
theorem Rch.symm {ls : List Lk} {a b : Int} (h : Rch ls a b) : Rch ls b a := by
  induction h with
  | refl => exact .refl
  | step _ hj ih => exact (Rch.refl.step (jn_symm hj)).trans ih
/-- A set that holds a, and with each device all that are joined to it, holds all that are reached. -/
theorem Rch.within {ls : List Lk} {a b : Int} {S : Int → Prop} (h : Rch ls a b) (ha : S a) (hc : ∀ x y, S x → jn ls x y → S y) : S b := by
  induction h with
  | refl => exact ha
  | step _ hj ih => exact hc _ _ ih hj

/-- One link is gone through: both its devices, if one of them. -/
def rlx (S : Int → Bool) (l : Lk) : Int → Bool := fun i => if i = l.a.d ∨ i = l.b.d then S l.a.d || S l.b.d else S i
/-- All links, one behind the other. -/
def rnd (ls : List Lk) (S : Int → Bool) : Int → Bool := ls.foldl rlx S
/-- So many rounds. -/
def rnds (ls : List Lk) (S : Int → Bool) : Nat → Int → Bool
  | 0 => S
  | r + 1 => rnd ls (rnds ls S r)
theorem rlx_mono (S : Int → Bool) (l : Lk) {i : Int} (h : S i = true) : rlx S l i = true := by
  unfold rlx
  by_cases hi : i = l.a.d ∨ i = l.b.d
  · rw [if_pos hi]
    rcases hi with rfl | rfl <;> simp [h]
  · rw [if_neg hi]; exact h
theorem rnd_mono (ls : List Lk) (S : Int → Bool) {i : Int} (h : S i = true) : rnd ls S i = true := by
  unfold rnd
  induction ls generalizing S with
  | nil => exact h
  | cons l ls ih => exact ih _ (rlx_mono S l h)
theorem rlx_le {S T : Int → Bool} (h : ∀ i, S i = true → T i = true) (l : Lk) : ∀ i, rlx S l i = true → rlx T l i = true := by
  intro i
  unfold rlx
  split
  · rw [Bool.or_eq_true, Bool.or_eq_true]; exact Or.imp (h _) (h _)
  · exact h i
/-- Behind a round a link that was met holds both its devices, if one of them was held ahead of it. -/
theorem rnd_link {ls : List Lk} {S : Int → Bool} {l : Lk} (hl : l ∈ ls) (h : S l.a.d = true ∨ S l.b.d = true) : rnd ls S l.a.d = true ∧ rnd ls S l.b.d = true := by
  unfold rnd
  induction ls generalizing S with
  | nil => cases hl
  | cons m ls ih =>
    rw [List.foldl_cons]
    rcases List.mem_cons.1 hl with rfl | hl
    · have ha : rlx S l l.a.d = true := by unfold rlx; rw [if_pos (.inl rfl), Bool.or_eq_true]; exact h
      have hb : rlx S l l.b.d = true := by unfold rlx; rw [if_pos (.inr rfl), Bool.or_eq_true]; exact h
      exact ⟨rnd_mono ls _ ha, rnd_mono ls _ hb⟩
    · exact ih hl (h.imp (rlx_mono S m) (rlx_mono S m))
/-- No link parts a set. -/
def Shut (ls : List Lk) (S : Int → Bool) : Prop := ∀ l ∈ ls, S l.a.d = S l.b.d
theorem rlx_shut {S : Int → Bool} {l : Lk} (h : S l.a.d = S l.b.d) : rlx S l = S := by
  funext i
  unfold rlx
  by_cases hi : i = l.a.d ∨ i = l.b.d
  · rw [if_pos hi]
    rcases hi with rfl | rfl
    · rw [← h, Bool.or_self]
    · rw [h, Bool.or_self]
  · rw [if_neg hi]
theorem rnd_shut {ls : List Lk} {S : Int → Bool} (h : Shut ls S) : rnd ls S = S := by
  unfold rnd
  induction ls with
  | nil => rfl
  | cons l ls ih =>
    rw [List.foldl_cons, rlx_shut (h l List.mem_cons_self)]
    exact ih fun m hm => h m (List.mem_cons_of_mem _ hm)
/-- How many of n devices. -/
def cntS (n : Nat) (S : Int → Bool) : Nat := ((List.range n).filter fun i : Nat => S i).length
theorem cnt_le (n : Nat) (S : Int → Bool) : cntS n S ≤ n := by
  unfold cntS
  have := List.length_filter_le (fun i : Nat => S i) (List.range n)
  simpa using this
theorem cnt_more {n : Nat} {S T : Int → Bool} (hle : ∀ i, S i = true → T i = true) {j : Nat} (hj : j < n) (hS : S j = false) (hT : T j = true) : cntS n S < cntS n T := by
  induction n with
  | zero => omega
  | succ n ih =>
    have e : ∀ U : Int → Bool, cntS (n + 1) U = cntS n U + (if U n then 1 else 0) := fun U => by
      unfold cntS
      rw [List.range_succ, List.filter_append, List.length_append]
      cases h : U n <;> simp [h]
    rw [e, e]
    by_cases hjn : j = n
    · subst hjn
      have hle' : cntS j S ≤ cntS j T := by
        clear ih e hj hS hT
        induction j with
        | zero => exact Nat.le_refl _
        | succ m ih =>
          have e : ∀ U : Int → Bool, cntS (m + 1) U = cntS m U + (if U m then 1 else 0) := fun U => by
            unfold cntS
            rw [List.range_succ, List.filter_append, List.length_append]
            cases h : U m <;> simp [h]
          rw [e, e]
          cases h : S m with
          | false => simp; omega
          | true => rw [hle _ h]; simp; omega
      rw [hS, hT]; simp; omega
    · have := ih (by omega)
      cases h : S n with
      | false => simp; omega
      | true => rw [hle _ h]; simp; omega
/-- The devices of the links are among n. -/
def InN (n : Nat) (ls : List Lk) : Prop := ∀ l ∈ ls, (0 ≤ l.a.d ∧ l.a.d < n) ∧ (0 ≤ l.b.d ∧ l.b.d < n)
theorem rnds_grow {n : Nat} {ls : List Lk} (hN : InN n ls) (S : Int → Bool) (r : Nat) : Shut ls (rnds ls S r) ∨ cntS n S + r ≤ cntS n (rnds ls S r) := by
  induction r with
  | zero => exact .inr (Nat.le_refl _)
  | succ r ih =>
    by_cases hs : Shut ls (rnds ls S r)
    · left
      show Shut ls (rnd ls (rnds ls S r))
      rw [rnd_shut hs]; exact hs
    · right
      have ih := ih.resolve_left hs
      have hex : ∃ l ∈ ls, rnds ls S r l.a.d ≠ rnds ls S r l.b.d := by
        apply Classical.byContradiction
        intro hno
        apply hs
        intro l hl
        apply Classical.byContradiction
        intro hne
        exact hno ⟨l, hl, hne⟩
      obtain ⟨l, hl, hne⟩ := hex
      obtain ⟨⟨a0, a1⟩, b0, b1⟩ := hN l hl
      have hlt : cntS n (rnds ls S r) < cntS n (rnd ls (rnds ls S r)) := by
        cases ha : rnds ls S r l.a.d with
        | true =>
          cases hb : rnds ls S r l.b.d with
          | true => rw [ha, hb] at hne; exact absurd rfl hne
          | false =>
            obtain ⟨k, hk⟩ := Int.eq_ofNat_of_zero_le b0
            rw [hk] at hb b1
            refine cnt_more (j := k) (fun i h => rnd_mono ls _ h) (by omega) hb ?_
            rw [← hk]; exact (rnd_link hl (.inl ha)).2
        | false =>
          cases hb : rnds ls S r l.b.d with
          | false => rw [ha, hb] at hne; exact absurd rfl hne
          | true =>
            obtain ⟨k, hk⟩ := Int.eq_ofNat_of_zero_le a0
            rw [hk] at ha a1
            refine cnt_more (j := k) (fun i h => rnd_mono ls _ h) (by omega) ha ?_
            rw [← hk]; exact (rnd_link hl (.inr hb)).1
      show cntS n S + (r + 1) ≤ cntS n (rnd ls (rnds ls S r))
      omega
theorem rnds_mono (ls : List Lk) (S : Int → Bool) (r : Nat) {i : Int} (h : S i = true) : rnds ls S r i = true := by
  induction r with
  | zero => exact h
  | succ r ih => exact rnd_mono ls _ ih
/-- What is held is reached. -/
theorem rlx_sound {ls : List Lk} {a : Int} {S : Int → Bool} (h : ∀ i, S i = true → Rch ls a i) {l : Lk} (hl : l ∈ ls) : ∀ i, rlx S l i = true → Rch ls a i := by
  intro i hi
  unfold rlx at hi
  by_cases hc : i = l.a.d ∨ i = l.b.d
  · rw [if_pos hc, Bool.or_eq_true] at hi
    have ha : Rch ls a l.a.d := hi.elim (h _) fun hb => (h _ hb).step ⟨l, hl, .inr ⟨rfl, rfl⟩⟩
    rcases hc with rfl | rfl
    · exact ha
    · exact ha.step ⟨l, hl, .inl ⟨rfl, rfl⟩⟩
  · rw [if_neg hc] at hi; exact h i hi
theorem rnd_sound {ls ms : List Lk} {a : Int} (hm : ∀ l ∈ ms, l ∈ ls) {S : Int → Bool} (h : ∀ i, S i = true → Rch ls a i) : ∀ i, rnd ms S i = true → Rch ls a i := by
  unfold rnd
  induction ms generalizing S with
  | nil => exact h
  | cons l ms ih => exact ih (fun m hm' => hm m (List.mem_cons_of_mem _ hm')) (rlx_sound h (hm l List.mem_cons_self))
theorem rnds_sound {ls : List Lk} {a : Int} {S : Int → Bool} (h : ∀ i, S i = true → Rch ls a i) (r : Nat) : ∀ i, rnds ls S r i = true → Rch ls a i := by
  induction r with
  | zero => exact h
  | succ r ih => exact rnd_sound (fun l hl => hl) ih
/-- One device. -/
def oneS (a : Int) : Int → Bool := fun i => decide (i = a)
/-- As many rounds as there are devices tell who is reached. -/
theorem rnds_reach {n : Nat} {ls : List Lk} (hN : InN n ls) {a b : Int} (ha : 0 ≤ a ∧ a < n) : rnds ls (oneS a) n b = true ↔ Rch ls a b := by
  constructor
  · exact rnds_sound (fun i hi => by simp [oneS] at hi; subst hi; exact .refl) n b
  · intro h
    have hsh : Shut ls (rnds ls (oneS a) n) := by
      rcases rnds_grow hN (oneS a) n with h | h
      · exact h
      · have h1 := cnt_le n (rnds ls (oneS a) n)
        have h2 : 0 < cntS n (oneS a) := by
          obtain ⟨k, rfl⟩ := Int.eq_ofNat_of_zero_le ha.1
          have : 0 ≤ cntS n (fun _ => false) := Nat.zero_le _
          have := cnt_more (n := n) (S := fun _ => false) (T := oneS (k : Int)) (j := k) (fun i h => by cases h) (by omega) rfl (by simp [oneS])
          omega
        omega
    refine h.within (S := fun i => rnds ls (oneS a) n i = true) (rnds_mono ls _ n (by simp [oneS])) ?_
    rintro x y hx ⟨l, hl, ⟨rfl, rfl⟩ | ⟨rfl, rfl⟩⟩
    · rw [← hsh l hl]; exact hx
    · rw [hsh l hl]; exact hx
theorem RT.inN {ps : List Int} {ls : List Lk} (h : RT ps ls) : InN ps.length ls := by
  intro l hl
  have h1 := h.has l.a (mem_ends.2 ⟨l, hl, .inl rfl⟩)
  have h2 := h.has l.b (mem_ends.2 ⟨l, hl, .inr rfl⟩)
  simp only [hasT, Bool.and_eq_true, decide_eq_true_eq] at h1 h2
  exact ⟨⟨h1.1, h1.2.1⟩, h2.1, h2.2.1⟩
end Go.Proofs.Ytmndgbpfophniaa
