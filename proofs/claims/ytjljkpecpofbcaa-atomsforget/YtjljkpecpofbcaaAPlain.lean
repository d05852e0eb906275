/- Plain mathematics of atoms: how often keys stand, kept as pairs; boundaries; the atoms between them; which atom has an address. No program. -/
import Derived.Test.YtjljkpecpofbcaaPlain
import Derived.Test.YtjljkpecpofbcaaZPlain
namespace Go.Proofs.Ytjljkpecpofbcaa

/-- Two rising lists with the same members are one. -/
theorem rise_eq : ∀ {x y : List Int}, x.Pairwise (· < ·) → y.Pairwise (· < ·) → (∀ a, a ∈ x ↔ a ∈ y) → x = y
  | [], [], _, _, _ => rfl
  | [], b :: y, _, _, h => absurd ((h b).2 (by simp)) (by simp)
  | a :: x, [], _, _, h => absurd ((h a).1 (by simp)) (by simp)
  | a :: x, b :: y, hx, hy, h => by
    obtain ⟨hx1, hx2⟩ := List.pairwise_cons.1 hx
    obtain ⟨hy1, hy2⟩ := List.pairwise_cons.1 hy
    have e : a = b := by
      have h1 := (h a).1 (by simp)
      have h2 := (h b).2 (by simp)
      rcases List.mem_cons.1 h1 with e | h1
      · exact e
      · rcases List.mem_cons.1 h2 with e | h2
        · exact e.symm
        · have := hx1 b h2; have := hy1 a h1; omega
    subst e
    rw [rise_eq hx2 hy2 fun c => ?_]
    constructor
    · intro hc
      rcases List.mem_cons.1 ((h c).1 (by simp [hc])) with e | h1
      · have := hx1 c hc; omega
      · exact h1
    · intro hc
      rcases List.mem_cons.1 ((h c).2 (by simp [hc])) with e | h1
      · have := hy1 c hc; omega
      · exact h1

theorem get_mem {l : List (Int × Int)} {k : Int} : getL l k ≠ none ↔ k ∈ l.map (·.1) := by
  unfold getL
  rw [Ne, List.find?_eq_none]
  simp only [beq_iff_eq, List.mem_map]
  constructor
  · intro h
    apply Classical.byContradiction
    intro hn
    exact h fun x hx e => hn ⟨x, hx, e⟩
  · rintro ⟨x, hx, e⟩ h
    exact h x hx e
theorem low_mem {l : List (Int × Int)} {k : Int} {p : Int × Int} : p ∈ lowL l k ↔ p ∈ l ∧ p.1 < k := by unfold lowL; simp
theorem gt_mem {l : List (Int × Int)} {k : Int} {p : Int × Int} : p ∈ gtL l k ↔ p ∈ l ∧ k < p.1 := by unfold gtL; simp
theorem get_iff {l : List (Int × Int)} (hu : Up l) {k : Int} {p : Int × Int} : getL l k = some p ↔ p ∈ l ∧ p.1 = k := by
  constructor
  · intro h
    exact ⟨List.mem_of_find?_eq_some h, get_key h⟩
  · rintro ⟨h1, rfl⟩
    obtain ⟨A, B, rfl⟩ := List.append_of_mem h1
    exact get_at hu
theorem get_put {l : List (Int × Int)} (hu : Up l) (k v j : Int) : getL (putL l k v) j = if j = k then some (k, v) else getL l j := by
  have hp := hu.put k v
  by_cases h : j = k
  · subst h
    rw [if_pos rfl, get_iff hp]
    exact ⟨by unfold putL; simp, rfl⟩
  · rw [if_neg h]
    cases hg : getL l j with
    | some p =>
      rw [get_iff hu] at hg
      rw [get_iff hp]
      refine ⟨?_, hg.2⟩
      unfold putL
      rw [List.mem_append, List.mem_cons, low_mem, gt_mem]
      have := hg.2
      rcases Int.lt_trichotomy p.1 k with h1 | h1 | h1
      · exact .inl ⟨hg.1, h1⟩
      · omega
      · exact .inr (.inr ⟨hg.1, h1⟩)
    | none =>
      cases hq : getL (putL l k v) j with
      | none => rfl
      | some p =>
        rw [get_iff hp] at hq
        exfalso
        have h1 := hq.1
        unfold putL at h1
        rw [List.mem_append, List.mem_cons, low_mem, gt_mem] at h1
        have hm : p ∈ l := by
          rcases h1 with h1 | h1 | h1
          · exact h1.1
          · exact absurd (hq.2.symm.trans (by rw [h1])) h
          · exact h1.1
        have := (get_iff hu).2 ⟨hm, hq.2⟩
        rw [hg] at this
        cases this
theorem get_drop {l : List (Int × Int)} (hu : Up l) (k j : Int) : getL (dropL l k) j = if j = k then none else getL l j := by
  have hp := hu.drop k
  cases hq : getL (dropL l k) j with
  | some p =>
    rw [get_iff hp] at hq
    have h1 := hq.1
    unfold dropL at h1
    rw [List.mem_append, low_mem, gt_mem] at h1
    have hjk : ¬ j = k := by have := hq.2; rcases h1 with h1 | h1 <;> omega
    rw [if_neg hjk]
    exact ((get_iff hu).2 ⟨by rcases h1 with h1 | h1 <;> exact h1.1, hq.2⟩).symm
  | none =>
    by_cases h : j = k
    · rw [if_pos h]
    · rw [if_neg h]
      cases hg : getL l j with
      | none => rfl
      | some p =>
        rw [get_iff hu] at hg
        have : getL (dropL l k) j = some p := by
          rw [get_iff hp]
          refine ⟨?_, hg.2⟩
          unfold dropL
          rw [List.mem_append, low_mem, gt_mem]
          have := hg.2
          rcases Int.lt_trichotomy p.1 k with h1 | h1 | h1
          · exact .inl ⟨hg.1, h1⟩
          · omega
          · exact .inr ⟨hg.1, h1⟩
        rw [hq] at this
        cases this

/-- Pairs that tell how often each key stands. -/
def Tal (P : List (Int × Int)) (f : Int → Nat) : Prop := Up P ∧ ∀ k, getL P k = if f k = 0 then none else some (k, (f k : Int))
theorem Tal.nil : Tal [] (fun _ => 0) := ⟨Up.nil, fun _ => rfl⟩
theorem Tal.more {P : List (Int × Int)} {f : Int → Nat} (h : Tal P f) (k : Int) {n : Int} (hn : n = (f k : Int) + 1) : Tal (putL P k n) (fun j => f j + if j = k then 1 else 0) := by
  refine ⟨h.1.put k n, fun j => ?_⟩
  rw [get_put h.1]
  by_cases e : j = k
  · subst e; simp [hn]
  · simp only [if_neg e, h.2 j, Nat.add_zero]
theorem Tal.less {P : List (Int × Int)} {f g : Int → Nat} (h : Tal P f) (k : Int) {n : Int} (hn : n = (f k : Int) - 1) (h2 : 1 < f k) (hg : ∀ j, f j = g j + if j = k then 1 else 0) : Tal (putL P k n) g := by
  refine ⟨h.1.put k n, fun j => ?_⟩
  rw [get_put h.1]
  have hj := hg j
  by_cases e : j = k
  · subst e
    rw [if_pos rfl] at hj ⊢
    rw [if_neg (by omega), hn, show ((f j : Nat) : Int) - 1 = (g j : Int) by omega]
  · rw [if_neg e] at hj ⊢
    rw [h.2 j, hj]; rfl
theorem Tal.gone {P : List (Int × Int)} {f g : Int → Nat} (h : Tal P f) (k : Int) (h2 : f k = 1) (hg : ∀ j, f j = g j + if j = k then 1 else 0) : Tal (dropL P k) g := by
  refine ⟨h.1.drop k, fun j => ?_⟩
  rw [get_drop h.1]
  have hj := hg j
  by_cases e : j = k
  · subst e
    rw [if_pos rfl] at hj ⊢
    rw [if_pos (by omega)]
  · rw [if_neg e] at hj ⊢
    rw [h.2 j, hj]; rfl
theorem Tal.mem {P : List (Int × Int)} {f : Int → Nat} (h : Tal P f) (k : Int) : k ∈ P.map (·.1) ↔ 0 < f k := by
  rw [← get_mem, h.2 k]
  by_cases e : f k = 0
  · simp [e]
  · simp [e]; omega
theorem Tal.rise {P : List (Int × Int)} {f : Int → Nat} (h : Tal P f) : (P.map (·.1)).Pairwise (· < ·) := by
  rw [List.pairwise_map]; exact h.1
theorem rise_len : ∀ {x ks : List Int}, x.Pairwise (· < ·) → (∀ a ∈ x, a ∈ ks) → x.length ≤ ks.length
  | [], _, _, _ => Nat.zero_le _
  | a :: x, ks, hx, h => by
    obtain ⟨h1, h2⟩ := List.pairwise_cons.1 hx
    have hm := h a (by simp)
    have := rise_len (ks := ks.erase a) h2 fun b hb => (List.mem_erase_of_ne (by have := h1 b hb; omega)).2 (h b (by simp [hb]))
    rw [List.length_erase_of_mem hm] at this
    have : 0 < ks.length := List.length_pos_of_mem hm
    simp only [List.length_cons]; omega

/-- A range's boundaries above 0. -/
def cutsR (r : Nat × Nat) : List Int := (if 0 < r.1 then [(r.1 : Int)] else []) ++ (if r.2 < 4294967295 then [(r.2 : Int) + 1] else [])
/-- A range's key. -/
def keyI (r : Nat × Nat) : Int := (r.1 : Int) * 4294967296 + (r.2 : Int)
def nC (L : List (Nat × Nat)) (k : Int) : Nat := (L.flatMap cutsR).count k
def nR (L : List (Nat × Nat)) (k : Int) : Nat := (L.map keyI).count k
theorem nC_nil : nC [] = fun _ => 0 := rfl
theorem nR_nil : nR [] = fun _ => 0 := rfl
theorem nC_perm {L M : List (Nat × Nat)} (h : L.Perm M) : nC L = nC M := funext fun k => (h.flatMap_right cutsR).count_eq k
theorem nR_perm {L M : List (Nat × Nat)} (h : L.Perm M) : nR L = nR M := funext fun k => (h.map keyI).count_eq k
theorem nC_cons (r : Nat × Nat) (L : List (Nat × Nat)) (k : Int) : nC (r :: L) k = (cutsR r).count k + nC L k := by unfold nC; rw [List.flatMap_cons, List.count_append]
theorem nR_cons (r : Nat × Nat) (L : List (Nat × Nat)) (k : Int) : nR (r :: L) k = nR L k + if k = keyI r then 1 else 0 := by
  unfold nR
  rw [List.map_cons, List.count_cons]
  by_cases h : k = keyI r
  · subst h; simp
  · rw [if_neg h, if_neg (by simpa using fun e => h e.symm)]
theorem snoc_perm (L : List (Nat × Nat)) (r : Nat × Nat) : (L ++ [r]).Perm (r :: L) := List.perm_append_singleton r L
theorem nC_snoc (r : Nat × Nat) (L : List (Nat × Nat)) (k : Int) : nC (L ++ [r]) k = nC L k + (cutsR r).count k := by rw [nC_perm (snoc_perm L r), nC_cons]; omega
theorem nR_snoc (r : Nat × Nat) (L : List (Nat × Nat)) (k : Int) : nR (L ++ [r]) k = nR L k + if k = keyI r then 1 else 0 := by rw [nR_perm (snoc_perm L r), nR_cons]
theorem nC_erase {r : Nat × Nat} {L : List (Nat × Nat)} (h : r ∈ L) (k : Int) : nC L k = nC (L.erase r) k + (cutsR r).count k := by rw [nC_perm (List.perm_cons_erase h), nC_cons]; omega
theorem nR_erase {r : Nat × Nat} {L : List (Nat × Nat)} (h : r ∈ L) (k : Int) : nR L k = nR (L.erase r) k + if k = keyI r then 1 else 0 := by rw [nR_perm (List.perm_cons_erase h), nR_cons]

/-- Right ranges, no more than may be. -/
def RL (L : List (Nat × Nat)) : Prop := (∀ r ∈ L, r.1 ≤ r.2 ∧ r.2 < 4294967296) ∧ L.length ≤ 500
theorem RL.nil : RL [] := ⟨fun r h => by simp at h, by simp⟩
theorem RL.perm {L M : List (Nat × Nat)} (h : RL L) (hp : L.Perm M) : RL M := ⟨fun r hr => h.1 r (hp.mem_iff.2 hr), hp.length_eq ▸ h.2⟩
theorem RL.u32 {L : List (Nat × Nat)} (h : RL L) : U32 L := fun r hr => by have := h.1 r hr; omega
theorem RL.snoc {L : List (Nat × Nat)} {r : Nat × Nat} (h : RL L) (h1 : r.1 ≤ r.2) (h2 : r.2 < 4294967296) (h3 : L.length < 500) : RL (L ++ [r]) := by
  refine ⟨fun q hq => ?_, by simp; omega⟩
  rcases List.mem_append.1 hq with hq | hq
  · exact h.1 q hq
  · simp at hq; subst hq; exact ⟨h1, h2⟩
theorem RL.erase {L : List (Nat × Nat)} (h : RL L) (r : Nat × Nat) : RL (L.erase r) :=
  ⟨fun q hq => h.1 q (List.mem_of_mem_erase hq), Nat.le_trans List.length_erase_le h.2⟩
theorem keyI_inj {r s : Nat × Nat} (hr : r.2 < 4294967296) (hs : s.2 < 4294967296) (h : keyI r = keyI s) : r = s := by
  unfold keyI at h
  have h1 : r.1 = s.1 := by omega
  exact Prod.ext h1 (by omega)
theorem nR_count {L : List (Nat × Nat)} (h : RL L) {r : Nat × Nat} (hr : r.2 < 4294967296) : nR L (keyI r) = L.count r := by
  have h1 := h.1
  clear h
  induction L with
  | nil => rfl
  | cons q L ih =>
    rw [nR_cons, ih fun s hs => h1 s (by simp [hs]), List.count_cons]
    by_cases e : q = r
    · subst e; simp
    · have e3 : ¬ keyI r = keyI q := fun e2 => e (keyI_inj (h1 q (by simp)).2 hr e2.symm)
      rw [if_neg e3, if_neg (by simpa using e)]
theorem cutsR_pos {r : Nat × Nat} {k : Int} (h : k ∈ cutsR r) : 0 < k := by
  unfold cutsR at h
  rcases List.mem_append.1 h with h | h <;> (split at h <;> simp at h <;> omega)
theorem cutsR_mem {r : Nat × Nat} (h2 : r.2 < 4294967296) (h1 : r.1 ≤ r.2) {k : Int} : k ∈ cutsR r ↔ 0 < k ∧ k < 4294967296 ∧ (k = r.1 ∨ k = (r.2 : Int) + 1) := by
  unfold cutsR
  rw [List.mem_append]
  constructor
  · rintro (h | h) <;> (split at h <;> simp at h <;> omega)
  · rintro ⟨h3, h4, h | h⟩
    · left; rw [if_pos (by omega)]; simp [h]
    · right; rw [if_pos (by omega)]; simp [h]
theorem nC_pos {L : List (Nat × Nat)} (h : RL L) {k : Int} : 0 < nC L k ↔ 0 < k ∧ k < 4294967296 ∧ ∃ r ∈ L, k = r.1 ∨ k = (r.2 : Int) + 1 := by
  unfold nC
  rw [List.count_pos_iff, List.mem_flatMap]
  constructor
  · rintro ⟨r, hr, hk⟩
    obtain ⟨h1, h2, h3⟩ := (cutsR_mem (h.1 r hr).2 (h.1 r hr).1).1 hk
    exact ⟨h1, h2, r, hr, h3⟩
  · rintro ⟨h1, h2, r, hr, h3⟩
    exact ⟨r, hr, (cutsR_mem (h.1 r hr).2 (h.1 r hr).1).2 ⟨h1, h2, h3⟩⟩
theorem cutsR_len (r : Nat × Nat) : (cutsR r).length ≤ 2 := by unfold cutsR; rw [List.length_append]; split <;> split <;> simp
theorem flat_len (L : List (Nat × Nat)) : (L.flatMap cutsR).length ≤ 2 * L.length := by
  induction L with
  | nil => simp
  | cons r L ih => rw [List.flatMap_cons, List.length_append]; have := cutsR_len r; simp only [List.length_cons]; omega
theorem tal_len {P : List (Int × Int)} {L : List (Nat × Nat)} (h : Tal P (nC L)) : P.length ≤ 2 * L.length := by
  have := rise_len (ks := L.flatMap cutsR) h.rise fun a ha => List.count_pos_iff.1 ((h.mem a).1 ha)
  have := flat_len L
  simp at *; omega
theorem talR_len {P : List (Int × Int)} {L : List (Nat × Nat)} (h : Tal P (nR L)) : P.length ≤ L.length := by
  have := rise_len (ks := L.map keyI) h.rise fun a ha => List.count_pos_iff.1 ((h.mem a).1 ha)
  simp at *; omega

/-- The boundaries of ranges. -/
def bnds (L : List (Nat × Nat)) : List Nat := cutsL 4294967296 0 (ends L)
theorem cutsL_in (m : Nat) (all : List Nat) : ∀ (d lo : Nat), m - lo ≤ d → ∀ x ∈ cutsL m lo all, x ∈ all := by
  intro d
  induction d with
  | zero =>
    intro lo hd x hx
    by_cases h : nx m lo all < m
    · have := nx_lo h; omega
    · rw [cutsL_nil h] at hx; simp at hx
  | succ d ih =>
    intro lo hd x hx
    by_cases h : nx m lo all < m
    · rw [cutsL_cons h] at hx
      have h0 := nx_lo h
      rcases List.mem_cons.1 hx with e | hx
      · rw [e]; exact h0.2
      · exact ih _ (by omega) x hx
    · rw [cutsL_nil h] at hx; simp at hx
theorem bnds_rise (L : List (Nat × Nat)) : Rising 0 4294967296 (bnds L) := (cutsL_spec 4294967296 (ends L) 4294967296 0 (by omega)).1
theorem bnds_mem (L : List (Nat × Nat)) (x : Nat) : x ∈ bnds L ↔ x ∈ ends L ∧ x < 4294967296 := by
  constructor
  · intro h; exact ⟨cutsL_in _ _ 4294967296 0 (by omega) x h, (rising_mem (bnds_rise L) x h).2⟩
  · rintro ⟨h1, h2⟩
    exact (cutsL_spec 4294967296 (ends L) 4294967296 0 (by omega)).2 x h1 (by omega) h2
theorem mem_ends {L : List (Nat × Nat)} {x : Nat} : x ∈ ends L ↔ x = 0 ∨ ∃ r ∈ L, x = r.1 ∨ x = r.2 + 1 := by
  unfold ends
  rw [List.mem_cons, List.mem_flatMap]
  simp
theorem bnds_cons (L : List (Nat × Nat)) : ∃ T, bnds L = 0 :: T := by
  have h := cutsL_head (m := 4294967296) (all := ends L) (by simp [ends]) (by omega)
  change (bnds L).head? = some 0 at h
  cases hb : bnds L with
  | nil => rw [hb] at h; cases h
  | cons c T => rw [hb] at h; simp at h; exact ⟨T, by rw [h]⟩
theorem rising_pw : ∀ {l : List Nat} {lo m : Nat}, Rising lo m l → (l.map (fun c : Nat => (c : Int))).Pairwise (· < ·)
  | [], _, _, _ => List.Pairwise.nil
  | c :: l, lo, m, h => by
    rw [List.map_cons, List.pairwise_cons]
    refine ⟨fun a ha => ?_, rising_pw h.2.2⟩
    obtain ⟨x, hx, rfl⟩ := List.mem_map.1 ha
    have := (rising_mem h.2.2 x hx).1
    omega
theorem bnds_perm {L M : List (Nat × Nat)} (h : ∀ r, r ∈ L ↔ r ∈ M) : bnds L = bnds M := by
  have e : (bnds L).map (fun c : Nat => (c : Int)) = (bnds M).map (fun c : Nat => (c : Int)) := by
    refine rise_eq (rising_pw (bnds_rise L)) (rising_pw (bnds_rise M)) fun a => ?_
    rw [List.mem_map, List.mem_map]
    have key : ∀ x, x ∈ bnds L ↔ x ∈ bnds M := fun x => by
      rw [bnds_mem, bnds_mem, mem_ends, mem_ends]
      simp only [h]
    simp only [key]
  have := congrArg (List.map Int.toNat) e
  rw [List.map_map, List.map_map] at this
  have hid : (Int.toNat ∘ fun c : Nat => (c : Int)) = id := funext fun c => by simp
  rw [hid, List.map_id, List.map_id] at this
  exact this
/-- The boundaries above 0 are the keys of the pairs that tell how often they stand. -/
theorem bnds_keys {P : List (Int × Int)} {L : List (Nat × Nat)} (hL : RL L) (h : Tal P (nC L)) : bnds L = 0 :: P.map (fun p => p.1.toNat) ∧ ∀ p ∈ P, 0 < p.1 ∧ p.1 < 4294967296 := by
  obtain ⟨T, hT⟩ := bnds_cons L
  have hr := bnds_rise L
  rw [hT] at hr
  have hrT : Rising 1 4294967296 T := hr.2.2
  have hp : ∀ p ∈ P, 0 < p.1 ∧ p.1 < 4294967296 := fun p hp => by
    have := (nC_pos hL).1 ((h.mem p.1).1 (List.mem_map.2 ⟨p, hp, rfl⟩))
    exact ⟨this.1, this.2.1⟩
  refine ⟨?_, hp⟩
  have e : P.map (·.1) = T.map (fun c : Nat => (c : Int)) := by
    refine rise_eq h.rise (rising_pw hrT) fun a => ?_
    rw [h.mem, nC_pos hL]
    constructor
    · rintro ⟨h1, h2, r, hr', h3⟩
      have hm : a.toNat ∈ bnds L := by
        rw [bnds_mem, mem_ends]
        exact ⟨.inr ⟨r, hr', by omega⟩, by omega⟩
      rw [hT] at hm
      rcases List.mem_cons.1 hm with e | hm
      · omega
      · exact List.mem_map.2 ⟨_, hm, by omega⟩
    · intro ha
      obtain ⟨x, hx, rfl⟩ := List.mem_map.1 ha
      have h1 := rising_mem hrT x hx
      have hm : x ∈ bnds L := by rw [hT]; simp [hx]
      rw [bnds_mem, mem_ends] at hm
      refine ⟨by omega, by omega, ?_⟩
      rcases hm.1 with e | ⟨r, hr', h3⟩
      · omega
      · exact ⟨r, hr', by omega⟩
  have := congrArg (List.map Int.toNat) e
  rw [List.map_map, List.map_map] at this
  have hid : (Int.toNat ∘ fun c : Nat => (c : Int)) = id := funext fun c => by simp
  rw [hid, List.map_id] at this
  rw [hT, ← this]
  rfl
theorem bnds_len {P : List (Int × Int)} {L : List (Nat × Nat)} (hL : RL L) (h : Tal P (nC L)) : (bnds L).length = P.length + 1 := by
  rw [(bnds_keys hL h).1]; simp

/-- The i-th atom. -/
def frm (C : List Nat) (i : Nat) : Nat := C.getD i 0
def too (C : List Nat) (i : Nat) : Nat := endOf 4294967296 (C.drop (i + 1))
/-- How many boundaries lie not above an address; but the first one. -/
def ofL (C : List Nat) (a : Nat) : Nat := (C.tail.filter fun c => decide (c ≤ a)).length
theorem too_in {C : List Nat} {i : Nat} (h : i + 1 < C.length) : too C i = C[i + 1] - 1 := by unfold too; rw [List.drop_eq_getElem_cons h]; rfl
theorem too_last {C : List Nat} {i : Nat} (h : C.length ≤ i + 1) : too C i = 4294967295 := by unfold too; rw [List.drop_eq_nil_of_le h]; rfl
theorem frm_in {C : List Nat} {i : Nat} (h : i < C.length) : frm C i = C[i] := by unfold frm; simp [h]
theorem rising_at : ∀ {l : List Nat} {lo m : Nat}, Rising lo m l → ∀ i j (hi : i < l.length) (hj : j < l.length), i < j → l[i] < l[j]
  | [], _, _, _, i, _, hi, _, _ => by simp at hi
  | c :: l, lo, m, h, i, 0, _, _, hij => by omega
  | c :: l, lo, m, h, 0, j + 1, _, hj, _ => by
    have hj' : j < l.length := by simpa using hj
    have := (rising_mem h.2.2 l[j] (List.getElem_mem hj')).1
    simp only [List.getElem_cons_zero, List.getElem_cons_succ]; omega
  | c :: l, lo, m, h, i + 1, j + 1, hi, hj, hij => by
    have := rising_at h.2.2 i j (by simpa using hi) (by simpa using hj) (by omega)
    simpa using this
theorem filter_le : ∀ {l : List Nat} {lo m : Nat} (a : Nat), Rising lo m l → (l.filter fun c => decide (c ≤ a)).length ≤ l.length ∧ ∀ i (h : i < l.length), (i < (l.filter fun c => decide (c ≤ a)).length ↔ l[i] ≤ a)
  | [], _, _, a, _ => ⟨by simp, fun i h => by simp at h⟩
  | c :: l, lo, m, a, hr => by
    refine ⟨List.length_filter_le _ _, fun i h => ?_⟩
    obtain ⟨_, h2⟩ := filter_le a hr.2.2
    by_cases hc : c ≤ a
    · rw [List.filter_cons_of_pos (by simpa using hc)]
      match i with
      | 0 => simp; exact hc
      | i + 1 =>
        have := h2 i (by simpa using h)
        simp only [List.length_cons, List.getElem_cons_succ]
        rw [← this]; omega
    · rw [List.filter_cons_of_neg (by simpa using hc)]
      have hz : (l.filter fun c => decide (c ≤ a)) = [] := by
        rw [List.filter_eq_nil_iff]
        intro x hx
        have := (rising_mem hr.2.2 x hx).1
        simp; omega
      rw [hz]
      have h3 : c ≤ (c :: l)[i] := by
        match i with
        | 0 => simp
        | i + 1 =>
          have h' : i < l.length := by simpa using h
          have := (rising_mem hr.2.2 l[i] (List.getElem_mem h')).1
          simp only [List.getElem_cons_succ]; omega
      simp only [List.length_nil]; omega
/-- Boundaries: rising, from 0 on. -/
def Bd (C : List Nat) : Prop := Rising 0 4294967296 C ∧ ∃ T, C = 0 :: T
theorem bd_of (L : List (Nat × Nat)) : Bd (bnds L) := ⟨bnds_rise L, bnds_cons L⟩
theorem Bd.pos {C : List Nat} (h : Bd C) : 0 < C.length := by obtain ⟨_, T, rfl⟩ := h; simp
theorem Bd.zero {C : List Nat} (h : Bd C) : C[0]'h.pos = 0 := by obtain ⟨_, T, rfl⟩ := h; rfl
theorem Bd.lt {C : List Nat} (h : Bd C) {i : Nat} (hi : i < C.length) : C[i] < 4294967296 := (rising_mem h.1 _ (List.getElem_mem hi)).2
theorem Bd.frm_le {C : List Nat} (h : Bd C) {i : Nat} (hi : i < C.length) : frm C i ≤ too C i ∧ too C i < 4294967296 := by
  rw [frm_in hi]
  have := h.lt hi
  by_cases h1 : i + 1 < C.length
  · have := rising_at h.1 i (i + 1) hi h1 (by omega); have := h.lt h1; rw [too_in h1]; omega
  · rw [too_last (by omega)]; omega
theorem Bd.next {C : List Nat} (h : Bd C) {i : Nat} (hi : i + 1 < C.length) : frm C (i + 1) = too C i + 1 := by
  have := rising_at h.1 i (i + 1) (by omega) hi (by omega)
  rw [frm_in hi, too_in hi]; omega
theorem Bd.of_le {C : List Nat} (h : Bd C) (a : Nat) : ofL C a < C.length := by
  obtain ⟨h1, T, rfl⟩ := h
  have := (filter_le a h1.2.2).1
  unfold ofL; simp only [List.tail_cons, List.length_cons]; omega
theorem Bd.of_iff {C : List Nat} (h : Bd C) (a i : Nat) (hi : i < C.length) : i ≤ ofL C a ↔ frm C i ≤ a := by
  rw [frm_in hi]
  obtain ⟨h1, T, rfl⟩ := h
  match i with
  | 0 => simp
  | i + 1 =>
    have := (filter_le a h1.2.2).2 i (by simpa using hi)
    unfold ofL; simp only [List.tail_cons, List.getElem_cons_succ]
    rw [← this]; omega
/-- The atom that has an address. -/
theorem Bd.of_in {C : List Nat} (h : Bd C) {a : Nat} (ha : a < 4294967296) : frm C (ofL C a) ≤ a ∧ a ≤ too C (ofL C a) := by
  have hl := h.of_le a
  refine ⟨(h.of_iff a _ hl).1 (Nat.le_refl _), ?_⟩
  by_cases h1 : ofL C a + 1 < C.length
  · have h2 := h.of_iff a _ h1
    have : ¬ frm C (ofL C a + 1) ≤ a := fun e => by have := h2.2 e; omega
    rw [h.next h1] at this
    omega
  · rw [too_last (by omega)]; omega
theorem Bd.of_eq {C : List Nat} (h : Bd C) {a i : Nat} (hi : i < C.length) (h1 : frm C i ≤ a) (h2 : a ≤ too C i) : ofL C a = i := by
  have h3 := (h.of_iff a i hi).2 h1
  have h4 := h.of_le a
  apply Classical.byContradiction
  intro hne
  have h5 : i + 1 < C.length := by omega
  have h6 := (h.of_iff a (i + 1) h5).1 (by omega)
  rw [h.next h5] at h6
  omega
theorem Bd.frm_of {C : List Nat} (h : Bd C) {a : Nat} (ha : a ∈ C) : frm C (ofL C a) = a := by
  obtain ⟨i, hi, rfl⟩ := List.getElem_of_mem ha
  have e := frm_in hi
  have h2 := h.frm_le hi
  rw [h.of_eq hi (by omega) (by omega), e]
theorem Bd.too_of {C : List Nat} (h : Bd C) {a : Nat} (h0 : a < 4294967296) (ha : a + 1 ∈ C ∨ a = 4294967295) : too C (ofL C a) = a := by
  have h1 := h.of_in h0
  have h2 := h.of_le a
  have h3 := h.frm_le h2
  rcases ha with ha | ha
  · obtain ⟨i, hi, e⟩ := List.getElem_of_mem ha
    have e2 := frm_in hi
    by_cases hc : ofL C a + 1 < C.length
    · have h4 : ¬ i ≤ ofL C a := fun e3 => by have := (h.of_iff a i hi).1 e3; omega
      have h5 : frm C (ofL C a + 1) ≤ C[i] := by
        rw [frm_in hc]
        by_cases e3 : ofL C a + 1 = i
        · subst e3; exact Nat.le_refl _
        · exact Nat.le_of_lt (rising_at h.1 _ i hc hi (by omega))
      rw [h.next hc] at h5
      omega
    · exfalso
      have : ¬ i ≤ ofL C a := fun e3 => by have := (h.of_iff a i hi).1 e3; omega
      omega
  · omega
theorem Bd.last {C : List Nat} (h : Bd C) {i : Nat} (hi : i + 1 = C.length) : too C i = 4294967295 := too_last (by omega)

/-- The atoms, as the document lists them. -/
def atomsL (C : List Nat) : List (Nat × Nat) := (List.range C.length).map fun i => (frm C i, too C i)
theorem atomsL_len (C : List Nat) : (atomsL C).length = C.length := by simp [atomsL]
theorem atomsL_at (C : List Nat) (i : Nat) (h : i < (atomsL C).length) : (atomsL C)[i] = (frm C i, too C i) := by simp [atomsL]
theorem mem_bnds {L : List (Nat × Nat)} (hL : RL L) {r : Nat × Nat} (hr : r ∈ L) : r.1 ∈ bnds L ∧ (r.2 + 1 ∈ bnds L ∨ r.2 = 4294967295) := by
  have h := hL.1 r hr
  obtain ⟨h1, h2⟩ := ends_mem hr
  refine ⟨(bnds_mem L _).2 ⟨h1, by omega⟩, ?_⟩
  by_cases e : r.2 = 4294967295
  · exact .inr e
  · exact .inl ((bnds_mem L _).2 ⟨h2, by omega⟩)
/-- Of the pairs: how many keys lie below. -/
theorem low_of {P : List (Int × Int)} {L : List (Nat × Nat)} (hL : RL L) (h : Tal P (nC L)) (a : Nat) : (lowL P ((a : Int) + 1)).length = ofL (bnds L) a := by
  obtain ⟨e, hp⟩ := bnds_keys hL h
  unfold ofL lowL
  rw [e, List.tail_cons, List.filter_map, List.length_map]
  congr 1
  refine List.filter_congr fun p hp' => ?_
  have := hp p hp'
  simp only [Function.comp]
  rw [decide_eq_decide]
  omega
/-- Of the pairs: the i-th one. -/
theorem at_of {P : List (Int × Int)} {L : List (Nat × Nat)} (hL : RL L) (h : Tal P (nC L)) (i : Nat) (hi : i < P.length) : ∃ n : Int, P[i] = (((frm (bnds L) (i + 1) : Nat) : Int), n) ∧ 0 < frm (bnds L) (i + 1) := by
  obtain ⟨e, hp⟩ := bnds_keys hL h
  have := hp P[i] (List.getElem_mem hi)
  have e2 : frm (bnds L) (i + 1) = P[i].1.toNat := by rw [e]; simp [frm, hi]
  refine ⟨P[i].2, Prod.ext ?_ rfl, by omega⟩
  show P[i].1 = ((frm (bnds L) (i + 1) : Nat) : Int)
  omega
end Go.Proofs.Ytjljkpecpofbcaa
