/- Plain mathematics of zones: lists of ranges (from, to), when they are right, what they have, that what they have fixes them, how many they have; building one stretch by stretch. No program. -/
namespace Go.Proofs.Ytonhmppobdbidaa

/-- The ranges are right, and each begins beyond the one ahead, and 1: 'lo' is the least place where the first may begin. -/
def RZ : Nat → List (Nat × Nat) → Prop
  | _, [] => True
  | lo, r :: z => lo ≤ r.1 ∧ r.1 ≤ r.2 ∧ RZ (r.2 + 2) z
/-- A zone has an address. -/
def has (z : List (Nat × Nat)) (a : Nat) : Bool := z.any fun r => decide (r.1 ≤ a) && decide (a ≤ r.2)
theorem has_nil (a : Nat) : has [] a = false := rfl
theorem has_cons (r : Nat × Nat) (z : List (Nat × Nat)) (a : Nat) : has (r :: z) a = (decide (r.1 ≤ a) && decide (a ≤ r.2) || has z a) := rfl
theorem has_append (x y : List (Nat × Nat)) (a : Nat) : has (x ++ y) a = (has x a || has y a) := by simp [has, List.any_append]
theorem has_iff {z : List (Nat × Nat)} {a : Nat} : has z a = true ↔ ∃ r ∈ z, r.1 ≤ a ∧ a ≤ r.2 := by simp [has]

theorem RZ.mono {lo lo' : Nat} {z : List (Nat × Nat)} (h : RZ lo z) (hl : lo' ≤ lo) : RZ lo' z := by
  cases z with
  | nil => trivial
  | cons r z => exact ⟨by have := h.1; omega, h.2⟩
theorem RZ.low {lo : Nat} {z : List (Nat × Nat)} (h : RZ lo z) {a : Nat} (ha : has z a = true) : lo ≤ a := by
  induction z generalizing lo with
  | nil => simp [has] at ha
  | cons r z ih =>
    obtain ⟨h1, h2, h3⟩ := h
    rw [has_cons] at ha
    simp only [Bool.or_eq_true, Bool.and_eq_true, decide_eq_true_eq] at ha
    rcases ha with h | h
    · omega
    · have := ih h3 h; omega
theorem has_below {lo a : Nat} {z : List (Nat × Nat)} (h : RZ lo z) (ha : a < lo) : has z a = false := by
  cases hh : has z a with
  | false => rfl
  | true => have := h.low hh; omega
theorem RZ.first {lo : Nat} {r : Nat × Nat} {z : List (Nat × Nat)} (h : RZ lo (r :: z)) : has (r :: z) r.1 = true := by
  rw [has_cons]; simp [h.2.1]
/-- What they have fixes right zones. -/
theorem rz_unique : ∀ (x y : List (Nat × Nat)) (lo lo' : Nat), RZ lo x → RZ lo' y → (∀ a, has x a = has y a) → x = y
  | [], [], _, _, _, _, _ => rfl
  | [], r :: y, _, _, _, hy, h => by have := h r.1; rw [hy.first, has_nil] at this; cases this
  | r :: x, [], _, _, hx, _, h => by have := h r.1; rw [hx.first, has_nil] at this; cases this
  | r :: x, s :: y, lo, lo', hx, hy, h => by
    have e1 : r.1 = s.1 := by
      have h1 := h r.1
      have h2 := h s.1
      rw [hx.first] at h1
      rw [hy.first] at h2
      have l1 : s.1 ≤ r.1 := (show RZ s.1 (s :: y) from ⟨Nat.le_refl _, hy.2⟩).low h1.symm
      have l2 : r.1 ≤ s.1 := (show RZ r.1 (r :: x) from ⟨Nat.le_refl _, hx.2⟩).low h2
      omega
    have key : ∀ (r s : Nat × Nat) (x y : List (Nat × Nat)) (lo lo' : Nat), RZ lo (r :: x) → RZ lo' (s :: y) → r.1 = s.1 → (∀ a, has (r :: x) a = has (s :: y) a) → ¬ r.2 < s.2 := by
      intro r s x y lo lo' hx hy e1 h hlt
      have h1 := h (r.2 + 1)
      have hx' := has_below hx.2.2 (show r.2 + 1 < r.2 + 2 by omega)
      have h3 := hx.2.1
      have d1 : decide (r.2 + 1 ≤ r.2) = false := by simp
      have d2 : decide (s.1 ≤ r.2 + 1) = true := by simp; omega
      have d3 : decide (r.2 + 1 ≤ s.2) = true := by simp; omega
      rw [has_cons, has_cons, hx', d1, d2, d3] at h1
      simp at h1
    have e2 : r.2 = s.2 := by
      have k1 := key r s x y lo lo' hx hy e1 h
      have k2 := key s r y x lo' lo hy hx e1.symm (fun a => (h a).symm)
      omega
    have e : r = s := Prod.ext e1 e2
    subst e
    congr 1
    refine rz_unique x y _ _ hx.2.2 hy.2.2 fun a => ?_
    by_cases ha : a < r.2 + 2
    · rw [has_below hx.2.2 ha, has_below hy.2.2 ha]
    · have h1 := h a
      have d : decide (a ≤ r.2) = false := by simp; omega
      rw [has_cons, has_cons, d] at h1
      simpa using h1

/-- All ends lie below n. -/
def Under (n : Nat) (z : List (Nat × Nat)) : Prop := ∀ r ∈ z, r.2 < n
theorem has_under {n a : Nat} {z : List (Nat × Nat)} (h : Under n z) (ha : n ≤ a) : has z a = false := by
  cases hh : has z a with
  | false => rfl
  | true =>
    obtain ⟨r, hr, h1, h2⟩ := has_iff.1 hh
    have := h r hr; omega

/-- How many of the first n numbers fulfil p. -/
def cnt (p : Nat → Bool) : Nat → Nat
  | 0 => 0
  | n + 1 => cnt p n + (p n).toNat
theorem cnt_congr {p q : Nat → Bool} {n : Nat} (h : ∀ a, a < n → p a = q a) : cnt p n = cnt q n := by
  induction n with
  | zero => rfl
  | succ n ih => simp only [cnt]; rw [ih (fun a ha => h a (by omega)), h n (by omega)]
theorem cnt_and_or (p q : Nat → Bool) (n : Nat) : cnt (fun a => p a && q a) n + cnt (fun a => p a || q a) n = cnt p n + cnt q n := by
  induction n with
  | zero => rfl
  | succ n ih => simp only [cnt]; cases p n <;> cases q n <;> simp only [Bool.and_true, Bool.and_false, Bool.or_true, Bool.or_false, Bool.toNat_true, Bool.toNat_false] <;> omega
theorem cnt_le (p : Nat → Bool) (n : Nat) : cnt p n ≤ n := by
  induction n with
  | zero => exact Nat.le_refl _
  | succ n ih => have := Bool.toNat_le (p n); simp only [cnt]; omega
theorem cnt_none {p : Nat → Bool} {n : Nat} (h : ∀ a, a < n → p a = false) : cnt p n = 0 := by
  induction n with
  | zero => rfl
  | succ n ih => simp only [cnt]; rw [ih (fun a ha => h a (by omega)), h n (by omega)]; rfl
theorem cnt_range (f t : Nat) (hft : f ≤ t) : ∀ n, t < n → cnt (fun a => decide (f ≤ a) && decide (a ≤ t)) n = t - f + 1
  | 0, h => by omega
  | n + 1, h => by
    simp only [cnt]
    by_cases hn : t < n
    · rw [cnt_range f t hft n hn]
      have : decide (n ≤ t) = false := by simp; omega
      rw [this]; simp
    · have : n = t := by omega
      subst this
      have h1 : cnt (fun a => decide (f ≤ a) && decide (a ≤ n)) n = n - f := by
        have key : ∀ m, m ≤ n → cnt (fun a => decide (f ≤ a) && decide (a ≤ n)) m = m - f := by
          intro m
          induction m with
          | zero => intro _; simp [cnt]
          | succ m ih =>
            intro hm
            simp only [cnt]
            rw [ih (by omega)]
            have d1 : decide (m ≤ n) = true := by simp; omega
            rw [d1]
            by_cases hfm : f ≤ m
            · simp [hfm]; omega
            · simp [hfm]; omega
        exact key n (Nat.le_refl _)
      rw [h1]; simp [hft]
theorem cnt_disj {p q : Nat → Bool} {n : Nat} (h : ∀ a, a < n → (p a && q a) = false) : cnt (fun a => p a || q a) n = cnt p n + cnt q n := by
  have h1 := cnt_and_or p q n
  rw [cnt_none h] at h1
  omega
/-- How many addresses a zone has. -/
def count (z : List (Nat × Nat)) : Nat := (z.map fun r => r.2 - r.1 + 1).sum
theorem count_cons (r : Nat × Nat) (z : List (Nat × Nat)) : count (r :: z) = (r.2 - r.1 + 1) + count z := by simp [count]
theorem count_is : ∀ (z : List (Nat × Nat)) (lo n : Nat), RZ lo z → Under n z → count z = cnt (has z) n
  | [], lo, n, _, _ => by
    rw [cnt_none (fun a _ => has_nil a)]; rfl
  | r :: z, lo, n, hr, hu => by
    have h1 : cnt (has (r :: z)) n = cnt (fun a => decide (r.1 ≤ a) && decide (a ≤ r.2)) n + cnt (has z) n := by
      rw [← cnt_disj]
      · exact cnt_congr fun a _ => has_cons r z a
      · intro a _
        by_cases ha : a < r.2 + 2
        · rw [has_below hr.2.2 ha]; simp
        · have : decide (a ≤ r.2) = false := by simp; omega
          rw [this]; simp
    rw [h1, cnt_range r.1 r.2 hr.2.1 n (hu r (by simp)), count_cons, count_is z _ n hr.2.2 (fun s hs => hu s (by simp [hs]))]

/-- A zone with a stretch more, behind it. -/
def joinZ (z : List (Nat × Nat)) (f t : Nat) : List (Nat × Nat) := match z.getLast? with
  | some r => if r.2 + 1 = f then z.dropLast ++ [(r.1, t)] else z ++ [(f, t)]
  | none => [(f, t)]
theorem RZ.snoc : ∀ {z : List (Nat × Nat)} {lo f t : Nat}, RZ lo z → (∀ r ∈ z, r.2 + 2 ≤ f) → lo ≤ f → f ≤ t → RZ lo (z ++ [(f, t)])
  | [], _, _, _, _, _, h2, h3 => ⟨h2, h3, trivial⟩
  | r :: z, _, f, t, h, h1, _, h3 => ⟨h.1, h.2.1, RZ.snoc h.2.2 (fun s hs => h1 s (by simp [hs])) (h1 r (by simp)) h3⟩
theorem RZ.ends : ∀ {z : List (Nat × Nat)} {r : Nat × Nat} {lo : Nat}, RZ lo (z ++ [r]) → (∀ s ∈ z, s.2 + 2 ≤ r.1) ∧ lo ≤ r.1 ∧ r.1 ≤ r.2 ∧ RZ lo z
  | [], _, _, h => ⟨fun s hs => by simp at hs, h.1, h.2.1, trivial⟩
  | s :: z, r, lo, h => by
    obtain ⟨h1, h2, h3, h4⟩ := RZ.ends h.2.2
    refine ⟨fun q hq => ?_, by have := h.1; have := h.2.1; omega, h3, h.1, h.2.1, h4⟩
    rcases List.mem_cons.1 hq with e | hq
    · subst e; exact h2
    · exact h1 q hq
theorem joinZ_spec {z : List (Nat × Nat)} {f t : Nat} (hz : RZ 0 z) (hu : Under f z) (hft : f ≤ t) :
    RZ 0 (joinZ z f t) ∧ Under (t + 1) (joinZ z f t) ∧ ∀ a, has (joinZ z f t) a = (has z a || decide (f ≤ a) && decide (a ≤ t)) := by
  rcases List.eq_nil_or_concat z with rfl | ⟨l, r, hlr⟩
  · refine ⟨⟨by omega, hft, trivial⟩, fun r hr => ?_, fun a => by simp [joinZ, has]⟩
    simp [joinZ] at hr; subst hr; show t < t + 1; omega
  · obtain rfl : z = l ++ [r] := by rw [hlr]; simp
    obtain ⟨h1, h2, h3, h4⟩ := RZ.ends hz
    have hr : r.2 < f := hu r (by simp)
    have hj : joinZ (l ++ [r]) f t = if r.2 + 1 = f then l ++ [(r.1, t)] else l ++ [r] ++ [(f, t)] := by
      unfold joinZ; simp
    rw [hj]
    by_cases he : r.2 + 1 = f
    · rw [if_pos he]
      refine ⟨RZ.snoc h4 h1 h2 (by omega), fun s hs => ?_, fun a => ?_⟩
      · rcases List.mem_append.1 hs with h | h
        · have := hu s (by simp [h]); omega
        · simp at h; subst h; show t < t + 1; omega
      · rw [has_append, has_append, has_cons, has_cons, has_nil, Bool.or_false, Bool.or_false, Bool.or_assoc]
        congr 1
        rw [Bool.eq_iff_iff]
        simp only [Bool.and_eq_true, Bool.or_eq_true, decide_eq_true_eq]
        omega
    · rw [if_neg he]
      refine ⟨RZ.snoc hz (fun s hs => ?_) (by omega) hft, fun s hs => ?_, fun a => ?_⟩
      · rcases List.mem_append.1 hs with h | h
        · have := h1 s h; omega
        · simp at h; subst h; omega
      · rcases List.mem_append.1 hs with h | h
        · have := hu s h; omega
        · simp at h; subst h; show t < t + 1; omega
      · rw [has_append, has_cons, has_nil, Bool.or_false]

/-- Rising cuts, from 'lo' on, below m. -/
def Rising : Nat → Nat → List Nat → Prop
  | _, _, [] => True
  | lo, m, c :: l => lo ≤ c ∧ c < m ∧ Rising (c + 1) m l
/-- The end of the stretch that begins at c, the next cuts being l. -/
def endOf (m : Nat) : List Nat → Nat
  | [] => m - 1
  | d :: _ => d - 1
/-- Where the next stretch begins; whether one of them has begun. -/
def nxt (m : Nat) : List Nat → Nat
  | [] => m
  | c :: _ => c
def begun : List Nat → Nat → Bool
  | [], _ => false
  | c :: _, a => decide (c ≤ a)
/-- Stretch by stretch: those at whose beginning p holds. -/
def build (m : Nat) (p : Nat → Bool) : List (Nat × Nat) → List Nat → List (Nat × Nat)
  | z, [] => z
  | z, c :: l => build m p (if p c then joinZ z c (endOf m l) else z) l
theorem build_spec {m : Nat} {p : Nat → Bool} : ∀ (l : List Nat) (z : List (Nat × Nat)) (lo : Nat), Rising lo m l → RZ 0 z → Under (nxt m l) z →
    (∀ i c, l[i]? = some c → ∀ a, c ≤ a → a ≤ endOf m (l.drop (i + 1)) → p a = p c) →
    RZ 0 (build m p z l) ∧ Under m (build m p z l) ∧ ∀ a, a < m → has (build m p z l) a = (has z a || begun l a && p a)
  | [], z, lo, _, hz, hu, _ => ⟨hz, hu, fun a _ => by simp [build, begun]⟩
  | c :: l, z, lo, hr, hz, hu, hp => by
    have he : c ≤ endOf m l := by
      have := hr.2.1
      cases l with
      | nil => simp only [endOf]; omega
      | cons d l => have := hr.2.2.1; simp only [endOf]; omega
    have hem : endOf m l < m := by
      have := hr.2.1
      cases l with
      | nil => simp only [endOf]; omega
      | cons d l => have := hr.2.2.1; have := hr.2.2.2.1; simp only [endOf]; omega
    have hnext : (nxt m l) = endOf m l + 1 := by
      have := hr.2.1
      cases l with
      | nil => simp only [endOf, nxt]; omega
      | cons d l => have := hr.2.2.1; simp only [endOf, nxt]; omega
    have hconst : ∀ a, c ≤ a → a ≤ endOf m l → p a = p c := fun a h1 h2 => hp 0 c rfl a h1 (by simpa using h2)
    have hp' : ∀ i d, l[i]? = some d → ∀ a, d ≤ a → a ≤ endOf m (l.drop (i + 1)) → p a = p d := fun i d hd a h1 h2 => hp (i + 1) d (by simpa using hd) a h1 (by simpa using h2)
    have tail : ∀ (a : Nat), a < m → begun l a = decide (endOf m l + 1 ≤ a) := by
      intro a ha
      cases l with
      | nil => have := hr.2.1; simp only [endOf, begun]; symm; apply decide_eq_false; omega
      | cons d l => have := hr.2.2.1; simp only [endOf, begun]; apply decide_eq_decide.2; omega
    unfold build
    by_cases hc : p c = true
    · rw [if_pos hc]
      obtain ⟨j1, j2, j3⟩ := joinZ_spec (f := c) hz hu he
      obtain ⟨b1, b2, b3⟩ := build_spec l (joinZ z c (endOf m l)) (c + 1) hr.2.2 j1 (by rw [hnext]; exact j2) hp'
      refine ⟨b1, b2, fun a ha => ?_⟩
      rw [b3 a ha, j3, tail a ha]
      show _ = (has z a || decide (c ≤ a) && p a)
      rw [Bool.or_assoc]
      congr 1
      by_cases h1 : c ≤ a
      · by_cases h2 : a ≤ endOf m l
        · rw [hconst a h1 h2, hc]; simp [h1, h2]
        · have : decide (endOf m l + 1 ≤ a) = true := by simp; omega
          rw [this]; simp [h1, h2]
      · have : decide (endOf m l + 1 ≤ a) = false := by simp; omega
        rw [this]; simp [h1]
    · rw [if_neg hc]
      have hu' : Under (nxt m l) z := by
        rw [hnext]; intro r hr'; have : r.2 < c := hu r hr'; show r.2 < _; omega
      obtain ⟨b1, b2, b3⟩ := build_spec l z (c + 1) hr.2.2 hz hu' hp'
      refine ⟨b1, b2, fun a ha => ?_⟩
      rw [b3 a ha, tail a ha]
      show _ = (has z a || decide (c ≤ a) && p a)
      congr 1
      have hc' : p c = false := by simpa using hc
      by_cases h1 : c ≤ a
      · by_cases h2 : a ≤ endOf m l
        · rw [hconst a h1 h2, hc']; simp
        · have : decide (endOf m l + 1 ≤ a) = true := by simp; omega
          rw [this]; simp [h1]
      · have : decide (endOf m l + 1 ≤ a) = false := by simp; omega
        rw [this]; simp [h1]

theorem rising_mem : ∀ {l : List Nat} {lo m : Nat}, Rising lo m l → ∀ x ∈ l, lo ≤ x ∧ x < m
  | [], _, _, _, x, hx => by simp at hx
  | c :: l, lo, m, h, x, hx => by
    rcases List.mem_cons.1 hx with e | hx
    · subst e; exact ⟨h.1, h.2.1⟩
    · have := rising_mem h.2.2 x hx; have := h.1; omega
theorem rising_gap : ∀ {l : List Nat} {lo m i c x : Nat}, Rising lo m l → l[i]? = some c → x ∈ l → c < x → endOf m (l.drop (i + 1)) < x
  | [], _, _, _, _, _, _, _, hx, _ => by simp at hx
  | d :: l, lo, m, 0, c, x, h, hc, hx, hlt => by
    have e : d = c := by simpa using hc
    subst e
    rcases List.mem_cons.1 hx with e | hx
    · omega
    · cases l with
      | nil => simp at hx
      | cons e l =>
        have h1 : e ≤ x := by
          rcases List.mem_cons.1 hx with e1 | hx
          · omega
          · have := (rising_mem h.2.2.2.2 x hx).1; omega
        have := h.2.2.1
        show e - 1 < x; omega
  | d :: l, lo, m, i + 1, c, x, h, hc, hx, hlt => by
    have hc' : l[i]? = some c := by simpa using hc
    have hdc := (rising_mem h.2.2 c (List.mem_of_getElem? hc')).1
    rcases List.mem_cons.1 hx with e | hx
    · omega
    · have := rising_gap h.2.2 hc' hx hlt
      simpa using this
/-- What is built of rising cuts that begin at 0, where p does not change between two of them. -/
theorem cuts_build {m : Nat} {p : Nat → Bool} {l : List Nat} (hr : Rising 0 m l) (h0 : l.head? = some 0) (hp : ∀ c a, c ≤ a → a < m → (∀ x ∈ l, ¬ (c < x ∧ x ≤ a)) → p a = p c) :
    RZ 0 (build m p [] l) ∧ Under m (build m p [] l) ∧ ∀ a, a < m → has (build m p [] l) a = p a := by
  obtain ⟨b1, b2, b3⟩ := build_spec (m := m) (p := p) l [] 0 hr trivial (fun r h => by simp at h) (fun i c hc a h1 h2 => by
    have hm : a < m := by
      have hcm := (rising_mem hr c (List.mem_of_getElem? hc)).2
      cases hd : l.drop (i + 1) with
      | nil => rw [hd] at h2; simp only [endOf] at h2; omega
      | cons d r =>
        rw [hd] at h2; simp only [endOf] at h2
        have : d ∈ l := List.mem_of_mem_drop (i := i + 1) (by rw [hd]; simp)
        have := (rising_mem hr d this).2; omega
    exact hp c a h1 hm fun x hx hcx => by have := rising_gap hr hc hx hcx.1; omega)
  refine ⟨b1, b2, fun a ha => ?_⟩
  rw [b3 a ha, has_nil]
  cases l with
  | nil => simp at h0
  | cons c l =>
    have e : c = 0 := by simpa using h0
    subst e
    simp [begun]
/-- Between the ends of its ranges nothing changes. -/
theorem has_const {l : List (Nat × Nat)} {c a : Nat} (hca : c ≤ a) (h1 : ∀ r ∈ l, ¬ (c < r.1 ∧ r.1 ≤ a)) (h2 : ∀ r ∈ l, ¬ (c < r.2 + 1 ∧ r.2 + 1 ≤ a)) : has l a = has l c := by
  rw [Bool.eq_iff_iff, has_iff, has_iff]
  constructor
  · rintro ⟨r, hr, h3, h4⟩
    have := h1 r hr; have := h2 r hr
    exact ⟨r, hr, by omega, by omega⟩
  · rintro ⟨r, hr, h3, h4⟩
    have := h1 r hr; have := h2 r hr
    exact ⟨r, hr, by omega, by omega⟩
theorem zone_eq {x y : List (Nat × Nat)} {m : Nat} (hx : RZ 0 x) (hy : RZ 0 y) (ux : Under m x) (uy : Under m y) (h : ∀ a, a < m → has x a = has y a) : x = y :=
  rz_unique x y 0 0 hx hy fun a => by
    by_cases ha : a < m
    · exact h a ha
    · rw [has_under ux (by omega), has_under uy (by omega)]

theorem zone_len : ∀ {z : List (Nat × Nat)} {lo n : Nat}, RZ lo z → Under n z → z ≠ [] → lo + 2 * z.length ≤ n + 1
  | [], _, _, _, _, h => absurd rfl h
  | [r], lo, n, h, hu, _ => by have := hu r (by simp); have := h.1; have := h.2.1; simp; omega
  | r :: s :: z, lo, n, h, hu, _ => by
    have := zone_len h.2.2 (fun q hq => hu q (by simp [hq])) (by simp)
    have := h.1; have := h.2.1
    simp at *; omega
theorem zone_len32 {z : List (Nat × Nat)} (h : RZ 0 z) (hu : Under 4294967296 z) : z.length ≤ 2147483648 := by
  by_cases hz : z = []
  · subst hz; simp
  · have := zone_len h hu hz; omega

/-- Right ranges, each From no less than the one ahead. -/
def Asc : Nat → List (Nat × Nat) → Prop
  | _, [] => True
  | lo, r :: z => lo ≤ r.1 ∧ r.1 ≤ r.2 ∧ Asc r.1 z
theorem Asc.mono {lo lo' : Nat} {z : List (Nat × Nat)} (h : Asc lo z) (hl : lo' ≤ lo) : Asc lo' z := by
  cases z with
  | nil => trivial
  | cons r z => exact ⟨by have := h.1; omega, h.2⟩
theorem Asc.below : ∀ {z : List (Nat × Nat)} {lo a : Nat}, Asc lo z → a < lo → has z a = false
  | [], _, _, _, _ => rfl
  | r :: z, lo, a, h, ha => by
    rw [has_cons, Asc.below h.2.2 (by have := h.1; omega)]
    have : decide (r.1 ≤ a) = false := by have := h.1; simp; omega
    rw [this]; rfl

/-- A range more: behind the last one, or into it. -/
def gstep (z : List (Nat × Nat)) (r : Nat × Nat) : List (Nat × Nat) := match z.getLast? with
  | some l => if l.2 + 1 < r.1 then z ++ [r] else z.dropLast ++ [(l.1, max l.2 r.2)]
  | none => [r]
def gatherZ (xs : List (Nat × Nat)) : List (Nat × Nat) := xs.foldl gstep []
theorem gatherZ_snoc (xs : List (Nat × Nat)) (r : Nat × Nat) : gatherZ (xs ++ [r]) = gstep (gatherZ xs) r := by simp [gatherZ]
theorem gstep_nil (r : Nat × Nat) : gstep [] r = [r] := rfl
theorem gstep_more {l : List (Nat × Nat)} {s r : Nat × Nat} (h : s.2 + 1 < r.1) : gstep (l ++ [s]) r = l ++ [s] ++ [r] := by unfold gstep; simp [h]
theorem gstep_into {l : List (Nat × Nat)} {s r : Nat × Nat} (h : ¬ s.2 + 1 < r.1) : gstep (l ++ [s]) r = l ++ [(s.1, max s.2 r.2)] := by unfold gstep; simp [h]
theorem gstep_spec {z : List (Nat × Nat)} {r : Nat × Nat} {n : Nat} (hz : RZ 0 z) (hu : Under n z) (hlo : ∀ s ∈ z, s.1 ≤ r.1) (hr : r.1 ≤ r.2) (hn : r.2 < n) :
    RZ 0 (gstep z r) ∧ Under n (gstep z r) ∧ (∀ s ∈ gstep z r, s.1 ≤ r.1) ∧ ∀ a, has (gstep z r) a = (has z a || decide (r.1 ≤ a) && decide (a ≤ r.2)) := by
  rcases List.eq_nil_or_concat z with rfl | ⟨l, s, hls⟩
  · refine ⟨⟨by omega, hr, trivial⟩, fun q hq => ?_, fun q hq => ?_, fun a => ?_⟩
    · simp [gstep_nil] at hq; subst hq; exact hn
    · simp [gstep_nil] at hq; subst hq; omega
    · rw [gstep_nil, has_cons, has_nil, Bool.or_false]; rfl
  · obtain rfl : z = l ++ [s] := by rw [hls]; simp
    obtain ⟨h1, h2, h3, h4⟩ := RZ.ends hz
    have hs := hlo s (by simp)
    have hsn := hu s (by simp)
    by_cases h : s.2 + 1 < r.1
    · rw [gstep_more h]
      refine ⟨RZ.snoc hz (fun q hq => ?_) (by omega) hr, fun q hq => ?_, fun q hq => ?_, fun a => ?_⟩
      · rcases List.mem_append.1 hq with h | h
        · have := h1 q h; omega
        · simp at h; subst h; omega
      · rcases List.mem_append.1 hq with h | h
        · exact hu q h
        · simp at h; subst h; exact hn
      · rcases List.mem_append.1 hq with h | h
        · exact hlo q h
        · simp at h; subst h; omega
      · rw [has_append, has_cons, has_nil, Bool.or_false]
    · rw [gstep_into h]
      refine ⟨RZ.snoc h4 h1 h2 (by omega), fun q hq => ?_, fun q hq => ?_, fun a => ?_⟩
      · rcases List.mem_append.1 hq with h | h
        · exact hu q (by simp [h])
        · simp at h; subst h; show max s.2 r.2 < n; omega
      · rcases List.mem_append.1 hq with h | h
        · exact hlo q (by simp [h])
        · simp at h; subst h; exact hs
      · rw [has_append, has_append, has_cons, has_cons, has_nil, Bool.or_false, Bool.or_false, Bool.or_assoc]
        congr 1
        rw [Bool.eq_iff_iff]
        simp only [Bool.and_eq_true, Bool.or_eq_true, decide_eq_true_eq]
        omega
theorem gfold_spec {n : Nat} : ∀ (xs z : List (Nat × Nat)) (lo : Nat), RZ 0 z → Under n z → (∀ s ∈ z, s.1 ≤ lo) → Asc lo xs → Under n xs →
    RZ 0 (xs.foldl gstep z) ∧ Under n (xs.foldl gstep z) ∧ ∀ a, has (xs.foldl gstep z) a = (has z a || has xs a)
  | [], z, _, h1, h2, _, _, _ => ⟨h1, h2, fun a => by simp [has_nil]⟩
  | r :: xs, z, lo, h1, h2, h3, h4, h5 => by
    obtain ⟨g1, g2, g3, g4⟩ := gstep_spec (r := r) h1 h2 (fun s hs => by have := h3 s hs; have := h4.1; omega) h4.2.1 (h5 r (by simp))
    obtain ⟨f1, f2, f3⟩ := gfold_spec xs (gstep z r) r.1 g1 g2 g3 h4.2.2 (fun s hs => h5 s (by simp [hs]))
    refine ⟨f1, f2, fun a => ?_⟩
    rw [List.foldl_cons, f3, g4, has_cons, Bool.or_assoc]
/-- Right ranges by rising From, merged: a right zone of the same addresses. -/
theorem gatherZ_spec {n : Nat} {xs : List (Nat × Nat)} (h : Asc 0 xs) (hu : Under n xs) : RZ 0 (gatherZ xs) ∧ Under n (gatherZ xs) ∧ ∀ a, has (gatherZ xs) a = has xs a := by
  obtain ⟨f1, f2, f3⟩ := gfold_spec xs [] 0 trivial (fun r h => by simp at h) (fun r h => by simp at h) h hu
  exact ⟨f1, f2, fun a => by rw [show gatherZ xs = xs.foldl gstep [] from rfl, f3, has_nil, Bool.false_or]⟩
theorem gstep_len (z : List (Nat × Nat)) (r : Nat × Nat) : (gstep z r).length ≤ z.length + 1 := by
  rcases List.eq_nil_or_concat z with rfl | ⟨l, s, hls⟩
  · simp [gstep_nil]
  · obtain rfl : z = l ++ [s] := by rw [hls]; simp
    by_cases h : s.2 + 1 < r.1
    · rw [gstep_more h]; simp
    · rw [gstep_into h]; simp
theorem gatherZ_len (xs : List (Nat × Nat)) : (gatherZ xs).length ≤ xs.length := by
  have key : ∀ (xs z : List (Nat × Nat)), (xs.foldl gstep z).length ≤ z.length + xs.length := by
    intro xs
    induction xs with
    | nil => intro z; simp
    | cons r xs ih => intro z; have := ih (gstep z r); have := gstep_len z r; simp only [List.foldl_cons, List.length_cons]; omega
  have := key xs []
  simpa [gatherZ] using this
/-- All numbers fit in 32 bits. -/
def U32 (L : List (Nat × Nat)) : Prop := ∀ r ∈ L, r.1 < 4294967296 ∧ r.2 < 4294967296
theorem gstep_u32 {z : List (Nat × Nat)} {r : Nat × Nat} (hz : U32 z) (hr : r.1 < 4294967296 ∧ r.2 < 4294967296) : U32 (gstep z r) := by
  rcases List.eq_nil_or_concat z with rfl | ⟨l, s, hls⟩
  · intro q hq; simp [gstep_nil] at hq; subst hq; exact hr
  · obtain rfl : z = l ++ [s] := by rw [hls]; simp
    have hs := hz s (by simp)
    by_cases h : s.2 + 1 < r.1
    · rw [gstep_more h]
      intro q hq
      rcases List.mem_append.1 hq with h | h
      · exact hz q h
      · simp at h; subst h; exact hr
    · rw [gstep_into h]
      intro q hq
      rcases List.mem_append.1 hq with h | h
      · exact hz q (by simp [h])
      · simp at h; subst h; refine ⟨hs.1, ?_⟩; show max s.2 r.2 < _; omega
theorem gatherZ_u32 {xs : List (Nat × Nat)} (h : U32 xs) : U32 (gatherZ xs) := by
  have key : ∀ (xs z : List (Nat × Nat)), U32 xs → U32 z → U32 (xs.foldl gstep z) := by
    intro xs
    induction xs with
    | nil => intro z _ hz; exact hz
    | cons r xs ih => intro z hx hz; exact ih _ (fun q hq => hx q (by simp [hq])) (gstep_u32 hz (hx r (by simp)))
  exact key xs [] h (fun q hq => by simp at hq)

theorem RZ.u32 : ∀ {z : List (Nat × Nat)} {lo : Nat}, RZ lo z → Under 4294967296 z → U32 z
  | [], _, _, _ => fun r h => by simp at h
  | r :: z, lo, h, hu => fun q hq => by
    rcases List.mem_cons.1 hq with e | hq
    · subst e; have := hu q (by simp); have := h.2.1; omega
    · exact RZ.u32 h.2.2 (fun s hs => hu s (by simp [hs])) q hq
theorem U32.under {z : List (Nat × Nat)} (h : U32 z) : Under 4294967296 z := fun r hr => (h r hr).2
theorem U32.at {z : List (Nat × Nat)} (h : U32 z) (k : Nat) (hk : k < z.length) : z[k].1 < 4294967296 ∧ z[k].2 < 4294967296 := h _ (List.getElem_mem hk)

/-- What two zones have in common, range by range. -/
def comm : List (Nat × Nat) → List (Nat × Nat) → List (Nat × Nat)
  | r :: x, s :: y => (if max r.1 s.1 ≤ min r.2 s.2 then [(max r.1 s.1, min r.2 s.2)] else []) ++ (if r.2 ≤ s.2 then comm x (s :: y) else comm (r :: x) y)
  | [], _ => []
  | _ :: _, [] => []
termination_by x y => x.length + y.length
theorem comm_nil (x : List (Nat × Nat)) : comm x [] = [] := by cases x <;> simp [comm]
theorem comm_nil' (y : List (Nat × Nat)) : comm [] y = [] := by simp [comm]
theorem comm_spec : ∀ (x y : List (Nat × Nat)) (l m : Nat), RZ l x → RZ m y → Asc (max l m) (comm x y) ∧ ∀ a, has (comm x y) a = (has x a && has y a)
  | [], y, _, _, _, _ => by rw [comm_nil']; exact ⟨trivial, fun a => by simp [has_nil]⟩
  | r :: x, [], _, _, _, _ => by rw [comm_nil]; exact ⟨trivial, fun a => by simp [has_nil]⟩
  | r :: x, s :: y, l, m, hx, hy => by
    have hx' := hx
    have hy' := hy
    obtain ⟨x1, x2, x3⟩ := hx
    obtain ⟨y1, y2, y3⟩ := hy
    have key : ∀ rest lo, Asc lo rest → max l m ≤ lo → max r.1 s.1 ≤ lo → Asc (max l m) ((if max r.1 s.1 ≤ min r.2 s.2 then [(max r.1 s.1, min r.2 s.2)] else []) ++ rest) := by
      intro rest lo h h1 h2
      by_cases hq : max r.1 s.1 ≤ min r.2 s.2
      · rw [if_pos hq]; exact ⟨by show max l m ≤ max r.1 s.1; omega, hq, h.mono h2⟩
      · rw [if_neg hq]; exact h.mono h1
    have hq : ∀ a, has (if max r.1 s.1 ≤ min r.2 s.2 then [(max r.1 s.1, min r.2 s.2)] else []) a = ((decide (r.1 ≤ a) && decide (a ≤ r.2)) && (decide (s.1 ≤ a) && decide (a ≤ s.2))) := by
      intro a
      by_cases hq : max r.1 s.1 ≤ min r.2 s.2
      · rw [if_pos hq, has_cons, has_nil, Bool.or_false, Bool.eq_iff_iff]
        simp only [Bool.and_eq_true, decide_eq_true_eq]; omega
      · rw [if_neg hq, has_nil, Bool.eq_iff_iff]
        simp only [Bool.and_eq_true, decide_eq_true_eq, Bool.false_eq_true, false_iff]; omega
    rw [comm]
    by_cases hrs : r.2 ≤ s.2
    · obtain ⟨i1, i2⟩ := comm_spec x (s :: y) (r.2 + 2) s.1 x3 ⟨Nat.le_refl _, y2, y3⟩
      rw [if_pos hrs]
      refine ⟨key _ _ i1 (by omega) (by omega), fun a => ?_⟩
      rw [has_append, hq, i2, has_cons r x a, has_cons s y a]
      by_cases ha : a ≤ r.2
      · rw [has_below y3 (show a < s.2 + 2 by omega), has_below x3 (show a < r.2 + 2 by omega)]; simp
      · rw [show decide (a ≤ r.2) = false by simp; omega]; simp
    · obtain ⟨i1, i2⟩ := comm_spec (r :: x) y r.1 (s.2 + 2) ⟨Nat.le_refl _, x2, x3⟩ y3
      rw [if_neg hrs]
      refine ⟨key _ _ i1 (by omega) (by omega), fun a => ?_⟩
      rw [has_append, hq, i2, has_cons r x a, has_cons s y a]
      by_cases ha : a ≤ s.2
      · rw [has_below y3 (show a < s.2 + 2 by omega), has_below x3 (show a < r.2 + 2 by omega)]; simp
      · rw [show decide (a ≤ s.2) = false by simp; omega]; simp
termination_by x y => x.length + y.length
theorem comm_u32 : ∀ (x y : List (Nat × Nat)), U32 x → U32 y → U32 (comm x y)
  | [], y, _, _ => by rw [comm_nil']; intro r h; simp at h
  | r :: x, [], _, _ => by rw [comm_nil]; intro r h; simp at h
  | r :: x, s :: y, hx, hy => by
    have i1 := comm_u32 x (s :: y) (fun q hq => hx q (by simp [hq])) hy
    have i2 := comm_u32 (r :: x) y hx (fun q hq => hy q (by simp [hq]))
    have h1 := hx r (by simp)
    have h2 := hy s (by simp)
    rw [comm]
    intro q hq
    rcases List.mem_append.1 hq with h | h
    · split at h
      · simp at h; subst h; exact ⟨by show max r.1 s.1 < _; omega, by show min r.2 s.2 < _; omega⟩
      · simp at h
    · split at h
      · exact i1 q h
      · exact i2 q h
termination_by x y => x.length + y.length
theorem comm_len : ∀ (x y : List (Nat × Nat)), (comm x y).length ≤ x.length + y.length
  | [], y => by rw [comm_nil']; simp
  | r :: x, [] => by rw [comm_nil]; simp
  | r :: x, s :: y => by
    have i1 := comm_len x (s :: y)
    have i2 := comm_len (r :: x) y
    rw [comm]
    by_cases hq : max r.1 s.1 ≤ min r.2 s.2 <;> by_cases hrs : r.2 ≤ s.2 <;> simp only [hq, hrs, if_true, if_false, List.length_append, List.length_cons, List.length_nil] at * <;> omega
termination_by x y => x.length + y.length

/-- Two zones' ranges, by rising From. -/
def mrg : List (Nat × Nat) → List (Nat × Nat) → List (Nat × Nat)
  | [], [] => []
  | [], s :: y => s :: mrg y []
  | r :: x, [] => r :: mrg x []
  | r :: x, s :: y => if s.1 < r.1 then s :: mrg y (r :: x) else r :: mrg x (s :: y)
termination_by x y => x.length + y.length
theorem mrg_spec : ∀ (x y : List (Nat × Nat)) (l : Nat), RZ l x → RZ l y → Asc l (mrg x y) ∧ ∀ a, has (mrg x y) a = (has x a || has y a)
  | [], [], _, _, _ => by rw [mrg]; exact ⟨trivial, fun a => by simp [has_nil]⟩
  | [], s :: y, l, _, hy => by
    obtain ⟨i1, i2⟩ := mrg_spec y [] s.1 (hy.2.2.mono (by have := hy.2.1; omega)) trivial
    rw [mrg]; exact ⟨⟨hy.1, hy.2.1, i1⟩, fun a => by rw [has_cons, i2, has_cons]; simp [has_nil]⟩
  | r :: x, [], l, hx, _ => by
    obtain ⟨i1, i2⟩ := mrg_spec x [] r.1 (hx.2.2.mono (by have := hx.2.1; omega)) trivial
    rw [mrg]; exact ⟨⟨hx.1, hx.2.1, i1⟩, fun a => by rw [has_cons, i2, has_cons]; simp [has_nil]⟩
  | r :: x, s :: y, l, hx, hy => by
    rw [mrg]
    by_cases h : s.1 < r.1
    · obtain ⟨i1, i2⟩ := mrg_spec y (r :: x) s.1 (hy.2.2.mono (by have := hy.2.1; omega)) ⟨by omega, hx.2⟩
      rw [if_pos h]
      exact ⟨⟨hy.1, hy.2.1, i1⟩, fun a => by rw [has_cons s, i2, has_cons s y a]; ac_rfl⟩
    · obtain ⟨i1, i2⟩ := mrg_spec x (s :: y) r.1 (hx.2.2.mono (by have := hx.2.1; omega)) ⟨by omega, hy.2⟩
      rw [if_neg h]
      exact ⟨⟨hx.1, hx.2.1, i1⟩, fun a => by rw [has_cons r, i2, has_cons r x a]; ac_rfl⟩
termination_by x y => x.length + y.length
theorem mrg_len : ∀ (x y : List (Nat × Nat)), (mrg x y).length = x.length + y.length
  | [], [] => by simp [mrg]
  | [], s :: y => by rw [mrg]; simp [mrg_len y []]
  | r :: x, [] => by rw [mrg]; simp [mrg_len x []]
  | r :: x, s :: y => by
    have i1 := mrg_len y (r :: x)
    have i2 := mrg_len x (s :: y)
    rw [mrg]
    split <;> simp only [List.length_cons] at * <;> omega
termination_by x y => x.length + y.length
theorem mrg_u32 : ∀ (x y : List (Nat × Nat)), U32 x → U32 y → U32 (mrg x y)
  | [], [], _, _ => by rw [mrg]; intro r h; simp at h
  | [], s :: y, _, hy => by
    have i := mrg_u32 y [] (fun q hq => hy q (by simp [hq])) (fun q hq => by simp at hq)
    rw [mrg]; intro q hq
    rcases List.mem_cons.1 hq with e | hq
    · subst e; exact hy q (by simp)
    · exact i q hq
  | r :: x, [], hx, _ => by
    have i := mrg_u32 x [] (fun q hq => hx q (by simp [hq])) (fun q hq => by simp at hq)
    rw [mrg]; intro q hq
    rcases List.mem_cons.1 hq with e | hq
    · subst e; exact hx q (by simp)
    · exact i q hq
  | r :: x, s :: y, hx, hy => by
    have i1 := mrg_u32 y (r :: x) (fun q hq => hy q (by simp [hq])) hx
    have i2 := mrg_u32 x (s :: y) (fun q hq => hx q (by simp [hq])) hy
    rw [mrg]; intro q hq
    split at hq
    · rcases List.mem_cons.1 hq with e | hq
      · subst e; exact hy q (by simp)
      · exact i1 q hq
    · rcases List.mem_cons.1 hq with e | hq
      · subst e; exact hx q (by simp)
      · exact i2 q hq
termination_by x y => x.length + y.length

/-- What a zone has not, from the address n on. -/
def gapsL : Nat → List (Nat × Nat) → List (Nat × Nat)
  | n, [] => if n ≤ 4294967295 then [(n, 4294967295)] else []
  | n, r :: z => if n < r.1 then (n, r.1 - 1) :: gapsL (r.2 + 1) z else gapsL (r.2 + 1) z
theorem gaps_spec : ∀ (z : List (Nat × Nat)) (n : Nat), RZ n z → Under 4294967296 z → Asc n (gapsL n z) ∧ ∀ a, n ≤ a → a < 4294967296 → has (gapsL n z) a = !has z a
  | [], n, _, _ => by
    rw [gapsL]
    by_cases h : n ≤ 4294967295
    · rw [if_pos h]
      refine ⟨⟨Nat.le_refl _, h, trivial⟩, fun a h1 h2 => ?_⟩
      rw [has_cons, has_nil]
      simp; omega
    · rw [if_neg h]
      exact ⟨trivial, fun a h1 h2 => by omega⟩
  | r :: z, n, hz, hu => by
    obtain ⟨z1, z2, z3⟩ := hz
    have hr := hu r (by simp)
    obtain ⟨i1, i2⟩ := gaps_spec z (r.2 + 1) (z3.mono (by omega)) (fun q hq => hu q (by simp [hq]))
    rw [gapsL]
    by_cases h : n < r.1
    · rw [if_pos h]
      refine ⟨⟨Nat.le_refl _, by show n ≤ r.1 - 1; omega, i1.mono (by show n ≤ _; omega)⟩, fun a h1 h2 => ?_⟩
      rw [has_cons, has_cons]
      by_cases ha : a ≤ r.2
      · rw [i1.below (show a < r.2 + 1 by omega), has_below z3 (show a < r.2 + 2 by omega), Bool.or_false, Bool.or_false, Bool.eq_iff_iff]
        simp; omega
      · rw [i2 a (by omega) h2, show decide (a ≤ r.2) = false by simp; omega, show decide (a ≤ (n, r.1 - 1).2) = false by simp; omega]
        simp
    · rw [if_neg h]
      refine ⟨i1.mono (by omega), fun a h1 h2 => ?_⟩
      rw [has_cons]
      by_cases ha : a ≤ r.2
      · rw [i1.below (show a < r.2 + 1 by omega), show decide (a ≤ r.2) = true by simpa using ha, show decide (r.1 ≤ a) = true by simp; omega]
        simp
      · rw [i2 a (by omega) h2, show decide (a ≤ r.2) = false by simp; omega]
        simp
theorem gaps_u32 : ∀ (z : List (Nat × Nat)) (n : Nat), U32 z → U32 (gapsL n z)
  | [], n, _ => by
    rw [gapsL]; intro r h
    split at h
    · simp at h; subst h; simp; omega
    · simp at h
  | r :: z, n, hz => by
    have hr := hz r (by simp)
    have i := gaps_u32 z (r.2 + 1) (fun q hq => hz q (by simp [hq]))
    rw [gapsL]; intro q h
    split at h
    · rcases List.mem_cons.1 h with e | h
      · subst e; simp; omega
      · exact i q h
    · exact i q h
theorem gaps_len : ∀ (z : List (Nat × Nat)) (n : Nat), (gapsL n z).length ≤ z.length + 1
  | [], n => by rw [gapsL]; split <;> simp
  | r :: z, n => by have := gaps_len z (r.2 + 1); rw [gapsL]; split <;> simp <;> omega

/-- Whether a zone is right, reckoned. -/
def rzB : Nat → List (Nat × Nat) → Bool
  | _, [] => true
  | lo, r :: z => decide (lo ≤ r.1) && decide (r.1 ≤ r.2) && rzB (r.2 + 2) z
theorem rzB_iff : ∀ {z : List (Nat × Nat)} {lo : Nat}, rzB lo z = true ↔ RZ lo z
  | [], _ => by simp [rzB, RZ]
  | r :: z, lo => by simp [rzB, RZ, rzB_iff, and_assoc]
/-- The least From that the k-th range may have. -/
def least (L : List (Nat × Nat)) : Nat → Nat
  | 0 => 0
  | k + 1 => (L[k]?.getD (0, 0)).2 + 2
theorem rz_drop {L : List (Nat × Nat)} {k : Nat} (hk : k < L.length) : rzB (least L k) (L.drop k) = (decide (least L k ≤ L[k].1) && decide (L[k].1 ≤ L[k].2) && rzB (least L (k + 1)) (L.drop (k + 1))) := by
  rw [List.drop_eq_getElem_cons hk, rzB]
  simp [least, hk]
theorem rz_any {L : List (Nat × Nat)} : (∃ k, ∃ h : k < L.length, L[k].2 < L[k].1 ∨ L[k].1 < least L k) ↔ rzB 0 L = false := by
  have key : ∀ d k, k + d = L.length → ((∃ j, ∃ h : j < L.length, k ≤ j ∧ (L[j].2 < L[j].1 ∨ L[j].1 < least L j)) ↔ rzB (least L k) (L.drop k) = false) := by
    intro d
    induction d with
    | zero =>
      intro k hk
      rw [List.drop_eq_nil_of_le (by omega)]
      simp only [rzB]
      constructor
      · rintro ⟨j, h, h1, _⟩; omega
      · intro h; cases h
    | succ d ih =>
      intro k hk
      rw [rz_drop (by omega)]
      have := ih (k + 1) (by omega)
      constructor
      · rintro ⟨j, h, h1, h2⟩
        rcases Nat.eq_or_lt_of_le h1 with e | e
        · subst e
          rcases h2 with h2 | h2
          · rw [show decide (L[k].1 ≤ L[k].2) = false by simp; omega]; simp
          · rw [show decide (least L k ≤ L[k].1) = false by simp; omega]; simp
        · rw [this.1 ⟨j, h, e, h2⟩]; simp
      · intro h
        by_cases h1 : L[k].2 < L[k].1 ∨ L[k].1 < least L k
        · exact ⟨k, by omega, Nat.le_refl _, h1⟩
        · rw [show decide (least L k ≤ L[k].1) = true by simp; omega, show decide (L[k].1 ≤ L[k].2) = true by simp; omega] at h
          obtain ⟨j, hj, h2, h3⟩ := this.2 (by simpa using h)
          exact ⟨j, hj, by omega, h3⟩
  have := key L.length 0 (by omega)
  simpa [least] using this

theorem RZ.rise : ∀ {z : List (Nat × Nat)} {lo : Nat}, RZ lo z → ∀ i j (hi : i < z.length) (hj : j < z.length), i < j → z[i].2 + 2 ≤ z[j].1
  | [], _, _, i, j, hi, _, _ => by simp at hi
  | r :: z, lo, h, 0, 0, _, _, hij => by omega
  | r :: z, lo, h, 0, j + 1, _, hj, _ => by
    have hj' : j < z.length := by simpa using hj
    have := h.2.2.low (a := z[j].1) (has_iff.2 ⟨z[j], List.getElem_mem hj', Nat.le_refl _, by
      have : ∀ {z : List (Nat × Nat)} {lo : Nat}, RZ lo z → ∀ q ∈ z, q.1 ≤ q.2 := by
        intro z
        induction z with
        | nil => intro lo _ q hq; simp at hq
        | cons s z ih =>
          intro lo h q hq
          rcases List.mem_cons.1 hq with e | hq
          · subst e; exact h.2.1
          · exact ih h.2.2 q hq
      exact this h.2.2 _ (List.getElem_mem hj')⟩)
    simpa using this
  | r :: z, lo, h, i + 1, 0, _, _, hij => by omega
  | r :: z, lo, h, i + 1, j + 1, hi, hj, hij => by
    have := RZ.rise h.2.2 i j (by simpa using hi) (by simpa using hj) (by omega)
    simpa using this
theorem RZ.each : ∀ {z : List (Nat × Nat)} {lo : Nat}, RZ lo z → ∀ i (hi : i < z.length), z[i].1 ≤ z[i].2
  | [], _, _, i, hi => by simp at hi
  | r :: z, lo, h, 0, _ => by simpa using h.2.1
  | r :: z, lo, h, i + 1, hi => by simpa using RZ.each h.2.2 i (by simpa using hi)
/-- Found by halves: all ahead of i end below a, all from i on do not. -/
theorem has_search {z : List (Nat × Nat)} {a i : Nat} (hz : RZ 0 z) (hi : i ≤ z.length) (h1 : ∀ t (ht : t < z.length), t < i → z[t].2 < a) (h2 : ∀ t (ht : t < z.length), i ≤ t → a ≤ z[t].2) :
    has z a = (if h : i < z.length then decide (z[i].1 ≤ a) else false) := by
  by_cases h : i < z.length
  · rw [dif_pos h, Bool.eq_iff_iff, has_iff, decide_eq_true_eq]
    constructor
    · rintro ⟨r, hr, q1, q2⟩
      obtain ⟨t, ht, rfl⟩ := List.getElem_of_mem hr
      have e1 : ¬ t < i := fun h => by have := h1 t ht h; omega
      have e2 : ¬ i < t := fun h' => by have := hz.rise i t h ht h'; have := h2 i h (Nat.le_refl _); omega
      obtain rfl : t = i := by omega
      exact q1
    · intro q
      exact ⟨z[i], List.getElem_mem h, q, h2 i h (Nat.le_refl _)⟩
  · rw [dif_neg h]
    cases hh : has z a with
    | false => rfl
    | true =>
      obtain ⟨r, hr, q1, q2⟩ := has_iff.1 hh
      obtain ⟨t, ht, rfl⟩ := List.getElem_of_mem hr
      have := h1 t ht (by omega); omega

/-- The least cut from lo on; m, if there is none. -/
def nx (m lo : Nat) (all : List Nat) : Nat := all.foldl (fun n x => if lo ≤ x ∧ x < n then x else n) m
theorem nx_fold (lo : Nat) : ∀ (all : List Nat) (m : Nat), (all.foldl (fun n x => if lo ≤ x ∧ x < n then x else n) m) ≤ m ∧ ((all.foldl (fun n x => if lo ≤ x ∧ x < n then x else n) m) = m ∨ ((all.foldl (fun n x => if lo ≤ x ∧ x < n then x else n) m) ∈ all ∧ lo ≤ (all.foldl (fun n x => if lo ≤ x ∧ x < n then x else n) m))) ∧ ∀ x ∈ all, lo ≤ x → (all.foldl (fun n x => if lo ≤ x ∧ x < n then x else n) m) ≤ x
  | [], m => ⟨Nat.le_refl _, .inl rfl, fun x hx => by simp at hx⟩
  | y :: all, m => by
    obtain ⟨h1, h2, h3⟩ := nx_fold lo all (if lo ≤ y ∧ y < m then y else m)
    rw [List.foldl_cons]
    refine ⟨?_, ?_, ?_⟩
    · have : (if lo ≤ y ∧ y < m then y else m) ≤ m := by split <;> omega
      omega
    · rcases h2 with h2 | h2
      · by_cases hy : lo ≤ y ∧ y < m
        · rw [if_pos hy] at h2
          simp only [if_pos hy]
          right; rw [h2]; exact ⟨by simp, hy.1⟩
        · rw [if_neg hy] at h2
          simp only [if_neg hy]
          left; exact h2
      · right; exact ⟨by simp [h2.1], h2.2⟩
    · intro x hx hlo
      rcases List.mem_cons.1 hx with e | hx
      · subst e
        by_cases hy : lo ≤ x ∧ x < m
        · rw [if_pos hy] at h1 ⊢; exact h1
        · rw [if_neg hy] at h1 ⊢; omega
      · exact h3 x hx hlo
theorem nx_snoc (m lo : Nat) (all : List Nat) (x : Nat) : nx m lo (all ++ [x]) = if lo ≤ x ∧ x < nx m lo all then x else nx m lo all := by unfold nx; rw [List.foldl_append]; rfl
/-- The cuts from lo on, rising, each once. -/
def cutsL (m lo : Nat) (all : List Nat) : List Nat := if h : lo ≤ nx m lo all ∧ nx m lo all < m then nx m lo all :: cutsL m (nx m lo all + 1) all else []
termination_by m - lo
decreasing_by omega
theorem nx_lo {m lo : Nat} {all : List Nat} (h : nx m lo all < m) : lo ≤ nx m lo all ∧ nx m lo all ∈ all := by
  obtain ⟨h1, h2, h3⟩ := nx_fold lo all m
  rcases h2 with h2 | h2
  · have : nx m lo all = m := h2
    omega
  · exact ⟨h2.2, h2.1⟩
theorem cutsL_cons {m lo : Nat} {all : List Nat} (h : nx m lo all < m) : cutsL m lo all = nx m lo all :: cutsL m (nx m lo all + 1) all := by
  rw [cutsL, dif_pos ⟨(nx_lo h).1, h⟩]
theorem cutsL_nil {m lo : Nat} {all : List Nat} (h : ¬ nx m lo all < m) : cutsL m lo all = [] := by
  rw [cutsL, dif_neg (by omega)]
theorem cutsL_spec (m : Nat) (all : List Nat) : ∀ (d lo : Nat), m - lo ≤ d → Rising lo m (cutsL m lo all) ∧ (∀ x ∈ all, lo ≤ x → x < m → x ∈ cutsL m lo all) := by
  intro d
  induction d with
  | zero =>
    intro lo hd
    by_cases h : nx m lo all < m
    · have := nx_lo h; omega
    · rw [cutsL_nil h]; exact ⟨trivial, fun x hx h1 h2 => by omega⟩
  | succ d ih =>
    intro lo hd
    by_cases h : nx m lo all < m
    · have h0 := nx_lo h
      obtain ⟨i1, i2⟩ := ih (nx m lo all + 1) (by omega)
      rw [cutsL_cons h]
      refine ⟨⟨h0.1, h, i1⟩, fun x hx h1 h2 => ?_⟩
      have h3 : nx m lo all ≤ x := (nx_fold lo all m).2.2 x hx h1
      by_cases e : x = nx m lo all
      · simp [e]
      · exact List.mem_cons_of_mem _ (i2 x hx (by omega) h2)
    · rw [cutsL_nil h]
      refine ⟨trivial, fun x hx h1 h2 => ?_⟩
      have h3 : nx m lo all ≤ x := (nx_fold lo all m).2.2 x hx h1
      omega
theorem cutsL_head {m : Nat} {all : List Nat} (h0 : 0 ∈ all) (hm : 0 < m) : (cutsL m 0 all).head? = some 0 := by
  have h3 : nx m 0 all ≤ 0 := (nx_fold 0 all m).2.2 0 h0 (Nat.le_refl _)
  have e : nx m 0 all = 0 := by omega
  rw [cutsL_cons (by omega), e]; rfl
theorem rising_len : ∀ {l : List Nat} {lo m : Nat}, Rising lo m l → lo + l.length ≤ m ∨ l = []
  | [], _, _, _ => .inr rfl
  | c :: l, lo, m, h => by
    left
    have h1 := h.1
    have h2 := h.2.1
    rcases rising_len h.2.2 with h3 | h3
    · simp only [List.length_cons]; omega
    · subst h3; simp; omega
/-- Where something may begin, of ranges. -/
def ends (l : List (Nat × Nat)) : List Nat := 0 :: l.flatMap fun r => [r.1, r.2 + 1]
theorem ends_snoc (l : List (Nat × Nat)) (r : Nat × Nat) : ends (l ++ [r]) = ends l ++ [r.1, r.2 + 1] := by simp [ends]
theorem ends_mem {l : List (Nat × Nat)} {r : Nat × Nat} (h : r ∈ l) : r.1 ∈ ends l ∧ r.2 + 1 ∈ ends l := by
  constructor <;> (unfold ends; refine List.mem_cons_of_mem _ (List.mem_flatMap.2 ⟨r, h, by simp⟩))
/-- The document's way: stretch by stretch between all cuts of l. -/
theorem doc_build {l : List (Nat × Nat)} {p : Nat → Bool} (hp : ∀ c a, c ≤ a → a < 4294967296 → (∀ r ∈ l, ¬ (c < r.1 ∧ r.1 ≤ a) ∧ ¬ (c < r.2 + 1 ∧ r.2 + 1 ≤ a)) → p a = p c) :
    RZ 0 (build 4294967296 p [] (cutsL 4294967296 0 (ends l))) ∧ Under 4294967296 (build 4294967296 p [] (cutsL 4294967296 0 (ends l))) ∧ ∀ a, a < 4294967296 → has (build 4294967296 p [] (cutsL 4294967296 0 (ends l))) a = p a := by
  obtain ⟨c1, c2⟩ := cutsL_spec 4294967296 (ends l) 4294967296 0 (by omega)
  refine cuts_build c1 (cutsL_head (by simp [ends]) (by omega)) fun c a hca ha hx => hp c a hca ha fun r hr => ?_
  obtain ⟨m1, m2⟩ := ends_mem hr
  refine ⟨fun h => ?_, fun h => ?_⟩
  · exact hx _ (c2 _ m1 (by omega) (by omega)) h
  · exact hx _ (c2 _ m2 (by omega) (by omega)) h
theorem doc_of {l : List (Nat × Nat)} : RZ 0 (build 4294967296 (has l) [] (cutsL 4294967296 0 (ends l))) ∧ Under 4294967296 (build 4294967296 (has l) [] (cutsL 4294967296 0 (ends l))) ∧ ∀ a, a < 4294967296 → has (build 4294967296 (has l) [] (cutsL 4294967296 0 (ends l))) a = has l a :=
  doc_build fun c a hca _ h => has_const hca (fun r hr => (h r hr).1) (fun r hr => (h r hr).2)
theorem doc_both {x y : List (Nat × Nat)} (f : Bool → Bool → Bool) : RZ 0 (build 4294967296 (fun a => f (has x a) (has y a)) [] (cutsL 4294967296 0 (ends (x ++ y)))) ∧ Under 4294967296 (build 4294967296 (fun a => f (has x a) (has y a)) [] (cutsL 4294967296 0 (ends (x ++ y)))) ∧ ∀ a, a < 4294967296 → has (build 4294967296 (fun a => f (has x a) (has y a)) [] (cutsL 4294967296 0 (ends (x ++ y)))) a = f (has x a) (has y a) :=
  doc_build (p := fun a => f (has x a) (has y a)) fun c a hca _ h => by
    have h1 : has x a = has x c := has_const hca (fun r hr => (h r (by simp [hr])).1) (fun r hr => (h r (by simp [hr])).2)
    have h2 : has y a = has y c := has_const hca (fun r hr => (h r (by simp [hr])).1) (fun r hr => (h r (by simp [hr])).2)
    show f (has x a) (has y a) = f (has x c) (has y c)
    rw [h1, h2]
theorem count_le {z : List (Nat × Nat)} (h : RZ 0 z) (hu : Under 4294967296 z) : count z ≤ 4294967296 := by
  rw [count_is z 0 _ h hu]; exact cnt_le _ _
theorem count_snoc (z : List (Nat × Nat)) (r : Nat × Nat) : count (z ++ [r]) = count z + (r.2 - r.1 + 1) := by simp [count]
theorem count_take {z : List (Nat × Nat)} {k : Nat} (hk : k < z.length) : count (z.take (k + 1)) = count (z.take k) + (z[k].2 - z[k].1 + 1) := by
  rw [List.take_succ_eq_append_getElem hk, count_snoc]
theorem count_part (z : List (Nat × Nat)) (k : Nat) : count (z.take k) ≤ count z := by
  have : count z = count (z.take k) + count (z.drop k) := by
    have e : ∀ x y : List (Nat × Nat), count (x ++ y) = count x + count y := fun x y => by simp [count]
    rw [← e, List.take_append_drop]
  omega
end Go.Proofs.Ytonhmppobdbidaa
