/- Plain mathematics of a full tree: keys a step apart, round and round, are all different. No program. -/
import Derived.Test.YtiknelhfdcmkjaaPlain
namespace Go.Proofs.Ytiknelhfdcmkjaa

section
variable {l : List (Int × Int)} {k q v u : Int}
theorem mem_put : (q, u) ∈ putL l k v ↔ (q = k ∧ u = v) ∨ (q ≠ k ∧ (q, u) ∈ l) := by
  simp only [putL, lowL, gtL, List.mem_append, List.mem_cons, List.mem_filter, Prod.mk.injEq, decide_eq_true_eq]
  constructor
  · rintro (⟨h1, h2⟩ | ⟨rfl, rfl⟩ | ⟨h1, h2⟩)
    · exact .inr ⟨by omega, h1⟩
    · exact .inl ⟨rfl, rfl⟩
    · exact .inr ⟨by omega, h1⟩
  · rintro (⟨rfl, rfl⟩ | ⟨h1, h2⟩)
    · exact .inr (.inl ⟨rfl, rfl⟩)
    · rcases Int.lt_or_gt_of_ne h1 with h | h
      · exact .inl ⟨h2, h⟩
      · exact .inr (.inr ⟨h2, h⟩)
theorem mem_drop : (q, u) ∈ dropL l k ↔ q ≠ k ∧ (q, u) ∈ l := by
  simp only [dropL, lowL, gtL, List.mem_append, List.mem_filter, decide_eq_true_eq]
  constructor
  · rintro (⟨h1, h2⟩ | ⟨h1, h2⟩)
    · exact ⟨by omega, h1⟩
    · exact ⟨by omega, h1⟩
  · rintro ⟨h1, h2⟩
    rcases Int.lt_or_gt_of_ne h1 with h | h
    · exact .inl ⟨h2, h⟩
    · exact .inr ⟨h2, h⟩
/-- Whether a key is there. -/
def hasK (l : List (Int × Int)) (q : Int) : Prop := ∃ u, (q, u) ∈ l
theorem get_none : getL l q = none ↔ ¬ hasK l q := by
  unfold getL
  rw [List.find?_eq_none]
  constructor
  · rintro h ⟨u, hu⟩
    have := h _ hu
    simp at this
  · rintro h ⟨a, b⟩ hp he
    simp at he
    subst he
    exact h ⟨b, hp⟩
theorem has_put : hasK (putL l k v) q ↔ q = k ∨ hasK l q := by
  unfold hasK
  constructor
  · rintro ⟨u, hu⟩
    rcases mem_put.1 hu with ⟨h, _⟩ | ⟨_, h⟩
    · exact .inl h
    · exact .inr ⟨u, h⟩
  · rintro (rfl | ⟨u, h⟩)
    · exact ⟨v, mem_put.2 (.inl ⟨rfl, rfl⟩)⟩
    · by_cases e : q = k
      · exact ⟨v, mem_put.2 (.inl ⟨e, rfl⟩)⟩
      · exact ⟨u, mem_put.2 (.inr ⟨e, h⟩)⟩
theorem has_drop : hasK (dropL l k) q ↔ q ≠ k ∧ hasK l q := by
  unfold hasK
  constructor
  · rintro ⟨u, hu⟩
    exact ⟨(mem_drop.1 hu).1, u, (mem_drop.1 hu).2⟩
  · rintro ⟨h, u, hu⟩
    exact ⟨u, mem_drop.2 ⟨h, hu⟩⟩
theorem get_put (hu : Up l) : getL (putL l k v) k = some (k, v) := get_at (x := (k, v)) (hu.put k v)
end
theorem pow2_dvd (o : Int) (ho : o % 2 = 1) : ∀ (n : Nat) (d : Int), (2 : Int) ^ n ∣ d * o → (2 : Int) ^ n ∣ d
  | 0, d, _ => ⟨d, by simp⟩
  | n + 1, d, h => by
    have h2 : (2 : Int) ∣ d * o := Int.dvd_trans ⟨2 ^ n, by rw [Int.pow_succ, Int.mul_comm]⟩ h
    have hd : d % 2 = 0 := by
      have := Int.emod_eq_zero_of_dvd h2
      rw [Int.mul_emod, ho] at this
      omega
    obtain ⟨e, rfl⟩ : (2 : Int) ∣ d := Int.dvd_of_emod_eq_zero hd
    have h3 : (2 : Int) ^ n ∣ e * o := by
      rw [Int.pow_succ, Int.mul_comm _ 2, Int.mul_assoc] at h
      exact Int.dvd_of_mul_dvd_mul_left (by decide) h
    have := pow2_dvd o ho n e h3
    rw [Int.pow_succ, Int.mul_comm _ 2]
    exact Int.mul_dvd_mul_left 2 this
/-- The i-th key. -/
def keyN (a o : Int) (i : Nat) : Int := (a + (i : Int) * o % 18446744073709551616) % 18446744073709551616
theorem keyN_inj {a o : Int} (ho : o % 2 = 1) {i j : Nat} (hi : i ≤ 1024) (hj : j ≤ 1024) (h : keyN a o i = keyN a o j) : i = j := by
  unfold keyN at h
  have h1 : (((i : Int) - j) * o) % 18446744073709551616 = 0 := by
    rw [Int.sub_mul]
    omega
  have h2 : (2 : Int) ^ 64 ∣ ((i : Int) - j) * o := Int.dvd_of_emod_eq_zero (by rw [show (2 : Int) ^ 64 = 18446744073709551616 from rfl]; exact h1)
  have h3 := Int.emod_eq_zero_of_dvd (pow2_dvd o ho 64 _ h2)
  rw [show (2 : Int) ^ 64 = 18446744073709551616 from rfl] at h3
  omega
theorem keyN_zero {a o : Int} (h1 : 0 ≤ a) (h2 : a < 18446744073709551616) : keyN a o 0 = a := by unfold keyN; simp; omega
theorem odd_is (s : Int) : ((2 * s % 18446744073709551616 + 1) % 18446744073709551616) % 2 = 1 := by omega
/-- The tree has just the first k keys. -/
def Laid (a o : Int) (k : Nat) (l : List (Int × Int)) : Prop := l.length = k ∧ ∀ j, j ≤ 1024 → (hasK l (keyN a o j) ↔ j < k)
theorem Laid.nil (a o : Int) : Laid a o 0 [] := ⟨rfl, fun j _ => by simp [hasK]⟩
theorem Laid.next {a o : Int} {k : Nat} {l : List (Int × Int)} (h : Laid a o k l) (hu : Up l) (ho : o % 2 = 1) (hk : k < 1024) (v : Int) : Laid a o (k + 1) (putL l (keyN a o k) v) := by
  have hn : getL l (keyN a o k) = none := get_none.2 (fun hh => by have := (h.2 k (by omega)).1 hh; omega)
  refine ⟨by rw [put_len hu, if_pos hn, h.1], fun j hj => ?_⟩
  rw [has_put, h.2 j hj]
  constructor
  · rintro (e | e)
    · have := keyN_inj ho hj (by omega) e; omega
    · omega
  · intro e
    by_cases ej : j = k
    · subst ej; exact .inl rfl
    · exact .inr (by omega)
end Go.Proofs.Ytiknelhfdcmkjaa
