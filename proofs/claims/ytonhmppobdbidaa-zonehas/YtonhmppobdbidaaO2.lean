/- Contracts: zone.Of; the live question. -/
import Derived.Test.YtonhmppobdbidaaD3
namespace Go.Proofs.Ytonhmppobdbidaa
open Go.RowKit Go.Shelf

theorem has_perm {L M : List (Nat × Nat)} (h : M.Perm L) (a : Nat) : has M a = has L a := by
  rw [Bool.eq_iff_iff, has_iff, has_iff]
  constructor
  · rintro ⟨r, hr, h1⟩; exact ⟨r, h.mem_iff.1 hr, h1⟩
  · rintro ⟨r, hr, h1⟩; exact ⟨r, h.mem_iff.2 hr, h1⟩
theorem asc_of : ∀ (M : List (Nat × Nat)) (lo : Nat), (∀ r ∈ M, lo ≤ r.1 ∧ r.1 ≤ r.2) → (∀ i j (hi : i < M.length) (hj : j < M.length), i < j → M[i].1 ≤ M[j].1) → Asc lo M
  | [], _, _, _ => trivial
  | r :: M, lo, h1, h2 => by
    refine ⟨(h1 r (by simp)).1, (h1 r (by simp)).2, asc_of M r.1 (fun q hq => ⟨?_, (h1 q (by simp [hq])).2⟩) (fun i j hi hj hij => h2 (i + 1) (j + 1) (by simp; omega) (by simp; omega) (by omega))⟩
    obtain ⟨j, hj, rfl⟩ := List.getElem_of_mem hq
    exact h2 0 (j + 1) (by simp) (by simp; omega) (by omega)
theorem sorted_asc {L M : List (Nat × Nat)} (h : Sorted L M) (hok : okB L = true) : Asc 0 M :=
  asc_of M 0 (fun r hr => ⟨by omega, by
    have := List.all_eq_true.1 hok r (h.1.mem_iff.1 hr)
    simpa using this⟩) h.2
theorem back_steps (L : List (Nat × Nat)) (B : Nat) : Steps 28 #[] L (fun k => decide ((L[k]?.getD (0, 0)).2 < (L[k]?.getD (0, 0)).1)) (fun _ W => B ≤ W.heap.size) B := by
  intro k hk W hI
  have e1 : (L[k]?.getD (0, 0)) = L[k] := by simp [hk]
  exact (backward_any _ _ W).mono fun e w' h => ⟨by show e = .returned (.bool (decide ((L[k]?.getD (0, 0)).2 < (L[k]?.getD (0, 0)).1))); rw [e1]; exact h.1, Nat.le_trans hI h.2.size, h.2.mono hI⟩

theorem ok_iff {L : List (Nat × Nat)} {b : Bool} (h : b = true ↔ ∃ k, k < L.length ∧ decide ((L[k]?.getD (0, 0)).2 < (L[k]?.getD (0, 0)).1) = true) : b = !okB L := by
  have : b = true ↔ okB L = false := by
    rw [h]
    constructor
    · rintro ⟨k, hk, hp⟩
      rw [Bool.eq_false_iff]
      intro hok
      have := List.all_eq_true.1 hok L[k] (List.getElem_mem hk)
      simp [hk] at hp this
      omega
    · intro hok
      unfold okB at hok
      rw [List.all_eq_false] at hok
      obtain ⟨r, hr, hp⟩ := hok
      obtain ⟨k, hk, rfl⟩ := List.getElem_of_mem hr
      exact ⟨k, hk, by simp [hk] at hp ⊢; omega⟩
  cases b <;> cases hq : okB L <;> simp_all
theorem docOf_zn (L : List (Nat × Nat)) : Zn (docOf L) ∧ ∀ a, a < 4294967296 → has (docOf L) a = has L a := by
  obtain ⟨h1, h2, h3⟩ := doc_of (l := L)
  exact ⟨⟨h1, h2⟩, h3⟩

set_option maxRecDepth 100000 in
set_option maxHeartbeats 1000000 in
/-- zone.Of. -/
theorem of_any {v : Value} (L : List (Nat × Nat)) (w : World) (hu : U32 L) (hlen : L.length ≤ 1000000) (hz : IsZ w v L) : Calls Try.prog 9 #[v] w (OfOut L (docOf L) w) := by
  have hc := containsFunc_any 28 #[] (enters_of Try.func28 (by kernel_rfl) rfl) L _ _ w.heap.size w (back_steps L w.heap.size) (Nat.le_refl _) (fun W hW => hz.belows hW)
  have hcl := fun (W : World) (hW : Below w.heap.size w W) => clone_any L W (by omega) (hz.belows hW)
  have HCL := Lib.hid hcl
  obtain ⟨A1, c1, rfl, n1, m1, z1⟩ := hz
  clear z1 hcl
  go_enter Try.func9, Try.ntmps9
  go_wp2_with fail
  refine hc.mono ?_
  rintro e w1 ⟨b, rfl, hb, b1⟩
  have hbok := ok_iff hb
  subst hbok
  clear hb hc
  cases hok : okB L with
  | false =>
    have HOK := Lib.hid hok
    clear hok
    go_wp2
    go_ret2
    exact OfOut.no HOK.out b1
  | true =>
    have HOK := Lib.hid hok
    clear hok
    go_wp2_with fail
    refine (HCL.out _ b1).mono ?_
    rintro e w2 ⟨v2, rfl, hr2, b2⟩
    have bb2 : Below w.heap.size w w2 := b1.trans (b2.mono b1.size)
    go_wp2_with fail
    refine (sort_any L w2 (by omega) hr2).mono ?_
    rintro e w3 ⟨rfl, M, hM, hz3, b3⟩
    have bb3 : Below w.heap.size w w3 := b1.trans ((b2.trans b3).mono b1.size)
    obtain ⟨xs, hxs⟩ := vals_of (L := M) (fun r hr => hu r (hM.1.mem_iff.1 hr))
    have hlx : xs.length ≤ 4294967297 := by rw [← vals_len, hxs, hM.1.length_eq]; omega
    have b4 : Below w3.heap.size w3 (w3.alloc (.cells #[v2] 22)) := (Below.refl _ w3).alloc (Nat.le_refl _) _
    have hg := gather_any 49 #[.pointer (some ⟨w3.heap.size, 0, none⟩)] (enters_of Try.func49 (by kernel_rfl) rfl) xs _ hlx (values_hands _ v2 xs _ (At.new w3 #[v2] 22) (by rw [hxs]; exact hz3.belows b4))
    rw [hxs] at hg
    have hT : gatherZ M = docOf L := by
      obtain ⟨g1, g2⟩ := zn_gather (sorted_asc hM HOK.out) (hxs ▸ vals_u32 xs)
      obtain ⟨d1, d2⟩ := docOf_zn L
      exact Zn.eq g1 d1 fun a ha => by rw [g2, d2 a ha, has_perm hM.1]
    have HT := Lib.hid hT
    obtain ⟨A3, k3, rfl, n3, m3, z3⟩ := hz3
    clear z3 hr2 hT
    go_wp2_with (first | (go_at_call 34; refine (values_any _ _ _ _).mono ?_; rintro e w4 ⟨rfl, rfl⟩) | (go_at_call 33; refine hg.mono ?_; rintro e w5 ⟨v5, rfl, hz5, b5⟩))
    go_ret2
    exact OfOut.yes HOK.out (HT.out ▸ hz5) (bb3.trans ((b4.trans (b5.mono b4.size)).mono bb3.size))
end Go.Proofs.Ytonhmppobdbidaa
