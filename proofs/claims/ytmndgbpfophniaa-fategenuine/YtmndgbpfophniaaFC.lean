/- Contracts: slices.Index, slices.Contains of numbers. -/
import Derived.Test.YtmndgbpfophniaaW0
namespace Go.Proofs.Ytmndgbpfophniaa
open Go.RowKit Go.Shelf

set_option maxRecDepth 100000 in
set_option maxHeartbeats 1000000 in
/-- slices.Index of numbers: whether it is at or above 0. -/
theorem indexInts_any {v : Value} (D : List Int) (x : Int) (w : World) (h : IsF 1 intA w v D) : Calls Try.prog 46 #[v, .int .i64 x] w fun e w' => ∃ r : Int, e = .returned (.int .i64 r) ∧ decide (0 ≤ r) = decide (x ∈ D) ∧ w' = w := by
  obtain ⟨A1, c1, rfl, n1, m1, z1⟩ := h
  have hL : D.length ≤ 9223372036854775807 := Nat.le_trans n1 m1
  have H1 := Lib.hid z1
  obtain ⟨q, hq⟩ : ∃ q, q = decide (x ∈ D) := ⟨_, rfl⟩
  rw [← hq]
  have HQ := Lib.hid hq
  clear z1 hq
  go_enter Try.func46, Try.ntmps46
  go_wp2
  go_loopw [8] (fun i wr => ∃ k : Nat, i = .int .i64 k ∧ k ≤ D.length ∧ Hid (∀ j (h1 : j < D.length), j < k → D[j] ≠ x) ∧ wr = w) (fun i _ => D.length - (intOf i).toNat)
  case atStart => exact ⟨0, rfl, by omega, Lib.hid (fun j _ hj => by omega), rfl⟩
  case round =>
    obtain ⟨k, rfl, hk, HK, rfl⟩ := hrel
    by_cases hlt : k < D.length
    · obtain ⟨g1, o1, e1, _, r⟩ := H1.out.at k hlt
      subst e1
      have r0 : wr.cell? ⟨g1, o1 + k, none⟩ = some (.int .i64 D[k]) := by have := r 0 (by decide); simpa [intA] using this
      have HX : Hid (x ≠ D[k] → ∀ j (h1 : j < D.length), j < k + 1 → D[j] ≠ x) := Lib.hid fun e j h1 hj => by
        by_cases hjk : j = k
        · subst hjk; exact fun h => e h.symm
        · exact HK.out j h1 (by omega)
      have HY : Hid (x = D[k] → q = true) := Lib.hid fun e => by
        rw [HQ.out]; exact decide_eq_true (e ▸ List.getElem_mem hlt)
      clear r
      generalize D[k] = y at r0 HX HY
      have i0 : (0 : Int) ≤ (k : Int) := by omega
      have i1 : (k : Int) < (D.length : Int) := by omega
      by_cases hxy : x = y
      · have hqt := HY.out hxy
        clear HX HY
        subst hqt
        have hb1 : (x == y) = true := by simp [hxy]
        have hb2 : decide (x = y) = true := by simp [hxy]
        clear hxy
        go_wp2
        go_ret
        exact ⟨_, rfl, by simp, rfl⟩
      · have HZ := Lib.hid (HX.out hxy)
        have hb1 : (x == y) = false := by simp [hxy]
        have hb2 : decide (x = y) = false := by simp [hxy]
        clear HX HY hxy
        go_wp2
        go_roundw
        case rel => exact ⟨k + 1, by go_num, by omega, HZ, (by first | rfl | trivial)⟩
        case measure => simp [intOf]; omega
    · have hqf : q = false := by
        rw [HQ.out]; apply decide_eq_false
        intro hm
        obtain ⟨j, hj, e⟩ := List.getElem_of_mem hm
        exact HK.out j hj (by omega) e
      have hki : ¬ (k : Int) < (D.length : Int) := by omega
      subst hqf
      go_wp2
      go_ret
      exact ⟨_, rfl, by simp, rfl⟩
set_option maxRecDepth 100000 in
/-- slices.Contains of numbers. -/
theorem containsInts_any {v : Value} (D : List Int) (x : Int) (w : World) (h : IsF 1 intA w v D) : Calls Try.prog 28 #[v, .int .i64 x] w fun e w' => e = .returned (.bool (decide (x ∈ D))) ∧ w' = w := by
  have k1 := indexInts_any D x w h
  generalize decide (x ∈ D) = q at k1
  obtain ⟨A1, c1, rfl, _⟩ := h
  go_enter Try.func28, Try.ntmps28
  go_wp2_with (go_at_call 46; refine k1.mono ?_; rintro e w1 ⟨r, rfl, hr, rfl⟩)
  go_ret
  exact ⟨by rw [← hr]; rfl, rfl⟩
end Go.Proofs.Ytmndgbpfophniaa
