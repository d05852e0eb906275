/- Contracts: slices.Equal of numbers, of links; the program's Same. -/
import Derived.Test.YtmndgbpfophniaaW0
namespace Go.Proofs.Ytmndgbpfophniaa
open Go.RowKit Go.Shelf

set_option maxRecDepth 100000 in
set_option maxHeartbeats 1000000 in
/-- slices.Equal of numbers. -/
theorem eqInts_any {v1 v2 : Value} (L M : List Int) (w : World) (h1 : IsF 1 intA w v1 L) (h2 : IsF 1 intA w v2 M) : Calls Try.prog 35 #[v1, v2] w fun e w' => e = .returned (.bool (decide (L = M))) ∧ Below w.heap.size w w' := by
  obtain ⟨A1, c1, rfl, n1, m1, z1⟩ := h1
  obtain ⟨A2, c2, rfl, n2, m2, z2⟩ := h2
  have hL : L.length ≤ 9223372036854775807 := Nat.le_trans n1 m1
  have hM : M.length ≤ 9223372036854775807 := Nat.le_trans n2 m2
  have H1 := Lib.hid z1
  have H2 := Lib.hid z2
  obtain ⟨q, hq⟩ : ∃ q, q = decide (L = M) := ⟨_, rfl⟩
  rw [← hq]
  have HQ := Lib.hid hq
  clear z1 z2 hq
  by_cases hlen : L.length = M.length
  · have hln : ((L.length : Int) == (M.length : Int)) = true := by simp [hlen]
    have hlm : decide ((L.length : Int) = (M.length : Int)) = true := by simp [hlen]
    have HE := Lib.hid hlen
    clear hlen
    go_enter Try.func35, Try.ntmps35
    go_wp2
    go_loopw [13] (fun i wr => ∃ k : Nat, i = .int .i64 k ∧ k ≤ L.length ∧ Hid (∀ j (h1 : j < L.length) (h2 : j < M.length), j < k → L[j] = M[j]) ∧ ∃ q, wr = w.drewN q) (fun i _ => L.length - (intOf i).toNat)
    case atStart => exact ⟨0, rfl, by omega, Lib.hid (fun j _ _ hj => by omega), 0, rfl⟩
    case round =>
      obtain ⟨k, rfl, hk, HK, nd, rfl⟩ := hrel
      by_cases hlt : k < L.length
      · have hlt2 : k < M.length := by have := HE.out; omega
        obtain ⟨g1, o1, e1, _, r⟩ := H1.out.at k hlt
        obtain ⟨g2, o2, e2, _, s⟩ := H2.out.at k hlt2
        subst e1 e2
        have r0 : w.cell? ⟨g1, o1 + k, none⟩ = some (.int .i64 L[k]) := by have := r 0 (by decide); simpa [intA] using this
        have s0 : w.cell? ⟨g2, o2 + k, none⟩ = some (.int .i64 M[k]) := by have := s 0 (by decide); simpa [intA] using this
        have HX : Hid (L[k] = M[k] → ∀ j (h1 : j < L.length) (h2 : j < M.length), j < k + 1 → L[j] = M[j]) := Lib.hid fun e j h1 h2 hj => by
          by_cases hjk : j = k
          · subst hjk; exact e
          · exact HK.out j h1 h2 (by omega)
        have HY : Hid (L[k] ≠ M[k] → q = false) := Lib.hid fun e => by
          rw [HQ.out]; apply decide_eq_false; intro h; subst h; exact e rfl
        clear r s
        generalize L[k] = x at r0 HX HY
        generalize M[k] = y at s0 HX HY
        have i0 : (0 : Int) ≤ (k : Int) := by omega
        have i1 : (k : Int) < (L.length : Int) := by omega
        have i2 : (k : Int) < (M.length : Int) := by omega
        clear hlt2
        by_cases hxy : x = y
        · have HZ := Lib.hid (HX.out hxy)
          clear HX HY
          subst hxy
          have s0' := s0
          clear s0
          go_wp2_with fail
          go_quiet (fail)
          go_wp2
          go_roundw
          case rel => exact ⟨k + 1, by go_num, by omega, HZ, nd + nq, rfl⟩
          case measure => simp [intOf]; omega
        · have hqf := HY.out hxy
          have hb1 : (x == y) = false := by simp [hxy]
          have hb2 : decide (x = y) = false := by simp [hxy]
          clear HX HY hxy
          subst hqf
          go_wp2_with fail
          go_quiet (fail)
          go_wp2
          go_ret
          exact ⟨rfl, bdrewN (bdrewN (Below.refl _ _) _) _⟩
      · have hqt : q = true := by
          rw [HQ.out]; apply decide_eq_true
          exact List.ext_getElem HE.out fun j h1 h2 => HK.out j h1 h2 (by omega)
        have hki : ¬ (k : Int) < (L.length : Int) := by omega
        subst hqt
        go_wp2
        go_ret
        exact ⟨rfl, bdrewN (Below.refl _ _) _⟩
  · have hln : ((L.length : Int) == (M.length : Int)) = false := by simp; omega
    have hlm : decide ((L.length : Int) = (M.length : Int)) = false := by simp; omega
    have hqf : q = false := by rw [HQ.out]; apply decide_eq_false; intro h; subst h; exact hlen rfl
    subst hqf
    clear HQ
    go_enter Try.func35, Try.ntmps35
    go_wp2
    go_ret
    exact ⟨rfl, Below.refl _ _⟩
end Go.Proofs.Ytmndgbpfophniaa
