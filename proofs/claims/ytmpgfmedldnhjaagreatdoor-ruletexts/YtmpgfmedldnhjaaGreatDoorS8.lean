/- Contracts: slices.Equal, rule.Same, the document's Same. -/
import Derived.Test.YtmpgfmedldnhjaaGreatDoorW1
namespace Go.Proofs.YtmpgfmedldnhjaaGreatDoor
open Go.RowKit Go.Shelf

set_option maxRecDepth 100000 in
set_option maxHeartbeats 1000000 in
/-- The document's Same. -/
theorem rsame_any {v1 v2 : Value} (L M : List Ru) (w : World) (h1 : IsR w v1 L) (h2 : IsR w v2 M) : Calls Tryz.prog 11 #[v1, v2] w fun e w' => e = .returned (.bool (decide (L = M))) ∧ Below w.heap.size w w' := by
  obtain ⟨A1, c1, rfl, n1, m1, z1⟩ := h1
  obtain ⟨A2, c2, rfl, n2, m2, z2⟩ := h2
  have hL : L.length ≤ 9223372036854775807 := Nat.le_trans n1 m1
  have hM : M.length ≤ 9223372036854775807 := Nat.le_trans n2 m2
  have H1 := Lib.hid z1
  have H2 := Lib.hid z2
  obtain ⟨q, hq⟩ : ∃ q, q = decide (L = M) := ⟨_, rfl⟩
  rw [← hq]
  have HQ := Lib.hid hq
  clear z1 z2 hq
  by_cases hlen : L.length = M.length
  · have hln : ((L.length : Int) == (M.length : Int)) = true := by simp [hlen]
    have hlm : decide ((L.length : Int) = (M.length : Int)) = true := by simp [hlen]
    have HE := Lib.hid hlen
    clear hlen
    go_enter Tryz.func11, Tryz.ntmps11
    go_wp2
    go_loopw [5] (fun i wr => ∃ k : Nat, i = .int .i64 k ∧ k ≤ L.length ∧ Hid (∀ j (h1 : j < L.length) (h2 : j < M.length), j < k → L[j] = M[j]) ∧ ∃ q, wr = w.drewN q) (fun i _ => L.length - (intOf i).toNat)
    case atStart => exact ⟨0, rfl, by omega, Lib.hid (fun j _ _ hj => by omega), 0, rfl⟩
    case round =>
      obtain ⟨k, rfl, hk, HK, nd, rfl⟩ := hrel
      by_cases hlt : k < L.length
      · have hlt2 : k < M.length := by have := HE.out; omega
        obtain ⟨g1, o1, e1, _, r0, r1, r2, r3, r4, r5, r6⟩ := H1.out.at k hlt
        obtain ⟨g2, o2, e2, _, s0, s1, s2, s3, s4, s5, s6⟩ := H2.out.at k hlt2
        subst e1 e2
        have hn := neq_ru L[k] M[k]
        have HX : Hid (L[k] = M[k] → ∀ j (h1 : j < L.length) (h2 : j < M.length), j < k + 1 → L[j] = M[j]) := Lib.hid fun e j h1 h2 hj => by
          by_cases hjk : j = k
          · subst hjk; exact e
          · exact HK.out j h1 h2 (by omega)
        have HY : Hid (L[k] ≠ M[k] → q = false) := Lib.hid fun e => by
          rw [HQ.out]; apply decide_eq_false; intro h; subst h; exact e rfl
        generalize L[k] = x at r0 r1 r2 r3 r4 r5 r6 hn HX HY
        generalize M[k] = y at s0 s1 s2 s3 s4 s5 s6 hn HX HY
        have i0 : (0 : Int) ≤ (k : Int) := by omega
        have i1 : (k : Int) < (L.length : Int) := by omega
        have i2 : (k : Int) < (M.length : Int) := by omega
        clear hlt2
        by_cases hxy : x = y
        · have HZ := Lib.hid (HX.out hxy)
          rw [decide_eq_true hxy] at hn
          clear HX HY hxy
          obtain ⟨id, dv, pr, kd, f, t, pt⟩ := x
          obtain ⟨id', dv', pr', kd', f', t', pt'⟩ := y
          dsimp only at r0 r1 r2 r3 r4 r5 r6 s0 s1 s2 s3 s4 s5 s6
          rw [ruA_mk, ruA_mk, Bool.not_true] at hn
          go_wp2_with fail
          go_quiet (fail)
          go_wp2
          go_roundw
          case rel => exact ⟨k + 1, by go_num, by omega, HZ, nd + nq, rfl⟩
          case measure => simp [intOf]; omega
        · have hqf := HY.out hxy
          rw [decide_eq_false hxy] at hn
          clear HX HY hxy
          subst hqf
          obtain ⟨id, dv, pr, kd, f, t, pt⟩ := x
          obtain ⟨id', dv', pr', kd', f', t', pt'⟩ := y
          dsimp only at r0 r1 r2 r3 r4 r5 r6 s0 s1 s2 s3 s4 s5 s6
          rw [ruA_mk, ruA_mk, Bool.not_false] at hn
          go_wp2_with fail
          go_quiet (fail)
          go_wp2
          go_ret
          exact ⟨rfl, bdrewN (bdrewN (Below.refl _ _) _) _⟩
      · have hqt : q = true := by
          rw [HQ.out]; apply decide_eq_true
          exact List.ext_getElem HE.out fun j h1 h2 => HK.out j h1 h2 (by omega)
        subst hqt
        go_wp2
        go_ret
        exact ⟨rfl, bdrewN (Below.refl _ _) _⟩
  · have hln : ((L.length : Int) == (M.length : Int)) = false := by simp; omega
    have hlm : decide ((L.length : Int) = (M.length : Int)) = false := by simp; omega
    have hqf : q = false := by rw [HQ.out]; apply decide_eq_false; intro h; subst h; exact hlen rfl
    subst hqf
    clear HQ
    go_enter Tryz.func11, Tryz.ntmps11
    go_wp2
    go_ret
    exact ⟨rfl, Below.refl _ _⟩
end Go.Proofs.YtmpgfmedldnhjaaGreatDoor
