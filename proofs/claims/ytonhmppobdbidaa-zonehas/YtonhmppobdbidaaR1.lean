/- Contracts: the document's Same, Right, Has, Count; Least, Count; the law's Fits. -/
import Derived.Test.YtonhmppobdbidaaC0
namespace Go.Proofs.Ytonhmppobdbidaa
open Go.RowKit

set_option maxRecDepth 100000 in
set_option maxHeartbeats 1000000 in
/-- Same, of one list twice. -/
theorem same_any {v1 v2 : Value} (L : List (Nat × Nat)) (w : World) (h1 : IsZ w v1 L) (h2 : IsZ w v2 L) : Calls Try.prog 11 #[v1, v2] w fun e w' => e = .returned (.bool true) ∧ Below w.heap.size w w' := by
  obtain ⟨A1, c1, rfl, n1, m1, z1⟩ := h1
  obtain ⟨A2, c2, rfl, n2, m2, z2⟩ := h2
  have hL : L.length ≤ 9223372036854775807 := Nat.le_trans n1 m1
  have H1 := Lib.hid z1
  have H2 := Lib.hid z2
  clear z1 z2
  go_enter Try.func11, Try.ntmps11
  go_wp2
  go_loopw [5] (fun i wr => ∃ k : Nat, i = .int .i64 k ∧ k ≤ L.length ∧ ∃ q, wr = w.drewN q) (fun i _ => L.length - (intOf i).toNat)
  case atStart => exact ⟨0, rfl, by omega, 0, rfl⟩
  case round =>
    obtain ⟨k, rfl, hk, q, rfl⟩ := hrel
    by_cases hlt : k < L.length
    · obtain ⟨g1, o1, e1, _, r1⟩ := H1.out (by omega)
      obtain ⟨g2, o2, e2, _, r2⟩ := H2.out (by omega)
      subst e1 e2
      obtain ⟨c10, c11⟩ := r1 k hlt
      obtain ⟨c20, c21⟩ := r2 k hlt
      clear r1 r2
      generalize L[k] = x at c10 c11 c20 c21
      have i0 : (0 : Int) ≤ (k : Int) := by omega
      have i1 : (k : Int) < (L.length : Int) := by omega
      go_wp2_with fail
      go_quiet (fail)
      go_wp2
      go_roundw
      case rel => exact ⟨k + 1, by go_num, by omega, q + nq, rfl⟩
      case measure => simp [intOf]; omega
    · go_wp2
      go_ret
      exact ⟨rfl, bdrewN (Below.refl _ _) _⟩

/-- zone.Least. -/
theorem least_any {v : Value} (L : List (Nat × Nat)) (w : World) (h : IsZ w v L) : Calls Try.prog 15 #[v] w fun e w' => e = .returned (.tuple #[.int .u32 (L.head?.getD (0, 0)).1, .bool (decide (0 < L.length))]) ∧ Below w.heap.size w w' := by
  obtain ⟨A, c, rfl, n1, m1, z⟩ := h
  cases L with
  | nil =>
    go_enter Try.func15, Try.ntmps15
    go_wp2
    go_ret2
    exact ⟨rfl, Below.refl _ _⟩
  | cons r L =>
    obtain ⟨g, o, e1, _, r1⟩ := z (by simp)
    subst e1
    obtain ⟨c0, _⟩ := r1 0 (by simp)
    simp only [List.getElem_cons_zero, Nat.zero_mul, Nat.add_zero] at c0
    have d : (((r :: L).length : Int) == 0) = false := by rw [beq_eq_false_iff_ne]; simp only [List.length_cons]; omega
    have i1 : (0 : Int) < ((r :: L).length : Int) := by simp only [List.length_cons]; omega
    clear r1 z
    simp only [List.length_cons] at *
    go_enter Try.func15, Try.ntmps15
    go_wp2
    go_ret2
    exact ⟨rfl, Below.refl _ _⟩

set_option maxRecDepth 100000 in
set_option maxHeartbeats 1000000 in
/-- The document's Right. -/
theorem rright_any {v : Value} (L : List (Nat × Nat)) (w : World) (hu : U32 L) (h : IsZ w v L) : Calls Try.prog 13 #[v] w fun e w' => e = .returned (.bool (rzB 0 L)) ∧ Below w.heap.size w w' := by
  obtain ⟨A1, c1, rfl, n1, m1, z1⟩ := h
  have hL : L.length ≤ 9223372036854775807 := Nat.le_trans n1 m1
  have H1 := Lib.hid z1
  have HU := Lib.hid hu
  clear z1 hu
  go_enter Try.func13, Try.ntmps13
  go_wp2
  go_loopw [3] (fun i wr => ∃ k : Nat, i = .int .i64 k ∧ k ≤ L.length ∧ Hid (rzB 0 L = rzB (least L k) (L.drop k)) ∧ ∃ q, wr = w.drewN q) (fun i _ => L.length - (intOf i).toNat)
  case atStart => exact ⟨0, rfl, by omega, Lib.hid (by simp [least]), 0, rfl⟩
  case round =>
    obtain ⟨k, rfl, hk, HR, q, rfl⟩ := hrel
    by_cases hlt : k < L.length
    · obtain ⟨g1, o1, e1, _, r1⟩ := H1.out (by omega)
      subst e1
      obtain ⟨c10, c11⟩ := r1 k hlt
      have b1 := HU.out.at k hlt
      have e0 := rz_drop hlt
      cases k with
      | zero =>
        have l0 : least L 0 = 0 := rfl
        rw [l0] at e0
        simp only [Nat.zero_mul, Nat.add_zero] at c10 c11
        generalize hx : L[0] = x at c10 c11 b1 e0
        have HX := Lib.hid hx
        clear hx r1
        by_cases hw : x.2 < x.1
        · rw [show decide (x.1 ≤ x.2) = false by simp; omega] at e0
          have HE := Lib.hid e0
          clear e0
          go_wp2_with fail
          go_quiet (fail)
          go_wp2
          go_ret
          refine ⟨ret_bool ?_, bdrewN (bdrewN (Below.refl _ _) _) _⟩
          rw [HR.out, l0, HE.out]; simp
        · rw [show decide (x.1 ≤ x.2) = true by simp; omega, show decide (0 ≤ x.1) = true by simp] at e0
          have HE := Lib.hid e0
          clear e0
          go_wp2_with fail
          go_quiet (fail)
          go_wp2
          go_roundw
          case rel => exact ⟨1, by go_num, by omega, Lib.hid (by rw [HR.out, l0, HE.out]; simp), q + nq, rfl⟩
          case measure => simp [intOf]; omega
      | succ k =>
        obtain ⟨_, d11⟩ := r1 k (by omega)
        have b2 := HU.out.at k (by omega)
        have l0 : least L (k + 1) = L[k].2 + 2 := by simp [least, show k < L.length by omega]
        rw [l0] at e0
        generalize hx : L[k + 1] = x at c10 c11 b1 e0
        generalize hy : L[k] = y at d11 b2 e0 l0
        clear hx hy r1
        have i0 : ((k + 1 : Nat) : Int) - 1 = (k : Int) := by omega
        have i1 : (k : Int) < (L.length : Int) := by omega
        have i2 : (0 : Int) ≤ (k : Int) := by omega
        have i3 : IntKind.i64.wrap (((k + 1 : Nat) : Int) - 1) = (k : Int) := by rw [IntWalk.i64_in _ (by omega)]; omega
        have j1 : IntKind.i64.wrap (x.1 : Int) = (x.1 : Int) := IntWalk.i64_in _ (by omega)
        have j2 : IntKind.i64.wrap (y.2 : Int) = (y.2 : Int) := IntWalk.i64_in _ (by omega)
        have j3 : IntKind.i64.wrap ((y.2 : Int) + 1) = (y.2 : Int) + 1 := IntWalk.i64_in _ (by omega)
        have k1 : (0 : Int) < ((k + 1 : Nat) : Int) := by omega
        by_cases hw : x.2 < x.1
        · rw [show decide (x.1 ≤ x.2) = false by simp; omega] at e0
          have HE := Lib.hid e0
          clear e0
          go_wp2_with fail
          go_quiet (fail)
          go_wp2
          go_ret
          refine ⟨ret_bool ?_, bdrewN (bdrewN (Below.refl _ _) _) _⟩
          rw [HR.out, l0, HE.out]; simp
        · by_cases hv : x.1 ≤ y.2 + 1
          · rw [show decide (y.2 + 2 ≤ x.1) = false by simp; omega] at e0
            have HE := Lib.hid e0
            clear e0
            have hv' : (x.1 : Int) ≤ (y.2 : Int) + 1 := by omega
            go_wp2_with fail
            go_quiet (fail)
            go_wp2
            go_ret
            refine ⟨ret_bool ?_, bdrewN (bdrewN (Below.refl _ _) _) _⟩
            rw [HR.out, l0, HE.out]; simp
          · rw [show decide (x.1 ≤ x.2) = true by simp; omega, show decide (y.2 + 2 ≤ x.1) = true by simp; omega] at e0
            have HE := Lib.hid e0
            clear e0
            have hv' : ¬ (x.1 : Int) ≤ (y.2 : Int) + 1 := by omega
            go_wp2_with fail
            go_quiet (fail)
            go_wp2
            go_roundw
            case rel => exact ⟨k + 1 + 1, by go_num, by omega, Lib.hid (by rw [HR.out, l0, HE.out]; simp), q + nq, rfl⟩
            case measure => simp [intOf]; omega
    · obtain rfl : k = L.length := by omega
      go_wp2
      go_ret
      refine ⟨ret_bool ?_, bdrewN (Below.refl _ _) _⟩
      rw [HR.out, List.drop_length]; rfl
end Go.Proofs.Ytonhmppobdbidaa
