/- Contracts: the document's Has and Count; zone.Count, All; the law's Fits. -/
import Derived.Test.YtonhmppobdbidaaR1
namespace Go.Proofs.Ytonhmppobdbidaa
open Go.RowKit

theorem has_drop {L : List (Nat × Nat)} {k a : Nat} (hk : k < L.length) : has (L.drop k) a = (decide (L[k].1 ≤ a) && decide (a ≤ L[k].2) || has (L.drop (k + 1)) a) := by
  rw [List.drop_eq_getElem_cons hk, has_cons]

set_option maxRecDepth 100000 in
set_option maxHeartbeats 1000000 in
/-- The document's Has. -/
theorem rhas_any {v : Value} (L : List (Nat × Nat)) (a : Nat) (w : World) (h : IsZ w v L) : Calls Try.prog 17 #[v, .int .u32 a] w fun e w' => e = .returned (.bool (has L a)) ∧ w' = w := by
  obtain ⟨A1, c1, rfl, n1, m1, z1⟩ := h
  have hL : L.length ≤ 9223372036854775807 := Nat.le_trans n1 m1
  have H1 := Lib.hid z1
  clear z1
  go_enter Try.func17, Try.ntmps17
  go_wp2
  go_loopw [5] (fun i wr => ∃ k : Nat, i = .int .i64 k ∧ k ≤ L.length ∧ Hid (has L a = has (L.drop k) a) ∧ wr = w) (fun i _ => L.length - (intOf i).toNat)
  case atStart => exact ⟨0, rfl, by omega, Lib.hid (by simp), rfl⟩
  case round =>
    obtain ⟨k, rfl, hk, HR, rfl⟩ := hrel
    by_cases hlt : k < L.length
    · obtain ⟨g1, o1, e1, _, r1⟩ := H1.out (by omega)
      subst e1
      obtain ⟨c10, c11⟩ := r1 k hlt
      have e0 := has_drop (a := a) hlt
      generalize L[k] = x at c10 c11 e0
      clear r1
      by_cases h1 : x.1 ≤ a
      · by_cases h2 : a ≤ x.2
        · rw [show decide (x.1 ≤ a) = true by simpa using h1, show decide (a ≤ x.2) = true by simpa using h2] at e0
          have HE := Lib.hid e0
          clear e0
          go_wp2
          go_ret
          refine ⟨ret_bool ?_, rfl⟩
          rw [HR.out, HE.out]; rfl
        · rw [show decide (a ≤ x.2) = false by simpa using h2] at e0
          have HE := Lib.hid e0
          clear e0
          go_wp2
          go_roundw
          case rel => exact ⟨k + 1, by go_num, by omega, Lib.hid (by rw [HR.out, HE.out]; simp), trivial⟩
          case measure => simp [intOf]; omega
      · rw [show decide (x.1 ≤ a) = false by simpa using h1] at e0
        have HE := Lib.hid e0
        clear e0
        go_wp2
        go_roundw
        case rel => exact ⟨k + 1, by go_num, by omega, Lib.hid (by rw [HR.out, HE.out]; simp), trivial⟩
        case measure => simp [intOf]; omega
    · obtain rfl : k = L.length := by omega
      go_wp2
      go_ret
      refine ⟨ret_bool ?_, rfl⟩
      rw [HR.out, List.drop_length]; rfl

theorem rz_at {L : List (Nat × Nat)} (hz : RZ 0 L) (hu : Under 4294967296 L) {k : Nat} (hk : k < L.length) : L[k].1 ≤ L[k].2 ∧ L[k].2 < 4294967296 ∧ count (L.take (k + 1)) = count (L.take k) + (L[k].2 - L[k].1 + 1) ∧ count (L.take (k + 1)) ≤ 4294967296 :=
  ⟨hz.each k hk, hu _ (List.getElem_mem hk), count_take hk, Nat.le_trans (count_part L (k + 1)) (count_le hz hu)⟩

set_option maxRecDepth 100000 in
set_option maxHeartbeats 1000000 in
/-- The document's Count. -/
theorem rcount_any {v : Value} (L : List (Nat × Nat)) (w : World) (hz : RZ 0 L) (hu : Under 4294967296 L) (h : IsZ w v L) : Calls Try.prog 19 #[v] w fun e w' => e = .returned (.int .u64 (count L)) ∧ Below w.heap.size w w' := by
  obtain ⟨A1, c1, rfl, n1, m1, z1⟩ := h
  have hL : L.length ≤ 9223372036854775807 := Nat.le_trans n1 m1
  have H1 := Lib.hid z1
  have HA := Lib.hid (fun k hk => rz_at hz hu (k := k) hk)
  clear z1 hz hu
  go_enter Try.func19, Try.ntmps19
  go_wp2
  go_loopw [3, 4] (fun s i wr => ∃ k : Nat, i = .int .i64 k ∧ s = .int .u64 (count (L.take k) : Nat) ∧ k ≤ L.length ∧ ∃ q, wr = w.drewN q) (fun _ i _ => L.length - (intOf i).toNat)
  case atStart => exact ⟨0, rfl, by simp [count], by omega, 0, rfl⟩
  case round =>
    obtain ⟨k, rfl, rfl, hk, q, rfl⟩ := hrel
    by_cases hlt : k < L.length
    · obtain ⟨g1, o1, e1, _, r1⟩ := H1.out (by omega)
      subst e1
      obtain ⟨c10, c11⟩ := r1 k hlt
      obtain ⟨a1, a2, a3, a4⟩ := HA.out k hlt
      generalize L[k] = x at c10 c11 a1 a2 a3 a4
      clear r1
      generalize hn : count (L.take k) = n at a3 a4 ⊢
      generalize hn' : count (L.take (k + 1)) = n' at a3 a4
      have HN := Lib.hid hn'
      clear hn hn'
      have i0 : (0 : Int) ≤ (k : Int) := by omega
      have i1 : (k : Int) < (L.length : Int) := by omega
      have j1 : IntKind.u64.wrap (x.1 : Int) = (x.1 : Int) := IntWalk.u64_in _ (by omega)
      have j2 : IntKind.u64.wrap (x.2 : Int) = (x.2 : Int) := IntWalk.u64_in _ (by omega)
      have j3 : IntKind.u64.wrap ((n : Int) + x.2) = (n : Int) + x.2 := IntWalk.u64_in _ (by omega)
      have j4 : IntKind.u64.wrap ((n : Int) + x.2 - x.1) = (n : Int) + x.2 - x.1 := IntWalk.u64_in _ (by omega)
      have j5 : IntKind.u64.wrap ((n : Int) + x.2 - x.1 + 1) = (n' : Int) := by rw [IntWalk.u64_in _ (by omega)]; omega
      clear a3
      go_wp2_with fail
      go_quiet (fail)
      go_wp2
      go_roundw
      case rel => exact ⟨k + 1, by go_num, by rw [HN.out], by omega, q + nq, rfl⟩
      case measure => simp [intOf]; omega
    · obtain rfl : k = L.length := by omega
      go_wp2
      go_ret
      rw [List.take_length]
      exact ⟨rfl, bdrewN (Below.refl _ _) _⟩

set_option maxRecDepth 100000 in
set_option maxHeartbeats 1000000 in
/-- zone.Count. -/
theorem count_any {v : Value} (L : List (Nat × Nat)) (w : World) (hz : RZ 0 L) (hu : Under 4294967296 L) (h : IsZ w v L) : Calls Try.prog 18 #[v] w fun e w' => e = .returned (.int .u64 (count L)) ∧ Below w.heap.size w w' := by
  obtain ⟨A1, c1, rfl, n1, m1, z1⟩ := h
  have hL : L.length ≤ 9223372036854775807 := Nat.le_trans n1 m1
  have H1 := Lib.hid z1
  have HA := Lib.hid (fun k hk => rz_at hz hu (k := k) hk)
  clear z1 hz hu
  go_enter Try.func18, Try.ntmps18
  go_wp2
  go_loopw [3, 8] (fun s i wr => ∃ k : Nat, i = .int .i64 k ∧ s = .int .u64 (count (L.take k) : Nat) ∧ k ≤ L.length ∧ Below w.heap.size w wr) (fun _ i _ => L.length - (intOf i).toNat)
  case atStart => exact ⟨0, rfl, by simp [count], by omega, Below.refl _ _⟩
  case round =>
    obtain ⟨k, rfl, rfl, hk, hb⟩ := hrel
    by_cases hlt : k < L.length
    · obtain ⟨g1, o1, e1, _, r1⟩ := (H1.out.belows hb) (by omega)
      subst e1
      obtain ⟨c10, c11⟩ := r1 k hlt
      obtain ⟨a1, a2, a3, a4⟩ := HA.out k hlt
      generalize L[k] = x at c10 c11 a1 a2 a3 a4
      clear r1
      generalize hn : count (L.take k) = n at a3 a4 ⊢
      generalize hn' : count (L.take (k + 1)) = n' at a3 a4
      have HN := Lib.hid hn'
      clear hn hn'
      have i0 : (0 : Int) ≤ (k : Int) := by omega
      have i1 : (k : Int) < (L.length : Int) := by omega
      go_wp2
      go_roundw
      case rel => exact ⟨k + 1, by go_num, by rw [HN.out]; congr 1; omega, by omega, hb.alloc hb.size _⟩
      case measure => simp [intOf]; omega
    · obtain rfl : k = L.length := by omega
      go_wp2
      go_ret
      rw [List.take_length]
      exact ⟨rfl, hb⟩

/-- zone.All. -/
theorem all_any (w : World) : Calls Try.prog 26 #[] w fun e w' => ∃ v, e = .returned v ∧ IsZ w' v [(0, 4294967295)] ∧ Below w.heap.size w w' := by
  go_enter Try.func26, Try.ntmps26
  go_wp2
  go_ret
  have A := At.new w #[.int .u32 0, .int .u32 4294967295] 33
  refine ⟨_, rfl, ⟨_, 1, rfl, Nat.le_refl _, by decide, fun _ => ⟨w.heap.size, 0, rfl, A.lt, fun k hk => ?_⟩⟩, (Below.refl _ _).alloc (Nat.le_refl _) _⟩
  obtain rfl : k = 0 := by simp at hk; omega
  exact ⟨(A.cell 0).trans rfl, (A.cell 1).trans rfl⟩

/-- Whether a zone is asked about. -/
def fitsB (L : List (Nat × Nat)) : Bool := decide (L.length ≤ 40) && rzB 0 L
theorem fits_any {v : Value} (L : List (Nat × Nat)) (w : World) (hu : U32 L) (h : IsZ w v L) : Calls Try.prog 14 #[v] w fun e w' => e = .returned (.bool (fitsB L)) ∧ Below w.heap.size w w' := by
  have hr := rright_any L w hu h
  obtain ⟨A1, c1, rfl, n1, m1, z1⟩ := h
  clear z1
  unfold fitsB
  by_cases h40 : L.length ≤ 40
  · rw [show decide (L.length ≤ 40) = true by simpa using h40, Bool.true_and]
    go_enter Try.func14, Try.ntmps14
    go_wp2_with (go_at_call 13; refine hr.mono ?_; rintro e w1 ⟨rfl, b1⟩)
    go_ret
    exact ⟨rfl, b1⟩
  · rw [show decide (L.length ≤ 40) = false by simpa using h40, Bool.false_and]
    go_enter Try.func14, Try.ntmps14
    go_wp2
    go_ret
    exact ⟨rfl, Below.refl _ _⟩
end Go.Proofs.Ytonhmppobdbidaa
