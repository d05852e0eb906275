/- Contracts: a node's count, height and pair; the nodes at a key, around it, and at a place. -/
import Derived.Test.YtjljkpecpofbcaaC0
namespace Go.Proofs.Ytjljkpecpofbcaa
open Go.RowKit

theorem count_any {v : Value} (t : Bt) (w : World) (h : IsT w v t) : Calls Try.prog 44 #[v] w fun e w' => e = .returned (.int .i64 (t.size : Int)) ∧ w = w' := by
  cases t with
  | nil =>
    obtain rfl : v = .pointer none := h
    go_enter Try.func44, Try.ntmps44
    go_wp2
    go_ret
    exact ⟨rfl, rfl⟩
  | node l x r =>
    obtain ⟨B, vl, vr, rfl, ha, _, _⟩ := h
    have c4 := (ha.cell 4).trans rfl
    clear ha
    go_enter Try.func44, Try.ntmps44
    go_wp2
    go_ret
    exact ⟨rfl, rfl⟩
theorem high_any {v : Value} (t : Bt) (w : World) (h : IsT w v t) : Calls Try.prog 53 #[v] w fun e w' => e = .returned (.int .i64 (t.ht : Int)) ∧ w = w' := by
  cases t with
  | nil =>
    obtain rfl : v = .pointer none := h
    go_enter Try.func53, Try.ntmps53
    go_wp2
    go_ret
    exact ⟨rfl, rfl⟩
  | node l x r =>
    obtain ⟨B, vl, vr, rfl, ha, _, _⟩ := h
    have c5 := (ha.cell 5).trans rfl
    clear ha
    go_enter Try.func53, Try.ntmps53
    go_wp2
    go_ret
    exact ⟨rfl, rfl⟩
/-- A pair, or none. -/
def toldV : Option (Int × Int) → Value
  | none => .tuple #[.agg #[.int .u64 0, .int .i64 0], .bool false]
  | some x => .tuple #[.agg #[.int .u64 x.1, .int .i64 x.2], .bool true]
theorem told_any {v : Value} (o : Option (Int × Int)) (w : World) (h : AtN w v o) : Calls Try.prog 46 #[v] w fun e w' => e = .returned (toldV o) ∧ Below w.heap.size w w' := by
  cases o with
  | none =>
    obtain rfl : v = .pointer none := h
    go_enter Try.func46, Try.ntmps46
    go_wp2
    refine bodyPost_ret (v := toldV none) (by simp [results, Try.results46, go_sem, toldV]) rfl ⟨rfl, ?_⟩
    exact (Below.refl _ w).alloc (Nat.le_refl _) _
  | some x =>
    obtain ⟨B, a, b, c, d, rfl, ha⟩ := h
    have hB := ha.lt
    have c0 := (ha.cell 0).trans rfl
    have c1 := (ha.cell 1).trans rfl
    clear ha
    go_enter Try.func46, Try.ntmps46
    go_wp2
    refine bodyPost_ret (v := toldV (some x)) (by simp [results, Try.results46, go_sem, toldV]) rfl ⟨rfl, ?_⟩
    exact (Below.refl _ w).alloc (Nat.le_refl _) _

set_option maxRecDepth 100000 in
theorem find_any {v : Value} (t : Bt) (k : Int) (w : World) (h : IsT w v t) (hu : Up t.flat) : Calls Try.prog 50 #[v, .int .u64 k] w fun e w' => ∃ v', e = .returned v' ∧ AtN w v' (getL t.flat k) ∧ w = w' := by
  obtain ⟨p, rfl⟩ := h.ptr
  go_enter Try.func50, Try.ntmps50
  go_wp2
  go_loopg [0] t.size (fun gk q wr => ∃ s : Bt, gk = s.size ∧ Hid (IsT w q s ∧ Up s.flat ∧ getL s.flat k = getL t.flat k) ∧ w = wr)
  case atStart => exact ⟨t, rfl, Lib.hid ⟨h, hu, rfl⟩, rfl⟩
  case round =>
    obtain ⟨s, rfl, HS, rfl⟩ := hrel
    obtain ⟨hs, us, es⟩ := HS.out
    have HE := Lib.hid es
    have HU := Lib.hid us
    clear es us hu h HS
    cases s with
    | nil =>
      obtain rfl := hs
      go_wp2
      go_ret
      exact ⟨_, rfl, by rw [← HE.out]; rfl, rfl⟩
    | node l x r =>
      obtain ⟨B, vl, vr, rfl, ha, hl, hr⟩ := hs
      have HL := Lib.hid hl
      have HR := Lib.hid hr
      have HA := Lib.hid ha
      have c0 := (ha.cell 0).trans rfl
      have c2 := (ha.cell 2).trans rfl
      have c3 := (ha.cell 3).trans rfl
      obtain ⟨pl, rfl⟩ := hl.ptr
      obtain ⟨pr, rfl⟩ := hr.ptr
      clear ha hl hr
      rcases Int.lt_trichotomy k x.1 with hk | hk | hk
      · have d1 : (x.1 != k) = true := by simp; omega
        go_wp2
        go_roundg l.size
        case measure => simp only [Bt.size]; omega
        case rel => exact ⟨l, rfl, Lib.hid ⟨HL.out, HU.out.node.1, by rw [← HE.out]; exact (get_left HU.out hk).symm⟩, rfl⟩
      · subst hk
        go_wp2
        go_ret
        exact ⟨_, rfl, by rw [← HE.out]; rw [show (Bt.node l x r).flat = l.flat ++ x :: r.flat from rfl, get_at HU.out]; exact ⟨B, _, _, _, _, rfl, HA.out⟩, rfl⟩
      · have d1 : (x.1 != k) = true := by simp; omega
        go_wp2
        go_roundg r.size
        case measure => simp only [Bt.size]; omega
        case rel => exact ⟨r, rfl, Lib.hid ⟨HR.out, HU.out.node.2.1, by rw [← HE.out]; exact (get_right HU.out hk).symm⟩, rfl⟩

set_option maxRecDepth 100000 in
theorem place_any {v : Value} (t : Bt) (i : Int) (w : World) (h : IsT w v t) (hi1 : -9223372036854775808 ≤ i) (hi2 : i ≤ 9223372036854775807) (hz : t.size ≤ 1000000) : Calls Try.prog 45 #[v, .int .i64 i] w fun e w' => ∃ v', e = .returned v' ∧ AtN w v' (atL t.flat i) ∧ w = w' := by
  obtain ⟨p, rfl⟩ := h.ptr
  go_enter Try.func45, Try.ntmps45
  go_wp2
  go_loopg [0, 1] t.size (fun gk q b wr => ∃ (s : Bt) (j : Int), b = .int .i64 j ∧ gk = s.size ∧ s.size ≤ 1000000 ∧ -9223372036854775808 ≤ j ∧ j ≤ 9223372036854775807 ∧ Hid (IsT w q s ∧ atL s.flat j = atL t.flat i) ∧ w = wr)
  case atStart => exact ⟨t, i, rfl, rfl, hz, hi1, hi2, Lib.hid ⟨h, rfl⟩, rfl⟩
  case round =>
    obtain ⟨s, j, rfl, rfl, hsz, hj1, hj2, HS, rfl⟩ := hrel
    obtain ⟨hs, es⟩ := HS.out
    have HE := Lib.hid es
    clear es h HS
    cases s with
    | nil =>
      obtain rfl := hs
      go_wp2
      go_ret
      exact ⟨_, rfl, by rw [← HE.out, show (Bt.nil).flat = [] from rfl, at_nil]; rfl, rfl⟩
    | node l x r =>
      obtain ⟨B, vl, vr, rfl, ha, hl, hr⟩ := hs
      have HL := Lib.hid hl
      have HR := Lib.hid hr
      have HA := Lib.hid ha
      have c2 := (ha.cell 2).trans rfl
      have c3 := (ha.cell 3).trans rfl
      obtain ⟨pl, rfl⟩ := hl.ptr
      obtain ⟨pr, rfl⟩ := hr.ptr
      clear ha hl hr
      simp only [Bt.size] at hsz
      have hfl : (l.flat.length : Int) = l.size := by rw [l.flat_len]
      have HF := Lib.hid hfl
      clear hfl
      rcases Int.lt_trichotomy j l.size with hk | hk | hk
      · have d1 : (j != (l.size : Int)) = true := by simp; omega
        go_wp2_with (go_at_call 44; refine (count_any _ _ HL.out).mono ?_; rintro e w1 ⟨rfl, rfl⟩)
        go_roundg l.size
        case measure => simp only [Bt.size]; omega
        case rel => exact ⟨l, j, rfl, rfl, by omega, hj1, hj2, Lib.hid ⟨HL.out, by rw [← HE.out]; exact (at_left (by rw [HF.out]; exact hk)).symm⟩, rfl⟩
      · have d1 : (j != (l.size : Int)) = false := by simp; omega
        have HK := Lib.hid hk
        clear hk
        go_wp2_with (go_at_call 44; refine (count_any _ _ HL.out).mono ?_; rintro e w1 ⟨rfl, rfl⟩)
        go_ret
        refine ⟨_, rfl, ?_, rfl⟩
        rw [← HE.out, HK.out, ← HF.out, show (Bt.node l x r).flat = l.flat ++ x :: r.flat from rfl, at_mid]
        exact ⟨B, _, _, _, _, rfl, HA.out⟩
      · have d1 : (j != (l.size : Int)) = true := by simp; omega
        go_wp2_with (go_at_call 44; refine (count_any _ _ HL.out).mono ?_; rintro e w1 ⟨rfl, rfl⟩)
        go_roundg r.size
        case measure => simp only [Bt.size]; omega
        case rel => exact ⟨r, j - (l.size + 1), rfl, rfl, by omega, by omega, by omega, Lib.hid ⟨HR.out, by rw [← HE.out, show (Bt.node l x r).flat = l.flat ++ x :: r.flat from rfl, at_right (by rw [HF.out]; exact hk), HF.out]⟩, rfl⟩
end Go.Proofs.Ytjljkpecpofbcaa
