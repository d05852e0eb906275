/- Contracts: number, kindOf. -/
import Derived.Test.YtmpgfmedldnhjaaGreatDoorW2
namespace Go.Proofs.YtmpgfmedldnhjaaGreatDoor
open Go.RowKit Go.Shelf

/-- What number answers. -/
def NumOut (s : ByteArray) (w : World) (e : Ending) (w' : World) : Prop := ∃ n ok, e = .returned (.tuple #[.int .i64 n, .bool ok]) ∧ isI n ∧ (∀ m : Int, 0 ≤ m → m ≤ 9223372036854775807 → s.data.toList = dg m → n = m ∧ ok = true) ∧ Below w.heap.size w w'
set_option maxRecDepth 100000 in
theorem number_any (s : ByteArray) (w : World) (hT : Tb w) (hz : s.size ≤ 1000) : Calls Tryz.prog 50 #[.string s] w (NumOut s w) := by
  cases h : Lib.atoiAll s.data.toList with
  | ok v =>
    have hc := atoi_ok s (by omega) v h w
    have hi := atoi_isI h
    have HM : Hid (∀ m : Int, 0 ≤ m → m ≤ 9223372036854775807 → s.data.toList = dg m → v = m ∧ true = true) := Lib.hid fun m h0 h1 e => by
      rw [e, atoi_dg h0 h1] at h
      cases h; exact ⟨rfl, rfl⟩
    clear h hT
    go_enter Tryz.func50, Tryz.ntmps50
    go_wp2_with fail
    refine hc.mono ?_
    rintro e w1 ⟨rfl, hw⟩
    have b1 : Below w.heap.size w w1 := by
      rcases hw with rfl | ⟨t, rfl⟩
      · exact Below.refl _ _
      · exact Lib.bytesWorld_below _ _ _
    clear hw
    go_wp2_with fail
    go_quiet (fail)
    go_wp2
    go_ret2
    exact ⟨_, _, rfl, hi, by simpa using HM.out, bdrewN b1 _⟩
  | «syntax» =>
    obtain ⟨tp, p, hv⟩ := hT.es
    have hc := atoi_syntax s (by omega) h tp p w hv
    have HM : Hid (∀ m : Int, 0 ≤ m → m ≤ 9223372036854775807 → s.data.toList = dg m → (0 : Int) = m ∧ false = true) := Lib.hid fun m h0 h1 e => by
      rw [e, atoi_dg h0 h1] at h
      cases h
    clear h hT hv
    go_enter Tryz.func50, Tryz.ntmps50
    go_wp2_with fail
    refine hc.mono ?_
    rintro e w1 ⟨N, rfl, _, _, b1⟩
    go_wp2_with fail
    go_quiet (fail)
    go_wp2
    go_ret2
    exact ⟨_, _, rfl, by simp [isI], by simpa using HM.out, bdrewN b1 _⟩
  | range =>
    obtain ⟨tp, p, hv⟩ := hT.er
    have hc := atoi_range s (by omega) h tp p w hv
    have hi := sat_isI s.data.toList
    generalize Lib.atoiSat s.data.toList = v at hc hi
    have HM : Hid (∀ m : Int, 0 ≤ m → m ≤ 9223372036854775807 → s.data.toList = dg m → v = m ∧ false = true) := Lib.hid fun m h0 h1 e => by
      rw [e, atoi_dg h0 h1] at h
      cases h
    clear h hT hv
    go_enter Tryz.func50, Tryz.ntmps50
    go_wp2_with fail
    refine hc.mono ?_
    rintro e w1 ⟨N, rfl, _, _, b1⟩
    go_wp2_with fail
    go_quiet (fail)
    go_wp2
    go_ret2
    exact ⟨_, _, rfl, hi, by simpa using HM.out, bdrewN b1 _⟩

theorem beqS (a s : ByteArray) : (a.toList == s.toList) = decide (a = s) := by
  rw [Bool.eq_iff_iff, beq_iff_eq, decide_eq_true_eq, ByteArray.toList_eq, ByteArray.toList_eq]
  exact ⟨fun h => str_eq h, fun h => by rw [h]⟩
/-- What kindOf answers. -/
def KindOut (s : ByteArray) (w : World) (e : Ending) (w' : World) : Prop := ∃ n ok, e = .returned (.tuple #[.int .i64 n, .bool ok]) ∧ isI n ∧ (∀ m : Int, 0 ≤ m → m ≤ 3 → s.data.toList = word m → n = m ∧ ok = true) ∧ Below w.heap.size w w'
/-- The words as strings. -/
def wS (k : Nat) : ByteArray := ⟨(word k).toArray⟩
theorem wS_eq {s : ByteArray} {k : Nat} (h : s.data.toList = word k) : wS k = s := by
  apply str_eq; rw [h]; rfl
theorem wS_of {s : ByteArray} {k : Nat} (h : wS k = s) : s.data.toList = word k := by rw [← h]; rfl
theorem words_load {w : World} (hT : Tb w) : w.cell? ⟨0, 0, none⟩ = some (.string (wS 0)) ∧ w.cell? ⟨0, 1, none⟩ = some (.string (wS 1)) ∧ w.cell? ⟨0, 2, none⟩ = some (.string (wS 2)) ∧ w.cell? ⟨0, 3, none⟩ = some (.string (wS 3)) :=
  ⟨hT.word 0, hT.word 1, hT.word 2, hT.word 3⟩
theorem ixw0 (a0 a1 a2 a3 : ByteArray) (u : World) : Sem.run Tryz.prog (Instr.index 50 (.agg #[.string a0, .string a1, .string a2, .string a3]) (.int .i64 0)) u = .ok (.string a0) u := by kernel_rfl
theorem ixw1 (a0 a1 a2 a3 : ByteArray) (u : World) : Sem.run Tryz.prog (Instr.index 50 (.agg #[.string a0, .string a1, .string a2, .string a3]) (.int .i64 1)) u = .ok (.string a1) u := by kernel_rfl
theorem ixw2 (a0 a1 a2 a3 : ByteArray) (u : World) : Sem.run Tryz.prog (Instr.index 50 (.agg #[.string a0, .string a1, .string a2, .string a3]) (.int .i64 2)) u = .ok (.string a2) u := by kernel_rfl
theorem ixw3 (a0 a1 a2 a3 : ByteArray) (u : World) : Sem.run Tryz.prog (Instr.index 50 (.agg #[.string a0, .string a1, .string a2, .string a3]) (.int .i64 3)) u = .ok (.string a3) u := by kernel_rfl
set_option maxRecDepth 100000 in
theorem kindOf_any (s : ByteArray) (w : World) (hT : Tb w) : Calls Tryz.prog 51 #[.string s] w (KindOut s w) := by
  obtain ⟨c0, c1, c2, c3⟩ := words_load hT
  clear hT
  have HM : Hid (∀ k : Nat, k < 4 → wS k = s → ∀ m : Int, 0 ≤ m → m ≤ 3 → s.data.toList = word m → (k : Int) = m ∧ true = true) := Lib.hid fun k hk e m h0 h3 hw => by
    obtain ⟨m', rfl⟩ : ∃ m' : Nat, m = m' := ⟨m.toNat, by omega⟩
    have := wS_of e
    rw [hw] at this
    exact ⟨(word_inj h0 h3 (by omega) (by omega) this).symm, rfl⟩
  have HN : Hid ((∀ j, j < 4 → wS j ≠ s) → ∀ m : Int, 0 ≤ m → m ≤ 3 → s.data.toList = word m → (0 : Int) = m ∧ false = true) := Lib.hid fun hj m h0 h3 hw => by
    obtain ⟨m', rfl⟩ : ∃ m' : Nat, m = m' := ⟨m.toNat, by omega⟩
    exact absurd (wS_eq hw) (hj m' (by omega))
  obtain ⟨a0, e0⟩ : ∃ a0, a0 = wS 0 := ⟨_, rfl⟩
  obtain ⟨a1, e1⟩ : ∃ a1, a1 = wS 1 := ⟨_, rfl⟩
  obtain ⟨a2, e2⟩ : ∃ a2, a2 = wS 2 := ⟨_, rfl⟩
  obtain ⟨a3, e3⟩ : ∃ a3, a3 = wS 3 := ⟨_, rfl⟩
  rw [← e0] at c0
  rw [← e1] at c1
  rw [← e2] at c2
  rw [← e3] at c3
  have E0 := Lib.hid e0
  have E1 := Lib.hid e1
  have E2 := Lib.hid e2
  have E3 := Lib.hid e3
  clear e0 e1 e2 e3
  go_enter Tryz.func51, Tryz.ntmps51
  go_wp2
  go_loopw [7] (fun i wr => ∃ k : Nat, i = .int .i64 k ∧ k ≤ 4 ∧ Hid (∀ j, j < k → wS j ≠ s) ∧ wr = w) (fun i _ => 4 - (intOf i).toNat)
  case atStart => exact ⟨0, rfl, by omega, Lib.hid (fun j hj => by omega), rfl⟩
  case round =>
    obtain ⟨k, rfl, hk, HK, rfl⟩ := hrel
    have hk5 : k = 0 ∨ k = 1 ∨ k = 2 ∨ k = 3 ∨ k = 4 := by omega
    rcases hk5 with rfl | rfl | rfl | rfl | rfl
    · by_cases hq : a0 = s
      · have HA := Lib.hid (HM.out 0 (by omega) (E0.out.symm.trans hq))
        have hd : (a0.toList == s.toList) = true := by rw [beqS]; exact decide_eq_true hq
        clear HM HN HK hq
        go_wp2_with fail
        rw [ixw0]
        go_wp2
        go_ret2
        exact ⟨_, _, rfl, by simp [isI], by simpa using HA.out, Below.refl _ _⟩
      · have hd : (a0.toList == s.toList) = false := by rw [beqS]; exact decide_eq_false hq
        have HA : Hid (∀ j, j < 0 + 1 → wS j ≠ s) := Lib.hid fun j hj => by
          by_cases e : j = 0
          · subst e; rw [← E0.out]; exact hq
          · exact HK.out j (by omega)
        clear HM HN HK hq
        go_wp2_with fail
        rw [ixw0]
        go_wp2
        go_roundw
        case rel => exact ⟨1, by go_num, by omega, HA, trivial⟩
        case measure => simp [intOf]
    · by_cases hq : a1 = s
      · have HA := Lib.hid (HM.out 1 (by omega) (E1.out.symm.trans hq))
        have hd : (a1.toList == s.toList) = true := by rw [beqS]; exact decide_eq_true hq
        clear HM HN HK hq
        go_wp2_with fail
        rw [ixw1]
        go_wp2
        go_ret2
        exact ⟨_, _, rfl, by simp [isI], by simpa using HA.out, Below.refl _ _⟩
      · have hd : (a1.toList == s.toList) = false := by rw [beqS]; exact decide_eq_false hq
        have HA : Hid (∀ j, j < 1 + 1 → wS j ≠ s) := Lib.hid fun j hj => by
          by_cases e : j = 1
          · subst e; rw [← E1.out]; exact hq
          · exact HK.out j (by omega)
        clear HM HN HK hq
        go_wp2_with fail
        rw [ixw1]
        go_wp2
        go_roundw
        case rel => exact ⟨2, by go_num, by omega, HA, trivial⟩
        case measure => simp [intOf]
    · by_cases hq : a2 = s
      · have HA := Lib.hid (HM.out 2 (by omega) (E2.out.symm.trans hq))
        have hd : (a2.toList == s.toList) = true := by rw [beqS]; exact decide_eq_true hq
        clear HM HN HK hq
        go_wp2_with fail
        rw [ixw2]
        go_wp2
        go_ret2
        exact ⟨_, _, rfl, by simp [isI], by simpa using HA.out, Below.refl _ _⟩
      · have hd : (a2.toList == s.toList) = false := by rw [beqS]; exact decide_eq_false hq
        have HA : Hid (∀ j, j < 2 + 1 → wS j ≠ s) := Lib.hid fun j hj => by
          by_cases e : j = 2
          · subst e; rw [← E2.out]; exact hq
          · exact HK.out j (by omega)
        clear HM HN HK hq
        go_wp2_with fail
        rw [ixw2]
        go_wp2
        go_roundw
        case rel => exact ⟨3, by go_num, by omega, HA, trivial⟩
        case measure => simp [intOf]
    · by_cases hq : a3 = s
      · have HA := Lib.hid (HM.out 3 (by omega) (E3.out.symm.trans hq))
        have hd : (a3.toList == s.toList) = true := by rw [beqS]; exact decide_eq_true hq
        clear HM HN HK hq
        go_wp2_with fail
        rw [ixw3]
        go_wp2
        go_ret2
        exact ⟨_, _, rfl, by simp [isI], by simpa using HA.out, Below.refl _ _⟩
      · have hd : (a3.toList == s.toList) = false := by rw [beqS]; exact decide_eq_false hq
        have HA : Hid (∀ j, j < 3 + 1 → wS j ≠ s) := Lib.hid fun j hj => by
          by_cases e : j = 3
          · subst e; rw [← E3.out]; exact hq
          · exact HK.out j (by omega)
        clear HM HN HK hq
        go_wp2_with fail
        rw [ixw3]
        go_wp2
        go_roundw
        case rel => exact ⟨4, by go_num, by omega, HA, trivial⟩
        case measure => simp [intOf]
    · have HA := Lib.hid (HN.out HK.out)
      clear HM HN HK
      go_wp2
      go_ret2
      exact ⟨_, _, rfl, by simp [isI], by simpa using HA.out, Below.refl _ _⟩
end Go.Proofs.YtmpgfmedldnhjaaGreatDoor
