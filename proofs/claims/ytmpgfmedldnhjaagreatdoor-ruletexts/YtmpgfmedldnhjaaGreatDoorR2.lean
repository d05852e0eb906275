/- Contract: the document's 'Number'. -/
import Derived.Test.YtmpgfmedldnhjaaGreatDoorW2
namespace Go.Proofs.YtmpgfmedldnhjaaGreatDoor
open Go.RowKit

/-- What Number answers. -/
def numI (l : List UInt8) (most : Nat) : Int := match numOf l most with
  | some n => n
  | none => -1
theorem numI_none {l : List UInt8} {most : Nat} (h : numOf l most = none) : numI l most = -1 := by unfold numI; rw [h]
theorem numI_some {l : List UInt8} {most n : Nat} (h : numOf l most = some n) : numI l most = n := by unfold numI; rw [h]
theorem numOf_long {l : List UInt8} {most : Nat} (hm : most ≤ 9999999999) (hl : 11 ≤ l.length) : numOf l most = none := by
  cases h : numOf l most with
  | none => rfl
  | some n =>
    obtain ⟨h1, h2⟩ := numOf_some h
    have := dd_len 9 n (by omega)
    rw [h1] at hl; omega
theorem numOf_not {l : List UInt8} {most : Nat} (h : l ≠ Lib.decDigits (val l)) : numOf l most = none := by
  unfold numOf
  have : canB l = false := by
    cases hc : canB l with
    | false => rfl
    | true => exact absurd (can_is hc) h
  rw [this]; rfl
theorem numOf_is {l : List UInt8} {most : Nat} (h : l = Lib.decDigits (val l)) : numOf l most = if val l ≤ most then some (val l) else none := by
  unfold numOf
  rw [show canB l = true by rw [h]; exact can_dd _]
  simp

/-- The loop of Number. -/
def NI (s : ByteArray) (k : Nat) (n : Value) : Prop := ∃ x : Nat, n = .int .i64 x ∧ x < 10000000000 ∧ Hid (val (s.data.toList.take k) = x ∧ (s.data.toList.take k).all fig = true)
theorem NI.bound {s : ByteArray} {k x : Nat} (h : val (s.data.toList.take k) = x ∧ (s.data.toList.take k).all fig = true) (hk : k ≤ 9) : x < 1000000000 := by
  have h1 := val_lt _ h.2
  have h2 : (s.data.toList.take k).length ≤ 9 := Nat.le_trans (List.length_take_le _ _) hk
  have h3 : 10 ^ (s.data.toList.take k).length ≤ 10 ^ 9 := Nat.pow_le_pow_right (by decide) h2
  rw [h.1] at h1
  have : (10 : Nat) ^ 9 = 1000000000 := by decide
  omega

set_option maxRecDepth 100000 in
set_option maxHeartbeats 2000000 in
theorem rnumber_any (s : ByteArray) (most : Nat) (w : World) (hm : most ≤ 9999999999) (hz : s.size ≤ 1000) : Calls Tryz.prog 35 #[.string s, .int .i64 most] w fun e w' => e = .returned (.int .i64 (numI s.data.toList most)) ∧ w = w' := by
  obtain ⟨V, hV⟩ : ∃ V, numI s.data.toList most = V := ⟨_, rfl⟩
  rw [hV]
  have HV := Lib.hid hV
  clear hV
  go_enter Tryz.func35, Tryz.ntmps35
  go_wp2
  go_loop [5, 6] (fun n i => ∃ k : Nat, i = .int .i64 k ∧ k ≤ s.size ∧ k ≤ 10 ∧ NI s k n) (fun _ i => s.size - (intOf i).toNat)
  case atStart => exact ⟨0, rfl, by omega, by omega, 0, rfl, by omega, Lib.hid ⟨rfl, rfl⟩⟩
  case round =>
    obtain ⟨k, rfl, hk, hk10, x, rfl, hx, HX⟩ := hrel
    by_cases hlt : k < s.size
    · by_cases h1 : s[k].toNat < 48
      · go_wp2
        go_ret
        exact ⟨ret_int (by rw [← HV.out, numI_none (numOf_none_fig (mem_at s k hlt) (by unfold fig; simp; omega))]), rfl⟩
      · by_cases h2 : 57 < s[k].toNat
        · go_wp2
          go_ret
          exact ⟨ret_int (by rw [← HV.out, numI_none (numOf_none_fig (mem_at s k hlt) (by unfold fig; simp; omega))]), rfl⟩
        · by_cases h3 : 9 < k
          · go_wp2
            go_ret
            exact ⟨ret_int (by rw [← HV.out, numI_none (numOf_long hm (by rw [← str_size]; omega))]), rfl⟩
          · have hb := NI.bound HX.out (by omega)
            have hc := s[k].toNat_lt
            go_wp2
            go_round
            case rel => exact ⟨k + 1, by go_num, by omega, by omega, x * 10 + (s[k].toNat - 48), by congr 1; omega, by omega, Lib.hid (FI.step HX.out hlt (by omega) (by omega))⟩
            case measure => simp [intOf]; omega
    · have n1 : ¬ k < s.size := hlt
      have hall : s.data.toList.take k = s.data.toList := List.take_of_length_le (by rw [← str_size]; omega)
      have HX2 : Hid (val s.data.toList = x) := by have := HX.out.1; rw [hall] at this; exact this
      clear HX hall
      by_cases h0 : s.data.toList = []
      · have d1 : s.toList.isEmpty = true := by rw [ByteArray.toList_eq, h0]; rfl
        have H0 := Lib.hid h0
        clear h0
        go_wp2
        go_ret
        exact ⟨ret_int (by rw [← HV.out, H0.out]; rfl), rfl⟩
      · have d1 : s.toList.isEmpty = false := by
          rw [ByteArray.toList_eq]
          cases h : s.data.toList with
          | nil => exact absurd h h0
          | cons a l => rfl
        clear h0
        obtain ⟨D, hD⟩ : ∃ D, D = (⟨(Lib.decDigits x).toArray⟩ : ByteArray) := ⟨_, rfl⟩
        have k37 : ∀ u : World, Calls Tryz.prog 53 #[.int .i64 x] u fun e w' => e = .returned (.string D) ∧ u = w' := fun u => by rw [hD]; exact digits_any x u (by omega)
        by_cases he : s.data.toList = Lib.decDigits x
        · have hsD : s = D := by rw [hD]; apply str_eq; rw [he]
          have hnum : numOf s.data.toList most = if x ≤ most then some x else none := by
            have := numOf_is (l := s.data.toList) (most := most) (by rw [HX2.out]; exact he)
            rwa [HX2.out] at this
          have HN := Lib.hid hnum
          rw [← hsD] at k37
          have f1 : (s.toList == s.toList) = true := by simp
          have f2 : (s.toList != s.toList) = false := by simp
          clear he hnum hD hsD
          by_cases hmx : most < x
          · go_wp2_with (go_at_call 53; refine (k37 _).mono ?_; rintro e w1 ⟨rfl, rfl⟩)
            go_ret
            exact ⟨ret_int (by rw [← HV.out, numI_none (by rw [HN.out, if_neg (by omega)])]), rfl⟩
          · go_wp2_with (go_at_call 53; refine (k37 _).mono ?_; rintro e w1 ⟨rfl, rfl⟩)
            go_ret
            exact ⟨ret_int (by rw [← HV.out, numI_some (by rw [HN.out, if_pos (by omega)])]), rfl⟩
        · have hnum : numOf s.data.toList most = none := numOf_not (by rw [HX2.out]; exact he)
          have HN := Lib.hid hnum
          have f1 : (s.toList == D.toList) = false := by
            rw [beq_eq_false_iff_ne, ByteArray.toList_eq, ByteArray.toList_eq, hD]; exact he
          have f2 : (s.toList != D.toList) = true := by rw [bne, f1]; rfl
          clear he hnum hD
          go_wp2_with (go_at_call 53; refine (k37 _).mono ?_; rintro e w1 ⟨rfl, rfl⟩)
          go_ret
          exact ⟨ret_int (by rw [← HV.out, numI_none HN.out]), rfl⟩
end Go.Proofs.YtmpgfmedldnhjaaGreatDoor
