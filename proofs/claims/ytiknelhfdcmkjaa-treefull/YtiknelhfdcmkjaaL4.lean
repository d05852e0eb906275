/- TreeFull, walked. -/
import Derived.Test.YtiknelhfdcmkjaaA1
import Derived.Test.YtiknelhfdcmkjaaFPlain
namespace Go.Proofs.Ytiknelhfdcmkjaa
open Go.RowKit

theorem wrap_u64 (x : Int) : IntKind.u64.wrap x = x % 18446744073709551616 := by
  simp [IntKind.wrap, IntKind.bits, IntKind.signed]
theorem key_wrap (a o : Int) (k : Nat) : IntKind.u64.wrap (a + IntKind.u64.wrap ((k : Int) * o)) = keyN a o k := by rw [wrap_u64, wrap_u64]; rfl
theorem odd_wrap (s : Int) : IntKind.u64.wrap (IntKind.u64.wrap (2 * s) + 1) % 2 = 1 := by rw [wrap_u64, wrap_u64]; exact odd_is s
set_option maxRecDepth 100000 in
set_option maxHeartbeats 4000000 in
theorem treeFull_walk (a s : Int) (w : World) (ha1 : 0 ≤ a) (ha2 : a < 18446744073709551616) : Calls Try.prog 6 #[.int .u64 a, .int .u64 s] w fun e w' => e = .returned (.bool true) ∧ Below w.heap.size w w' := by
  go_enter Try.func6, Try.ntmps6
  go_wp2_with fail
  refine (new_any w).mono ?_
  rintro e w1 ⟨v1, rfl, t1, b1⟩
  obtain ⟨B1, rfl⟩ := t1.ptr
  go_wp2_with fail
  have ho := odd_wrap s
  obtain ⟨o, hod⟩ : ∃ o, IntKind.u64.wrap (IntKind.u64.wrap (2 * s) + 1) = o := ⟨_, rfl⟩
  rw [hod] at ho ⊢
  have HO := Lib.hid ho
  have HK0 := Lib.hid (keyN_zero (o := o) ha1 ha2)
  clear hod ho
  go_loopw [5, 7] (fun t i wr => ∃ (k B : Nat) (L : List (Int × Int)), t = .pointer (some ⟨B, 0, none⟩) ∧ i = .int .i64 k ∧ k ≤ 1024 ∧ Hid (IsTree1 wr (.pointer (some ⟨B, 0, none⟩)) L ∧ Laid a o k L ∧ Below w.heap.size w wr)) (fun _ i _ => 1024 - (intOf i).toNat)
  case atStart => exact ⟨0, B1, [], rfl, rfl, by omega, Lib.hid ⟨t1, Laid.nil _ _, b1⟩⟩
  case round =>
    obtain ⟨k, B, L, rfl, rfl, hk, HT⟩ := hrel
    by_cases hlt : k < 1024
    · go_wp2_with fail
      rw [key_wrap]
      refine (put_ok L (keyN a o k) k wr HT.out.1.any (.inr (by rw [HT.out.2.1.1]; exact hlt))).mono ?_
      rintro e w2 ⟨v2, rfl, t2, b2⟩
      obtain ⟨B2, rfl⟩ := t2.ptr
      have HT2 : Hid (IsTree1 w2 (.pointer (some ⟨B2, 0, none⟩)) (putL L (keyN a o k) k) ∧ Laid a o (k + 1) (putL L (keyN a o k) k) ∧ Below w.heap.size w w2) := Lib.hid ⟨t2, HT.out.2.1.next HT.out.1.1 HO.out hlt _, HT.out.2.2.trans (b2.mono HT.out.2.2.size)⟩
      clear t2 b2 HT
      go_wp2
      go_roundw
      case rel => exact ⟨k + 1, B2, _, rfl, by go_num, by omega, HT2⟩
      case measure => simp [intOf]; omega
    · obtain rfl : k = 1024 := by omega
      have h0 : getL L a ≠ none := fun hn => get_none.1 hn (by have := (HT.out.2.1.2 0 (by omega)).2 (by omega); rw [HK0.out] at this; exact this)
      have h1 : getL L (keyN a o 1024) = none := get_none.2 fun hh => by have := (HT.out.2.1.2 1024 (by omega)).1 hh; omega
      have hne : keyN a o 1024 ≠ a := fun e => by have := keyN_inj HO.out (i := 1024) (j := 0) (by omega) (by omega) (e.trans HK0.out.symm); omega
      have hlen := HT.out.2.1.1
      have hup := HT.out.1.1
      have hd := drop_len hup h0
      have hdn : getL (dropL L a) (keyN a o 1024) = none := get_none.2 fun hh => get_none.1 h1 (has_drop.1 hh).2
      have hpl : (putL (dropL L a) (keyN a o 1024) 0).length = 1024 := by rw [put_len (hup.drop a), if_pos hdn]; omega
      have HF := Lib.hid (And.intro h0 (And.intro h1 (And.intro hlen hpl)))
      have HD := Lib.hid (show (dropL L a).length < 1024 by omega)
      have HG := Lib.hid (get_put (k := a) (v := 7) hup)
      have HW : Hid (IntKind.u64.wrap (a + IntKind.u64.wrap (1024 * o)) = keyN a o 1024) := Lib.hid (key_wrap a o 1024)
      clear h0 h1 hne hlen hd hdn hpl hup hlt
      go_wp2_with fail
      rw [HW.out]
      generalize keyN a o 1024 = q at HF HD
      refine (put_full L q 0 wr HT.out.1.any HF.out.2.1 HF.out.2.2.1).mono ?_
      rintro e w2 ⟨rfl, b2⟩
      have bb2 := HT.out.2.2.trans (b2.mono HT.out.2.2.size)
      have t2 := HT.out.1.belows b2
      go_wp2_with fail
      refine (put_ok L a 7 w2 t2.any (.inl HF.out.1)).mono ?_
      rintro e w3 ⟨v3, rfl, t3, b3⟩
      obtain ⟨B3, rfl⟩ := t3.ptr
      have bb3 := bb2.trans (b3.mono bb2.size)
      have t2 := t2.belows b3
      go_wp2_with fail
      refine (drop_ok L a w3 t2.any HF.out.1).mono ?_
      rintro e w4 ⟨v4, rfl, t4, b4⟩
      obtain ⟨B4, rfl⟩ := t4.ptr
      have bb4 := bb3.trans (b4.mono bb3.size)
      have t2 := t2.belows b4
      have t3 := t3.belows b4
      go_wp2_with fail
      refine (put_ok (dropL L a) q 0 w4 t4.any (.inr HD.out)).mono ?_
      rintro e w5 ⟨v5, rfl, t5, b5⟩
      obtain ⟨B5, rfl⟩ := t5.ptr
      have bb5 := bb4.trans (b5.mono bb4.size)
      have t2 := t2.belows b5
      have t3 := t3.belows b5
      go_wp2_with fail
      have hget := get_any (putL L a 7) a w5 t3.any
      rw [HG.out] at hget
      refine (show Calls Try.prog 15 #[.pointer (some ⟨B3, 0, none⟩), .int .u64 a] w5 fun e w' => e = .returned (.tuple #[.int .i64 7, .bool true]) ∧ Below w5.heap.size w5 w' from hget).mono ?_
      rintro e w6 ⟨rfl, b6⟩
      clear hget
      have bb6 := bb5.trans (b6.mono bb5.size)
      have t2 := t2.belows b6
      have t5 := t5.belows b6
      go_wp2_with fail
      refine (alive_any w6).mono ?_
      rintro e w7 ⟨rfl, b7⟩
      have bb7 := bb6.trans (b7.mono bb6.size)
      have t2 := t2.belows b7
      have t5 := t5.belows b7
      have l5 := len_any _ w7 t5.any
      rw [HF.out.2.2.2] at l5
      have l2 := len_any _ w7 t2.any
      rw [HF.out.2.2.1] at l2
      go_wp2_with fail
      refine l5.mono ?_
      rintro e w8 ⟨rfl, rfl⟩
      clear l5
      go_wp2_with fail
      refine l2.mono ?_
      rintro e w8 ⟨rfl, rfl⟩
      clear l2
      go_wp2_with fail
      refine (height_any L w7 t2.any).mono ?_
      rintro e w8 ⟨h, rfl, e1, e2, rfl⟩
      rw [HF.out.2.2.1] at e1
      clear e2
      go_wp2_with fail
      refine (rhigh_any 1024 w7 (by omega)).mono ?_
      rintro e w8 ⟨rfl, rfl⟩
      have e3 : decide (h ≤ highN 1024) = true := decide_eq_true e1
      have e4 : decide ((h : Int) ≤ (highN 1024 : Int)) = true := decide_eq_true (by omega)
      generalize highN 1024 = hi at e1 e3 e4 ⊢
      go_wp2
      go_ret
      exact ⟨rfl, bb7⟩
end Go.Proofs.Ytiknelhfdcmkjaa
