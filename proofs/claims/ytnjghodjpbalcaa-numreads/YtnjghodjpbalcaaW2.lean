/- Contracts of num.Put and num.Text. -/
import Derived.Test.YtnjghodjpbalcaaW1
namespace Go.Proofs.Ytnjghodjpbalcaa
open Go.RowKit

theorem info5 : (Try.prog.info? 5).map (fun i => (i.zero, i.size, i.bytes)) = some (some (.int .u8 0), 1, 1) := by kernel_rfl

/-- What a call that makes a byte slice leaves. -/
def Made (w : World) (l : List UInt8) (e : Ending) (w' : World) : Prop := ∃ A c L, e = .returned (.slice A L.length c) ∧ Hid (L = l) ∧ Own w' w.heap.size 5 (.slice A L.length c) L ∧ Below w.heap.size w w'

set_option maxHeartbeats 400000 in
theorem put_low (A : Option Addr) (l : List UInt8) (c : Nat) (n : Nat) (w : World) (hr : Rd w w.heap.size A l) (hc : l.length ≤ c) (hl : l.length ≤ 1000000) (hn : n < 240) :
    Calls Try.prog 9 #[.slice A l.length c, .int .u64 n] w (Made w (l ++ enc n)) := by
  obtain ⟨i0, hi, hz0, hz1, hz2⟩ := info_parts info5
  go_enter Try.func9, Try.ntmps9
  go_wp2_with (at_builtin; refine wpList_app_full _ rfl (.tmp 15) (.tmp 18) 23 23 rfl 5 i0 _ Try.underlying23 hi hz0 hz1 hz2 rfl A l rfl w.heap.size (hr.alloc (Nat.le_refl _) _) _ [UInt8.ofNat n] rfl (src_one w Try.underlying23 (UInt8.ofNat n) _ 1 (by simp; omega)) (by simp) (by simp; omega) ?_; intro A1 c1 L1 w1 HL hown hbel)
  go_ret
  exact ⟨A1, c1, L1, rfl, by rw [enc_low hn]; exact HL, hown.low (by simp), ((Below.refl _ _).alloc (Nat.le_refl _) _).trans (hbel.mono (by simp))⟩

set_option maxHeartbeats 800000 in
theorem put_high (A : Option Addr) (l : List UInt8) (c : Nat) (n : Nat) (w : World) (hr : Rd w w.heap.size A l) (hc : l.length ≤ c) (hl : l.length ≤ 1000000) (hn : 240 ≤ n) (hn1 : n < 18446744073709551616) :
    Calls Try.prog 9 #[.slice A l.length c, .int .u64 n] w (Made w (l ++ enc n)) := by
  obtain ⟨i0, hi, hz0, hz1, hz2⟩ := info_parts info5
  have hb8 := bw_eight hn1
  go_enter Try.func9, Try.ntmps9
  go_wp2_with (first
    | (go_at_call 20; refine (width_any _ _ (by omega) (by omega)).mono ?_; rintro e w' ⟨rfl, rfl⟩)
    | (at_builtin; refine wpList_app_full _ rfl (.tmp 22) (.tmp 26) 23 23 rfl 5 i0 _ Try.underlying23 hi hz0 hz1 hz2 rfl A l rfl w.heap.size (hr.alloc (Nat.le_refl _) _) _ [UInt8.ofNat (239 + bw n)] rfl (src_one w Try.underlying23 (UInt8.ofNat (239 + bw n)) _ 1 (by simp; omega)) (by simp) (by simp; omega) ?_; intro A1 c1 L1 w1 HL hown hbel))
  have HL1 : Hid (L1 = l ++ [UInt8.ofNat (239 + bw n)] ++ (be (bw n) n).take 0) := by show L1 = _; rw [HL.out]; simp
  have hbel1 : Below w.heap.size w w1 := ((Below.refl _ _).alloc (Nat.le_refl _) _).trans (hbel.mono (by simp))
  have hown1 := hown.low (base' := w.heap.size) (by simp)
  clear HL hbel hown hr
  go_loopw [0, 29] (fun v i wr => ∃ k A L c, k ≤ bw n ∧ i = .int .i64 (k : Nat) ∧ v = .slice A (L : List UInt8).length c ∧ Hid (L = l ++ [UInt8.ofNat (239 + bw n)] ++ (be (bw n) n).take k) ∧ Own wr w.heap.size 5 (.slice A L.length c) L ∧ Below w.heap.size w wr) (fun _ i _ => bw n - (intOf i).toNat)
  case atStart => exact ⟨0, A1, L1, c1, Nat.zero_le _, rfl, rfl, HL1, hown1, hbel1⟩
  case round =>
    obtain ⟨k, A2, L2, c2, hk, rfl, rfl, HL2, hown2, hbel2⟩ := hrel
    have hLl : L2.length ≤ 1000010 := by rw [HL2.out]; simp; omega
    have hsz := hbel2.size
    by_cases hlt : k < bw n
    · go_wp2_with (at_builtin; refine wpList_app_own _ rfl (.tmp 32) (.tmp 41) 23 23 rfl w.heap.size 5 i0 _ Try.underlying23 hi hz0 hz1 hz2 rfl _ L2 rfl (hown2.alloc _) _ [UInt8.ofNat (n / 256 ^ (bw n - 1 - k))] rfl (src_one wr Try.underlying23 _ _ 1 (shr_byte n _)) (by simp; omega) (by simp; omega) ?_; intro A3 c3 L3 w3 HL3 hown3 hbel3)
      have hbel4 : Below w.heap.size w w3 := (hbel2.alloc hsz _).trans hbel3
      go_roundw
      case rel => exact ⟨k + 1, A3, L3, c3, by omega, by go_num, rfl, by show L3 = _; rw [HL3.out, HL2.out, be_take_succ _ _ _ hlt]; simp, hown3, hbel4⟩
      case measure => simp [intOf]; omega
    · go_wp2
      go_ret
      refine ⟨A2, c2, L2, rfl, ?_, hown2, hbel2⟩
      have : k = bw n := by omega
      subst this
      rw [enc_high (by omega)]
      show L2 = _
      rw [HL2.out, be_take_all]
      simp

theorem put_any (A : Option Addr) (l : List UInt8) (c : Nat) (n : Nat) (w : World) (hr : Rd w w.heap.size A l) (hc : l.length ≤ c) (hl : l.length ≤ 1000000) (hn1 : n < 18446744073709551616) :
    Calls Try.prog 9 #[.slice A l.length c, .int .u64 n] w (Made w (l ++ enc n)) := by
  by_cases h : n < 240
  · exact put_low A l c n w hr hc hl h
  · exact put_high A l c n w hr hc hl (by omega) hn1

set_option maxHeartbeats 400000 in
theorem text_any (A : Option Addr) (l : List UInt8) (c : Nat) (s : ByteArray) (w : World) (hr : Rd w w.heap.size A l) (hc : l.length ≤ c) (hl : l.length ≤ 1000000) (hs : s.size ≤ 1000000) :
    Calls Try.prog 10 #[.slice A l.length c, .string s] w (Made w (l ++ encT s.data.toList)) := by
  obtain ⟨i0, hi, hz0, hz1, hz2⟩ := info_parts info5
  have he := enc_len s.size (by omega)
  go_enter Try.func10, Try.ntmps10
  go_wp2_with (first
    | (go_at_call 9; go_must (refine (put_any _ _ _ s.size _ hr hc hl (by omega)).mono ?_; rintro e w1 ⟨A1, c1, L1, rfl, HL1, hown1, hbel1⟩; have hl1 : L1.length ≤ 1000010 := (by have := congrArg List.length HL1.out; simp only [List.length_append] at this; omega); have hsz := hbel1.size))
    | (at_builtin; refine wpList_app_own _ rfl (.tmp 9) (.tmp 10) 23 9 rfl w.heap.size 5 i0 _ Try.underlying23 hi hz0 hz1 hz2 rfl _ L1 rfl hown1 _ s.data.toList rfl (src_text Try.underlying9 s) (by simp; omega) hsz ?_; intro A2 c2 L2 w2 HL2 hown2 hbel2))
  go_ret
  exact ⟨A2, c2, L2, rfl, by show L2 = _; rw [HL2.out, HL1.out, encT]; simp, hown2, hbel1.trans hbel2⟩
end Go.Proofs.Ytnjghodjpbalcaa
