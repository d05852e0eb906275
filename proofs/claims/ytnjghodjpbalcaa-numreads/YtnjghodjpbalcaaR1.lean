/- Contracts of the document's own Put and Text. -/
import Derived.Test.YtnjghodjpbalcaaW2
import Derived.Test.YtnjghodjpbalcaaOrdPlain
namespace Go.Proofs.Ytnjghodjpbalcaa
open Go.RowKit

theorem mod_byte (q : Nat) : ((q : Int) % 256) = ((UInt8.ofNat q).toNat : Int) := by
  rw [UInt8.toNat_ofNat', Int.natCast_emod]
  rfl

set_option maxRecDepth 100000 in
set_option maxHeartbeats 400000 in
theorem rput_low (n : Nat) (w : World) (hn : n < 240) : Calls Try.prog 11 #[.int .u64 n] w (Made w (enc n)) := by
  go_enter Try.func11, Try.ntmps11
  go_wp2
  go_ret
  refine ⟨_, _, [UInt8.ofNat n], rfl, by rw [enc_low hn]; rfl, own_lit w _ 5 (UInt8.ofNat n) _ ?_ (Nat.le_refl _), (Below.refl _ _).alloc (Nat.le_refl _) _⟩
  simp
  omega

set_option maxRecDepth 100000 in
set_option maxHeartbeats 1000000 in
theorem rput_high (n : Nat) (w : World) (hn : 240 ≤ n) (hn1 : n < 18446744073709551616) : Calls Try.prog 11 #[.int .u64 n] w (Made w (enc n)) := by
  obtain ⟨i0, hi, hz0, hz1, hz2⟩ := info_parts info5
  have hb8 := bw_eight hn1
  go_enter Try.func11, Try.ntmps11
  go_wp2
  go_loopw [0, 3] (fun v t wr => ∃ j q A c L, v = .int .u64 ((q : Nat) : Int) ∧ q ≤ n ∧ t = .slice A (L : List UInt8).length c ∧ Hid (q = n / 256 ^ j) ∧ Hid (L = be j n) ∧ Hid (j + bw q = bw n) ∧ Own wr w.heap.size 5 (.slice A L.length c) L ∧ Below w.heap.size w wr) (fun v _ _ => (intOf v).toNat)
  case atStart => exact ⟨0, n, none, 0, [], rfl, Nat.le_refl _, rfl, by show n = n / 256 ^ 0; simp, rfl, Nat.zero_add _, Own.nil _ _ _, Below.refl _ _⟩
  case round =>
    obtain ⟨j, q, A, c, L, rfl, hq, rfl, HQ, HL, HB, hown, hbel⟩ := hrel
    have hsz := hbel.size
    have hll : L.length ≤ 8 := by rw [HL.out, be_length]; have := HB.out; omega
    obtain ⟨_, _, _, hrd⟩ := hown.rd
    by_cases h0 : 0 < q
    · have HP := Lib.hid (bw_pos h0)
      go_wp2_with (at_builtin; refine wpList_app_own _ rfl (.tmp 17) (.tmp 18) 23 23 rfl w.heap.size 5 i0 _ Try.underlying23 hi hz0 hz1 hz2 rfl _ [UInt8.ofNat q] rfl (own_lit wr _ 5 _ _ (mod_byte q) hsz) _ L rfl ((hrd.alloc (Nat.le_refl _) _).src Try.underlying23 _) (by simp; omega) (by simp; omega) ?_; intro A1 c1 L1 w1 H1 hown1 hbel1)
      have hbel2 : Below w.heap.size w w1 := (hbel.alloc hsz _).trans hbel1
      go_roundw
      case rel =>
        refine ⟨j + 1, q / 256, A1, c1, L1, by go_num, by omega, rfl, ?_, ?_, ?_, hown1, hbel2⟩
        · show q / 256 = n / 256 ^ (j + 1)
          rw [HQ.out, Nat.div_div_eq_div_mul, ← Nat.pow_succ]
        · show L1 = be (j + 1) n
          rw [H1.out, HL.out, be_cons, ← HQ.out]
          rfl
        · show j + 1 + bw (q / 256) = bw n
          have := HB.out
          have := HP.out
          omega
      case measure => simp [intOf]; omega
    · obtain rfl : q = 0 := by omega
      have hlen : L.length = bw n := by rw [HL.out, be_length]; have := HB.out; rw [bw_zero] at this; omega
      have HL2 : Hid (L = be (bw n) n) := by show L = _; rw [← hlen]; have := HL.out; rw [this, be_length]
      have HLen := Lib.hid hlen
      clear hlen HL HB HQ
      go_wp2_with (at_builtin; refine wpList_app_own _ rfl (.tmp 28) (.tmp 29) 23 23 rfl w.heap.size 5 i0 _ Try.underlying23 hi hz0 hz1 hz2 rfl _ [UInt8.ofNat (239 + bw n)] rfl (own_lit wr _ 5 _ _ (by rw [← HLen.out]; simp; omega) hsz) _ L rfl ((hrd.alloc (Nat.le_refl _) _).src Try.underlying23 _) (by simp; omega) (by simp; omega) ?_; intro A1 c1 L1 w1 H1 hown1 hbel1)
      go_ret
      exact ⟨A1, c1, L1, rfl, by show L1 = _; rw [H1.out, HL2.out, enc_high (by omega)]; rfl, hown1, (hbel.alloc hsz _).trans hbel1⟩

theorem rput_any (n : Nat) (w : World) (hn1 : n < 18446744073709551616) : Calls Try.prog 11 #[.int .u64 n] w (Made w (enc n)) := by
  by_cases h : n < 240
  · exact rput_low n w h
  · exact rput_high n w (by omega) hn1

set_option maxRecDepth 100000 in
set_option maxHeartbeats 400000 in
theorem rtxt_any (s : ByteArray) (w : World) (hs : s.size ≤ 1000000) : Calls Try.prog 12 #[.string s] w (Made w (encT s.data.toList)) := by
  obtain ⟨i0, hi, hz0, hz1, hz2⟩ := info_parts info5
  have he := enc_len s.size (by omega)
  go_enter Try.func12, Try.ntmps12
  go_wp2_with (first
    | (go_at_call 11; refine (rput_any s.size _ (by omega)).mono ?_; rintro e w1 ⟨A1, c1, L1, rfl, HL1, hown1, hbel1⟩; have hl1 : L1.length ≤ 9 := (by rw [HL1.out]; exact he.2); have hsz := hbel1.size)
    | (at_builtin; refine wpList_app_own _ rfl (.tmp 6) (.tmp 7) 23 9 rfl w.heap.size 5 i0 _ Try.underlying23 hi hz0 hz1 hz2 rfl _ L1 rfl hown1 _ s.data.toList rfl (src_text Try.underlying9 s) (by simp; omega) hsz ?_; intro A2 c2 L2 w2 HL2 hown2 hbel2))
  go_ret
  exact ⟨A2, c2, L2, rfl, by show L2 = _; rw [HL2.out, HL1.out, encT]; simp, hown2, hbel1.trans hbel2⟩
end Go.Proofs.Ytnjghodjpbalcaa
