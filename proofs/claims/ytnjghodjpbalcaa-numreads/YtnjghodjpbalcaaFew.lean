/- NumFew's walk. -/
import Derived.Test.YtnjghodjpbalcaaW6
namespace Go.Proofs.Ytnjghodjpbalcaa
open Go.RowKit

theorem u64_bounds {a : Int} (h : (Lit.int .u64 a).wf = true) : 0 ≤ a ∧ a < 18446744073709551616 := by
  simp [Lit.wf, IntKind.min, IntKind.max, IntKind.signed, IntKind.bits] at h
  omega
theorem put_nil (n : Nat) (w : World) (hn1 : n < 18446744073709551616) : Calls Try.prog 9 #[.slice none 0 0, .int .u64 n] w (Made w (enc n)) :=
  put_any none [] 0 n w (Rd.nil _ _ _) (by simp) (by simp) hn1
theorem text_nil (s : ByteArray) (w : World) (hs : s.size ≤ 1000000) : Calls Try.prog 10 #[.slice none 0 0, .string s] w (Made w (encT s.data.toList)) :=
  text_any none [] 0 s w (Rd.nil _ _ _) (by simp) (by simp) hs
theorem conv_any (w : World) (B : Nat) (A : Option Addr) (l : List UInt8) (c : Nat) (hr : Rd w B A l) : (convert 23 9 (.slice A l.length c)).run Try.prog w = .ok (.string ⟨l.toArray⟩) w :=
  run_str (P := Try.prog) w 23 9 5 Try.underlying23 Try.underlying5 Try.underlying9 B A l c hr

theorem cat_eq {L1 L2 : List UInt8} {s S1 S2 : ByteArray} (h1 : (⟨L1.toArray⟩ : ByteArray) = S1) (h2 : (⟨L2.toArray⟩ : ByteArray) = S2) (h : L1 = L2 ++ s.data.toList) : (S1.toList == (S2 ++ s).toList) = true := by
  have e : S1 = S2 ++ s := by
    subst h1 h2 h
    apply ByteArray.ext
    simp
  rw [e]
  exact beq_self_eq_true _

set_option maxHeartbeats 400000 in
theorem few_long (n : Nat) (s : ByteArray) (w : World) (hn : n < 18446744073709551616) (hs : 400 < s.size) : Calls Try.prog 7 #[.int .u64 n, .string s] w fun e w' => e = .returned (.bool true) ∧ Below w.heap.size w w' := by
  go_enter Try.func7, Try.ntmps7
  go_wp2_with (go_at_call 13; refine (alive_any _).mono ?_; rintro e w1 ⟨rfl, hb⟩)
  go_ret
  exact ⟨rfl, hb⟩

set_option maxRecDepth 100000 in
set_option maxHeartbeats 1000000 in
theorem few_short (n : Nat) (s : ByteArray) (w : World) (hn : n < 18446744073709551616) (hs : s.size ≤ 400) : Calls Try.prog 7 #[.int .u64 n, .string s] w fun e w' => e = .returned (.bool true) ∧ Below w.heap.size w w' := by
  have hb8 := bw_eight hn
  go_enter Try.func7, Try.ntmps7
  go_wp2
  go_loop [5, 6] (fun v m => ∃ k q : Nat, v = .int .i64 ((1 + k : Nat) : Int) ∧ m = .int .u64 q ∧ q ≤ n ∧ Hid (k + bw q = bw n) ∧ k ≤ 8 ∧ (n < 240 → k = 0)) (fun _ m => (intOf m).toNat)
  case atStart => exact ⟨0, n, rfl, rfl, Nat.le_refl _, Nat.zero_add _, by omega, fun _ => rfl⟩
  case round =>
    obtain ⟨k, q, rfl, rfl, hq, HK, hk8, hk0⟩ := hrel
    by_cases hc : 240 ≤ n ∧ 0 < q
    · obtain ⟨h1, h2⟩ := hc
      clear hk0
      have hbq := bw_pos h2
      have HB := Lib.hid hbq
      have hbk : k < 8 := by have := HK.out; omega
      clear hbq
      go_wp2
      go_round
      case rel => exact ⟨k + 1, q / 256, by go_num, by go_num, by omega, by show k + 1 + bw (q / 256) = bw n; have := HK.out; have := HB.out; omega, by omega, fun h => by omega⟩
      case measure => simp [intOf]; omega
    · have hlen : (enc n).length = 1 + k := by
        by_cases h : n < 240
        · rw [enc_low h, hk0 h]; rfl
        · rw [enc_high h]
          have : q = 0 := by omega
          subst this
          have := HK.out
          rw [bw_zero] at this
          simp [be_length]
          omega
      have HL := Lib.hid hlen
      have h240 : 240 ≤ n → q = 0 := by omega
      clear hlen hk0 HK
      rcases (show n < 240 ∨ (240 ≤ n ∧ q = 0) from by omega) with hn2 | ⟨hn2, rfl⟩
      all_goals
        clear hc h240
        go_wp2_with fail
        refine (text_nil s w (by omega)).mono ?_
        rintro e w1 ⟨A1, c1, L1, rfl, H1, o1, b1⟩
        obtain ⟨_, _, _, r1⟩ := o1.rd
        go_wp2_with fail
        refine (put_nil s.size w1 (by omega)).mono ?_
        rintro e w2 ⟨A2, c2, L2, rfl, H2, o2, b2⟩
        obtain ⟨_, _, _, r2⟩ := o2.rd
        go_wp2_with fail
        refine (alive_any w2).mono ?_
        rintro e w3 ⟨rfl, b3⟩
        go_wp2_with fail
        refine (put_nil n w3 hn).mono ?_
        rintro e w4 ⟨A4, c4, L4, rfl, H4, o4, b4⟩
        have b24 : Below w2.heap.size w2 w4 := b3.trans (b4.mono b3.size)
        have b14 : Below w1.heap.size w1 w4 := b2.trans (b24.mono b2.size)
        have b04 : Below w.heap.size w w4 := b1.trans (b14.mono b1.size)
        have hv1 := conv_any w4 _ A1 L1 c1 (r1.below b14)
        have hv2 := conv_any w4 _ A2 L2 c2 (r2.below b24)
        have H12 : Hid (L1 = L2 ++ s.data.toList) := by show L1 = _; rw [H1.out, H2.out, encT]; congr 2
        have hl2 : L2.length ≤ 9 := by rw [H2.out]; exact (enc_len _ (by omega)).2
        have hl4 : L4.length = 1 + k := by rw [H4.out, HL.out]
        clear o1 o2 o4 r1 r2 b1 b2 b3 b4 b24 b14 H1 H2 H4 HL
        generalize hS1 : (⟨L1.toArray⟩ : ByteArray) = S1 at hv1
        generalize hS2 : (⟨L2.toArray⟩ : ByteArray) = S2 at hv2
        have hsz2 : S2.size ≤ 1000 := by rw [← hS2]; show L2.toArray.size ≤ 1000; simp; omega
        have heq := cat_eq hS1 hS2 H12.out
        clear hS1 hS2
        go_wp2_with fail
        go_ret
        exact ⟨rfl, b04⟩

theorem few_walk (a : Int) (s : ByteArray) (w : World) (w0 : (Lit.int .u64 a).wf = true) : Calls Try.prog 7 #[.int .u64 a, .string s] w fun e w' => e = .returned (.bool true) ∧ Below w.heap.size w w' := by
  obtain ⟨h1, h2⟩ := u64_bounds w0
  obtain ⟨n, rfl⟩ := Int.eq_ofNat_of_zero_le h1
  by_cases hs : s.size ≤ 400
  · exact few_short n s w (by omega) hs
  · exact few_long n s w (by omega) (by omega)
end Go.Proofs.Ytnjghodjpbalcaa
