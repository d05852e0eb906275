/- NumOrder's walk. -/
import Derived.Test.YtnjghodjpbalcaaFew
import Derived.Test.YtnjghodjpbalcaaCls
import Derived.Test.YtnjghodjpbalcaaOrdPlain
namespace Go.Proofs.Ytnjghodjpbalcaa
open Go.RowKit

theorem ext_take (L : List UInt8) (k : Nat) : ((⟨L.toArray⟩ : ByteArray).extract 0 k).toList = L.take k := by
  rw [ByteArray.toList_eq]
  simp

/-- Two strings that are the bytes of two numbers, the first the lesser one: what the law asks. -/
structure Ahead (S1 S2 : ByteArray) : Prop where
  le : S1.size ≤ S2.size
  less : Op.bytesLess S1.toList S2.toList = true
  more : Op.bytesLess S2.toList S1.toList = false
  ne : (S1.toList == S2.toList) = false
  ne' : (S2.toList == S1.toList) = false
  part : (S1.toList == (S2.extract 0 S1.size).toList) = false
  part' : ((S2.extract 0 S1.size).toList == S1.toList) = false
theorem ahead {n m : Nat} {L1 L2 : List UInt8} {S1 S2 : ByteArray} (h1 : L1 = enc n) (h2 : L2 = enc m) (e1 : (⟨L1.toArray⟩ : ByteArray) = S1) (e2 : (⟨L2.toArray⟩ : ByteArray) = S2) (h : n < m) (hm : m < 18446744073709551616) : Ahead S1 S2 := by
  obtain ⟨f1, f2, f3⟩ := enc_less h hm
  subst h1 h2
  have t1 : S1.toList = enc n := by rw [← e1, ByteArray.toList_mk]
  have t2 : S2.toList = enc m := by rw [← e2, ByteArray.toList_mk]
  have z1 : S1.size = (enc n).length := by rw [← e1]; show (enc n).toArray.size = _; simp
  have z2 : S2.size = (enc m).length := by rw [← e2]; show (enc m).toArray.size = _; simp
  have t3 : (S2.extract 0 S1.size).toList = (enc m).take (enc n).length := by rw [z1, ← e2, ext_take]
  rw [List.take_of_length_le (Nat.le_refl _)] at f3
  exact ⟨by rw [z1, z2]; exact f2, by rw [t1, t2]; exact f1, by rw [t1, t2]; exact bl_asymm _ _ f1, by rw [t1, t2]; exact beq_eq_false_iff_ne.2 (bl_ne f1), by rw [t1, t2]; exact beq_eq_false_iff_ne.2 (fun e => bl_ne f1 e.symm),
    by rw [t1, t3]; exact beq_eq_false_iff_ne.2 f3, by rw [t1, t3]; exact beq_eq_false_iff_ne.2 (fun e => f3 e.symm)⟩

/-- The law behind its two Puts. -/
def Two (n m : Nat) (w : World) (S1 S2 : ByteArray) : Prop := ∃ L1 L2, L1 = enc n ∧ L2 = enc m ∧ (⟨L1.toArray⟩ : ByteArray) = S1 ∧ (⟨L2.toArray⟩ : ByteArray) = S2

set_option maxRecDepth 100000 in
set_option maxHeartbeats 1000000 in
theorem order_lt (n m : Nat) (w : World) (hn : n < 18446744073709551616) (hm : m < 18446744073709551616) (hlt : n < m) : Calls Try.prog 6 #[.int .u64 n, .int .u64 m] w fun e w' => e = .returned (.bool true) ∧ Below w.heap.size w w' := by
  go_enter Try.func6, Try.ntmps6
  go_wp2_with fail
  refine (put_nil n w hn).mono ?_
  rintro e w1 ⟨A1, c1, L1, rfl, H1, o1, b1⟩
  obtain ⟨_, _, _, r1⟩ := o1.rd
  have hv1 := conv_any w1 _ A1 L1 c1 r1
  generalize hS1 : (⟨L1.toArray⟩ : ByteArray) = S1 at hv1
  have HS1 := Lib.hid hS1
  clear hS1 o1 r1
  go_wp2_with fail
  refine (put_nil m w1 hm).mono ?_
  rintro e w2 ⟨A2, c2, L2, rfl, H2, o2, b2⟩
  obtain ⟨_, _, _, r2⟩ := o2.rd
  have hv2 := conv_any w2 _ A2 L2 c2 r2
  generalize hS2 : (⟨L2.toArray⟩ : ByteArray) = S2 at hv2
  have hah := ahead H1.out H2.out HS1.out hS2 hlt hm
  clear hS2 o2 r2
  have hB : Below w.heap.size w w2 := b1.trans (b2.mono b1.size)
  clear hv1
  obtain ⟨hle, hbl, _, hne, _, hpart, _⟩ := hah
  have hnm : ((n : Int) == (m : Int)) = false := beq_eq_false_iff_ne.2 (by omega)
  have hd4 : decide (n < m) = true := by simp; omega
  have hd5 : decide (m < n) = false := by simp; omega
  have hd6 : decide (S1.size ≤ S2.size) = true := by simp; omega
  have hd7 : (n == m) = false := beq_eq_false_iff_ne.2 (by omega)
  go_wp2_with fail
  clear hv2
  refine wp_region_cls (by kernel_rfl) (by kernel_rfl) ?_
  repeat (go_big_quiet_step ((go_at_call 13; exact Calls.cls_of (alive_any _))))
  refine wpQuiet_nil ?_
  rintro _ ⟨x, rfl⟩
  go_wp2
  go_ret
  exact ⟨rfl, hB.trans (x.h.mono hB.size)⟩

set_option maxRecDepth 100000 in
set_option maxHeartbeats 1000000 in
theorem order_gt (n m : Nat) (w : World) (hn : n < 18446744073709551616) (hm : m < 18446744073709551616) (hlt : m < n) : Calls Try.prog 6 #[.int .u64 n, .int .u64 m] w fun e w' => e = .returned (.bool true) ∧ Below w.heap.size w w' := by
  go_enter Try.func6, Try.ntmps6
  go_wp2_with fail
  refine (put_nil n w hn).mono ?_
  rintro e w1 ⟨A1, c1, L1, rfl, H1, o1, b1⟩
  obtain ⟨_, _, _, r1⟩ := o1.rd
  have hv1 := conv_any w1 _ A1 L1 c1 r1
  generalize hS1 : (⟨L1.toArray⟩ : ByteArray) = S1 at hv1
  have HS1 := Lib.hid hS1
  clear hS1 o1 r1
  go_wp2_with fail
  refine (put_nil m w1 hm).mono ?_
  rintro e w2 ⟨A2, c2, L2, rfl, H2, o2, b2⟩
  obtain ⟨_, _, _, r2⟩ := o2.rd
  have hv2 := conv_any w2 _ A2 L2 c2 r2
  generalize hS2 : (⟨L2.toArray⟩ : ByteArray) = S2 at hv2
  have hah := ahead H2.out H1.out hS2 HS1.out hlt hn
  clear hS2 o2 r2
  have hB : Below w.heap.size w w2 := b1.trans (b2.mono b1.size)
  clear hv1
  have hpart2 : S1.size ≤ S2.size → (S1.toList == (S2.extract 0 S1.size).toList) = false := fun h => by
    have e : S1.size = S2.size := Nat.le_antisymm h hah.le
    have e2 : (S2.extract 0 S1.size).toList = S2.toList := by rw [e, ByteArray.extract_zero_size]
    rw [e2]; exact hah.ne'
  obtain ⟨hle, _, hbl, _, hne, _, hpart⟩ := hah
  have hnm : ((n : Int) == (m : Int)) = false := beq_eq_false_iff_ne.2 (by omega)
  have hd4 : decide (n < m) = false := by simp; omega
  have hd5 : decide (m < n) = true := by simp; omega
  have hd7 : (n == m) = false := beq_eq_false_iff_ne.2 (by omega)
  by_cases hz : S2.size < S1.size
  · clear hpart2
    go_wp2_with fail
    clear hv2
    refine wp_region_cls (by kernel_rfl) (by kernel_rfl) ?_
    repeat (go_big_quiet_step ((go_at_call 13; exact Calls.cls_of (alive_any _))))
    refine wpQuiet_nil ?_
    rintro _ ⟨x, rfl⟩
    go_wp2
    go_ret
    exact ⟨rfl, hB.trans (x.h.mono hB.size)⟩
  · have hpart3 := hpart2 (by omega)
    have hz2 : S1.size ≤ S2.size := by omega
    clear hpart2 hz
    go_wp2_with fail
    clear hv2
    refine wp_region_cls (by kernel_rfl) (by kernel_rfl) ?_
    repeat (go_big_quiet_step ((go_at_call 13; exact Calls.cls_of (alive_any _))))
    refine wpQuiet_nil ?_
    rintro _ ⟨x, rfl⟩
    go_wp2
    go_ret
    exact ⟨rfl, hB.trans (x.h.mono hB.size)⟩

set_option maxRecDepth 100000 in
set_option maxHeartbeats 1000000 in
theorem order_eq (n : Nat) (w : World) (hn : n < 18446744073709551616) : Calls Try.prog 6 #[.int .u64 n, .int .u64 n] w fun e w' => e = .returned (.bool true) ∧ Below w.heap.size w w' := by
  go_enter Try.func6, Try.ntmps6
  go_wp2_with fail
  refine (put_nil n w hn).mono ?_
  rintro e w1 ⟨A1, c1, L1, rfl, H1, o1, b1⟩
  obtain ⟨_, _, _, r1⟩ := o1.rd
  have hv1 := conv_any w1 _ A1 L1 c1 r1
  generalize hS1 : (⟨L1.toArray⟩ : ByteArray) = S1 at hv1
  have HS1 := Lib.hid hS1
  clear hS1 o1 r1
  go_wp2_with fail
  refine (put_nil n w1 hn).mono ?_
  rintro e w2 ⟨A2, c2, L2, rfl, H2, o2, b2⟩
  obtain ⟨_, _, _, r2⟩ := o2.rd
  have hv2 := conv_any w2 _ A2 L2 c2 r2
  have hS2 : (⟨L2.toArray⟩ : ByteArray) = S1 := by rw [H2.out, ← H1.out]; exact HS1.out
  rw [hS2] at hv2
  clear hS2 o2 r2
  have hB : Below w.heap.size w w2 := b1.trans (b2.mono b1.size)
  clear hv1
  have hbl : Op.bytesLess S1.toList S1.toList = false := bl_irrefl _
  have hd4 : decide (n < n) = false := by simp
  have hd7 : ((n : Int) == (n : Int)) = true := by simp
  have hd8 : (n == n) = true := by simp
  have hd6 : decide (S1.size ≤ S1.size) = true := by simp
  go_wp2_with fail
  clear hv2
  refine wp_region_cls (by kernel_rfl) (by kernel_rfl) ?_
  repeat (go_big_quiet_step ((go_at_call 13; exact Calls.cls_of (alive_any _))))
  refine wpQuiet_nil ?_
  rintro _ ⟨x, rfl⟩
  go_wp2
  go_ret
  exact ⟨rfl, hB.trans (x.h.mono hB.size)⟩

theorem order_walk (a b : Int) (w : World) (w0 : (Lit.int .u64 a).wf = true) (w1 : (Lit.int .u64 b).wf = true) : Calls Try.prog 6 #[.int .u64 a, .int .u64 b] w fun e w' => e = .returned (.bool true) ∧ Below w.heap.size w w' := by
  obtain ⟨h1, h2⟩ := u64_bounds w0
  obtain ⟨n, rfl⟩ := Int.eq_ofNat_of_zero_le h1
  obtain ⟨h3, h4⟩ := u64_bounds w1
  obtain ⟨m, rfl⟩ := Int.eq_ofNat_of_zero_le h3
  rcases Nat.lt_trichotomy n m with h | h | h
  · exact order_lt n m w (by omega) (by omega) h
  · subst h; exact order_eq n w (by omega)
  · exact order_gt n m w (by omega) (by omega) h
end Go.Proofs.Ytnjghodjpbalcaa
