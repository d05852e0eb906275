/- The contract of the law's own 'alive'. -/
import Derived.Test.YtnjghodjpbalcaaW5
namespace Go.Proofs.Ytnjghodjpbalcaa
open Go.RowKit

theorem bw300 : bw 300 = 2 := bw_is 300 1 (by decide) (by decide)
theorem enc300 : enc 300 = [241, 1, 44] := by rw [enc_high (by decide), bw300]; decide
theorem encHi : encT [104, 105] = [2, 104, 105] := by simp [encT, enc]
theorem num1_B : num1 [241, 1, 44, 2, 104, 105] = some (300, 3) := by
  have h : vm [1, 44] = 300 := by decide
  simp [num1, h, bw300]
theorem num1_C : num1 [2, 104, 105] = some (2, 1) := by simp [num1]

theorem put_300 (w : World) : Calls Try.prog 9 #[.slice none 0 0, .int .u64 300] w (Made w [241, 1, 44]) := by
  have h := put_any none [] 0 300 w (Rd.nil _ _ _) (by simp) (by simp) (by omega)
  rw [enc300] at h
  exact h
theorem text_hi (A : Option Addr) (l : List UInt8) (c : Nat) (w : World) (hl : l = [241, 1, 44]) (hr : Rd w w.heap.size A l) (hc : l.length ≤ c) : Calls Try.prog 10 #[.slice A l.length c, .string ⟨#[104, 105]⟩] w (Made w [241, 1, 44, 2, 104, 105]) := by
  have h := text_any A l c ⟨#[104, 105]⟩ w hr hc (by subst hl; simp) (by decide)
  have e : l ++ encT (⟨#[104, 105]⟩ : ByteArray).data.toList = [241, 1, 44, 2, 104, 105] := by subst hl; rw [encHi]; rfl
  rw [e] at h
  exact h
theorem number_300 (g base : Nat) (w : World) (hr : Rdr w base g [241, 1, 44, 2, 104, 105]) :
    Calls Try.prog 15 #[.pointer (some ⟨g, 0, none⟩), .int .u64 300] w fun e w' => e = .returned (.tuple #[.int .u64 300, .int .i64 0]) ∧ Rdr w' base g [2, 104, 105] ∧ w.grownBy w' (some g) := by
  refine (number_any _ 300 base g w hr (by omega)).mono ?_
  rintro e w' ⟨h1, _, h3⟩
  rw [numAt_yes num1_B (by omega)] at h3
  exact ⟨h3.1, h3.2, h1⟩
theorem text_2 (g base : Nat) (w : World) (hr : Rdr w base g [2, 104, 105]) :
    Calls Try.prog 17 #[.pointer (some ⟨g, 0, none⟩), .int .i64 2] w fun e w' => e = .returned (.tuple #[.string ⟨#[104, 105]⟩, .int .i64 0]) ∧ Rdr w' base g [] ∧ w.grownBy w' (some g) := by
  refine (rtext_any _ 2 base g w hr (by omega) (by omega) (by simp)).mono ?_
  rintro e w' ⟨h1, _, h3⟩
  rw [textAt_yes num1_C (by simp)] at h3
  exact ⟨h3.1, h3.2, h1⟩
theorem below_of_grown {B : Nat} {w w' : World} {g : Nat} (h : w.grownBy w' (some g)) (hB : B ≤ w.heap.size) (hg : B ≤ g) : Below B w w' :=
  (Below.refl _ _).grown h hB (fun k hk => by injection hk with hk; omega)

set_option maxHeartbeats 1000000 in
theorem alive_any (w : World) : Calls Try.prog 13 #[] w fun e w' => e = .returned (.bool true) ∧ Below w.heap.size w w' := by
  go_enter Try.func13, Try.ntmps13
  go_wp2_with fail
  refine (put_300 w).mono ?_
  rintro e w1 ⟨A1, c1, L1, rfl, H1, o1, b1⟩
  obtain ⟨_, q1, _, r1⟩ := o1.rd
  go_wp2_with fail
  refine (text_hi A1 L1 c1 w1 H1.out r1 q1).mono ?_
  rintro e w2 ⟨A2, c2, L2, rfl, H2, o2, b2⟩
  obtain ⟨_, q2, _, r2⟩ := o2.rd
  have hl2 : L2.length ≤ 100 := by rw [H2.out]; simp
  clear o1 r1 q1 H1
  go_wp2_with fail
  refine (open_any A2 L2 c2 w2 r2 (by omega)).mono ?_
  rintro e w3 ⟨g, rfl, hr3, b3⟩
  have hr3 : Rdr w3 w2.heap.size g [241, 1, 44, 2, 104, 105] := by have := H2.out; subst this; exact hr3
  have hg3 : w2.heap.size ≤ g := by obtain ⟨_, _, h, _⟩ := hr3; exact h
  go_wp2_with fail
  refine (number_300 g _ w3 hr3).mono ?_
  rintro e w4 ⟨rfl, hr4, g4⟩
  go_wp2_with fail
  refine (text_2 g _ w4 hr4).mono ?_
  rintro e w5 ⟨rfl, hr5, g5⟩
  have b4 := below_of_grown (B := w2.heap.size) g4 b3.size hg3
  have b5 := below_of_grown (B := w2.heap.size) g5 (Nat.le_trans b3.size b4.size) hg3
  have b25 : Below w2.heap.size w2 w5 := (b3.trans b4).trans b5
  have hB : Below w.heap.size w w5 := b1.trans ((b2.mono b1.size).trans (b25.mono (Nat.le_trans b1.size b2.size)))
  have hconv := run_str (P := Try.prog) w5 23 9 5 Try.underlying23 Try.underlying5 Try.underlying9 w2.heap.size A2 L2 c2 (r2.below b25)
  have hs : (⟨L2.toArray⟩ : ByteArray) = ⟨#[241, 1, 44, 2, 104, 105]⟩ := by rw [H2.out]
  rw [hs] at hconv
  clear hs hr3 hr4 g4 g5 b4 b5 b3
  go_wp2_with (go_at_call 19; refine (left_any _ _ _ _ hr5).mono ?_; rintro e w' ⟨rfl, rfl⟩)
  go_ret
  exact ⟨rfl, hB⟩
end Go.Proofs.Ytnjghodjpbalcaa
