/- Contract: the live question. -/
import Derived.Test.YtonhmppobdbidaaO2
namespace Go.Proofs.Ytonhmppobdbidaa
open Go.RowKit Go.Shelf

def L0 : List (Nat × Nat) := [(9, 12), (3, 5), (6, 6)]
def Z0 : List (Nat × Nat) := [(3, 6), (9, 12)]
theorem z0_zn : Zn Z0 := ⟨⟨by decide, by decide, by decide, by decide, trivial⟩, fun r hr => by simp [Z0] at hr; rcases hr with rfl | rfl <;> decide⟩
theorem l0_u32 : U32 L0 := fun r hr => by simp [L0] at hr; rcases hr with rfl | rfl | rfl <;> decide
theorem doc_l0 : docOf L0 = Z0 := by
  obtain ⟨d1, d2⟩ := docOf_zn L0
  refine Zn.eq d1 z0_zn fun a ha => ?_
  rw [d2 a ha]
  simp only [L0, Z0, has_cons, has_nil]
  rw [Bool.eq_iff_iff]
  simp only [Bool.or_eq_true, Bool.and_eq_true, decide_eq_true_eq, Bool.false_eq_true, or_false]
  omega
def all0 : List (Nat × Nat) := [(0, 4294967295)]
theorem all0_zn : Zn all0 := ⟨⟨by decide, by decide, trivial⟩, fun r hr => by simp [all0] at hr; subst hr; decide⟩
theorem has_all0 (a : Nat) (h : a < 4294967296) : has all0 a = true := by simp [all0, has]; omega
theorem isZ_lit {W : World} {B : Nat} {cs : Array Value} {L : List (Nat × Nat)} (h : At W B cs 33) (hcs : cs.toList = pcells L) (hm : L.length ≤ maxLen) : IsZ W (.slice (some ⟨B, 0, none⟩) L.length L.length) L :=
  ⟨_, _, rfl, Nat.le_refl _, hm, fun _ => ⟨B, 0, rfl, h.lt, fun k hk => by
    obtain ⟨h1, h2⟩ := pcells_at L k hk
    rw [← hcs] at h1 h2
    rw [Nat.zero_add, Nat.mul_comm]
    exact ⟨(h.cell _).trans (by simpa using h1), (h.cell _).trans (by simpa using h2)⟩⟩⟩

set_option maxRecDepth 100000 in
set_option maxHeartbeats 2000000 in
theorem alive_any (w : World) : Calls Try.prog 8 #[] w fun e w' => e = .returned (.bool true) ∧ Below w.heap.size w w' := by
  have A0 := At.new w #[.int .u32 9, .int .u32 12, .int .u32 3, .int .u32 5, .int .u32 6, .int .u32 6] 33
  have b0 : Below w.heap.size w (w.alloc (.cells #[.int .u32 9, .int .u32 12, .int .u32 3, .int .u32 5, .int .u32 6, .int .u32 6] 33)) := (Below.refl _ w).alloc (Nat.le_refl _) _
  have hof := of_any L0 _ l0_u32 (by decide) (isZ_lit (L := L0) A0 rfl (by decide))
  have hof' : Calls Try.prog 9 #[.slice (some ⟨w.heap.size, 0, none⟩) 3 3] (w.alloc (.cells #[.int .u32 9, .int .u32 12, .int .u32 3, .int .u32 5, .int .u32 6, .int .u32 6] 33)) fun e w' => ∃ v', e = .returned (.tuple #[v', .int .i64 0]) ∧ IsZ w' v' Z0 ∧ Below w.heap.size w w' := hof.mono fun e w' ⟨v', h1, h2, h3⟩ => ⟨v', h1, doc_l0 ▸ h2, b0.trans (h3.mono b0.size)⟩
  clear hof A0 b0
  go_enter Try.func8, Try.ntmps8
  go_wp2_with fail
  refine hof'.mono ?_
  rintro e w1 ⟨v1, rfl, hz1, b1⟩
  clear hof'
  obtain ⟨P1, k1, rfl, q1⟩ := hz1
  have HQ := Lib.hid q1
  clear q1
  go_wp2_with fail
  refine (least_any Z0 w1 ⟨P1, k1, rfl, HQ.out⟩).mono ?_
  rintro e w2 ⟨rfl, b2⟩
  have z2 : IsZ w2 (.slice P1 Z0.length k1) Z0 := (show IsZ w1 (.slice P1 Z0.length k1) Z0 from ⟨P1, k1, rfl, HQ.out⟩).belows b2
  have bb2 : Below w.heap.size w w2 := b1.trans (b2.mono b1.size)
  have HZ2 := Lib.hid z2
  clear z2
  have b3 : Below w2.heap.size w2 (w2.alloc (.cells #[.int .u32 3, .int .u32 6, .int .u32 9, .int .u32 12] 33)) := (Below.refl _ w2).alloc (Nat.le_refl _) _
  have A3 := At.new w2 #[.int .u32 3, .int .u32 6, .int .u32 9, .int .u32 12] 33
  have hsame := same_any Z0 _ (HZ2.out.belows b3) (isZ_lit (L := Z0) A3 rfl (by decide))
  have hl : ((Z0.head?.getD (0, 0)).1 : Int) = 3 := rfl
  have hd : decide (0 < Z0.length) = true := rfl
  have hlen : Z0.length = 2 := rfl
  rw [hl, hd]
  simp only [hlen] at hsame HZ2 ⊢
  go_wp2_with fail
  refine hsame.mono ?_
  rintro e w4 ⟨rfl, b4⟩
  have b24 : Below w2.heap.size w2 w4 := b3.trans (b4.mono b3.size)
  have z4 := HZ2.out.belows b24
  go_wp2_with fail
  refine (has_any Z0 10 w4 z0_zn.1 z0_zn.2 z4).mono ?_
  rintro e w5 ⟨rfl, b5⟩
  rw [show has Z0 10 = true from rfl]
  have z5 := z4.belows b5
  go_wp2_with fail
  refine (count_any Z0 w5 z0_zn.1 z0_zn.2 z5).mono ?_
  rintro e w6 ⟨rfl, b6⟩
  rw [show ((count Z0 : Nat) : Int) = 8 from rfl]
  go_wp2_with fail
  refine (all_any w6).mono ?_
  rintro e w7 ⟨v7, rfl, hz7, b7⟩
  obtain ⟨P7, k7, rfl, q7⟩ := hz7
  have z7 : IsZ w7 (.slice P7 1 k7) all0 := ⟨P7, k7, rfl, q7⟩
  go_wp2_with fail
  refine (count_any all0 w7 all0_zn.1 all0_zn.2 z7).mono ?_
  rintro e w8 ⟨rfl, b8⟩
  rw [show ((count all0 : Nat) : Int) = 4294967296 from rfl]
  go_wp2
  go_ret
  have b5' := b4.mono (Nat.le_refl _)
  exact ⟨rfl, bb2.trans ((b24.trans ((b5.trans ((b6.trans ((b7.trans (b8.mono b7.size)).mono b6.size)).mono b5.size)).mono b24.size)).mono bb2.size)⟩
end Go.Proofs.Ytonhmppobdbidaa
