/- Contracts: alive. -/
import Derived.Test.YtkglaoagiifejaaDoorA1
namespace Go.Proofs.YtkglaoagiifejaaDoor
open Go.RowKit Go.Shelf

theorem good0 : Good 100 [3, 70, 99] := ⟨by decide, by decide, by decide⟩
theorem cnt_a : cnt (inL [3, 70, 99]) 100 = 3 := by decide +kernel
theorem cnt_b : cnt (addW (inL [3, 70, 99]) 68 72) 100 = 6 := by decide +kernel
theorem cnt_c : cnt (notP (inL [3, 70, 99]) 100) 100 = 97 := by decide +kernel
theorem has_a : hasP (inL [3, 70, 99]) 70 = true := by decide +kernel
theorem has_b : hasP (inL [3, 70, 99]) 71 = false := by decide +kernel
theorem next_a {x : Int} {b : Bool} (h : NextIs (addW (inL [3, 70, 99]) 68 72) 4 x b) : x = 68 ∧ b = true := by
  have h1 : addW (inL [3, 70, 99]) 68 72 68 = true := by decide +kernel
  have h2 : ∀ k, k < 68 → 4 ≤ k → addW (inL [3, 70, 99]) 68 72 k = false := by decide +kernel
  rcases h with ⟨rfl, k, rfl, hp, hk, hl⟩ | ⟨_, _, hn⟩
  · have : k = 68 := by
      by_cases h3 : k < 68
      · rw [h2 k h3 (by omega)] at hp; cases hp
      · by_cases h4 : 68 < k
        · rw [hl 68 (by omega) h4] at h1; cases h1
        · omega
    exact ⟨by omega, rfl⟩
  · rw [hn 68 (by omega)] at h1; cases h1
set_option maxRecDepth 100000 in
set_option maxHeartbeats 1000000 in
/-- alive. -/
theorem alive_any (w : World) (hT : Tb w) : Calls Tryd.prog 8 #[] w fun e w' => e = .returned (.bool true) ∧ Below w.heap.size w w' := by
  have b0 : Below w.heap.size w (w.alloc (.cells #[.int .i64 3, .int .i64 70, .int .i64 99] 3)) := (Below.refl _ w).alloc (Nat.le_refl _) _
  have hv0 : IsV (w.alloc (.cells #[.int .i64 3, .int .i64 70, .int .i64 99] 3)) (.slice (some ⟨w.heap.size, 0, none⟩) 3 3) (ints [3, 70, 99]) := isV_of_at (cs := ints [3, 70, 99]) (At.new w _ _) (by simp [ints, maxLen])
  have ho := of_any 100 [3, 70, 99] _ hv0
  have HT : Hid (∀ u, Below w.heap.size w u → Tb u) := Lib.hid fun u hu => hT.belows hu
  clear hv0 hT
  go_enter Tryd.func8, Tryd.ntmps8
  go_wp2_with fail
  refine ho.mono ?_
  rintro e w1 (⟨_, v1, n, hn, rfl, hf, b1⟩ | ⟨hg, _⟩)
  · obtain rfl : n = 100 := by omega
    have s1 := hf.isSet (inL_sup good0.2.2) (by decide)
    have bb1 := b0.trans (b1.mono b0.size)
    have HS1 : Hid (∀ u, Below w1.heap.size w1 u → IsSet u v1 100 (inL [3, 70, 99])) := Lib.hid fun u hu => s1.belows hu
    have hw := with_ok 100 _ 68 72 w1 s1 (by decide) (by decide) (by decide)
    obtain ⟨A1, rfl⟩ := s1.ptr
    clear s1 hf hn
    go_wp2_with fail
    refine hw.mono ?_
    rintro e w2 ⟨v2, rfl, hf2, b2⟩
    have s2 := hf2.isSet (addW_sup (HS1.out w1 (Below.refl _ _)).1 (by decide)) (by decide)
    have bb2 := bb1.trans (b2.mono bb1.size)
    have HS2 : Hid (∀ u, Below w2.heap.size w2 u → IsSet u v2 100 (addW (inL [3, 70, 99]) 68 72)) := Lib.hid fun u hu => s2.belows hu
    have hx := next_any 100 _ 4 w2 (by decide) (by decide) s2 (HT.out _ bb2)
    obtain ⟨A2, rfl⟩ := s2.ptr
    clear s2 hf2 hw
    go_wp2_with fail
    refine hx.mono ?_
    rintro e w3 ⟨x, b, rfl, hnx, b3⟩
    obtain ⟨rfl, rfl⟩ := next_a hnx
    have bb3 := bb2.trans (b3.mono bb2.size)
    have b13 := b2.trans (b3.mono b2.size)
    have l1 := len_any 100 _ w3 (HS1.out _ b13)
    have l2 := len_any 100 _ w3 (HS2.out _ b3)
    have hno := not_any 100 _ w3 (HS1.out _ b13)
    rw [cnt_a] at l1
    rw [cnt_b] at l2
    clear hx hnx ho
    go_wp2_with fail
    refine l1.mono ?_
    rintro e w4 ⟨rfl, rfl⟩
    go_wp2_with fail
    refine l2.mono ?_
    rintro e w4 ⟨rfl, rfl⟩
    go_wp2_with fail
    refine hno.mono ?_
    rintro e w5 ⟨v5, rfl, hf5, b5⟩
    have s5 := hf5.isSet (notP_sup _ _) (by decide)
    have l5 := len_any 100 _ w5 s5
    rw [cnt_c] at l5
    have bb5 := bb3.trans (b5.mono bb3.size)
    have b15 := b13.trans (b5.mono b13.size)
    have h1 := has_any 100 _ 70 w5 (by decide) (by decide) (HS1.out _ b15) (HT.out _ bb5)
    rw [has_a] at h1
    obtain ⟨A5, rfl⟩ := s5.ptr
    clear s5 hf5
    go_wp2_with fail
    refine l5.mono ?_
    rintro e w6 ⟨rfl, rfl⟩
    go_wp2_with fail
    refine h1.mono ?_
    rintro e w6 ⟨rfl, b6⟩
    have bb6 := bb5.trans (b6.mono bb5.size)
    have b16 := b15.trans (b6.mono b15.size)
    have h2 := has_any 100 _ 71 w6 (by decide) (by decide) (HS1.out _ b16) (HT.out _ bb6)
    rw [has_b] at h2
    go_wp2_with fail
    refine h2.mono ?_
    rintro e w7 ⟨rfl, b7⟩
    go_wp2
    go_ret
    exact ⟨rfl, bb6.trans (b7.mono bb6.size)⟩
  · exact absurd good0 hg
end Go.Proofs.YtkglaoagiifejaaDoor
