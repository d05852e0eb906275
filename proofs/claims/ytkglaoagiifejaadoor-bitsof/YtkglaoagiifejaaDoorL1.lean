/- BitsOf, walked. -/
import Derived.Test.YtkglaoagiifejaaDoorA2
namespace Go.Proofs.YtkglaoagiifejaaDoor
open Go.RowKit Go.Shelf

set_option maxRecDepth 100000 in
set_option maxHeartbeats 2000000 in
theorem of_walk {v : Value} (size : Int) (L : List Int) (a b : Int) (w : World) (hL : IsV w v (ints L)) (hT : Tb w) : Calls Tryd.prog 3 #[.int .i64 size, v, .agg #[.int .i64 a, .int .i64 b]] w fun e w' => e = .returned (.bool true) ∧ Below w.heap.size w w' := by
  have HT : Hid (∀ u, Below w.heap.size w u → Tb u) := Lib.hid fun u hu => hT.belows hu
  have HL : Hid (∀ u, Below w.heap.size w u → IsV u v (ints L)) := Lib.hid fun u hu => hL.belows hu
  have b0 : Below w.heap.size w (w.alloc (.cells #[.int .i64 a, .int .i64 b] 23)) := (Below.refl _ w).alloc (Nat.le_refl _) _
  have D0 : At (w.alloc (.cells #[.int .i64 a, .int .i64 b] 23)) w.heap.size #[.int .i64 a, .int .i64 b] 23 := At.new w _ _
  have ho := of_any size L _ (HL.out _ b0)
  have ha0 := alive_any _ (HT.out _ b0)
  obtain ⟨A, c, rfl, h1, h2, _⟩ := hL
  rw [show (ints L).length = L.length by simp [ints]] at *
  simp only [maxLen] at h2
  clear hT
  by_cases hm : 200 < L.length
  · have hm' : decide ((200 : Int) < (L.length : Int)) = true := by simp; omega
    go_enter Tryd.func3, Tryd.ntmps3
    go_wp2_with fail
    refine ha0.mono ?_
    rintro e w1 ⟨rfl, b1⟩
    go_wp2
    go_ret
    exact ⟨rfl, b0.trans (b1.mono b0.size)⟩
  · have hm' : decide ((200 : Int) < (L.length : Int)) = false := by simp; omega
    go_enter Tryd.func3, Tryd.ntmps3
    go_wp2_with fail
    refine ho.mono ?_
    rintro e w1 (⟨hg, v1, n, hn, rfl, hf, b1⟩ | ⟨hg, rfl, b1⟩)
    · subst hn
      have s1 := hf.isSet (inL_sup hg.2.2) (by have := hg.2.1; omega)
      have bb1 := b0.trans (b1.mono b0.size)
      have HS1 : Hid (∀ u, Below w1.heap.size w1 u → IsSet u v1 n (inL L)) := Lib.hid fun u hu => s1.belows hu
      have hr := rof_any (n : Int) L w1 (HL.out _ bb1)
      have hn1 := s1.2.1
      obtain ⟨A1, rfl⟩ := s1.ptr
      have D1 := D0.belows b1
      clear s1 hf ho ha0 D0
      go_wp2_with fail
      refine hr.mono ?_
      rintro e w2 (⟨_, v2, n2, hn2, rfl, hv2, b2⟩ | ⟨hg', _⟩)
      · obtain rfl : n2 = n := by omega
        have bb2 := bb1.trans (b2.mono bb1.size)
        have D2 := D1.belows b2
        have c0 := (D2.cell 0).trans rfl
        have c1 := (D2.cell 1).trans rfl
        have HV2 : Hid (∀ u, Below w2.heap.size w2 u → IsV u v2 (bl (inL L) n2)) := Lib.hid fun u hu => hv2.belows hu
        have hw := with_any n2 _ a b w2 (HS1.out _ b2)
        obtain ⟨A2, c2, rfl, _, _, _⟩ := hv2
        rw [bl_len] at *
        clear hr D1 hn2
        go_wp2_with fail
        refine hw.mono ?_
        have hrw := fun (w3 : World) (b3 : Below w2.heap.size w2 w3) => rwith_any n2 _ a b w3 hn1 (HV2.out _ b3)
        rintro e w3 (⟨hc, v3, rfl, hf3, b3⟩ | ⟨hc, rfl, b3⟩)
        · have s3 := hf3.isSet (addW_sup (HS1.out _ (Below.refl _ _)).1 hc.2.2) hn1
          have bb3 := bb2.trans (b3.mono bb2.size)
          have b13 := b2.trans (b3.mono b2.size)
          have D3 := D2.belows b3
          have d0 := (D3.cell 0).trans rfl
          have d1 := (D3.cell 1).trans rfl
          have HS3 : Hid (∀ u, Below w3.heap.size w3 u → IsSet u v3 n2 (addW (inL L) a b)) := Lib.hid fun u hu => s3.belows hu
          have hrw3 := hrw w3 b3
          have HC := Lib.hid hc
          obtain ⟨A3, rfl⟩ := s3.ptr
          clear hw s3 hf3 D2 c0 c1 hrw hc
          go_wp2_with fail
          refine hrw3.mono ?_
          rintro e w4 (⟨_, v4, rfl, hv4, b4⟩ | ⟨hc', _⟩)
          · have bb4 := bb3.trans (b4.mono bb3.size)
            have b14 := b13.trans (b4.mono b13.size)
            have b24 := b3.trans (b4.mono b3.size)
            have HV4 : Hid (∀ u, Below w4.heap.size w4 u → IsV u v4 (bl (addW (inL L) a b) n2)) := Lib.hid fun u hu => hv4.belows hu
            have hs4 := same_any n2 _ w4 (HS1.out _ b14) (HV2.out _ b24) (HT.out _ bb4)
            obtain ⟨A4, c4, rfl, _, _, _⟩ := hv4
            rw [bl_len] at *
            clear hrw3
            go_wp2_with fail
            refine hs4.mono ?_
            rintro e w5 ⟨rfl, b5⟩
            have bb5 := bb4.trans (b5.mono bb4.size)
            have b35 := b4.trans (b5.mono b4.size)
            have hs5 := same_any n2 _ w5 (HS3.out _ b35) (HV4.out _ b5) (HT.out _ bb5)
            go_wp2_with fail
            refine hs5.mono ?_
            rintro e w6 ⟨rfl, b6⟩
            have bb6 := bb5.trans (b6.mono bb5.size)
            go_wp2_with fail
            refine (alive_any _ (HT.out _ bb6)).mono ?_
            rintro e w7 ⟨rfl, b7⟩
            go_wp2
            go_ret
            exact ⟨rfl, bb6.trans (b7.mono bb6.size)⟩
          · exact absurd HC.out hc'
        · have bb3 := bb2.trans (b3.mono bb2.size)
          have b13 := b2.trans (b3.mono b2.size)
          have D3 := D2.belows b3
          have d0 := (D3.cell 0).trans rfl
          have d1 := (D3.cell 1).trans rfl
          have hrw3 := hrw w3 b3
          have HC := Lib.hid hc
          clear hw D2 c0 c1 hrw hc
          go_wp2_with fail
          refine hrw3.mono ?_
          rintro e w4 (⟨hc', _⟩ | ⟨_, rfl, b4⟩)
          · exact absurd hc' HC.out
          · have bb4 := bb3.trans (b4.mono bb3.size)
            have b14 := b13.trans (b4.mono b13.size)
            have b24 := b3.trans (b4.mono b3.size)
            have hs4 := same_any n2 _ w4 (HS1.out _ b14) (HV2.out _ b24) (HT.out _ bb4)
            clear hrw3
            go_wp2_with fail
            refine hs4.mono ?_
            rintro e w5 ⟨rfl, b5⟩
            have bb5 := bb4.trans (b5.mono bb4.size)
            go_wp2_with fail
            refine (alive_any _ (HT.out _ bb5)).mono ?_
            rintro e w7 ⟨rfl, b7⟩
            go_wp2
            go_ret
            exact ⟨rfl, bb5.trans (b7.mono bb5.size)⟩
      · exact absurd hg hg'
    · have bb1 := b0.trans (b1.mono b0.size)
      have hr := rof_any size L w1 (HL.out _ bb1)
      have HG := Lib.hid hg
      clear hg
      go_wp2_with fail
      refine hr.mono ?_
      rintro e w2 (⟨hg', _⟩ | ⟨_, rfl, b2⟩)
      · exact absurd hg' HG.out
      · have bb2 := bb1.trans (b2.mono bb1.size)
        go_wp2_with fail
        refine (alive_any _ (HT.out _ bb2)).mono ?_
        rintro e w3 ⟨rfl, b3⟩
        go_wp2
        go_ret
        exact ⟨rfl, bb2.trans (b3.mono bb2.size)⟩
end Go.Proofs.YtkglaoagiifejaaDoor
