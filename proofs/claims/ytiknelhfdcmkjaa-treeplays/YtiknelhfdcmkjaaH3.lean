/- Contract: an act that splits. -/
import Derived.Test.YtiknelhfdcmkjaaH2
namespace Go.Proofs.Ytiknelhfdcmkjaa
open Go.RowKit

theorem IsP.len {w : World} {A : Option Addr} {n c : Nat} {L : List (Int × Int)} (h : IsP w (.slice A n c) L) : n = L.length := by
  obtain ⟨A', c', e, _⟩ := h
  injection e
theorem IsP.low {w : World} {A : Option Addr} {c : Nat} {L : List (Int × Int)} {k : Int} (h : IsP w (.slice A L.length c) L) (hu : Up L) : IsP w (.slice A (posL L k) c) (lowL L k) := by
  obtain ⟨A', c', e, h1, h2, h3⟩ := h
  injection e with e1 e2 e3
  subst e1 e3
  refine ⟨A, c, rfl, Nat.le_trans low_len h1, h2, ?_⟩
  rw [← pos_take hu]
  exact h3.take _
/-- The two parts are the whole. -/
theorem parts_len {L : List (Int × Int)} {k : Int} (hu : Up L) : posL L k + (highL L k).length = L.length := by
  have := congrArg List.length (low_high (k := k) hu)
  rw [List.length_append] at this
  exact this
theorem IsP.high {w : World} {A A2 : Option Addr} {c c2 : Nat} {L : List (Int × Int)} {k : Int} (h : IsP w (.slice A L.length c) L) (hu : Up L) (n2 : L.length - posL L k ≤ c2) (m2 : c2 ≤ maxLen) (z2 : ∀ W, Ps W A L → Ps W A2 (L.drop (posL L k))) : IsP w (.slice A2 (L.length - posL L k) c2) (highL L k) := by
  obtain ⟨A', c', e, _, _, z⟩ := h
  injection e with e1 e2 e3
  subst e1
  have e4 : L.length - posL L k = (highL L k).length := by have := parts_len (k := k) hu; omega
  rw [e4] at n2 ⊢
  exact ⟨A2, c2, rfl, n2, m2, by rw [← pos_drop hu]; exact z2 _ z⟩

set_option maxRecDepth 100000 in
set_option maxHeartbeats 4000000 in
theorem do_split_el (Bh : Nat) (V K : Int) (L : List (Int × Int)) (w : World) (h : Hd w Bh L) (hpe : posL L K = L.length) : Calls Try.prog 10 #[.pointer (some ⟨Bh, 0, none⟩), actV 3 V K true] w (Did w Bh) := by
  obtain ⟨h0, g0⟩ := act_start h (.cells #[.int .i64 3, .int .i64 V, .int .u64 K, .bool true] 32)
  have HG := Lib.hid g0
  have hX := At.new w #[.int .i64 3, .int .i64 V, .int .u64 K, .bool true] 32
  clear g0 h
  have x0 := (hX.cell 0).trans rfl
  obtain ⟨B, A, n, c, hA, ht, hp⟩ := h0
  have hu := Lib.hid ht.any.up
  obtain rfl := hp.len
  have hpl := pos_le (k := K) hu.out.1
  have hparts := parts_len (k := K) hu.out.1
  have hlen := hu.out.2
  have hnm : L.length ≤ c ∧ c ≤ maxLen := by
    obtain ⟨_, _, e0, hn1, hm1, _⟩ := hp
    injection e0 with e1 e2 e3
    subst e3
    exact ⟨hn1, hm1⟩
  obtain ⟨hn1, hm1⟩ := hnm
  have HPE := Lib.hid hpe
  clear hpe
  go_enter Try.func10, Try.ntmps10
  go_wp2_with fail
  obtain ⟨W0, hW0⟩ : ∃ W0, w.alloc (.cells #[.int .i64 3, .int .i64 V, .int .u64 K, .bool true] 32) = W0 := ⟨_, rfl⟩
  rw [hW0] at HG hX x0 hA ht hp ⊢
  have HT : Hid (∀ W, Below W0.heap.size W0 W → IsTree1 W (.pointer (some ⟨B, 0, none⟩)) L) := Lib.hid fun W hW => ht.belows hW
  have HP : Hid (∀ W, Below W0.heap.size W0 W → IsP W (.slice A L.length c) L) := Lib.hid fun W hW => hp.belows hW
  have HA : Hid (∀ W, Below W0.heap.size W0 W → At W Bh #[.pointer (some ⟨B, 0, none⟩), .slice A L.length c] 28) := Lib.hid fun W hW => hA.belows hW
  have HX : Hid (∀ W, Below W0.heap.size W0 W → At W w.heap.size #[.int .i64 3, .int .i64 V, .int .u64 K, .bool true] 32) := Lib.hid fun W hW => hX.belows hW
  have KS : Hid (∀ W, Below W0.heap.size W0 W → W.cell? ⟨Bh, 0, none⟩ = some (.pointer (some ⟨B, 0, none⟩)) ∧ W.cell? ⟨w.heap.size, 2, none⟩ = some (.int .u64 K)) := Lib.hid fun W hW => ⟨((hA.belows hW).cell 0).trans rfl, ((hX.belows hW).cell 2).trans rfl⟩
  have KS2 : Hid (∀ W, Below W0.heap.size W0 W → W.cell? ⟨Bh, 1, none⟩ = some (.slice A L.length c) ∧ W.cell? ⟨w.heap.size, 2, none⟩ = some (.int .u64 K)) := Lib.hid fun W hW => ⟨((hA.belows hW).cell 1).trans rfl, ((hX.belows hW).cell 2).trans rfl⟩
  have HCL : Hid (∀ W, Below W0.heap.size W0 W → Calls Try.prog 21 #[.slice A L.length c, .int .u64 K] W fun e w' => e = .returned (.int .i64 (-1)) ∧ Below W.heap.size W w') := Lib.hid fun W hW => by
    have hcl := rceil_any L K W hu.out.1 (HP.out W hW)
    rw [show ceilI L K = -1 from by unfold ceilI; rw [if_pos HPE.out]] at hcl
    exact hcl
  clear ht hp hA hX hW0 x0
  have hb1 := Below.refl W0.heap.size W0
  obtain ⟨q1, q2⟩ := KS.out W0 hb1
  go_region_held3 (fun W => W.cell? ⟨Bh, 0, none⟩ = some (.pointer (some ⟨B, 0, none⟩)) ∧ W.cell? ⟨w.heap.size, 2, none⟩ = some (.int .u64 K)) (first | exact KS.out _ bb1 | exact KS.out _ hb1.drew | exact KS.out _ hb1) (first
    | (go_at_call 25; refine (split_any L K _ (HT.out _ (by first | exact hb1.drew | exact hb1)).any).mono ?_; rintro e w1 ⟨v1, v2, rfl, t1, t2, b1⟩; obtain ⟨B1, rfl⟩ := t1.ptr; obtain ⟨B2, rfl⟩ := t2.ptr; have bb1 : Below W0.heap.size W0 w1 := (by first | exact hb1.drew.trans (b1.mono hb1.size))))
  rename_i hHeld
  clear hHeld q1 q2
  obtain ⟨q1, q2⟩ := KS2.out _ bb1
  go_wp2_with fail
  go_region_held3 (fun W => W.cell? ⟨Bh, 1, none⟩ = some (.slice A L.length c) ∧ W.cell? ⟨w.heap.size, 2, none⟩ = some (.int .u64 K)) (first | exact KS2.out _ bb2 | exact KS2.out _ bb1.drew | exact KS2.out _ bb1) (first
    | (go_at_call 21; refine (HCL.out _ (by first | exact bb1.drew | exact bb1)).mono ?_; rintro e w2 ⟨rfl, b2⟩; have bb2 : Below W0.heap.size W0 w2 := (by first | exact bb1.drew.trans (b2.mono bb1.drew.size)); have b12 : Below w1.heap.size w1 w2 := (by first | exact ((Below.refl _ w1).drew).trans b2)))
  rename_i hHeld
  clear hHeld q1 q2 hb1
  have t1 := t1.belows b12
  have t2 := t2.belows b12
  have hA2 := HA.out _ bb2
  have hX2 := HX.out _ bb2
  have hne : w.heap.size ≠ Bh := fun e => by
    rw [e] at hX2
    have := (show w2.heap[Bh]? = _ from hX2).symm.trans hA2
    injection this with this
    injection this with _ this
    exact absurd this (by decide)
  have y3 : w2.cell? ⟨w.heap.size, 3, none⟩ = some (.bool true) := (hX2.cell 3).trans rfl
  have P2 := HP.out _ bb2
  obtain ⟨A2, c2, hs2, n2, m2, z2⟩ := slice_from A c L (posL L K) hpl hn1 hm1
  have hs1 := slice_to A c L (posL L K) hpl hn1 hm1
  have PN : IsP w2 (.slice A (posL L K) c) (lowL L K) := P2.low hu.out.1
  obtain ⟨q1, q2⟩ := hd_stored hA2 t1 PN
  have HQ := Lib.hid (And.intro q1 q2)
  have HB := Lib.hid bb2
  have d0 := (hA2.cell 0).trans rfl
  have d1 := (hA2.cell 1).trans rfl
  have f0 := hA2.frozen 0
  have f1 := hA2.frozen 1
  have HL1 : Hid (∀ W, w2.grownBy W (some Bh) → Calls Try.prog 24 #[.pointer (some ⟨B1, 0, none⟩)] W fun e w' => e = .returned (.int .i64 (posL L K : Int)) ∧ W = w') := Lib.hid fun W hW => len_any _ W (t1.held hA2 hW).any
  have HL2 : Hid (∀ W, w2.grownBy W (some Bh) → Calls Try.prog 24 #[.pointer (some ⟨B2, 0, none⟩)] W fun e w' => e = .returned (.int .i64 ((highL L K).length : Int)) ∧ W = w') := Lib.hid fun W hW => len_any _ W (t2.held hA2 hW).any
  have HAQ : Hid (At ((w2.setCell ⟨Bh, 0, none⟩ (.pointer (some ⟨B1, 0, none⟩))).setCell ⟨Bh, 1, none⟩ (.slice A (posL L K) c)) Bh #[.pointer (some ⟨B1, 0, none⟩), .slice A (posL L K) c] 28) := Lib.hid ((hA2.set0 0 (.pointer (some ⟨B1, 0, none⟩))).set0 1 (.slice A (posL L K) c))
  clear q1 q2 PN P2 t1 t2 b1 b2 bb2 b12 bb1 hX2 hA2 z2 KS KS2 HT HP HA HX HCL
  have HLL := Lib.hid (show Did w Bh = Did w Bh from rfl)
  generalize lowL L K = Ml at HQ
  generalize hMh : highL L K = Mh at HQ hparts HL2
  clear hMh
  generalize posL L K = p at hpl hparts HQ HL1 HAQ HPE hs1 hs2 n2 ⊢
  obtain rfl : p = L.length := HPE.out
  simp only [maxLen] at hm1 m2
  go_wp2
  obtain ⟨hq1, hq2⟩ := HQ.out
  have hAq := HAQ.out
  generalize ((w2.setCell ⟨Bh, 0, none⟩ (.pointer (some ⟨B1, 0, none⟩))).setCell ⟨Bh, 1, none⟩ (.slice A L.length c)) = W3 at hq1 hq2 hAq ⊢
  have HQ1 := Lib.hid hq1
  have HQ2 := Lib.hid hq2
  have z1 : W3.cell? ⟨Bh, 1, none⟩ = some (.slice A L.length c) := (hAq.cell 1).trans rfl
  clear hq1 hq2 hAq HQ HAQ d0 d1 f0 f1 y3
  have hd3 : ∀ q, w2.grownBy (W3.drewN q) (some Bh) := fun q => World.grownBy.trans HQ2.out ((grown_none (bdrewN (Below.refl _ _) q)).but _)
  have HD3 := Lib.hid hd3
  clear hd3
  have j1 : IntKind.i64.wrap ((L.length : Int) + (Mh.length : Int)) = (L.length : Int) + (Mh.length : Int) := IntWalk.i64_in _ (by omega)
  have j2 : decide ((L.length : Int) ≤ (L.length : Int) + (Mh.length : Int)) = true := decide_eq_true (by omega)
  go_quiet (first
    | (go_at_call_of 24 B1; exact Calls.quiet_of_same (same_of (HL1.out _ (HD3.out _))))
    | (go_at_call_of 24 B2; exact Calls.quiet_of_same (same_of (HL2.out _ (HD3.out _)))))
  go_wp2
  go_ret
  exact ⟨rfl, _, HQ1.out.belows (bdrewN (Below.refl _ _) _), World.grownBy.trans HG.out (World.grownBy.trans ((grown_none HB.out).but _) (HD3.out _))⟩

set_option maxRecDepth 100000 in
set_option maxHeartbeats 4000000 in
theorem do_split_eh (Bh : Nat) (V K : Int) (L : List (Int × Int)) (w : World) (h : Hd w Bh L) (hpe : posL L K = L.length) : Calls Try.prog 10 #[.pointer (some ⟨Bh, 0, none⟩), actV 3 V K false] w (Did w Bh) := by
  obtain ⟨h0, g0⟩ := act_start h (.cells #[.int .i64 3, .int .i64 V, .int .u64 K, .bool false] 32)
  have HG := Lib.hid g0
  have hX := At.new w #[.int .i64 3, .int .i64 V, .int .u64 K, .bool false] 32
  clear g0 h
  have x0 := (hX.cell 0).trans rfl
  obtain ⟨B, A, n, c, hA, ht, hp⟩ := h0
  have hu := Lib.hid ht.any.up
  obtain rfl := hp.len
  have hpl := pos_le (k := K) hu.out.1
  have hparts := parts_len (k := K) hu.out.1
  have hlen := hu.out.2
  have hnm : L.length ≤ c ∧ c ≤ maxLen := by
    obtain ⟨_, _, e0, hn1, hm1, _⟩ := hp
    injection e0 with e1 e2 e3
    subst e3
    exact ⟨hn1, hm1⟩
  obtain ⟨hn1, hm1⟩ := hnm
  have HPE := Lib.hid hpe
  clear hpe
  go_enter Try.func10, Try.ntmps10
  go_wp2_with fail
  obtain ⟨W0, hW0⟩ : ∃ W0, w.alloc (.cells #[.int .i64 3, .int .i64 V, .int .u64 K, .bool false] 32) = W0 := ⟨_, rfl⟩
  rw [hW0] at HG hX x0 hA ht hp ⊢
  have HT : Hid (∀ W, Below W0.heap.size W0 W → IsTree1 W (.pointer (some ⟨B, 0, none⟩)) L) := Lib.hid fun W hW => ht.belows hW
  have HP : Hid (∀ W, Below W0.heap.size W0 W → IsP W (.slice A L.length c) L) := Lib.hid fun W hW => hp.belows hW
  have HA : Hid (∀ W, Below W0.heap.size W0 W → At W Bh #[.pointer (some ⟨B, 0, none⟩), .slice A L.length c] 28) := Lib.hid fun W hW => hA.belows hW
  have HX : Hid (∀ W, Below W0.heap.size W0 W → At W w.heap.size #[.int .i64 3, .int .i64 V, .int .u64 K, .bool false] 32) := Lib.hid fun W hW => hX.belows hW
  have KS : Hid (∀ W, Below W0.heap.size W0 W → W.cell? ⟨Bh, 0, none⟩ = some (.pointer (some ⟨B, 0, none⟩)) ∧ W.cell? ⟨w.heap.size, 2, none⟩ = some (.int .u64 K)) := Lib.hid fun W hW => ⟨((hA.belows hW).cell 0).trans rfl, ((hX.belows hW).cell 2).trans rfl⟩
  have KS2 : Hid (∀ W, Below W0.heap.size W0 W → W.cell? ⟨Bh, 1, none⟩ = some (.slice A L.length c) ∧ W.cell? ⟨w.heap.size, 2, none⟩ = some (.int .u64 K)) := Lib.hid fun W hW => ⟨((hA.belows hW).cell 1).trans rfl, ((hX.belows hW).cell 2).trans rfl⟩
  have HCL : Hid (∀ W, Below W0.heap.size W0 W → Calls Try.prog 21 #[.slice A L.length c, .int .u64 K] W fun e w' => e = .returned (.int .i64 (-1)) ∧ Below W.heap.size W w') := Lib.hid fun W hW => by
    have hcl := rceil_any L K W hu.out.1 (HP.out W hW)
    rw [show ceilI L K = -1 from by unfold ceilI; rw [if_pos HPE.out]] at hcl
    exact hcl
  clear ht hp hA hX hW0 x0
  have hb1 := Below.refl W0.heap.size W0
  obtain ⟨q1, q2⟩ := KS.out W0 hb1
  go_region_held3 (fun W => W.cell? ⟨Bh, 0, none⟩ = some (.pointer (some ⟨B, 0, none⟩)) ∧ W.cell? ⟨w.heap.size, 2, none⟩ = some (.int .u64 K)) (first | exact KS.out _ bb1 | exact KS.out _ hb1.drew | exact KS.out _ hb1) (first
    | (go_at_call 25; refine (split_any L K _ (HT.out _ (by first | exact hb1.drew | exact hb1)).any).mono ?_; rintro e w1 ⟨v1, v2, rfl, t1, t2, b1⟩; obtain ⟨B1, rfl⟩ := t1.ptr; obtain ⟨B2, rfl⟩ := t2.ptr; have bb1 : Below W0.heap.size W0 w1 := (by first | exact hb1.drew.trans (b1.mono hb1.size))))
  rename_i hHeld
  clear hHeld q1 q2
  obtain ⟨q1, q2⟩ := KS2.out _ bb1
  go_wp2_with fail
  go_region_held3 (fun W => W.cell? ⟨Bh, 1, none⟩ = some (.slice A L.length c) ∧ W.cell? ⟨w.heap.size, 2, none⟩ = some (.int .u64 K)) (first | exact KS2.out _ bb2 | exact KS2.out _ bb1.drew | exact KS2.out _ bb1) (first
    | (go_at_call 21; refine (HCL.out _ (by first | exact bb1.drew | exact bb1)).mono ?_; rintro e w2 ⟨rfl, b2⟩; have bb2 : Below W0.heap.size W0 w2 := (by first | exact bb1.drew.trans (b2.mono bb1.drew.size)); have b12 : Below w1.heap.size w1 w2 := (by first | exact ((Below.refl _ w1).drew).trans b2)))
  rename_i hHeld
  clear hHeld q1 q2 hb1
  have t1 := t1.belows b12
  have t2 := t2.belows b12
  have hA2 := HA.out _ bb2
  have hX2 := HX.out _ bb2
  have hne : w.heap.size ≠ Bh := fun e => by
    rw [e] at hX2
    have := (show w2.heap[Bh]? = _ from hX2).symm.trans hA2
    injection this with this
    injection this with _ this
    exact absurd this (by decide)
  have y3 : w2.cell? ⟨w.heap.size, 3, none⟩ = some (.bool false) := (hX2.cell 3).trans rfl
  have P2 := HP.out _ bb2
  obtain ⟨A2, c2, hs2, n2, m2, z2⟩ := slice_from A c L (posL L K) hpl hn1 hm1
  have hs1 := slice_to A c L (posL L K) hpl hn1 hm1
  have PN : IsP w2 (.slice A2 (L.length - posL L K) c2) (highL L K) := P2.high hu.out.1 n2 m2 z2
  obtain ⟨q1, q2⟩ := hd_stored hA2 t2 PN
  have HQ := Lib.hid (And.intro q1 q2)
  have HB := Lib.hid bb2
  have d0 := (hA2.cell 0).trans rfl
  have d1 := (hA2.cell 1).trans rfl
  have f0 := hA2.frozen 0
  have f1 := hA2.frozen 1
  have HL1 : Hid (∀ W, w2.grownBy W (some Bh) → Calls Try.prog 24 #[.pointer (some ⟨B1, 0, none⟩)] W fun e w' => e = .returned (.int .i64 (posL L K : Int)) ∧ W = w') := Lib.hid fun W hW => len_any _ W (t1.held hA2 hW).any
  have HL2 : Hid (∀ W, w2.grownBy W (some Bh) → Calls Try.prog 24 #[.pointer (some ⟨B2, 0, none⟩)] W fun e w' => e = .returned (.int .i64 ((highL L K).length : Int)) ∧ W = w') := Lib.hid fun W hW => len_any _ W (t2.held hA2 hW).any
  have HAQ : Hid (At ((w2.setCell ⟨Bh, 0, none⟩ (.pointer (some ⟨B2, 0, none⟩))).setCell ⟨Bh, 1, none⟩ (.slice A2 (L.length - posL L K) c2)) Bh #[.pointer (some ⟨B2, 0, none⟩), .slice A2 (L.length - posL L K) c2] 28) := Lib.hid ((hA2.set0 0 (.pointer (some ⟨B2, 0, none⟩))).set0 1 (.slice A2 (L.length - posL L K) c2))
  clear q1 q2 PN P2 t1 t2 b1 b2 bb2 b12 bb1 hX2 hA2 z2 KS KS2 HT HP HA HX HCL
  have HLL := Lib.hid (show Did w Bh = Did w Bh from rfl)
  generalize lowL L K = Ml at HQ
  generalize hMh : highL L K = Mh at HQ hparts HL2
  clear hMh
  generalize posL L K = p at hpl hparts HQ HL1 HAQ HPE hs1 hs2 n2 ⊢
  obtain rfl : p = L.length := HPE.out
  rw [Nat.sub_self] at HQ HAQ n2
  simp only [Nat.sub_self] at hs2
  simp only [maxLen] at hm1 m2
  go_wp2
  obtain ⟨hq1, hq2⟩ := HQ.out
  have hAq := HAQ.out
  generalize ((w2.setCell ⟨Bh, 0, none⟩ (.pointer (some ⟨B2, 0, none⟩))).setCell ⟨Bh, 1, none⟩ (.slice A2 0 c2)) = W3 at hq1 hq2 hAq ⊢
  have HQ1 := Lib.hid hq1
  have HQ2 := Lib.hid hq2
  have z1 : W3.cell? ⟨Bh, 1, none⟩ = some (.slice A2 0 c2) := (hAq.cell 1).trans rfl
  clear hq1 hq2 hAq HQ HAQ d0 d1 f0 f1 y3
  have hd3 : ∀ q, w2.grownBy (W3.drewN q) (some Bh) := fun q => World.grownBy.trans HQ2.out ((grown_none (bdrewN (Below.refl _ _) q)).but _)
  have HD3 := Lib.hid hd3
  clear hd3
  have j1 : IntKind.i64.wrap ((L.length : Int) + (Mh.length : Int)) = (L.length : Int) + (Mh.length : Int) := IntWalk.i64_in _ (by omega)
  have j2 : decide ((0 : Int) ≤ (L.length : Int) + (Mh.length : Int)) = true := decide_eq_true (by omega)
  go_quiet (first
    | (go_at_call_of 24 B1; exact Calls.quiet_of_same (same_of (HL1.out _ (HD3.out _))))
    | (go_at_call_of 24 B2; exact Calls.quiet_of_same (same_of (HL2.out _ (HD3.out _)))))
  go_wp2
  go_ret
  exact ⟨rfl, _, HQ1.out.belows (bdrewN (Below.refl _ _) _), World.grownBy.trans HG.out (World.grownBy.trans ((grown_none HB.out).but _) (HD3.out _))⟩

set_option maxRecDepth 100000 in
set_option maxHeartbeats 4000000 in
theorem do_split_nl (Bh : Nat) (V K : Int) (L : List (Int × Int)) (w : World) (h : Hd w Bh L) (hpe : posL L K ≠ L.length) : Calls Try.prog 10 #[.pointer (some ⟨Bh, 0, none⟩), actV 3 V K true] w (Did w Bh) := by
  obtain ⟨h0, g0⟩ := act_start h (.cells #[.int .i64 3, .int .i64 V, .int .u64 K, .bool true] 32)
  have HG := Lib.hid g0
  have hX := At.new w #[.int .i64 3, .int .i64 V, .int .u64 K, .bool true] 32
  clear g0 h
  have x0 := (hX.cell 0).trans rfl
  obtain ⟨B, A, n, c, hA, ht, hp⟩ := h0
  have hu := Lib.hid ht.any.up
  obtain rfl := hp.len
  have hpl := pos_le (k := K) hu.out.1
  have hparts := parts_len (k := K) hu.out.1
  have hlen := hu.out.2
  have hnm : L.length ≤ c ∧ c ≤ maxLen := by
    obtain ⟨_, _, e0, hn1, hm1, _⟩ := hp
    injection e0 with e1 e2 e3
    subst e3
    exact ⟨hn1, hm1⟩
  obtain ⟨hn1, hm1⟩ := hnm
  have HPE := Lib.hid hpe
  clear hpe
  go_enter Try.func10, Try.ntmps10
  go_wp2_with fail
  obtain ⟨W0, hW0⟩ : ∃ W0, w.alloc (.cells #[.int .i64 3, .int .i64 V, .int .u64 K, .bool true] 32) = W0 := ⟨_, rfl⟩
  rw [hW0] at HG hX x0 hA ht hp ⊢
  have HT : Hid (∀ W, Below W0.heap.size W0 W → IsTree1 W (.pointer (some ⟨B, 0, none⟩)) L) := Lib.hid fun W hW => ht.belows hW
  have HP : Hid (∀ W, Below W0.heap.size W0 W → IsP W (.slice A L.length c) L) := Lib.hid fun W hW => hp.belows hW
  have HA : Hid (∀ W, Below W0.heap.size W0 W → At W Bh #[.pointer (some ⟨B, 0, none⟩), .slice A L.length c] 28) := Lib.hid fun W hW => hA.belows hW
  have HX : Hid (∀ W, Below W0.heap.size W0 W → At W w.heap.size #[.int .i64 3, .int .i64 V, .int .u64 K, .bool true] 32) := Lib.hid fun W hW => hX.belows hW
  have KS : Hid (∀ W, Below W0.heap.size W0 W → W.cell? ⟨Bh, 0, none⟩ = some (.pointer (some ⟨B, 0, none⟩)) ∧ W.cell? ⟨w.heap.size, 2, none⟩ = some (.int .u64 K)) := Lib.hid fun W hW => ⟨((hA.belows hW).cell 0).trans rfl, ((hX.belows hW).cell 2).trans rfl⟩
  have KS2 : Hid (∀ W, Below W0.heap.size W0 W → W.cell? ⟨Bh, 1, none⟩ = some (.slice A L.length c) ∧ W.cell? ⟨w.heap.size, 2, none⟩ = some (.int .u64 K)) := Lib.hid fun W hW => ⟨((hA.belows hW).cell 1).trans rfl, ((hX.belows hW).cell 2).trans rfl⟩
  have HCL : Hid (∀ W, Below W0.heap.size W0 W → Calls Try.prog 21 #[.slice A L.length c, .int .u64 K] W fun e w' => e = .returned (.int .i64 ((posL L K : Int))) ∧ Below W.heap.size W w') := Lib.hid fun W hW => by
    have hcl := rceil_any L K W hu.out.1 (HP.out W hW)
    rw [show ceilI L K = (posL L K : Int) from by unfold ceilI; rw [if_neg HPE.out]] at hcl
    exact hcl
  clear ht hp hA hX hW0 x0
  have hb1 := Below.refl W0.heap.size W0
  obtain ⟨q1, q2⟩ := KS.out W0 hb1
  go_region_held3 (fun W => W.cell? ⟨Bh, 0, none⟩ = some (.pointer (some ⟨B, 0, none⟩)) ∧ W.cell? ⟨w.heap.size, 2, none⟩ = some (.int .u64 K)) (first | exact KS.out _ bb1 | exact KS.out _ hb1.drew | exact KS.out _ hb1) (first
    | (go_at_call 25; refine (split_any L K _ (HT.out _ (by first | exact hb1.drew | exact hb1)).any).mono ?_; rintro e w1 ⟨v1, v2, rfl, t1, t2, b1⟩; obtain ⟨B1, rfl⟩ := t1.ptr; obtain ⟨B2, rfl⟩ := t2.ptr; have bb1 : Below W0.heap.size W0 w1 := (by first | exact hb1.drew.trans (b1.mono hb1.size))))
  rename_i hHeld
  clear hHeld q1 q2
  obtain ⟨q1, q2⟩ := KS2.out _ bb1
  go_wp2_with fail
  go_region_held3 (fun W => W.cell? ⟨Bh, 1, none⟩ = some (.slice A L.length c) ∧ W.cell? ⟨w.heap.size, 2, none⟩ = some (.int .u64 K)) (first | exact KS2.out _ bb2 | exact KS2.out _ bb1.drew | exact KS2.out _ bb1) (first
    | (go_at_call 21; refine (HCL.out _ (by first | exact bb1.drew | exact bb1)).mono ?_; rintro e w2 ⟨rfl, b2⟩; have bb2 : Below W0.heap.size W0 w2 := (by first | exact bb1.drew.trans (b2.mono bb1.drew.size)); have b12 : Below w1.heap.size w1 w2 := (by first | exact ((Below.refl _ w1).drew).trans b2)))
  rename_i hHeld
  clear hHeld q1 q2 hb1
  have t1 := t1.belows b12
  have t2 := t2.belows b12
  have hA2 := HA.out _ bb2
  have hX2 := HX.out _ bb2
  have hne : w.heap.size ≠ Bh := fun e => by
    rw [e] at hX2
    have := (show w2.heap[Bh]? = _ from hX2).symm.trans hA2
    injection this with this
    injection this with _ this
    exact absurd this (by decide)
  have y3 : w2.cell? ⟨w.heap.size, 3, none⟩ = some (.bool true) := (hX2.cell 3).trans rfl
  have P2 := HP.out _ bb2
  obtain ⟨A2, c2, hs2, n2, m2, z2⟩ := slice_from A c L (posL L K) hpl hn1 hm1
  have hs1 := slice_to A c L (posL L K) hpl hn1 hm1
  have PN : IsP w2 (.slice A (posL L K) c) (lowL L K) := P2.low hu.out.1
  obtain ⟨q1, q2⟩ := hd_stored hA2 t1 PN
  have HQ := Lib.hid (And.intro q1 q2)
  have HB := Lib.hid bb2
  have d0 := (hA2.cell 0).trans rfl
  have d1 := (hA2.cell 1).trans rfl
  have f0 := hA2.frozen 0
  have f1 := hA2.frozen 1
  have HL1 : Hid (∀ W, w2.grownBy W (some Bh) → Calls Try.prog 24 #[.pointer (some ⟨B1, 0, none⟩)] W fun e w' => e = .returned (.int .i64 (posL L K : Int)) ∧ W = w') := Lib.hid fun W hW => len_any _ W (t1.held hA2 hW).any
  have HL2 : Hid (∀ W, w2.grownBy W (some Bh) → Calls Try.prog 24 #[.pointer (some ⟨B2, 0, none⟩)] W fun e w' => e = .returned (.int .i64 ((highL L K).length : Int)) ∧ W = w') := Lib.hid fun W hW => len_any _ W (t2.held hA2 hW).any
  have HAQ : Hid (At ((w2.setCell ⟨Bh, 0, none⟩ (.pointer (some ⟨B1, 0, none⟩))).setCell ⟨Bh, 1, none⟩ (.slice A (posL L K) c)) Bh #[.pointer (some ⟨B1, 0, none⟩), .slice A (posL L K) c] 28) := Lib.hid ((hA2.set0 0 (.pointer (some ⟨B1, 0, none⟩))).set0 1 (.slice A (posL L K) c))
  clear q1 q2 PN P2 t1 t2 b1 b2 bb2 b12 bb1 hX2 hA2 z2 KS KS2 HT HP HA HX HCL
  have HLL := Lib.hid (show Did w Bh = Did w Bh from rfl)
  generalize lowL L K = Ml at HQ
  generalize hMh : highL L K = Mh at HQ hparts HL2
  clear hMh
  generalize posL L K = p at hpl hparts HQ HL1 HAQ HPE hs1 hs2 n2 ⊢
  skip
  simp only [maxLen] at hm1 m2
  go_wp2
  obtain ⟨hq1, hq2⟩ := HQ.out
  have hAq := HAQ.out
  generalize ((w2.setCell ⟨Bh, 0, none⟩ (.pointer (some ⟨B1, 0, none⟩))).setCell ⟨Bh, 1, none⟩ (.slice A p c)) = W3 at hq1 hq2 hAq ⊢
  have HQ1 := Lib.hid hq1
  have HQ2 := Lib.hid hq2
  have z1 : W3.cell? ⟨Bh, 1, none⟩ = some (.slice A p c) := (hAq.cell 1).trans rfl
  clear hq1 hq2 hAq HQ HAQ d0 d1 f0 f1 y3
  have hd3 : ∀ q, w2.grownBy (W3.drewN q) (some Bh) := fun q => World.grownBy.trans HQ2.out ((grown_none (bdrewN (Below.refl _ _) q)).but _)
  have HD3 := Lib.hid hd3
  clear hd3
  have j1 : IntKind.i64.wrap ((p : Int) + (Mh.length : Int)) = (p : Int) + (Mh.length : Int) := IntWalk.i64_in _ (by omega)
  have j2 : decide ((p : Int) ≤ (p : Int) + (Mh.length : Int)) = true := decide_eq_true (by omega)
  go_quiet (first
    | (go_at_call_of 24 B1; exact Calls.quiet_of_same (same_of (HL1.out _ (HD3.out _))))
    | (go_at_call_of 24 B2; exact Calls.quiet_of_same (same_of (HL2.out _ (HD3.out _)))))
  go_wp2
  go_ret
  exact ⟨rfl, _, HQ1.out.belows (bdrewN (Below.refl _ _) _), World.grownBy.trans HG.out (World.grownBy.trans ((grown_none HB.out).but _) (HD3.out _))⟩

set_option maxRecDepth 100000 in
set_option maxHeartbeats 4000000 in
theorem do_split_nh (Bh : Nat) (V K : Int) (L : List (Int × Int)) (w : World) (h : Hd w Bh L) (hpe : posL L K ≠ L.length) : Calls Try.prog 10 #[.pointer (some ⟨Bh, 0, none⟩), actV 3 V K false] w (Did w Bh) := by
  obtain ⟨h0, g0⟩ := act_start h (.cells #[.int .i64 3, .int .i64 V, .int .u64 K, .bool false] 32)
  have HG := Lib.hid g0
  have hX := At.new w #[.int .i64 3, .int .i64 V, .int .u64 K, .bool false] 32
  clear g0 h
  have x0 := (hX.cell 0).trans rfl
  obtain ⟨B, A, n, c, hA, ht, hp⟩ := h0
  have hu := Lib.hid ht.any.up
  obtain rfl := hp.len
  have hpl := pos_le (k := K) hu.out.1
  have hparts := parts_len (k := K) hu.out.1
  have hlen := hu.out.2
  have hnm : L.length ≤ c ∧ c ≤ maxLen := by
    obtain ⟨_, _, e0, hn1, hm1, _⟩ := hp
    injection e0 with e1 e2 e3
    subst e3
    exact ⟨hn1, hm1⟩
  obtain ⟨hn1, hm1⟩ := hnm
  have HPE := Lib.hid hpe
  clear hpe
  go_enter Try.func10, Try.ntmps10
  go_wp2_with fail
  obtain ⟨W0, hW0⟩ : ∃ W0, w.alloc (.cells #[.int .i64 3, .int .i64 V, .int .u64 K, .bool false] 32) = W0 := ⟨_, rfl⟩
  rw [hW0] at HG hX x0 hA ht hp ⊢
  have HT : Hid (∀ W, Below W0.heap.size W0 W → IsTree1 W (.pointer (some ⟨B, 0, none⟩)) L) := Lib.hid fun W hW => ht.belows hW
  have HP : Hid (∀ W, Below W0.heap.size W0 W → IsP W (.slice A L.length c) L) := Lib.hid fun W hW => hp.belows hW
  have HA : Hid (∀ W, Below W0.heap.size W0 W → At W Bh #[.pointer (some ⟨B, 0, none⟩), .slice A L.length c] 28) := Lib.hid fun W hW => hA.belows hW
  have HX : Hid (∀ W, Below W0.heap.size W0 W → At W w.heap.size #[.int .i64 3, .int .i64 V, .int .u64 K, .bool false] 32) := Lib.hid fun W hW => hX.belows hW
  have KS : Hid (∀ W, Below W0.heap.size W0 W → W.cell? ⟨Bh, 0, none⟩ = some (.pointer (some ⟨B, 0, none⟩)) ∧ W.cell? ⟨w.heap.size, 2, none⟩ = some (.int .u64 K)) := Lib.hid fun W hW => ⟨((hA.belows hW).cell 0).trans rfl, ((hX.belows hW).cell 2).trans rfl⟩
  have KS2 : Hid (∀ W, Below W0.heap.size W0 W → W.cell? ⟨Bh, 1, none⟩ = some (.slice A L.length c) ∧ W.cell? ⟨w.heap.size, 2, none⟩ = some (.int .u64 K)) := Lib.hid fun W hW => ⟨((hA.belows hW).cell 1).trans rfl, ((hX.belows hW).cell 2).trans rfl⟩
  have HCL : Hid (∀ W, Below W0.heap.size W0 W → Calls Try.prog 21 #[.slice A L.length c, .int .u64 K] W fun e w' => e = .returned (.int .i64 ((posL L K : Int))) ∧ Below W.heap.size W w') := Lib.hid fun W hW => by
    have hcl := rceil_any L K W hu.out.1 (HP.out W hW)
    rw [show ceilI L K = (posL L K : Int) from by unfold ceilI; rw [if_neg HPE.out]] at hcl
    exact hcl
  clear ht hp hA hX hW0 x0
  have hb1 := Below.refl W0.heap.size W0
  obtain ⟨q1, q2⟩ := KS.out W0 hb1
  go_region_held3 (fun W => W.cell? ⟨Bh, 0, none⟩ = some (.pointer (some ⟨B, 0, none⟩)) ∧ W.cell? ⟨w.heap.size, 2, none⟩ = some (.int .u64 K)) (first | exact KS.out _ bb1 | exact KS.out _ hb1.drew | exact KS.out _ hb1) (first
    | (go_at_call 25; refine (split_any L K _ (HT.out _ (by first | exact hb1.drew | exact hb1)).any).mono ?_; rintro e w1 ⟨v1, v2, rfl, t1, t2, b1⟩; obtain ⟨B1, rfl⟩ := t1.ptr; obtain ⟨B2, rfl⟩ := t2.ptr; have bb1 : Below W0.heap.size W0 w1 := (by first | exact hb1.drew.trans (b1.mono hb1.size))))
  rename_i hHeld
  clear hHeld q1 q2
  obtain ⟨q1, q2⟩ := KS2.out _ bb1
  go_wp2_with fail
  go_region_held3 (fun W => W.cell? ⟨Bh, 1, none⟩ = some (.slice A L.length c) ∧ W.cell? ⟨w.heap.size, 2, none⟩ = some (.int .u64 K)) (first | exact KS2.out _ bb2 | exact KS2.out _ bb1.drew | exact KS2.out _ bb1) (first
    | (go_at_call 21; refine (HCL.out _ (by first | exact bb1.drew | exact bb1)).mono ?_; rintro e w2 ⟨rfl, b2⟩; have bb2 : Below W0.heap.size W0 w2 := (by first | exact bb1.drew.trans (b2.mono bb1.drew.size)); have b12 : Below w1.heap.size w1 w2 := (by first | exact ((Below.refl _ w1).drew).trans b2)))
  rename_i hHeld
  clear hHeld q1 q2 hb1
  have t1 := t1.belows b12
  have t2 := t2.belows b12
  have hA2 := HA.out _ bb2
  have hX2 := HX.out _ bb2
  have hne : w.heap.size ≠ Bh := fun e => by
    rw [e] at hX2
    have := (show w2.heap[Bh]? = _ from hX2).symm.trans hA2
    injection this with this
    injection this with _ this
    exact absurd this (by decide)
  have y3 : w2.cell? ⟨w.heap.size, 3, none⟩ = some (.bool false) := (hX2.cell 3).trans rfl
  have P2 := HP.out _ bb2
  obtain ⟨A2, c2, hs2, n2, m2, z2⟩ := slice_from A c L (posL L K) hpl hn1 hm1
  have hs1 := slice_to A c L (posL L K) hpl hn1 hm1
  have PN : IsP w2 (.slice A2 (L.length - posL L K) c2) (highL L K) := P2.high hu.out.1 n2 m2 z2
  obtain ⟨q1, q2⟩ := hd_stored hA2 t2 PN
  have HQ := Lib.hid (And.intro q1 q2)
  have HB := Lib.hid bb2
  have d0 := (hA2.cell 0).trans rfl
  have d1 := (hA2.cell 1).trans rfl
  have f0 := hA2.frozen 0
  have f1 := hA2.frozen 1
  have HL1 : Hid (∀ W, w2.grownBy W (some Bh) → Calls Try.prog 24 #[.pointer (some ⟨B1, 0, none⟩)] W fun e w' => e = .returned (.int .i64 (posL L K : Int)) ∧ W = w') := Lib.hid fun W hW => len_any _ W (t1.held hA2 hW).any
  have HL2 : Hid (∀ W, w2.grownBy W (some Bh) → Calls Try.prog 24 #[.pointer (some ⟨B2, 0, none⟩)] W fun e w' => e = .returned (.int .i64 ((highL L K).length : Int)) ∧ W = w') := Lib.hid fun W hW => len_any _ W (t2.held hA2 hW).any
  have HAQ : Hid (At ((w2.setCell ⟨Bh, 0, none⟩ (.pointer (some ⟨B2, 0, none⟩))).setCell ⟨Bh, 1, none⟩ (.slice A2 (L.length - posL L K) c2)) Bh #[.pointer (some ⟨B2, 0, none⟩), .slice A2 (L.length - posL L K) c2] 28) := Lib.hid ((hA2.set0 0 (.pointer (some ⟨B2, 0, none⟩))).set0 1 (.slice A2 (L.length - posL L K) c2))
  clear q1 q2 PN P2 t1 t2 b1 b2 bb2 b12 bb1 hX2 hA2 z2 KS KS2 HT HP HA HX HCL
  have HLL := Lib.hid (show Did w Bh = Did w Bh from rfl)
  generalize lowL L K = Ml at HQ
  generalize hMh : highL L K = Mh at HQ hparts HL2
  clear hMh
  generalize posL L K = p at hpl hparts HQ HL1 HAQ HPE hs1 hs2 n2 ⊢
  skip
  simp only [maxLen] at hm1 m2
  go_wp2
  obtain ⟨hq1, hq2⟩ := HQ.out
  have hAq := HAQ.out
  generalize ((w2.setCell ⟨Bh, 0, none⟩ (.pointer (some ⟨B2, 0, none⟩))).setCell ⟨Bh, 1, none⟩ (.slice A2 (L.length - p) c2)) = W3 at hq1 hq2 hAq ⊢
  have HQ1 := Lib.hid hq1
  have HQ2 := Lib.hid hq2
  have z1 : W3.cell? ⟨Bh, 1, none⟩ = some (.slice A2 (L.length - p) c2) := (hAq.cell 1).trans rfl
  clear hq1 hq2 hAq HQ HAQ d0 d1 f0 f1 y3
  have hd3 : ∀ q, w2.grownBy (W3.drewN q) (some Bh) := fun q => World.grownBy.trans HQ2.out ((grown_none (bdrewN (Below.refl _ _) q)).but _)
  have HD3 := Lib.hid hd3
  clear hd3
  have j1 : IntKind.i64.wrap ((p : Int) + (Mh.length : Int)) = (p : Int) + (Mh.length : Int) := IntWalk.i64_in _ (by omega)
  have j2 : decide (((L.length - p : Nat) : Int) ≤ (p : Int) + (Mh.length : Int)) = true := decide_eq_true (by omega)
  go_quiet (first
    | (go_at_call_of 24 B1; exact Calls.quiet_of_same (same_of (HL1.out _ (HD3.out _))))
    | (go_at_call_of 24 B2; exact Calls.quiet_of_same (same_of (HL2.out _ (HD3.out _)))))
  go_wp2
  go_ret
  exact ⟨rfl, _, HQ1.out.belows (bdrewN (Below.refl _ _) _), World.grownBy.trans HG.out (World.grownBy.trans ((grown_none HB.out).but _) (HD3.out _))⟩
end Go.Proofs.Ytiknelhfdcmkjaa
