/- LabelFares: for any network and two addresses the law returns true, and the arguments read as before. No condition. -/
import Derived.Test.YtlhfaildeemngaaZ2
import Derived.Test.YtlhfaildeemngaaZ4
/- LabelFares, over the program's calls. -/
namespace Go.Proofs.Ytlhfaildeemngaa
open Go.RowKit Go.Shelf

theorem bnds_short (L : List (Nat × Nat)) : (Tr.bnds L).length ≤ 1 + 2 * L.length := by
  have := Tr.rise_len (ks := (Tr.ends L).map (fun c : Nat => (c : Int))) (Tr.rising_pw (Tr.bnds_rise L)) (fun a ha => by
    obtain ⟨x, hx, rfl⟩ := List.mem_map.1 ha
    exact List.mem_map.2 ⟨x, ((Tr.bnds_mem L x).1 hx).1, rfl⟩)
  rwa [List.length_map, List.length_map, Tr.ends_len] at this
set_option maxRecDepth 100000 in
set_option maxHeartbeats 4000000 in
theorem fares10_walk (O : Own10) {vp vl vr : Value} (ps : List Int) (ls : List Lk) (L : List Ru) (a b : Nat) (w : World) (h : IsN w vp vl vr ps ls L) (hW : NW ps ls L) :
    Calls Try.prog 4 #[.agg #[vp, vl, vr], .int .u32 a, .int .u32 b] w fun e w' => e = .returned (.bool true) ∧ Below w.heap.size w w' := by
  have HN : Hid (∀ u, Below w.heap.size w u → IsN u vp vl vr ps ls L) := Lib.hid fun u hu => h.belows hu
  have HW := Lib.hid hW
  obtain ⟨⟨⟨A1, c1, rfl, n1, m1, _⟩, ⟨A2, c2, rfl, _⟩⟩, ⟨A3, c3, rfl, _⟩⟩ := h
  have hM1 : ps.length ≤ 9223372036854775807 := Nat.le_trans n1 m1
  have b0 : Below w.heap.size w (w.alloc (.cells #[.slice A1 ps.length c1, .slice A2 ls.length c2, .slice A3 L.length c3] 28)) := (Below.refl _ w).alloc (Nat.le_refl _) _
  have D0 := At.new w #[.slice A1 ps.length c1, .slice A2 ls.length c2, .slice A3 L.length c3] 28
  clear hW
  go_enter Try.func4, Try.ntmps4
  go_upto_region 1 with (fail)
  obtain ⟨w0, hw0⟩ : ∃ w0, w0 = w.alloc (.cells #[.slice A1 ps.length c1, .slice A2 ls.length c2, .slice A3 L.length c3] 28) := ⟨_, rfl⟩
  rw [← hw0] at b0 D0 ⊢
  clear hw0
  have x0 := (D0.cell 0).trans rfl; have x1 := (D0.cell 1).trans rfl; have x2 := (D0.cell 2).trans rfl
  have k1 := lfits9_any ps ls L w0 HW.out (HN.out w0 b0)
  go_upto_region 2 with (go_at_call 7; refine k1.mono ?_; rintro e w1 ⟨rfl, b1⟩)
  have bw1 := b0.trans (b1.mono b0.size)
  have D1 := D0.belows b1
  clear x0 x1 x2 k1 b1 D0
  have x0 := (D1.cell 0).trans rfl; have x1 := (D1.cell 1).trans rfl; have x2 := (D1.cell 2).trans rfl
  have k2 := O.of noH ps ls L w1 (noH_lt _) HW.out (HN.out w1 bw1).no
  cases hrt : rightN ps ls L with
  | false =>
    have hno : ¬ RN ps ls L := fun h => by rw [(rightN_iff ps ls L).2 h] at hrt; cases hrt
    clear hrt
    go_upto_region 3 with (go_at_call 8; refine k2.mono ?_; rintro e w2 ⟨h2, b2⟩; obtain rfl := (h2.resolve_left fun h => hno h.1).2)
    have ka := alive10_any O w2
    go_wp2_with (go_at_call 6; refine ka.mono ?_; rintro e u ⟨rfl, bu⟩)
    go_ret
    exact ⟨rfl, (bw1.trans (b2.mono bw1.size)).trans (bu.mono (Nat.le_trans bw1.size b2.size))⟩
  | true =>
    have hR := (rightN_iff ps ls L).1 hrt
    have HR := Lib.hid hR
    have hp8 := hR.topo.n8
    clear hrt k2
    have k2 := of_right O noH ps ls L w1 (noH_lt _) hR HW.out (HN.out w1 bw1).no
    have hRL := Lib.hid (rgL_RL hR.rules HW.out.rules)
    clear hR
    go_upto_region 3 with (go_at_call 8; refine k2.mono ?_; rintro e w2 ⟨p, rfl, hl, b2⟩; obtain ⟨bp, rfl⟩ := O.ptr hl)
    have bw2 := bw1.trans (b2.mono bw1.size)
    have HD2 := Lib.hid (D1.belows b2)
    have HL2 := Lib.hid hl
    have HB2 := Lib.hid bw2
    obtain ⟨N, hN⟩ : ∃ N, N = (atmL L).length := ⟨_, rfl⟩
    have HNN := Lib.hid hN
    have hNM : N ≤ 1000 := by
      rw [hN]
      unfold atmL
      rw [Tr.atomsL_len]
      have h1 := hRL.out
      have h40 := ((allB_pw L).1 HR.out.rules).1
      refine Nat.le_trans (bnds_short (rgL L)) ?_
      unfold rgL
      rw [List.length_map]
      omega
    clear x0 x1 x2 k2 b2 D1 bw1 hl hN bw2
    go_wp2
    go_loopw [10] (fun i wr => ∃ k : Nat, i = .int .i64 k ∧ k ≤ N ∧ Below w2.heap.size w2 wr) (fun i _ => N - (intOf i).toNat)
    case atStart => exact ⟨0, rfl, by omega, Below.refl _ _⟩
    case round =>
      obtain ⟨k, rfl, hk, hb⟩ := hrel
      have HB := Lib.hid hb
      clear hb
      have k3 := O.atoms noH ps ls L wr HR.out HW.out (O.keep HL2.out (exc_of HB.out noH))
      rw [← HNN.out] at k3
      by_cases hlt : k < N
      · have i0 : (0 : Int) ≤ (k : Int) := by omega
        have i1 : (k : Int) < (N : Int) := by omega
        have hkN : k < (atmL L).length := by rw [← HNN.out]; exact hlt
        obtain ⟨y, hy⟩ : ∃ y, y = (atmL L)[k] := ⟨_, rfl⟩
        have HK : Hid (∀ e, atomV L (k : Int) e → e = .returned (.tuple #[.agg #[.int .u32 y.1, .int .u32 y.2], .bool true])) := Lib.hid fun e h => by rw [hy]; exact atomV_in h hkN
        have HA : Hid (∀ (j : Nat) e, j < ps.length → labV ps ls L (j : Int) (k : Int) e → e = .returned (.tuple #[.int .i64 (labN ls L (j : Int) y.1), .bool true])) := Lib.hid fun j e hj h => by rw [hy]; exact labV_in h ⟨by omega, by omega⟩ hkN
        have HE : Hid (∀ (d : Int) (z : Nat), y.1 ≤ z → z ≤ y.2 → labN ls L d z = labN ls L d y.1) := Lib.hid fun d z h1 h2 => by rw [hy] at h1 h2 ⊢; exact labN_atom hRL.out ls d hkN h1 h2
        have HFT : Hid (y.1 ≤ y.2) := Lib.hid (by
          have hk' : k < (Tr.bnds (rgL L)).length := by unfold atmL at hkN; rwa [Tr.atomsL_len] at hkN
          rw [hy, show (atmL L)[k] = _ from Tr.atomsL_at _ _ hkN]
          exact ((Tr.bd_of (rgL L)).frm_le hk').1)
        clear hy hkN
        obtain ⟨f, t⟩ := y
        dsimp only at HK HA HE HFT
        go_upto_region 8 with (go_at_call 11; refine k3.mono ?_; rintro e w4 ⟨rfl, b4⟩)
        have HB4 := Lib.hid (HB.out.trans (b4.mono HB.out.size))
        have k5 := O.atom noH ps ls L (k : Int) w4 HR.out HW.out (by unfold isI; omega) (O.keep HL2.out (exc_of HB4.out noH))
        clear k3 b4
        go_upto_region 9 with (go_at_call 12; refine k5.mono ?_; rintro e w5 ⟨h5, b5⟩; obtain rfl := HK.out e h5)
        obtain ⟨w6, hw6⟩ : ∃ w6, w6 = w5.alloc (.cells #[.int .u32 f, .int .u32 t] 43) := ⟨_, rfl⟩
        have HR6 := Lib.hid (At.new w5 #[.int .u32 f, .int .u32 t] 43)
        have b6 : Below w4.heap.size w4 w6 := by rw [hw6]; exact b5.alloc b5.size _
        rw [← hw6] at HR6 ⊢
        have HB6 := Lib.hid (HB4.out.trans (b6.mono HB4.out.size))
        clear hw6 b5 k5 b6 h5
        go_wp2
        go_loopw [13] (fun j' wq => ∃ j : Nat, j' = .int .i64 j ∧ j ≤ ps.length ∧ Below w6.heap.size w6 wq) (fun j' _ => ps.length - (intOf j').toNat)
        case atStart => exact ⟨0, rfl, by omega, Below.refl _ _⟩
        case round =>
          obtain ⟨j, rfl, hj, hbq⟩ := hrel
          have HBQ := Lib.hid hbq
          clear hbq
          have HQ := Lib.hid (HB6.out.trans (HBQ.out.mono HB6.out.size))
          have Dq := HD2.out.belows HQ.out
          have x0 := (Dq.cell 0).trans rfl
          by_cases hlj : j < ps.length
          · have j1 : (j : Int) < (ps.length : Int) := by omega
            have k9 := O.at' noH ps ls L (j : Int) (k : Int) wr HR.out HW.out (by unfold isI; omega) (by unfold isI; omega) (O.keep HL2.out (exc_of HQ.out noH))
            obtain ⟨lb, hlb⟩ : ∃ lb, lb = labN ls L (j : Int) f := ⟨_, rfl⟩
            have HA2 : Hid (∀ e, labV ps ls L (j : Int) (k : Int) e → e = .returned (.tuple #[.int .i64 lb, .bool true])) := Lib.hid fun e h => by rw [hlb]; exact HA.out j e hlj h
            have HX : Hid (∀ (z : Nat) u, f ≤ z → z ≤ t → Below w.heap.size w u → Calls Try.prog 13 #[.agg #[.slice A1 ps.length c1, .slice A2 ls.length c2, .slice A3 L.length c3], .int .i64 (j : Int), .int .u32 z] u fun e w' => e = .returned (.int .i64 lb) ∧ Below u.heap.size u w') := Lib.hid fun z u h1 h2 hu => by
              rw [hlb, ← HE.out (j : Int) z h1 h2]; exact rat_any ps ls L (j : Int) z u HR.out.rules (HN.out u hu)
            clear hlb Dq
            go_upto_region 13 with (go_at_call 10; refine k9.mono ?_; rintro e w10 ⟨he, b10⟩; obtain rfl := HA2.out e he)
            have HB10 := Lib.hid (HBQ.out.trans (b10.mono HBQ.out.size))
            have hl2 : ((lb : Int) == lb) = true := by simp
            have SZ : Hid (∀ u, Below w6.heap.size w6 u → Below w.heap.size w u ∧ (u.cell? ⟨w.heap.size, 0, none⟩ = some (.slice A1 ps.length c1) ∧ u.cell? ⟨w.heap.size, 1, none⟩ = some (.slice A2 ls.length c2) ∧ u.cell? ⟨w.heap.size, 2, none⟩ = some (.slice A3 L.length c3)) ∧ u.cell? ⟨w5.heap.size, 0, none⟩ = some (.int .u32 f) ∧ u.cell? ⟨w5.heap.size, 1, none⟩ = some (.int .u32 t)) := Lib.hid fun u hu => by
              have h2 := HB6.out.trans (hu.mono HB6.out.size)
              have hD := HD2.out.belows h2
              have hRg := HR6.out.belows hu
              exact ⟨HB2.out.trans (h2.mono HB2.out.size), ⟨(hD.cell 0).trans rfl, (hD.cell 1).trans rfl, (hD.cell 2).trans rfl⟩, (hRg.cell 0).trans rfl, (hRg.cell 1).trans rfl⟩
            clear k9 x0 b10
            obtain ⟨hw, ⟨x0, x1, x2⟩, r0, r1⟩ := SZ.out w10 HB10.out
            have Hw10 := HB10
            by_cases ha1 : f ≤ a
            · by_cases ha2 : a ≤ t
              · have dha1 : decide (f ≤ a) = true := by simp [ha1]
                have Dha1 : decide ((f : Int) ≤ (a : Int)) = true := by simp [ha1]
                have dha2 : decide (a ≤ t) = true := by simp [ha2]
                have Dha2 : decide ((a : Int) ≤ (t : Int)) = true := by simp [ha2]
                by_cases hb1 : f ≤ b
                · by_cases hb2 : b ≤ t
                  · have dhb1 : decide (f ≤ b) = true := by simp [hb1]
                    have Dhb1 : decide ((f : Int) ≤ (b : Int)) = true := by simp [hb1]
                    have dhb2 : decide (b ≤ t) = true := by simp [hb2]
                    have Dhb2 : decide ((b : Int) ≤ (t : Int)) = true := by simp [hb2]
                    go_wp2_with (first | (go_at_call 13; with_reducible refine (HX.out a w10 ha1 ha2 hw).mono ?_; rintro e w11 ⟨rfl, b11⟩; have Hw11 := Lib.hid (Hw10.out.trans (b11.mono Hw10.out.size)); obtain ⟨hw11, ⟨x0, x1, x2⟩, r0, r1⟩ := SZ.out w11 Hw11.out) | (go_at_call 13; with_reducible refine (HX.out b w11 hb1 hb2 hw11).mono ?_; rintro e w12 ⟨rfl, b12⟩; have Hw12 := Lib.hid (Hw11.out.trans (b12.mono Hw11.out.size)); obtain ⟨hw12, ⟨x0, x1, x2⟩, r0, r1⟩ := SZ.out w12 Hw12.out) | (go_at_call 13; with_reducible refine (HX.out t w12 HFT.out (Nat.le_refl t) hw12).mono ?_; rintro e w13 ⟨rfl, b13⟩; have Hw13 := Lib.hid (Hw12.out.trans (b13.mono Hw12.out.size)); obtain ⟨hw13, ⟨x0, x1, x2⟩, r0, r1⟩ := SZ.out w13 Hw13.out))
                    go_roundw
                    case rel => exact ⟨j + 1, by go_num, by omega, Hw13.out⟩
                    case measure => simp [intOf]; omega
                  · have dhb1 : decide (f ≤ b) = true := by simp [hb1]
                    have Dhb1 : decide ((f : Int) ≤ (b : Int)) = true := by simp [hb1]
                    have dhb2 : decide (b ≤ t) = false := by simp [hb2]
                    have Dhb2 : decide ((b : Int) ≤ (t : Int)) = false := by simp [hb2]
                    go_wp2_with (first | (go_at_call 13; with_reducible refine (HX.out a w10 ha1 ha2 hw).mono ?_; rintro e w11 ⟨rfl, b11⟩; have Hw11 := Lib.hid (Hw10.out.trans (b11.mono Hw10.out.size)); obtain ⟨hw11, ⟨x0, x1, x2⟩, r0, r1⟩ := SZ.out w11 Hw11.out) | (go_at_call 13; with_reducible refine (HX.out t w11 HFT.out (Nat.le_refl t) hw11).mono ?_; rintro e w12 ⟨rfl, b12⟩; have Hw12 := Lib.hid (Hw11.out.trans (b12.mono Hw11.out.size)); obtain ⟨hw12, ⟨x0, x1, x2⟩, r0, r1⟩ := SZ.out w12 Hw12.out))
                    go_roundw
                    case rel => exact ⟨j + 1, by go_num, by omega, Hw12.out⟩
                    case measure => simp [intOf]; omega
                · have dhb1 : decide (f ≤ b) = false := by simp [hb1]
                  have Dhb1 : decide ((f : Int) ≤ (b : Int)) = false := by simp [hb1]
                  go_wp2_with (first | (go_at_call 13; with_reducible refine (HX.out a w10 ha1 ha2 hw).mono ?_; rintro e w11 ⟨rfl, b11⟩; have Hw11 := Lib.hid (Hw10.out.trans (b11.mono Hw10.out.size)); obtain ⟨hw11, ⟨x0, x1, x2⟩, r0, r1⟩ := SZ.out w11 Hw11.out) | (go_at_call 13; with_reducible refine (HX.out t w11 HFT.out (Nat.le_refl t) hw11).mono ?_; rintro e w12 ⟨rfl, b12⟩; have Hw12 := Lib.hid (Hw11.out.trans (b12.mono Hw11.out.size)); obtain ⟨hw12, ⟨x0, x1, x2⟩, r0, r1⟩ := SZ.out w12 Hw12.out))
                  go_roundw
                  case rel => exact ⟨j + 1, by go_num, by omega, Hw12.out⟩
                  case measure => simp [intOf]; omega
              · have dha1 : decide (f ≤ a) = true := by simp [ha1]
                have Dha1 : decide ((f : Int) ≤ (a : Int)) = true := by simp [ha1]
                have dha2 : decide (a ≤ t) = false := by simp [ha2]
                have Dha2 : decide ((a : Int) ≤ (t : Int)) = false := by simp [ha2]
                by_cases hb1 : f ≤ b
                · by_cases hb2 : b ≤ t
                  · have dhb1 : decide (f ≤ b) = true := by simp [hb1]
                    have Dhb1 : decide ((f : Int) ≤ (b : Int)) = true := by simp [hb1]
                    have dhb2 : decide (b ≤ t) = true := by simp [hb2]
                    have Dhb2 : decide ((b : Int) ≤ (t : Int)) = true := by simp [hb2]
                    go_wp2_with (first | (go_at_call 13; with_reducible refine (HX.out b w10 hb1 hb2 hw).mono ?_; rintro e w11 ⟨rfl, b11⟩; have Hw11 := Lib.hid (Hw10.out.trans (b11.mono Hw10.out.size)); obtain ⟨hw11, ⟨x0, x1, x2⟩, r0, r1⟩ := SZ.out w11 Hw11.out) | (go_at_call 13; with_reducible refine (HX.out t w11 HFT.out (Nat.le_refl t) hw11).mono ?_; rintro e w12 ⟨rfl, b12⟩; have Hw12 := Lib.hid (Hw11.out.trans (b12.mono Hw11.out.size)); obtain ⟨hw12, ⟨x0, x1, x2⟩, r0, r1⟩ := SZ.out w12 Hw12.out))
                    go_roundw
                    case rel => exact ⟨j + 1, by go_num, by omega, Hw12.out⟩
                    case measure => simp [intOf]; omega
                  · have dhb1 : decide (f ≤ b) = true := by simp [hb1]
                    have Dhb1 : decide ((f : Int) ≤ (b : Int)) = true := by simp [hb1]
                    have dhb2 : decide (b ≤ t) = false := by simp [hb2]
                    have Dhb2 : decide ((b : Int) ≤ (t : Int)) = false := by simp [hb2]
                    go_wp2_with (first | (go_at_call 13; with_reducible refine (HX.out t w10 HFT.out (Nat.le_refl t) hw).mono ?_; rintro e w11 ⟨rfl, b11⟩; have Hw11 := Lib.hid (Hw10.out.trans (b11.mono Hw10.out.size)); obtain ⟨hw11, ⟨x0, x1, x2⟩, r0, r1⟩ := SZ.out w11 Hw11.out))
                    go_roundw
                    case rel => exact ⟨j + 1, by go_num, by omega, Hw11.out⟩
                    case measure => simp [intOf]; omega
                · have dhb1 : decide (f ≤ b) = false := by simp [hb1]
                  have Dhb1 : decide ((f : Int) ≤ (b : Int)) = false := by simp [hb1]
                  go_wp2_with (first | (go_at_call 13; with_reducible refine (HX.out t w10 HFT.out (Nat.le_refl t) hw).mono ?_; rintro e w11 ⟨rfl, b11⟩; have Hw11 := Lib.hid (Hw10.out.trans (b11.mono Hw10.out.size)); obtain ⟨hw11, ⟨x0, x1, x2⟩, r0, r1⟩ := SZ.out w11 Hw11.out))
                  go_roundw
                  case rel => exact ⟨j + 1, by go_num, by omega, Hw11.out⟩
                  case measure => simp [intOf]; omega
            · have dha1 : decide (f ≤ a) = false := by simp [ha1]
              have Dha1 : decide ((f : Int) ≤ (a : Int)) = false := by simp [ha1]
              by_cases hb1 : f ≤ b
              · by_cases hb2 : b ≤ t
                · have dhb1 : decide (f ≤ b) = true := by simp [hb1]
                  have Dhb1 : decide ((f : Int) ≤ (b : Int)) = true := by simp [hb1]
                  have dhb2 : decide (b ≤ t) = true := by simp [hb2]
                  have Dhb2 : decide ((b : Int) ≤ (t : Int)) = true := by simp [hb2]
                  go_wp2_with (first | (go_at_call 13; with_reducible refine (HX.out b w10 hb1 hb2 hw).mono ?_; rintro e w11 ⟨rfl, b11⟩; have Hw11 := Lib.hid (Hw10.out.trans (b11.mono Hw10.out.size)); obtain ⟨hw11, ⟨x0, x1, x2⟩, r0, r1⟩ := SZ.out w11 Hw11.out) | (go_at_call 13; with_reducible refine (HX.out t w11 HFT.out (Nat.le_refl t) hw11).mono ?_; rintro e w12 ⟨rfl, b12⟩; have Hw12 := Lib.hid (Hw11.out.trans (b12.mono Hw11.out.size)); obtain ⟨hw12, ⟨x0, x1, x2⟩, r0, r1⟩ := SZ.out w12 Hw12.out))
                  go_roundw
                  case rel => exact ⟨j + 1, by go_num, by omega, Hw12.out⟩
                  case measure => simp [intOf]; omega
                · have dhb1 : decide (f ≤ b) = true := by simp [hb1]
                  have Dhb1 : decide ((f : Int) ≤ (b : Int)) = true := by simp [hb1]
                  have dhb2 : decide (b ≤ t) = false := by simp [hb2]
                  have Dhb2 : decide ((b : Int) ≤ (t : Int)) = false := by simp [hb2]
                  go_wp2_with (first | (go_at_call 13; with_reducible refine (HX.out t w10 HFT.out (Nat.le_refl t) hw).mono ?_; rintro e w11 ⟨rfl, b11⟩; have Hw11 := Lib.hid (Hw10.out.trans (b11.mono Hw10.out.size)); obtain ⟨hw11, ⟨x0, x1, x2⟩, r0, r1⟩ := SZ.out w11 Hw11.out))
                  go_roundw
                  case rel => exact ⟨j + 1, by go_num, by omega, Hw11.out⟩
                  case measure => simp [intOf]; omega
              · have dhb1 : decide (f ≤ b) = false := by simp [hb1]
                have Dhb1 : decide ((f : Int) ≤ (b : Int)) = false := by simp [hb1]
                go_wp2_with (first | (go_at_call 13; with_reducible refine (HX.out t w10 HFT.out (Nat.le_refl t) hw).mono ?_; rintro e w11 ⟨rfl, b11⟩; have Hw11 := Lib.hid (Hw10.out.trans (b11.mono Hw10.out.size)); obtain ⟨hw11, ⟨x0, x1, x2⟩, r0, r1⟩ := SZ.out w11 Hw11.out))
                go_roundw
                case rel => exact ⟨j + 1, by go_num, by omega, Hw11.out⟩
                case measure => simp [intOf]; omega
          · have j1 : ¬ (j : Int) < (ps.length : Int) := by omega
            go_wp2
            go_roundw
            case rel => exact ⟨k + 1, by go_num, by omega, HQ.out⟩
            case measure => simp [intOf]; omega
      · have hki : ¬ (k : Int) < (N : Int) := by omega
        go_upto_region 15 with (go_at_call 11; refine k3.mono ?_; rintro e w4 ⟨rfl, b4⟩)
        have ka := alive10_any O w4
        go_wp2_with (go_at_call 6; refine ka.mono ?_; rintro e u ⟨rfl, bu⟩)
        go_ret
        have hb4 := HB.out.trans (b4.mono HB.out.size)
        exact ⟨rfl, (HB2.out.trans (hb4.mono HB2.out.size)).trans (bu.mono (Nat.le_trans HB2.out.size hb4.size))⟩
end Go.Proofs.Ytlhfaildeemngaa
namespace Go.Proofs.Ytlhfaildeemngaa.labelFares
open Go.ChangeShapes Go.WideShapes Go.ChangeAt Go.RowKit
open Go.ChangeMaps (open_string shut_string)
set_option linter.unusedVariables false

theorem own : ownKnob Try.prog.godebug = none := by kernel_rfl
theorem laidOut : laidOutB Try.prog = true := by kernel_rfl
theorem readable : (Try.f4.params.toList.all fun t => Try.prog.readableRec t && decide (t < Try.prog.types.size)) = true := by kernel_rfl

set_option maxRecDepth 100000 in
theorem lifted (os : Os) (started : os.Started) (H : Type) (enc : TypeId × Value → H) :
    ReturnsInHanded {} Try.checked os 4 .any (Rows.labelFaresSpec.pre6 enc Try.prog Try.f4 Rows.labelFaresRow.domain false) (Rows.labelFaresSpec.post enc Try.prog Try.f4 false true false false) := by
  refine returnsInHanded_of_change_sized (C := Try.checked) own started (by kernel_rfl) Try.func4
    (ChangeSpec.witness6 (enc := enc) (C := Try.checked) false ⟨#[], #[.agg #[.slice none 0 0, .slice none 0 0, .slice none 0 0], .int .u32 0, .int .u32 0], []⟩ 8 (by kernel_rfl) (by kernel_rfl) (by kernel_rfl) (by kernel_rfl)) ?_
  intro W base args ds gs before hval0 hW hcnd hsz0 _
  have hsz : (DataW.weightsEach Try.prog (Try.f4.params.toList ++ Rows.labelFaresSpec.plain.varTypes Try.prog) (ds ++ gs)).all (· ≤ reachBytes) = true := hsz0
  have hval : ∀ (j : Nat) t v, Try.f4.params[j]? = some t → args[j]? = some v → Value.okWide Try.prog W .any base t v := hval0
  have hW' := hW
  obtain ⟨p, q, hA0, hV, rfl, hfz, hnd⟩ := hW
  have hA : DataW.TrodAll enc Try.prog W 0 (fun _ => true) true Try.f4.params.toList args.toList ds p := hA0
  rw [Try.params4] at hA hval hsz
  obtain ⟨v0, vs0, d0, ds0, p0, q0, hargs, rfl, rfl, h0, r0⟩ := trodAll_cons hA
  obtain ⟨v1, vs1, d1, ds1, p1, q1, rfl, rfl, rfl, h1, r1⟩ := trodAll_cons r0
  obtain ⟨v2, vs2, d2, ds2, p2, q2, rfl, rfl, rfl, h2, r2⟩ := trodAll_cons r1
  obtain ⟨rfl, rfl, rfl⟩ := trodAll_nil r2
  obtain rfl : args = #[v0, v1, v2] := by cases args; simp_all
  obtain ⟨rfl, rfl⟩ := trodVars_none hV
  have fin : ∀ (e : Ending) (W' : World), e = .returned (.bool true) ∧ Below W.heap.size W W' → ∃ v, e = .returned v ∧ Rows.labelFaresSpec.post enc Try.prog Try.f4 false true false false W #[v0, v1, v2] v W' := by
    rintro e W' ⟨rfl, bel⟩
    exact ⟨_, rfl, post_law (tb := 4) laidOut readable (by kernel_rfl) Try.underlying4 rfl hW' rfl bel⟩
  clear hW' hA0 hval0 hcnd hfz hnd hsz0
  obtain ⟨va0, vb0, vc0, ps0, ls0, l0, rfl, hh0, ww0⟩ := open_net (hval 0 28 v0 rfl rfl) h0 (net_room hsz)
  obtain ⟨z1, rfl, rfl, rfl, w1⟩ := open_int Try.underlying41 (hval 1 41 v1 rfl rfl) h1
  obtain ⟨n1, rfl, la1⟩ := u32_wf w1
  obtain ⟨z2, rfl, rfl, rfl, w2⟩ := open_int Try.underlying41 (hval 2 41 v2 rfl rfl) h2
  obtain ⟨n2, rfl, la2⟩ := u32_wf w2
  exact (fares10_walk ownCalls10 ps0 ls0 l0 n1 n2 W hh0 ww0).mono fun e W' h => fin e W' h

theorem over : Rows.labelFaresRow.holds Try.pinned (OpenSpec.ofChange Rows.labelFaresSpec) :=
  OpenClaim.holds_of_wide 4 Try.f4 rfl rfl rfl rfl rfl rfl rfl ⟨rfl, rfl, rfl, rfl, rfl⟩ rfl rfl rfl rfl rfl (by kernel_rfl) Try.func4 (by kernel_rfl)
    (of_decide_eq_true (by kernel_rfl)) (by unfold Func.isWrapper; first | (rw [if_pos (by decide +kernel)]; kernel_rfl) | (rw [if_neg (by decide +kernel)]; exact ⟨rfl, rfl⟩))
    (fun os started H enc _ => lifted os started H enc)

theorem proved : Rows.LabelFaresSaid := over
#print axioms proved
end Go.Proofs.Ytlhfaildeemngaa.labelFares
