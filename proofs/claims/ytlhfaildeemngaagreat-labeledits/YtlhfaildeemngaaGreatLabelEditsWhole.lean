/- LabelEdits: for any network and list of acts the law returns true, and the arguments read as before. No condition. -/
import Derived.Test.YtlhfaildeemngaaGreatZ3
import Derived.Test.YtlhfaildeemngaaGreatZ5
/- LabelEdits, over the program's calls: the walk. -/
namespace Go.Proofs.YtlhfaildeemngaaGreat
open Go.RowKit Go.Shelf

set_option maxRecDepth 100000 in
set_option maxHeartbeats 4000000 in
theorem edits10_walk (O : Own10) {vp vl vr vs : Value} (ps : List Int) (ls : List Lk) (L : List Ru) (S : List (Bool × Ru)) (w : World) (h : IsN w vp vl vr ps ls L) (hW : NW ps ls L) (hs : IsF 8 actA w vs S) (hS : ∀ x ∈ S, x.2.wf) :
    Calls Tryz.prog 3 #[.agg #[vp, vl, vr], vs] w fun e w' => e = .returned (.bool true) ∧ Below w.heap.size w w' := by
  have HN : Hid (∀ u, Below w.heap.size w u → IsN u vp vl vr ps ls L) := Lib.hid fun u hu => h.belows hu
  have HW := Lib.hid hW
  have HSW := Lib.hid hS
  obtain ⟨As, cs, rfl, ns, ms, zs⟩ := hs
  have HZ : Hid (∀ u, Below w.heap.size w u → Fs 8 actA u As S) := Lib.hid fun u hu => zs.belows hu
  have hSM : S.length ≤ 9223372036854775807 := Nat.le_trans ns ms
  obtain ⟨⟨⟨A1, c1, rfl, n1, m1, _⟩, ⟨A2, c2, rfl, _⟩⟩, ⟨A3, c3, rfl, _⟩⟩ := h
  have hM1 : ps.length ≤ 9223372036854775807 := Nat.le_trans n1 m1
  have b0 : Below w.heap.size w (w.alloc (.cells #[.slice A1 ps.length c1, .slice A2 ls.length c2, .slice A3 L.length c3] 28)) := (Below.refl _ w).alloc (Nat.le_refl _) _
  have D0 := At.new w #[.slice A1 ps.length c1, .slice A2 ls.length c2, .slice A3 L.length c3] 28
  clear hW hS zs
  go_enter Tryz.func3, Tryz.ntmps3
  go_upto_region 1 with (fail)
  obtain ⟨w0, hw0⟩ : ∃ w0, w0 = w.alloc (.cells #[.slice A1 ps.length c1, .slice A2 ls.length c2, .slice A3 L.length c3] 28) := ⟨_, rfl⟩
  rw [← hw0] at b0 D0 ⊢
  clear hw0
  have x0 := (D0.cell 0).trans rfl; have x1 := (D0.cell 1).trans rfl; have x2 := (D0.cell 2).trans rfl
  have k1 := lfits9_any ps ls L w0 HW.out (HN.out w0 b0)
  go_upto_region 2 with (go_at_call 5; refine k1.mono ?_; rintro e w1 ⟨rfl, b1⟩)
  have bw1 := b0.trans (b1.mono b0.size)
  have D1 := D0.belows b1
  clear x0 x1 x2 k1 b1 D0
  have x0 := (D1.cell 0).trans rfl; have x1 := (D1.cell 1).trans rfl; have x2 := (D1.cell 2).trans rfl
  have hlt1 := D1.lt
  have HNo : Hid (∀ u, Below w.heap.size w u → IsNo (oneH w.heap.size) u (.slice A1 ps.length c1) (.slice A2 ls.length c2) (.slice A3 L.length c3) ps ls L) := Lib.hid fun u hu W hg => HN.out W ⟨hg.os.trans hu.os, hg.tape.trans hu.tape, hg.output.trans hu.output, Nat.le_trans hu.size hg.size, fun k hk => (hg.block k (Nat.lt_of_lt_of_le hk hu.size) (by unfold oneH; omega)).trans (hu.block k hk)⟩
  have HHs : Hid (∀ (u : World) (cs : Array Value), At u w.heap.size cs 28 → ∀ b, oneH w.heap.size b → ∃ cs, At u b cs 28) := Lib.hid fun u cs h b e => ⟨cs, by rw [show b = w.heap.size from e]; exact h⟩
  cases hrt : rightN ps ls L with
  | false =>
    have k2 := O.of (oneH w.heap.size) ps ls L w1 (HHs.out w1 _ D1) HW.out (HNo.out w1 bw1)
    have hno : ¬ RN ps ls L := fun h => by rw [(rightN_iff ps ls L).2 h] at hrt; cases hrt
    clear hrt
    go_upto_region 3 with (go_at_call 6; refine k2.mono ?_; rintro e w2 ⟨h2, b2⟩; obtain rfl := (h2.resolve_left fun h => hno h.1).2)
    have ka := alive10_any O w2
    go_wp2_with (go_at_call 7; refine ka.mono ?_; rintro e u ⟨rfl, bu⟩)
    go_ret
    exact ⟨rfl, (bw1.trans (b2.mono bw1.size)).trans (bu.mono (Nat.le_trans bw1.size b2.size))⟩
  | true =>
    have hR := (rightN_iff ps ls L).1 hrt
    have k2 := of_right O (oneH w.heap.size) ps ls L w1 (HHs.out w1 _ D1) hR HW.out (HNo.out w1 bw1)
    have HR := Lib.hid hR
    clear hrt hR
    go_upto_region 3 with (go_at_call 6; refine k2.mono ?_; rintro e w2 ⟨p, rfl, hl, b2⟩; obtain ⟨bp, rfl⟩ := O.ptr hl)
    have HE0 : Hid (EdI O A1 A2 c1 c2 ps ls w bp L A3 c3 w2) := Lib.hid ⟨HR.out, HW.out, hl, D1.belows b2, HNo.out w2 (bw1.trans (b2.mono bw1.size)), bw1.trans (b2.mono bw1.size)⟩
    have hs12 := b2.size
    clear x0 x1 x2 k2 b2 D1 bw1 hl b0
    go_wp2
    go_loopw [6, 8] (fun lp i wr => ∃ (k : Nat) (bq : Addr), i = .int .i64 k ∧ lp = .pointer (some bq) ∧ k ≤ S.length ∧ k ≤ 30 ∧ Hid (∃ M B3 d3, EdI O A1 A2 c1 c2 ps ls w bq M B3 d3 wr) ∧ w1.heap.size ≤ wr.heap.size) (fun _ i _ => S.length - (intOf i).toNat)
    case atStart => exact ⟨0, bp, rfl, rfl, by omega, by omega, Lib.hid ⟨_, _, _, HE0.out⟩, hs12⟩
    case round =>
      obtain ⟨k, bq, rfl, rfl, hk, hk30, HI, hsr⟩ := hrel
      by_cases hlt : k < S.length ∧ k < 30
      · obtain ⟨hl1, hl2⟩ := hlt
        obtain ⟨M, B3, d3, hE⟩ := HI.out
        have HE := Lib.hid hE
        have hM40 := ((allB_pw M).1 hE.right.rules).1
        clear HI hE
        have i0 : (0 : Int) ≤ (k : Int) := by omega
        have i1 : (k : Int) < (S.length : Int) := by omega
        have i2 : decide ((k : Int) < 30) = true := decide_eq_true (by omega)
        have i3 : decide ((k : Int) < (S.length : Int)) = true := decide_eq_true (by omega)
        obtain ⟨g, o, eA, hg, hc⟩ := (HZ.out wr HE.out.bel).at k hl1
        subst eA
        have hwf := HSW.out S[k] (List.getElem_mem hl1)
        have hc' : ∀ j, j < 8 → wr.cell? ⟨g, o + k * 8 + j, none⟩ = (actA S[k])[j]? := hc
        generalize S[k] = act at hwf hc'
        obtain ⟨dl, rid, rdv, rpr, rkd, rf, rt, rpt⟩ := act
        dsimp only at hwf
        have z0 := hc' 0 (by decide); have z1 := hc' 1 (by decide); have z2 := hc' 2 (by decide); have z3 := hc' 3 (by decide); have z4 := hc' 4 (by decide); have z5 := hc' 5 (by decide); have z6 := hc' 6 (by decide); have z7 := hc' 7 (by decide)
        simp only [actA, Nat.add_zero] at z0 z1 z2 z3 z4 z5 z6 z7
        have HWF := Lib.hid hwf
        have hrid : isI rid := hwf.1
        have HRI := Lib.hid hrid
        clear hc hc' hwf hrid
        go_upto_region 9 with (fail)
        obtain ⟨w3, hw3⟩ : ∃ w3, w3 = wr.alloc (.cells #[.bool dl, .int .i64 rid, .int .i64 rdv, .int .i64 rpr, .int .i64 rkd, .int .u32 rf, .int .u32 rt, .int .i64 rpt] 43) := ⟨_, rfl⟩
        have HA3 := Lib.hid (At.new wr #[.bool dl, .int .i64 rid, .int .i64 rdv, .int .i64 rpr, .int .i64 rkd, .int .u32 rf, .int .u32 rt, .int .i64 rpt] 43)
        have b3 : Below wr.heap.size wr w3 := by rw [hw3]; exact (Below.refl _ _).alloc (Nat.le_refl _) _
        rw [← hw3] at HA3 ⊢
        have HE3 := Lib.hid (HE.out.on b3)
        have hs3 : w1.heap.size ≤ w3.heap.size := Nat.le_trans hsr b3.size
        clear hw3 b3 z0 z1 z2 z3 z4 z5 z6 z7 hg
        have SZ : Hid (∀ u, Below w3.heap.size w3 u → EdI O A1 A2 c1 c2 ps ls w bq M B3 d3 u ∧ (u.cell? ⟨w.heap.size, 0, none⟩ = some (.slice A1 ps.length c1) ∧ u.cell? ⟨w.heap.size, 1, none⟩ = some (.slice A2 ls.length c2) ∧ u.cell? ⟨w.heap.size, 2, none⟩ = some (.slice B3 M.length d3)) ∧ u.cell? ⟨wr.heap.size, 0, none⟩ = some (.bool dl) ∧ u.cell? ⟨wr.heap.size, 1, none⟩ = some (.int .i64 rid) ∧ u.cell? ⟨wr.heap.size, 2, none⟩ = some (.int .i64 rdv) ∧ u.cell? ⟨wr.heap.size, 3, none⟩ = some (.int .i64 rpr) ∧ u.cell? ⟨wr.heap.size, 4, none⟩ = some (.int .i64 rkd) ∧ u.cell? ⟨wr.heap.size, 5, none⟩ = some (.int .u32 rf) ∧ u.cell? ⟨wr.heap.size, 6, none⟩ = some (.int .u32 rt) ∧ u.cell? ⟨wr.heap.size, 7, none⟩ = some (.int .i64 rpt)) := Lib.hid fun u hu =>
          ⟨HE3.out.on hu, ⟨((HE3.out.net.belows hu).cell 0).trans rfl, ((HE3.out.net.belows hu).cell 1).trans rfl, ((HE3.out.net.belows hu).cell 2).trans rfl⟩, ((HA3.out.belows hu).cell 0).trans rfl, ((HA3.out.belows hu).cell 1).trans rfl, ((HA3.out.belows hu).cell 2).trans rfl, ((HA3.out.belows hu).cell 3).trans rfl, ((HA3.out.belows hu).cell 4).trans rfl, ((HA3.out.belows hu).cell 5).trans rfl, ((HA3.out.belows hu).cell 6).trans rfl, ((HA3.out.belows hu).cell 7).trans rfl⟩
        obtain ⟨hE, ⟨x0, x1, x2⟩, y0, y1, y2, y3, y4, y5, y6, y7⟩ := SZ.out w3 (Below.refl _ _)
        have k4 := insert_out O (oneH w.heap.size) ps ls M ⟨rid, rdv, rpr, rkd, rf, rt, rpt⟩ w3 (HHs.out w3 _ hE.net) hE.right hE.wide HWF.out hE.lab
        rw [ruA_mk] at k4
        obtain ⟨ei, hei⟩ : ∃ ei, ei = insE ps ls M ⟨rid, rdv, rpr, rkd, rf, rt, rpt⟩ := ⟨_, rfl⟩
        rw [← hei] at k4
        have HEI := Lib.hid hei
        clear hei
        go_upto_region 10 with (go_at_call 8; refine k4.mono ?_; rintro e w4 ⟨⟨p4, rfl, hp4, hq4⟩, b4⟩)
        have HB4 := Lib.hid b4
        have HP4 := Lib.hid hp4
        have HQ4 := Lib.hid hq4
        have hs4 : w1.heap.size ≤ w4.heap.size := Nat.le_trans hs3 b4.size
        clear k4 b4 hp4 hq4 hE x0 x1 x2 y0 y1 y2 y3 y4 y5 y6 y7
        obtain ⟨hE, ⟨x0, x1, x2⟩, y0, y1, y2, y3, y4, y5, y6, y7⟩ := SZ.out w4 HB4.out
        have k5 := rinsert_any ps ls M ⟨rid, rdv, rpr, rkd, rf, rt, rpt⟩ w4 hE.right hE.wide HWF.out hE.no.isN
        rw [ruA_mk, ← HEI.out] at k5
        go_upto_region 11 with (go_at_call 9; refine k5.mono ?_; rintro e w5 h5; obtain ⟨C1, q1, f1, C2, q2, f2, C3, q3, f3, rfl, hN5⟩ := newOut_cells h5; clear h5)
        obtain ⟨w6, hw6⟩ : ∃ w6, w6 = w5.alloc (.cells #[.slice C1 q1 f1, .slice C2 q2 f2, .slice C3 q3 f3] 28) := ⟨_, rfl⟩
        have HX6 := Lib.hid (At.new w5 #[.slice C1 q1 f1, .slice C2 q2 f2, .slice C3 q3 f3] 28)
        have b6 : Below w5.heap.size w5 w6 := by rw [hw6]; exact (Below.refl _ _).alloc (Nat.le_refl _) _
        have b46 := hN5.bel.trans (b6.mono hN5.bel.size)
        rw [← hw6] at HX6 ⊢
        have HB6 := Lib.hid (HB4.out.trans (b46.mono HB4.out.size))
        have hs6 : w1.heap.size ≤ w6.heap.size := Nat.le_trans hs4 b46.size
        have HF1 : Hid (Nxt O A1 A2 c1 c2 ps ls w ei (insL ⟨rid, rdv, rpr, rkd, rf, rt, rpt⟩ M) p4 C1 C2 C3 q1 f1 q2 f2 q3 f3 w5.heap.size w6) := Lib.hid (by
          refine ⟨fun h0 => ?_, fun h0 => ⟨(HP4.out h0).1, O.keep (HP4.out h0).2 (exc_of b46 _)⟩, HQ4.out, HX6.out, by have := hN5.bel.size; omega, fun h0 => ?_, fun h0 => ?_⟩
          · have hz := (rightN_iff ps ls _).1 (insE_zero.1 (HEI.out.symm.trans h0)).2
            exact ⟨hz, ins_w HE3.out.wide HWF.out (by omega)⟩
          · obtain ⟨a, b, c, d, e, f, _⟩ := hN5.ok h0
            exact ⟨a, b, c, d, e, f⟩
          · obtain ⟨_, _, _, _, _, _, base, hb, hrow⟩ := hN5.ok h0
            exact ⟨base, by omega, row_belows hrow b6⟩)
        have HB45 : Hid (w3.heap.size ≤ w5.heap.size) := Lib.hid (Nat.le_trans HB4.out.size hN5.bel.size)
        have HLT : Hid (O.Lb (twoH w.heap.size w5.heap.size) w6 (.pointer (some bq)) ps ls M) := Lib.hid (O.keep (O.sub hE.lab (fun k' hk' h' => h'.elim id fun h' => absurd h' (by have := hN5.bel.size; omega))) (exc_of b46 _))
        have HLX : Hid (∀ b, twoH w.heap.size w5.heap.size b → ∃ cs, At w6 b cs 28) := Lib.hid fun b h' => by
          rcases h' with rfl | rfl
          · exact ⟨_, (HE3.out.on HB6.out).net⟩
          · exact ⟨_, HX6.out⟩
        clear k5 b6 b46 hN5 hw6 hE x0 x1 x2 y0 y1 y2 y3 y4 y5 y6 y7
        obtain ⟨hE, ⟨x0, x1, x2⟩, y0, y1, y2, y3, y4, y5, y6, y7⟩ := SZ.out w6 HB6.out
        cases dl with
        | false =>
          go_upto_region 14 with (fail)
          clear hE x0 x1 x2 y0 y1 y2 y3 y4 y5 y6 y7
          obtain ⟨hE, ⟨x0, x1, x2⟩, y0, y1, y2, y3, y4, y5, y6, y7⟩ := SZ.out w6 HB6.out
          have k7 := same10_any O ps ls M w6 hE.right hE.wide hE.lab hE.no.isN
          clear y0 y1 y2 y3 y4 y5 y6 y7
          go_upto_region 15 with (go_at_call 12; refine k7.mono ?_; rintro e w8 ⟨rfl, b8⟩)
          have HB8 := Lib.hid (HB6.out.trans (b8.mono HB6.out.size))
          have HF8 := Lib.hid (HF1.out.on b8)
          have hs8 : w1.heap.size ≤ w8.heap.size := Nat.le_trans hs6 b8.size
          clear k7 b8 hE x0 x1 x2
          have q0 : (ei == ei) = true := by simp
          have q1' : decide (ei = ei) = true := by simp
          by_cases h0 : ei = 0
          · have HS8 := Lib.hid (HF8.out.some' h0).1
            subst h0
            obtain ⟨bn, hbn⟩ : ∃ bn, p4 = some bn := Option.isSome_iff_exists.1 HS8.out
            subst hbn
            obtain ⟨hE, ⟨x0, x1, x2⟩, y0, y1, y2, y3, y4, y5, y6, y7⟩ := SZ.out w8 HB8.out
            have HE9 := Lib.hid (HF8.out.take hE)
            have N8 := hE.net
            have X8 := HF8.out.box
            have u0 := (X8.cell 0).trans rfl; have u1 := (X8.cell 1).trans rfl; have u2 := (X8.cell 2).trans rfl
            have v0 := N8.frozen 0; have v1 := N8.frozen 1; have v2 := N8.frozen 2
            clear y0 y1 y2 y3 y4 y5 y6 y7 hE N8 X8 q0 q1'
            go_upto_region 20 with (fail)
            obtain ⟨w9, hw9⟩ : ∃ w9, w9 = (((w8.setCell ⟨w.heap.size, 0, none⟩ (.slice C1 q1 f1)).setCell ⟨w.heap.size, 1, none⟩ (.slice C2 q2 f2)).setCell ⟨w.heap.size, 2, none⟩ (.slice C3 q3 f3)) := ⟨_, rfl⟩
            have hs9 : w1.heap.size ≤ w9.heap.size := by rw [hw9]; simpa using hs8
            rw [← hw9] at HE9 ⊢
            clear hw9 x0 x1 x2 u0 u1 u2 v0 v1 v2
            have N9 := HE9.out.net
            have x0 := (N9.cell 0).trans rfl; have x1 := (N9.cell 1).trans rfl; have x2 := (N9.cell 2).trans rfl
            have k9 := same10_any O ps ls (insL ⟨rid, rdv, rpr, rkd, rf, rt, rpt⟩ M) w9 HE9.out.right HE9.out.wide HE9.out.lab HE9.out.no.isN
            go_wp2_with (go_at_call 12; refine k9.mono ?_; rintro e w10 ⟨rfl, b10⟩)
            go_roundw
            case rel => exact ⟨k + 1, bn, by go_num, rfl, by omega, by omega, Lib.hid ⟨_, _, _, HE9.out.on b10⟩, Nat.le_trans hs9 b10.size⟩
            case measure => simp [intOf]; omega
          · have HP8 := Lib.hid (HF8.out.none' h0)
            have e0 : (ei == 0) = false := by simp [h0]
            have e1 : decide (ei = 0) = false := by simp [h0]
            have e2 : (!(ei == 0)) = true := by simp [h0]
            have e3 : decide (¬ ei = 0) = true := by simp [h0]
            have e4 : (ei != 0) = true := by simp [h0]
            obtain rfl := HP8.out
            obtain ⟨hE, ⟨x0, x1, x2⟩, y0, y1, y2, y3, y4, y5, y6, y7⟩ := SZ.out w8 HB8.out
            have HE8 := Lib.hid hE
            have k9 := same10_any O ps ls M w8 hE.right hE.wide hE.lab hE.no.isN
            clear y0 y1 y2 y3 y4 y5 y6 y7 hE
            go_wp2_with (go_at_call 12; refine k9.mono ?_; rintro e w10 ⟨rfl, b10⟩)
            go_roundw
            case rel => exact ⟨k + 1, bq, by go_num, rfl, by omega, by omega, Lib.hid ⟨_, _, _, HE8.out.on b10⟩, Nat.le_trans hs8 b10.size⟩
            case measure => simp [intOf]; omega
        | true =>
          have k7 := delete_out O (twoH w.heap.size w5.heap.size) ps ls M rid w6 HLX.out hE.right hE.wide HRI.out HLT.out
          obtain ⟨ed, hed⟩ : ∃ ed, ed = delE M rid := ⟨_, rfl⟩
          rw [← hed] at k7
          have HED := Lib.hid hed
          clear hed
          go_upto_region 13 with (go_at_call 10; refine k7.mono ?_; rintro e w7 ⟨⟨p7, rfl, hp7, hq7⟩, b7⟩)
          have HB7 := Lib.hid (HB6.out.trans (b7.mono HB6.out.size))
          have HP7 := Lib.hid hp7
          have HQ7 := Lib.hid hq7
          have HX7 := Lib.hid (HX6.out.belows b7)
          have HXF := Lib.hid HF1.out.far
          have hs7 : w1.heap.size ≤ w7.heap.size := Nat.le_trans hs6 b7.size
          have hs67 := HX7.out.lt
          clear k7 b7 hp7 hq7 hE x0 x1 x2 y0 y1 y2 y3 y4 y5 y6 y7 HF1
          obtain ⟨hE, ⟨x0, x1, x2⟩, y0, y1, y2, y3, y4, y5, y6, y7⟩ := SZ.out w7 HB7.out
          have k8 := rdelete_any ps ls M rid w7 hE.right hE.no.isN
          rw [← HED.out] at k8
          go_upto_region 14 with (go_at_call 11; refine k8.mono ?_; rintro e w11 h11; obtain ⟨G1, t1, r1, G2, t2, r2, G3, t3, r3, rfl, hN11⟩ := newOut_cells h11; clear h11; have X11 := HX7.out.belows hN11.bel; have g0 := (X11.cell 0).trans rfl; have g1 := (X11.cell 1).trans rfl; have g2 := (X11.cell 2).trans rfl; have j0 := X11.frozen 0; have j1 := X11.frozen 1; have j2 := X11.frozen 2)
          obtain ⟨w12, hw12⟩ : ∃ w12, w12 = (((w11.setCell ⟨w5.heap.size, 0, none⟩ (.slice G1 t1 r1)).setCell ⟨w5.heap.size, 1, none⟩ (.slice G2 t2 r2)).setCell ⟨w5.heap.size, 2, none⟩ (.slice G3 t3 r3)) := ⟨_, rfl⟩
          have HX12 := Lib.hid (net_set (a := .slice G1 t1 r1) (b := .slice G2 t2 r2) (c := .slice G3 t3 r3) X11)
          have hgs : w11.grownBy w12 (some w5.heap.size) := by rw [hw12]; exact grown_trans (grown_trans (grownBy_set _ _ 0 _) (grownBy_set _ _ 1 _)) (grownBy_set _ _ 2 _)
          rw [← hw12] at HX12 ⊢
          have HG := Lib.hid hgs
          have HB12 : Hid (Below w3.heap.size w3 w12) := Lib.hid ((HB7.out.trans (hN11.bel.mono HB7.out.size)).grown hgs (Nat.le_trans HB7.out.size hN11.bel.size) (fun j e => by cases e; exact HB45.out))
          have hs12' : w1.heap.size ≤ w12.heap.size := Nat.le_trans (Nat.le_trans hs7 hN11.bel.size) hgs.size
          have HF2 : Hid (Nxt O A1 A2 c1 c2 ps ls w ed (delL rid M) p7 G1 G2 G3 t1 r1 t2 r2 t3 r3 w5.heap.size w12) := Lib.hid (by
            refine ⟨fun _ => ⟨del_right HE3.out.right rid, del_w HE3.out.wide rid⟩, fun h0 => ⟨(HP7.out h0).1, ?_⟩, HQ7.out, HX12.out, HXF.out, fun h0 => ?_, fun h0 => ?_⟩
            · exact O.sub (O.keep (O.keep (HP7.out h0).2 (exc_of hN11.bel _)) (exc_grown hgs (.inr rfl))) (fun _ _ h' => .inl h')
            · obtain ⟨a, b, c, d, e, f, _⟩ := hN11.ok h0
              exact ⟨a, b, c, d, e, f⟩
            · obtain ⟨_, _, _, _, _, _, base, hb, hrow⟩ := hN11.ok h0
              exact ⟨base, by omega, row_far hrow hgs (by omega)⟩)
          clear k8 hN11 hw12 hgs X11 g0 g1 g2 j0 j1 j2 hE x0 x1 x2 y0 y1 y2 y3 y4 y5 y6 y7
          have hs12 := hs12'
          obtain ⟨hE, ⟨x0, x1, x2⟩, y0, y1, y2, y3, y4, y5, y6, y7⟩ := SZ.out w12 HB12.out
          have k7 := same10_any O ps ls M w12 hE.right hE.wide hE.lab hE.no.isN
          clear y0 y1 y2 y3 y4 y5 y6 y7
          go_upto_region 15 with (go_at_call 12; refine k7.mono ?_; rintro e w8 ⟨rfl, b8⟩)
          have HB8 := Lib.hid (HB12.out.trans (b8.mono HB12.out.size))
          have HF8 := Lib.hid (HF2.out.on b8)
          have hs8 : w1.heap.size ≤ w8.heap.size := Nat.le_trans hs12 b8.size
          clear k7 b8 hE x0 x1 x2
          have q0 : (ed == ed) = true := by simp
          have q1' : decide (ed = ed) = true := by simp
          by_cases h0 : ed = 0
          · have HS8 := Lib.hid (HF8.out.some' h0).1
            subst h0
            obtain ⟨bn, hbn⟩ : ∃ bn, p7 = some bn := Option.isSome_iff_exists.1 HS8.out
            subst hbn
            obtain ⟨hE, ⟨x0, x1, x2⟩, y0, y1, y2, y3, y4, y5, y6, y7⟩ := SZ.out w8 HB8.out
            have HE9 := Lib.hid (HF8.out.take hE)
            have N8 := hE.net
            have X8 := HF8.out.box
            have u0 := (X8.cell 0).trans rfl; have u1 := (X8.cell 1).trans rfl; have u2 := (X8.cell 2).trans rfl
            have v0 := N8.frozen 0; have v1 := N8.frozen 1; have v2 := N8.frozen 2
            clear y0 y1 y2 y3 y4 y5 y6 y7 hE N8 X8 q0 q1'
            go_upto_region 20 with (fail)
            obtain ⟨w9, hw9⟩ : ∃ w9, w9 = (((w8.setCell ⟨w.heap.size, 0, none⟩ (.slice G1 t1 r1)).setCell ⟨w.heap.size, 1, none⟩ (.slice G2 t2 r2)).setCell ⟨w.heap.size, 2, none⟩ (.slice G3 t3 r3)) := ⟨_, rfl⟩
            have hs9 : w1.heap.size ≤ w9.heap.size := by rw [hw9]; simpa using hs8
            rw [← hw9] at HE9 ⊢
            clear hw9 x0 x1 x2 u0 u1 u2 v0 v1 v2
            have N9 := HE9.out.net
            have x0 := (N9.cell 0).trans rfl; have x1 := (N9.cell 1).trans rfl; have x2 := (N9.cell 2).trans rfl
            have k9 := same10_any O ps ls (delL rid M) w9 HE9.out.right HE9.out.wide HE9.out.lab HE9.out.no.isN
            go_wp2_with (go_at_call 12; refine k9.mono ?_; rintro e w10 ⟨rfl, b10⟩)
            go_roundw
            case rel => exact ⟨k + 1, bn, by go_num, rfl, by omega, by omega, Lib.hid ⟨_, _, _, HE9.out.on b10⟩, Nat.le_trans hs9 b10.size⟩
            case measure => simp [intOf]; omega
          · have HP8 := Lib.hid (HF8.out.none' h0)
            have e0 : (ed == 0) = false := by simp [h0]
            have e1 : decide (ed = 0) = false := by simp [h0]
            have e2 : (!(ed == 0)) = true := by simp [h0]
            have e3 : decide (¬ ed = 0) = true := by simp [h0]
            have e4 : (ed != 0) = true := by simp [h0]
            obtain rfl := HP8.out
            obtain ⟨hE, ⟨x0, x1, x2⟩, y0, y1, y2, y3, y4, y5, y6, y7⟩ := SZ.out w8 HB8.out
            have HE8 := Lib.hid hE
            have k9 := same10_any O ps ls M w8 hE.right hE.wide hE.lab hE.no.isN
            clear y0 y1 y2 y3 y4 y5 y6 y7 hE
            go_wp2_with (go_at_call 12; refine k9.mono ?_; rintro e w10 ⟨rfl, b10⟩)
            go_roundw
            case rel => exact ⟨k + 1, bq, by go_num, rfl, by omega, by omega, Lib.hid ⟨_, _, _, HE8.out.on b10⟩, Nat.le_trans hs8 b10.size⟩
            case measure => simp [intOf]; omega
      · have i3 : (decide ((k : Int) < (S.length : Int)) && decide ((k : Int) < 30)) = false := by
          rw [← Bool.not_eq_true]; simp only [Bool.and_eq_true, decide_eq_true_eq]; omega
        obtain ⟨M, B3, d3, hE⟩ := HI.out
        have HBW := Lib.hid hE.bel
        have ka := alive10_any O wr
        clear hE HI
        by_cases hl1 : k < S.length
        · have i4 : decide ((k : Int) < (S.length : Int)) = true := decide_eq_true (by omega)
          have i5 : decide ((k : Int) < 30) = false := decide_eq_false (by omega)
          have p1 : (k : Int) < (S.length : Int) := by omega
          have p2 : ¬ (k : Int) < 30 := by omega
          clear i3 hlt hl1
          go_wp2_with (go_at_call 7; refine ka.mono ?_; rintro e u ⟨rfl, bu⟩)
          go_ret
          exact ⟨rfl, HBW.out.trans (bu.mono HBW.out.size)⟩
        · have i4 : decide ((k : Int) < (S.length : Int)) = false := decide_eq_false (by omega)
          have p1 : ¬ (k : Int) < (S.length : Int) := by omega
          clear i3 hlt hl1
          go_wp2_with (go_at_call 7; refine ka.mono ?_; rintro e u ⟨rfl, bu⟩)
          go_ret
          exact ⟨rfl, HBW.out.trans (bu.mono HBW.out.size)⟩
end Go.Proofs.YtlhfaildeemngaaGreat
namespace Go.Proofs.YtlhfaildeemngaaGreat.labelEdits
open Go.ChangeShapes Go.WideShapes Go.ChangeAt Go.RowKit
open Go.ChangeMaps (open_string shut_string)
set_option linter.unusedVariables false

theorem own : ownKnob Tryz.prog.godebug = none := by kernel_rfl
theorem laidOut : laidOutB Tryz.prog = true := by kernel_rfl
theorem readable : (Tryz.f3.params.toList.all fun t => Tryz.prog.readableRec t && decide (t < Tryz.prog.types.size)) = true := by kernel_rfl

set_option maxRecDepth 100000 in
theorem lifted (os : Os) (started : os.Started) (H : Type) (enc : TypeId × Value → H) :
    ReturnsInHanded {} Tryz.checked os 3 .any (Rows.labelEditsSpec.pre6 enc Tryz.prog Tryz.f3 Rows.labelEditsRow.domain false) (Rows.labelEditsSpec.post enc Tryz.prog Tryz.f3 false true false false) := by
  refine returnsInHanded_of_change_sized (C := Tryz.checked) own started (by kernel_rfl) Tryz.func3
    (ChangeSpec.witness6 (enc := enc) (C := Tryz.checked) false ⟨#[], #[.agg #[.slice none 0 0, .slice none 0 0, .slice none 0 0], .slice none 0 0], []⟩ 8 (by kernel_rfl) (by kernel_rfl) (by kernel_rfl) (by kernel_rfl)) ?_
  intro W base args ds gs before hval0 hW hcnd hsz0 _
  have hsz : (DataW.weightsEach Tryz.prog (Tryz.f3.params.toList ++ Rows.labelEditsSpec.plain.varTypes Tryz.prog) (ds ++ gs)).all (· ≤ reachBytes) = true := hsz0
  have hval : ∀ (j : Nat) t v, Tryz.f3.params[j]? = some t → args[j]? = some v → Value.okWide Tryz.prog W .any base t v := hval0
  have hW' := hW
  obtain ⟨p, q, hA0, hV, rfl, hfz, hnd⟩ := hW
  have hA : DataW.TrodAll enc Tryz.prog W 0 (fun _ => true) true Tryz.f3.params.toList args.toList ds p := hA0
  rw [Tryz.params3] at hA hval hsz
  obtain ⟨v0, vs0, d0, ds0, p0, q0, hargs, rfl, rfl, h0, r0⟩ := trodAll_cons hA
  obtain ⟨v1, vs1, d1, ds1, p1, q1, rfl, rfl, rfl, h1, r1⟩ := trodAll_cons r0
  obtain ⟨rfl, rfl, rfl⟩ := trodAll_nil r1
  obtain rfl : args = #[v0, v1] := by cases args; simp_all
  obtain ⟨rfl, rfl⟩ := trodVars_none hV
  have fin : ∀ (e : Ending) (W' : World), e = .returned (.bool true) ∧ Below W.heap.size W W' → ∃ v, e = .returned v ∧ Rows.labelEditsSpec.post enc Tryz.prog Tryz.f3 false true false false W #[v0, v1] v W' := by
    rintro e W' ⟨rfl, bel⟩
    exact ⟨_, rfl, post_law (tb := 4) laidOut readable (by kernel_rfl) Tryz.underlying4 rfl hW' rfl bel⟩
  clear hW' hA0 hval0 hcnd hfz hnd hsz0
  obtain ⟨va0, vb0, vc0, ps0, ls0, l0, rfl, hh0, ww0⟩ := open_net (hval 0 28 v0 rfl rfl) h0 (net_room hsz)
  obtain ⟨s1, hs1, ws1⟩ := open_acts (hval 1 29 v1 rfl rfl) h1
  exact (edits10_walk ownCalls10 ps0 ls0 l0 s1 W hh0 ww0 hs1 ws1).mono fun e W' h => fin e W' h

theorem over : Rows.labelEditsRow.holds Tryz.pinned (OpenSpec.ofChange Rows.labelEditsSpec) :=
  OpenClaim.holds_of_wide 3 Tryz.f3 rfl rfl rfl rfl rfl rfl rfl ⟨rfl, rfl, rfl, rfl, rfl⟩ rfl rfl rfl rfl rfl (by kernel_rfl) Tryz.func3 (by kernel_rfl)
    (of_decide_eq_true (by kernel_rfl)) (by unfold Func.isWrapper; first | (rw [if_pos (by decide +kernel)]; kernel_rfl) | (rw [if_neg (by decide +kernel)]; exact ⟨rfl, rfl⟩))
    (fun os started H enc _ => lifted os started H enc)

theorem proved : Rows.LabelEditsSaid := over
#print axioms proved
end Go.Proofs.YtlhfaildeemngaaGreat.labelEdits
