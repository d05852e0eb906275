/- FateRest, over the program's calls. -/
import Derived.Test.YtmndgbpfophniaaGP
import Derived.Test.YtmndgbpfophniaaV2
namespace Go.Proofs.Ytmndgbpfophniaa
open Go.RowKit Go.Shelf

/-- What a further trace leaves. -/
def UOut (xd : List Int) (k : Nat) (xf xo xp : Int) (wr : World) (UB : Nat) (wc : World) : Prop := ∃ Au cu, At wc UB #[.slice Au (xd.length - k) cu, .int .i64 xf, .int .i64 xo, .int .i64 xp] 36 ∧ xd.length - k ≤ cu ∧ cu ≤ maxLen ∧ Fs 1 intA wc Au (xd.drop k) ∧ Below wr.heap.size wr wc
theorem sizeInt (w : World) : (sizeOf 3).run Try.prog w = .ok 1 w := by kernel_rfl
set_option maxRecDepth 100000 in
set_option maxHeartbeats 4000000 in
theorem rest9_walk (O : Own9) {vp vl vr : Value} (ps : List Int) (ls : List Lk) (L : List Ru) (d : Int) (hdi : isI d) (a : Nat) (w : World) (h : IsN w vp vl vr ps ls L) (hW : NW ps ls L) (ha : a < 4294967296) :
    Calls Try.prog 5 #[.agg #[vp, vl, vr], .int .i64 d, .int .u32 a] w fun e w' => e = .returned (.bool true) ∧ Below w.heap.size w w' := by
  have HN : Hid (∀ u, Below w.heap.size w u → IsN u vp vl vr ps ls L) := Lib.hid fun u hu => h.belows hu
  have HW := Lib.hid hW
  have HD : Hid (isI d) := Lib.hid hdi
  have HA := Lib.hid ha
  obtain ⟨⟨⟨A1, c1, rfl, n1, m1, _⟩, ⟨A2, c2, rfl, n2, m2, _⟩⟩, ⟨A3, c3, rfl, n3, m3, _⟩⟩ := h
  have hM1 : ps.length ≤ 9223372036854775807 := Nat.le_trans n1 m1
  have D0 := At.new w #[.slice A1 ps.length c1, .slice A2 ls.length c2, .slice A3 L.length c3] 28
  have b0 : Below w.heap.size w (w.alloc (.cells #[.slice A1 ps.length c1, .slice A2 ls.length c2, .slice A3 L.length c3] 28)) := (Below.refl _ w).alloc (Nat.le_refl _) _
  clear hW hdi ha n1 n2 n3 m1 m2 m3
  go_enter Try.func5, Try.ntmps5
  go_upto_region 1 with (fail)
  obtain ⟨w0, hw0⟩ : ∃ w0, w0 = w.alloc (.cells #[.slice A1 ps.length c1, .slice A2 ls.length c2, .slice A3 L.length c3] 28) := ⟨_, rfl⟩
  rw [← hw0] at D0 b0 ⊢
  clear hw0
  have x0 := (D0.cell 0).trans rfl; have x1 := (D0.cell 1).trans rfl; have x2 := (D0.cell 2).trans rfl
  have k1 := lfits9_any ps ls L w0 HW.out (HN.out w0 b0)
  obtain ⟨q, hq⟩ : ∃ q, q = rightN ps ls L := ⟨_, rfl⟩
  rw [← hq] at k1
  have HQ := Lib.hid hq
  clear hq
  go_wp2_with fail
  refine k1.mono ?_
  rintro e w1 ⟨rfl, b1⟩
  have bw1 := b0.trans (b1.mono b0.size)
  have D1 := D0.belows b1
  clear k1 x0 x1 x2
  have x0 := (D1.cell 0).trans rfl; have x1 := (D1.cell 1).trans rfl; have x2 := (D1.cell 2).trans rfl
  cases q with
  | false =>
    go_wp2_with fail
    refine (O.traceAny ps ls L d a w1 HW.out HD.out HA.out (HN.out w1 bw1)).mono ?_
    rintro e w2 ⟨At', nt, ct, ff, fd, fp, er, rfl, b2⟩
    have bw2 := (bw1.trans (b2.mono bw1.size)).alloc (bw1.trans (b2.mono bw1.size)).size (.cells #[.slice At' nt ct, .int .i64 ff, .int .i64 fd, .int .i64 fp] 36)
    go_wp2_with fail
    refine (alive9_any O _).mono ?_
    rintro e u ⟨rfl, bu⟩
    go_wp2
    go_ret
    exact ⟨rfl, bw2.trans (bu.mono bw2.size)⟩
  | true =>
    have HR := Lib.hid ((rightN_iff ps ls L).1 HQ.out.symm)
    have k2 := O.trace ps ls L d a w1 HR.out HW.out HD.out HA.out (HN.out w1 bw1)
    by_cases hin : inD ps d
    case neg =>
      have k2' : Calls Try.prog 10 #[.agg #[.slice A1 ps.length c1, .slice A2 ls.length c2, .slice A3 L.length c3], .int .i64 d, .int .u32 a] w1 (TrNo w1) := k2.mono fun e w' h => h.elim (fun h => absurd h.1 hin) (·.2)
      clear k2 hin
      go_wp2_with fail
      refine k2'.mono ?_
      rintro e w2 ⟨At', ct, _, rfl, b2⟩
      have bw2 := (bw1.trans (b2.mono bw1.size)).alloc (bw1.trans (b2.mono bw1.size)).size (.cells #[.slice At' 0 ct, .int .i64 0, .int .i64 0, .int .i64 0] 36)
      go_wp2_with fail
      refine (alive9_any O _).mono ?_
      rintro e u ⟨rfl, bu⟩
      go_wp2
      go_ret
      exact ⟨rfl, bw2.trans (bu.mono bw2.size)⟩
    have k2' : Calls Try.prog 10 #[.agg #[.slice A1 ps.length c1, .slice A2 ls.length c2, .slice A3 L.length c3], .int .i64 d, .int .u32 a] w1 (TrOut (trcN ps ls L a d) w1) := k2.mono fun e w' h => h.elim (·.2) fun h => absurd hin h.1
    have HTW := Lib.hid (trcN_w (L := L) (a := a) HR.out.topo HW.out hin)
    have HIN := Lib.hid hin
    have h8 := HR.out.topo.n8
    obtain ⟨x, hx⟩ : ∃ x, x = trcN ps ls L a d := ⟨_, rfl⟩
    rw [← hx] at k2' HTW
    have HX := Lib.hid hx
    clear k2 hin hx
    go_upto_region 3 with (go_at_call 10; refine k2'.mono ?_; unfold TrOut tcV; rintro e w2 ⟨vt, rfl, ⟨At', ct, rfl, nt, mt, zt⟩, _, b2⟩)
    have bt : Below w2.heap.size w2 (w2.alloc (.cells #[.slice At' x.ds.length ct, .int .i64 x.ft, .int .i64 x.out.d, .int .i64 x.out.p] 36)) := (Below.refl _ w2).alloc (Nat.le_refl _) _
    have T3 := At.new w2 #[.slice At' x.ds.length ct, .int .i64 x.ft, .int .i64 x.out.d, .int .i64 x.out.p] 36
    have bs2 := b2.trans (bt.mono b2.size)
    have D3 := D1.belows bs2
    have bw3 := bw1.trans (bs2.mono bw1.size)
    have z3 := zt.belows bt
    obtain ⟨w3, hw3⟩ : ∃ w3, w3 = w2.alloc (.cells #[.slice At' x.ds.length ct, .int .i64 x.ft, .int .i64 x.out.d, .int .i64 x.out.p] 36) := ⟨_, rfl⟩
    have hTs : w2.heap.size < w3.heap.size := by rw [hw3]; simp
    rw [← hw3] at T3 D3 bw3 z3 ⊢
    clear hw3 k2' x0 x1 x2 b1 b2 bt bs2 D0 D1 b0 bw1 zt
    obtain ⟨TB, hTB⟩ : ∃ TB, TB = w2.heap.size := ⟨_, rfl⟩
    rw [← hTB] at T3 hTs ⊢
    clear hTB
    have x0 := (D3.cell 0).trans rfl; have x1 := (D3.cell 1).trans rfl; have x2 := (D3.cell 2).trans rfl
    have t0 := (T3.cell 0).trans rfl; have t1 := (T3.cell 1).trans rfl; have t2 := (T3.cell 2).trans rfl; have t3 := (T3.cell 3).trans rfl
    have hX64 : x.ds.length ≤ 9223372036854775807 := Nat.le_trans nt mt
    have HZ := Lib.hid z3
    clear z3
    by_cases h4 : x.ft = 4
    · have e4 : (x.ft == 4) = true := by simp [h4]
      have e4b : decide (x.ft = 4) = true := by simp [h4]
      clear h4
      go_wp2_with fail
      refine (alive9_any O _).mono ?_
      rintro e u ⟨rfl, bu⟩
      go_wp2
      go_ret
      exact ⟨rfl, bw3.trans (bu.mono bw3.size)⟩
    have e4 : (x.ft == 4) = false := by simp [h4]
    have e4b : decide (x.ft = 4) = false := by simp [h4]
    have HREST : Hid (∀ i (hi : i < x.ds.length), trcN ps ls L a x.ds[i] = ⟨x.ds.drop i, x.ft, x.out⟩ ∧ inD ps x.ds[i]) := Lib.hid fun i hi => by
      have hx := HX.out
      subst hx
      obtain ⟨ini, last, hs, _⟩ := trcN_spec HR.out.topo (L := L) (a := a) HIN.out
      exact ⟨trcN_rest HR.out.topo HIN.out h4 i hi, hs.dev _ (List.getElem_mem hi)⟩
    clear h4
    obtain ⟨xd, xf, ⟨xo, xp⟩⟩ := x
    dsimp only at T3 t0 t1 t2 t3 hX64 e4 e4b HREST HZ nt ⊢
    have HT3 := Lib.hid T3
    have HD3 := Lib.hid D3
    have HB3 := Lib.hid bw3
    clear T3 D3 bw3 HX
    go_wp2_with fail
    go_loopw [10] (fun i wr => ∃ k : Nat, i = .int .i64 k ∧ k ≤ xd.length ∧ Below w3.heap.size w3 wr) (fun i _ => xd.length - (intOf i).toNat)
    case atStart => exact ⟨0, rfl, by omega, Below.refl _ _⟩
    case round =>
      obtain ⟨k, rfl, hk, hb⟩ := hrel
      have bwr := HB3.out.trans (hb.mono HB3.out.size)
      have Tr := HT3.out.belows hb
      have t0 := (Tr.cell 0).trans rfl
      by_cases hlt : k < xd.length
      · obtain ⟨hrest, hyd⟩ := HREST.out k hlt
        obtain ⟨g, o, e, hg, hc⟩ := (HZ.out.belows hb).at k hlt
        subst e
        have cy : wr.cell? ⟨g, o + k, none⟩ = some (.int .i64 xd[k]) := by have := hc 0 (by decide); simpa [intA] using this
        have KT : Hid (∀ u, Below w.heap.size w u → Calls Try.prog 10 #[.agg #[.slice A1 ps.length c1, .slice A2 ls.length c2, .slice A3 L.length c3], .int .i64 xd[k], .int .u32 a] u (TrOut ⟨xd.drop k, xf, ⟨xo, xp⟩⟩ u)) := Lib.hid fun u hu => by
          have := O.trace ps ls L xd[k] a u HR.out HW.out (inD_isI HR.out.topo.n8 hyd) HA.out (HN.out u hu)
          rw [hrest] at this
          exact this.mono fun e w' h => h.elim (·.2) fun h => absurd hyd h.1
        clear hc hrest hyd
        generalize xd[k] = y at cy KT
        have i0 : (0 : Int) ≤ (k : Int) := by omega
        have i1 : (k : Int) < (xd.length : Int) := by omega
        have Dr := HD3.out.belows hb
        have SZ : Hid (∀ u, Below wr.heap.size wr u → u.cell? ⟨w.heap.size, 0, none⟩ = some (.slice A1 ps.length c1) ∧ u.cell? ⟨w.heap.size, 1, none⟩ = some (.slice A2 ls.length c2) ∧ u.cell? ⟨w.heap.size, 2, none⟩ = some (.slice A3 L.length c3) ∧ u.cell? ⟨TB, 0, none⟩ = some (.slice (some ⟨g, o, none⟩) xd.length ct) ∧ u.cell? ⟨g, o + k, none⟩ = some (.int .i64 y)) := Lib.hid fun u hu =>
          ⟨((Dr.belows hu).cell 0).trans rfl, ((Dr.belows hu).cell 1).trans rfl, ((Dr.belows hu).cell 2).trans rfl, ((Tr.belows hu).cell 0).trans rfl, (hu.cell (p := ⟨g, _, none⟩) hg).trans cy⟩
        have HTr := Lib.hid Tr
        have HZr := Lib.hid (HZ.out.belows hb)
        have HBr := Lib.hid hb
        have HBW := Lib.hid bwr
        clear Tr Dr cy hb bwr x0 x1 x2 t1 t2 t3
        go_upto_region 8 with (fail)
        go_cut [11, 12] (fun p er wc => er = .int .i64 0 ∧ ∃ UB : Nat, p = .pointer (some ⟨UB, 0, none⟩) ∧ Hid (UOut xd k xf xo xp wr UB wc))
        case first =>
          go_region_held3 (fun W => W.cell? ⟨w.heap.size, 0, none⟩ = some (.slice A1 ps.length c1) ∧ W.cell? ⟨w.heap.size, 1, none⟩ = some (.slice A2 ls.length c2) ∧ W.cell? ⟨w.heap.size, 2, none⟩ = some (.slice A3 L.length c3) ∧ W.cell? ⟨TB, 0, none⟩ = some (.slice (some ⟨g, o, none⟩) xd.length ct) ∧ W.cell? ⟨g, o + k, none⟩ = some (.int .i64 y))
          (first | exact SZ.out _ b5w | exact SZ.out _ (b5w.alloc b5w.size _) | exact SZ.out _ ((((b5w.setCell (p := ⟨wr.heap.size, 0, none⟩) (Nat.le_refl _) _).setCell (p := ⟨wr.heap.size, 1, none⟩) (Nat.le_refl _) _).setCell (p := ⟨wr.heap.size, 2, none⟩) (Nat.le_refl _) _).setCell (p := ⟨wr.heap.size, 3, none⟩) (Nat.le_refl _) _) | exact SZ.out _ ((Below.refl _ wr).alloc (Nat.le_refl _) _).drew | exact SZ.out _ (bdrewN (Below.refl _ _) 1))
          ((go_at_call 10; refine (KT.out _ (by first | exact (HBW.out.alloc HBW.out.size _).drew | exact bdrewN HBW.out 1)).mono ?_; unfold TrOut tcV; rintro e w5 ⟨vu, rfl, ⟨Au, cu, rfl, nu, mu, zu⟩, hfr, b5⟩; have b5w : Below wr.heap.size wr w5 := (by first | exact Below.trans (((Below.refl _ wr).alloc (Nat.le_refl _) _).drew) (b5.mono (by simp)) | exact (bdrewN (Below.refl _ _) 1).trans b5); first | (have U5 : At w5 wr.heap.size #[.slice none 0 0, .int .i64 0, .int .i64 0, .int .i64 0] 36 := (show At (wr.alloc (.cells #[.slice none 0 0, .int .i64 0, .int .i64 0, .int .i64 0] 36)).drew wr.heap.size #[.slice none 0 0, .int .i64 0, .int .i64 0, .int .i64 0] 36 from At.new wr _ _).belows b5; have y0 := (U5.cell 0).trans rfl; have y1 := (U5.cell 1).trans rfl; have y2 := (U5.cell 2).trans rfl; have y3 := (U5.cell 3).trans rfl; have f0 := U5.frozen 0; have f1 := U5.frozen 1; have f2 := U5.frozen 2; have f3 := U5.frozen 3) | skip))
          all_goals (go_wp2_with fail; go_meet; simp only [List.length_drop] at nu)
          · exact ⟨rfl, w5.heap.size, rfl, Lib.hid ⟨Au, cu, At.new w5 _ _, nu, mu, zu.belows ((Below.refl _ _).alloc (Nat.le_refl _) _), b5w.alloc b5w.size _⟩⟩
          · refine ⟨rfl, wr.heap.size, rfl, Lib.hid ⟨Au, cu, (((U5.set0 0 _).set0 1 _).set0 2 _).set0 3 _, nu, mu, ?_, (((b5w.setCell (p := ⟨wr.heap.size, 0, none⟩) (Nat.le_refl _) _).setCell (p := ⟨wr.heap.size, 1, none⟩) (Nat.le_refl _) _).setCell (p := ⟨wr.heap.size, 2, none⟩) (Nat.le_refl _) _).setCell (p := ⟨wr.heap.size, 3, none⟩) (Nat.le_refl _) _⟩⟩
            have far : ∀ (W : World) j v, Fs 1 intA W Au (xd.drop k) → Fs 1 intA (W.setCell ⟨wr.heap.size, j, none⟩ v) Au (xd.drop k) := fun W j v hF hn => by
              obtain ⟨g', o', e, hg', hc'⟩ := hF hn
              have hge := hfr g' o' _ _ (by rw [e])
              have hge2 : wr.heap.size < g' := Nat.lt_of_lt_of_le (by simp) hge
              exact ⟨g', o', e, Nat.lt_of_lt_of_le hg' (grownBy_set W _ _ _).size, fun i hi j' hj' => by
                rw [World.cell?_setCell_other _ _ _ _ (by intro e'; injection e' with e1; omega)]
                exact hc' i hi j' hj'⟩
            exact far _ _ _ (far _ _ _ (far _ _ _ (far _ _ _ zu)))
        case rest =>
          obtain ⟨rfl, UB, rfl, HU⟩ := hcut
          obtain ⟨Au, cu, U6, nu, mu, zu, b6⟩ := HU.out
          clear HU
          have bw6 := HBW.out.trans (b6.mono HBW.out.size)
          have hb6 := HBr.out.trans (b6.mono HBr.out.size)
          have T6 := HTr.out.belows b6
          have hsl : ∀ u, (Instr.slice 22 (.slice (some ⟨g, o, none⟩) xd.length ct) (some (.int .i64 (k : Int))) none none).run Try.prog u = .ok (.slice (some ⟨g, o + k, none⟩) (xd.length - k) (ct - k)) u := fun u => run_from Try.underlying22 (sizeInt u) g o xd.length ct k (by omega) (by omega)
          have kc : ∀ v : Sub wc, Calls Try.prog 16 #[.agg #[.slice Au (xd.length - k) cu, .int .i64 xf, .int .i64 xo, .int .i64 xp], .agg #[.slice (some ⟨g, o + k, none⟩) (xd.length - k) (ct - k), .int .i64 xf, .int .i64 xo, .int .i64 xp]] v.u fun e w' => e = .returned (.bool true) ∧ Below v.u.heap.size v.u w' := fun v => by
            have hW' : TcW ⟨xd.drop k, xf, ⟨xo, xp⟩⟩ := ⟨fun y hy => HTW.out.ds y (List.mem_of_mem_drop hy), HTW.out.ft, HTW.out.out⟩
            have := O.same (v1 := .slice Au (xd.length - k) cu) (v2 := .slice (some ⟨g, o + k, none⟩) (xd.length - k) (ct - k)) ⟨xd.drop k, xf, ⟨xo, xp⟩⟩ ⟨xd.drop k, xf, ⟨xo, xp⟩⟩ v.u hW' hW' ⟨Au, cu, by simp, by simpa using nu, mu, zu.belows v.h⟩ ⟨_, ct - k, by simp, by simp; omega, by omega, (HZr.out.belows (b6.trans (v.h.mono b6.size))).drop⟩
            rw [decide_eq_true (rfl : (⟨xd.drop k, xf, ⟨xo, xp⟩⟩ : Tc) = _)] at this
            exact this
          have t0 : ∀ v : Sub wc, v.u.cell? ⟨TB, 0, none⟩ = some (.slice (some ⟨g, o, none⟩) xd.length ct) := fun v => ((T6.belows v.h).cell 0).trans rfl
          have t1 : ∀ v : Sub wc, v.u.cell? ⟨TB, 1, none⟩ = some (.int .i64 xf) := fun v => ((T6.belows v.h).cell 1).trans rfl
          have t2 : ∀ v : Sub wc, v.u.cell? ⟨TB, 2, none⟩ = some (.int .i64 xo) := fun v => ((T6.belows v.h).cell 2).trans rfl
          have t3 : ∀ v : Sub wc, v.u.cell? ⟨TB, 3, none⟩ = some (.int .i64 xp) := fun v => ((T6.belows v.h).cell 3).trans rfl
          have u0 : ∀ v : Sub wc, v.u.cell? ⟨UB, 0, none⟩ = some (.slice Au (xd.length - k) cu) := fun v => ((U6.belows v.h).cell 0).trans rfl
          have u1 : ∀ v : Sub wc, v.u.cell? ⟨UB, 1, none⟩ = some (.int .i64 xf) := fun v => ((U6.belows v.h).cell 1).trans rfl
          have u2 : ∀ v : Sub wc, v.u.cell? ⟨UB, 2, none⟩ = some (.int .i64 xo) := fun v => ((U6.belows v.h).cell 2).trans rfl
          have u3 : ∀ v : Sub wc, v.u.cell? ⟨UB, 3, none⟩ = some (.int .i64 xp) := fun v => ((U6.belows v.h).cell 3).trans rfl
          clear nu mu zu T6 U6 b6 HTr HZr HBr HBW KT SZ
          go_wp2_with fail
          refine wp_region_cls (by kernel_rfl) (by kernel_rfl) ?_
          repeat (go_big_quiet_step ((go_at_call 16; exact Calls.cls_of (kc _))))
          refine wpQuiet_nil ?_
          rintro w7 ⟨x7, hx7⟩
          have b7 := x7.h
          rw [← hx7] at b7
          clear hx7 x7 t0 t1 t2 t3 u0 u1 u2 u3 kc hsl
          have hb7 := hb6.trans (b7.mono hb6.size)
          go_wp2
          go_roundw
          case rel => exact ⟨k + 1, by go_num, by omega, hb7⟩
          case measure => simp [intOf]; omega
      · have hki : ¬ (k : Int) < (xd.length : Int) := by omega
        go_wp2_with fail
        refine (alive9_any O _).mono ?_
        rintro e u ⟨rfl, bu⟩
        go_wp2
        go_ret
        exact ⟨rfl, bwr.trans (bu.mono bwr.size)⟩
end Go.Proofs.Ytmndgbpfophniaa
