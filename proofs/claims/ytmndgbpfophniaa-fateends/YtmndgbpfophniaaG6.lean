/- FateEnds, over the program's calls. -/
import Derived.Test.YtmndgbpfophniaaG4
import Derived.Test.YtmndgbpfophniaaGE
namespace Go.Proofs.Ytmndgbpfophniaa
open Go.RowKit Go.Shelf

/-- What a step leaves. -/
def SOut (pd pp : Int) (wr : World) (PB : Nat) (wc : World) : Prop := At wc PB #[.int .i64 pd, .int .i64 pp] 34 ∧ Below wr.heap.size wr wc
set_option maxRecDepth 100000 in
set_option maxHeartbeats 4000000 in
theorem ends9_walk (O : Own9) {vp vl vr : Value} (ps : List Int) (ls : List Lk) (L : List Ru) (d : Int) (hdi : isI d) (a : Nat) (w : World) (h : IsN w vp vl vr ps ls L) (hW : NW ps ls L) (ha : a < 4294967296) :
    Calls Try.prog 4 #[.agg #[vp, vl, vr], .int .i64 d, .int .u32 a] w fun e w' => e = .returned (.bool true) ∧ Below w.heap.size w w' := by
  have HN : Hid (∀ u, Below w.heap.size w u → IsN u vp vl vr ps ls L) := Lib.hid fun u hu => h.belows hu
  have HW := Lib.hid hW
  have HD : Hid (isI d) := Lib.hid hdi
  have HA := Lib.hid ha
  obtain ⟨⟨⟨A1, c1, rfl, n1, m1, _⟩, ⟨A2, c2, rfl, n2, m2, _⟩⟩, ⟨A3, c3, rfl, n3, m3, _⟩⟩ := h
  have hM1 : ps.length ≤ 9223372036854775807 := Nat.le_trans n1 m1
  have D0 := At.new w #[.slice A1 ps.length c1, .slice A2 ls.length c2, .slice A3 L.length c3] 28
  have b0 : Below w.heap.size w (w.alloc (.cells #[.slice A1 ps.length c1, .slice A2 ls.length c2, .slice A3 L.length c3] 28)) := (Below.refl _ w).alloc (Nat.le_refl _) _
  clear hW hdi ha n1 n2 n3 m1 m2 m3
  go_enter Try.func4, Try.ntmps4
  go_upto_region 1 with (fail)
  obtain ⟨w0, hw0⟩ : ∃ w0, w0 = w.alloc (.cells #[.slice A1 ps.length c1, .slice A2 ls.length c2, .slice A3 L.length c3] 28) := ⟨_, rfl⟩
  rw [← hw0] at D0 b0 ⊢
  clear hw0
  have x0 := (D0.cell 0).trans rfl; have x1 := (D0.cell 1).trans rfl; have x2 := (D0.cell 2).trans rfl
  have k1 := lfits9_any ps ls L w0 HW.out (HN.out w0 b0)
  obtain ⟨q, hq⟩ : ∃ q, q = rightN ps ls L := ⟨_, rfl⟩
  rw [← hq] at k1
  have HQ := Lib.hid hq
  clear hq
  go_wp2_with fail
  refine k1.mono ?_
  rintro e w1 ⟨rfl, b1⟩
  have bw1 := b0.trans (b1.mono b0.size)
  have D1 := D0.belows b1
  clear k1 x0 x1 x2
  have x0 := (D1.cell 0).trans rfl; have x1 := (D1.cell 1).trans rfl; have x2 := (D1.cell 2).trans rfl
  cases q with
  | false =>
    go_wp2_with fail
    refine (O.traceAny ps ls L d a w1 HW.out HD.out HA.out (HN.out w1 bw1)).mono ?_
    rintro e w2 ⟨At', nt, ct, ff, fd, fp, er, rfl, b2⟩
    have bw2 := (bw1.trans (b2.mono bw1.size)).alloc (bw1.trans (b2.mono bw1.size)).size (.cells #[.slice At' nt ct, .int .i64 ff, .int .i64 fd, .int .i64 fp] 36)
    go_wp2_with fail
    refine (alive9_any O _).mono ?_
    rintro e u ⟨rfl, bu⟩
    go_wp2
    go_ret
    exact ⟨rfl, bw2.trans (bu.mono bw2.size)⟩
  | true =>
    have HR := Lib.hid ((rightN_iff ps ls L).1 HQ.out.symm)
    have k2 := O.trace ps ls L d a w1 HR.out HW.out HD.out HA.out (HN.out w1 bw1)
    by_cases hin : inD ps d
    case neg =>
      have k2' : Calls Try.prog 10 #[.agg #[.slice A1 ps.length c1, .slice A2 ls.length c2, .slice A3 L.length c3], .int .i64 d, .int .u32 a] w1 (TrNo w1) := k2.mono fun e w' h => h.elim (fun h => absurd h.1 hin) (·.2)
      clear k2 hin
      go_wp2_with fail
      refine k2'.mono ?_
      rintro e w2 ⟨At', ct, _, rfl, b2⟩
      have bw2 := (bw1.trans (b2.mono bw1.size)).alloc (bw1.trans (b2.mono bw1.size)).size (.cells #[.slice At' 0 ct, .int .i64 0, .int .i64 0, .int .i64 0] 36)
      go_wp2_with fail
      refine (alive9_any O _).mono ?_
      rintro e u ⟨rfl, bu⟩
      go_wp2
      go_ret
      exact ⟨rfl, bw2.trans (bu.mono bw2.size)⟩
    have k2' : Calls Try.prog 10 #[.agg #[.slice A1 ps.length c1, .slice A2 ls.length c2, .slice A3 L.length c3], .int .i64 d, .int .u32 a] w1 (TrOut (trcN ps ls L a d) w1) := k2.mono fun e w' h => h.elim (·.2) fun h => absurd hin h.1
    have HTW := Lib.hid (trcN_w (L := L) (a := a) HR.out.topo HW.out hin)
    have HIN := Lib.hid hin
    have h8 := HR.out.topo.n8
    obtain ⟨x, hx⟩ : ∃ x, x = trcN ps ls L a d := ⟨_, rfl⟩
    rw [← hx] at k2' HTW
    have HX := Lib.hid hx
    clear k2 hin hx
    go_upto_region 3 with (go_at_call 10; refine k2'.mono ?_; unfold TrOut tcV; rintro e w2 ⟨vt, rfl, ⟨At', ct, rfl, nt, mt, zt⟩, _, b2⟩)
    have bt : Below w2.heap.size w2 (w2.alloc (.cells #[.slice At' x.ds.length ct, .int .i64 x.ft, .int .i64 x.out.d, .int .i64 x.out.p] 36)) := (Below.refl _ w2).alloc (Nat.le_refl _) _
    have T3 := At.new w2 #[.slice At' x.ds.length ct, .int .i64 x.ft, .int .i64 x.out.d, .int .i64 x.out.p] 36
    have bs2 := b2.trans (bt.mono b2.size)
    have D3 := D1.belows bs2
    have bw3 := bw1.trans (bs2.mono bw1.size)
    have z3 := zt.belows bt
    obtain ⟨w3, hw3⟩ : ∃ w3, w3 = w2.alloc (.cells #[.slice At' x.ds.length ct, .int .i64 x.ft, .int .i64 x.out.d, .int .i64 x.out.p] 36) := ⟨_, rfl⟩
    have hTs : w2.heap.size < w3.heap.size := by rw [hw3]; simp
    rw [← hw3] at T3 D3 bw3 z3 ⊢
    clear hw3 k2' x0 x1 x2 b1 b2 bt bs2 D0 D1 b0 bw1 zt
    obtain ⟨TB, hTB⟩ : ∃ TB, TB = w2.heap.size := ⟨_, rfl⟩
    rw [← hTB] at T3 hTs ⊢
    clear hTB
    have x0 := (D3.cell 0).trans rfl; have x1 := (D3.cell 1).trans rfl; have x2 := (D3.cell 2).trans rfl
    have t0 := (T3.cell 0).trans rfl; have t1 := (T3.cell 1).trans rfl; have t2 := (T3.cell 2).trans rfl; have t3 := (T3.cell 3).trans rfl
    have hX64 : x.ds.length ≤ 9223372036854775807 := Nat.le_trans nt mt
    have HZ := Lib.hid z3
    clear z3
    have HE : Hid (EF ps ls L a d x) := Lib.hid (by rw [HX.out]; exact trcN_ends HR.out.topo HIN.out)
    obtain ⟨xd, xf, ⟨xo, xp⟩⟩ := x
    dsimp only at T3 t0 t1 t2 t3 hX64 HZ nt ⊢
    have h1 : 1 ≤ xd.length := HE.out.one
    have hroom : xd.length ≤ ps.length + 1 := HE.out.room
    obtain ⟨g, o, e, hg, hc0⟩ := HZ.out.at 0 (by omega)
    subst e
    have c0 : w3.cell? ⟨g, o, none⟩ = some (.int .i64 d) := by
      have e0 := hc0 0 (by decide)
      have e1 : xd[0]? = some d := HE.out.hd
      rw [List.getElem?_eq_getElem (by omega)] at e1
      rw [Option.some.inj e1] at e0
      simpa [intA] using e0
    have e1 : decide ((xd.length : Int) < 1) = false := decide_eq_false (by omega)
    have e1n : decide (xd.length < 1) = false := decide_eq_false (by omega)
    have e1e : ¬ xd = [] := fun e => by rw [e] at h1; simp at h1
    have e2 : IntKind.i64.wrap ((ps.length : Int) + 1) = (ps.length : Int) + 1 := IntWalk.i64_in _ (by omega)
    have e3 : decide ((ps.length : Int) + 1 < (xd.length : Int)) = false := decide_eq_false (by omega)
    have i0 : (0 : Int) < (xd.length : Int) := by omega
    go_upto_region 8 with (fail)
    clear e1 e1n e1e e2 e3 i0 c0 hc0
    have HT3 := Lib.hid T3
    have HD3 := Lib.hid D3
    have HB3 := Lib.hid bw3
    clear T3 D3 bw3 HX t0 t1 t2 t3 x0 x1 x2
    go_wp2_with fail
    go_loopw [11] (fun i wr => ∃ k : Nat, i = .int .i64 k ∧ k ≤ xd.length ∧ Below w3.heap.size w3 wr) (fun i _ => xd.length - (intOf i).toNat)
    case atStart => exact ⟨0, rfl, by omega, Below.refl _ _⟩
    case round =>
      obtain ⟨k, rfl, hk, hb⟩ := hrel
      by_cases hlt : k < xd.length
      · have i0 : (0 : Int) ≤ (k : Int) := by omega
        have i1 : (k : Int) < (xd.length : Int) := by omega
        obtain ⟨wo, rfl⟩ : ∃ wo, wo = wr := ⟨_, rfl⟩
        have HBo := Lib.hid hb
        clear hb
        have hbo := HBo.out
        have To := HT3.out.belows hbo
        have Do := HD3.out.belows hbo
        have t0 := (To.cell 0).trans rfl; have t1 := (To.cell 1).trans rfl
        have HCK : Hid (∀ m (hm : m < xd.length), wo.cell? ⟨g, o + m, none⟩ = some (.int .i64 xd[m])) := Lib.hid fun m hm => by
          obtain ⟨g', o', e, _, hc⟩ := (HZ.out.belows hbo).at m hm
          cases e
          have := hc 0 (by decide); simpa [intA] using this
        clear hbo
        go_wp2_with fail
        go_loopw [12] (fun j wr => ∃ m : Nat, j = .int .i64 m ∧ m ≤ k ∧ ∃ q, wr = wo.drewN q) (fun j _ => k - (intOf j).toNat)
        case atStart => exact ⟨0, rfl, by omega, 0, rfl⟩
        case round =>
          obtain ⟨m, rfl, hm, nd, rfl⟩ := hrel
          by_cases hmk : m < k
          · have ck := HCK.out k hlt
            have cm := HCK.out m (by omega)
            have htw := HE.out.twice k m hlt hmk
            dsimp only at htw
            have j0 : (0 : Int) ≤ (m : Int) := by omega
            have j1 : (m : Int) < (xd.length : Int) := by omega
            have j2 : (m : Int) < (k : Int) := by omega
            generalize xd[k] = y at ck htw
            generalize xd[m] = z at cm htw
            by_cases hyz : y = z
            · obtain ⟨hk1, hx4⟩ := htw hyz
              subst hyz
              subst hx4
              have e1 : IntKind.i64.wrap ((xd.length : Int) - 1) = (k : Int) := by rw [show (xd.length : Int) - 1 = (k : Int) by omega]; exact IntWalk.i64_in _ (by omega)
              clear htw hk1
              go_wp2_with fail
              go_quiet (fail)
              go_wp2
              go_roundw
              case rel => exact ⟨m + 1, by go_num, by omega, nd + nq, rfl⟩
              case measure => simp [intOf]; omega
            · have e1 : (y == z) = false := by simp [hyz]
              have e2 : decide (y = z) = false := by simp [hyz]
              clear htw hyz
              go_wp2_with fail
              go_quiet (fail)
              go_wp2
              go_roundw
              case rel => exact ⟨m + 1, by go_num, by omega, nd + nq, rfl⟩
              case measure => simp [intOf]; omega
          · have hmi : ¬ (m : Int) < (k : Int) := by omega
            by_cases hk0 : k = 0
            · subst hk0
              obtain rfl : m = 0 := by omega
              go_wp2
              go_roundw
              case rel => exact ⟨1, by go_num, by omega, bdrewN HBo.out _⟩
              case measure => simp [intOf]; omega
            · obtain ⟨i, rfl⟩ : ∃ i, k = i + 1 := ⟨k - 1, by omega⟩
              have hst := HE.out.step i hlt
              dsimp only at hst
              have cy := HCK.out i (by omega)
              have ck := HCK.out (i + 1) hlt
              obtain ⟨y, hy⟩ : ∃ y, y = xd[i] := ⟨_, rfl⟩
              obtain ⟨yk, hyk⟩ : ∃ yk, yk = xd[i + 1] := ⟨_, rfl⟩
              rw [← hy] at cy hst
              rw [← hyk] at ck hst
              clear hy hyk
              obtain ⟨hyd, hs4, q, hqn, hqd⟩ := hst
              obtain ⟨st, hst⟩ : ∃ st, st = stepN ls L y a := ⟨_, rfl⟩
              rw [← hst] at hs4 hqn
              have KS : Hid (∀ u, Below w.heap.size w u → Calls Try.prog 13 #[.agg #[.slice A1 ps.length c1, .slice A2 ls.length c2, .slice A3 L.length c3], .int .i64 y, .int .u32 a] u fun e w' => e = .returned (stepV st) ∧ Below u.heap.size u w') := Lib.hid fun u hu => by rw [hst]; exact O.step ps ls L y a u HR.out HW.out hyd HA.out (HN.out u hu)
              obtain ⟨sf, ⟨pd, pp⟩⟩ := st
              dsimp only at hs4 hqn
              subst hs4
              rw [show stepV ((4 : Int), (⟨pd, pp⟩ : Pt)) = .tuple #[.int .i64 4, .agg #[.int .i64 pd, .int .i64 pp]] from rfl] at KS
              have KN : Hid (∀ u, Below w.heap.size w u → Calls Try.prog 18 #[.agg #[.slice A1 ps.length c1, .slice A2 ls.length c2], .agg #[.int .i64 pd, .int .i64 pp]] u fun e w' => e = .returned (.tuple #[.agg #[.int .i64 q.d, .int .i64 q.p], .bool true]) ∧ Below u.heap.size u w') := Lib.hid fun u hu => by
                have := rnext_any ps ls ⟨pd, pp⟩ u (HN.out u hu).1
                rw [hqn] at this; exact this
              obtain ⟨qd, qp⟩ := q
              dsimp only at hqd KN
              subst hqd
              have e1 : IntKind.i64.wrap ((i : Int) + 1 - 1) = (i : Int) := by rw [show (i : Int) + 1 - 1 = (i : Int) by omega]; exact IntWalk.i64_in _ (by omega)
              have e1b : IntKind.i64.wrap (i : Int) = (i : Int) := IntWalk.i64_in _ (by omega)
              have i2 : (0 : Int) ≤ (i : Int) := by omega
              have i3 : (i : Int) < (xd.length : Int) := by omega
              have ie0 : ((i : Int) + 1 == 0) = false := by rw [beq_eq_false_iff_ne]; omega
              have ie1 : decide ((i : Int) + 1 = 0) = false := decide_eq_false (by omega)
              clear hst hqn hyd
              go_upto_region 17 with (fail)
              obtain ⟨wq, hwq⟩ : ∃ wq, wq = wo.drewN nd := ⟨_, rfl⟩
              have Tq : At wq TB #[.slice (some ⟨g, o, none⟩) xd.length ct, .int .i64 xf, .int .i64 xo, .int .i64 xp] 36 := by rw [hwq]; exact To
              have Dq : At wq w.heap.size #[.slice A1 ps.length c1, .slice A2 ls.length c2, .slice A3 L.length c3] 28 := by rw [hwq]; exact Do
              have bq : Below w3.heap.size w3 wq := by rw [hwq]; exact bdrewN HBo.out _
              have cyq : wq.cell? ⟨g, o + i, none⟩ = some (.int .i64 y) := by rw [hwq]; exact cy
              have ckq : wq.cell? ⟨g, o + (i + 1), none⟩ = some (.int .i64 qd) := by rw [hwq]; exact ck
              have hgq : g < wq.heap.size := Nat.lt_of_lt_of_le hg bq.size
              have HBW := Lib.hid (HB3.out.trans (bq.mono HB3.out.size))
              rw [← hwq]
              have SZ : Hid (∀ u, Below wq.heap.size wq u → u.cell? ⟨w.heap.size, 0, none⟩ = some (.slice A1 ps.length c1) ∧ u.cell? ⟨w.heap.size, 1, none⟩ = some (.slice A2 ls.length c2) ∧ u.cell? ⟨w.heap.size, 2, none⟩ = some (.slice A3 L.length c3) ∧ u.cell? ⟨TB, 0, none⟩ = some (.slice (some ⟨g, o, none⟩) xd.length ct) ∧ u.cell? ⟨g, o + i, none⟩ = some (.int .i64 y)) := Lib.hid fun u hu =>
                ⟨((Dq.belows hu).cell 0).trans rfl, ((Dq.belows hu).cell 1).trans rfl, ((Dq.belows hu).cell 2).trans rfl, ((Tq.belows hu).cell 0).trans rfl, (hu.cell (p := ⟨g, _, none⟩) hgq).trans cyq⟩
              have HTq := Lib.hid Tq
              have HDq := Lib.hid Dq
              have HBq := Lib.hid bq
              have HCq := Lib.hid ckq
              clear hwq Tq Dq bq cyq ckq To Do t0 t1 cy ck ie0 ie1
              go_cut [13, 14] (fun f p wc => f = .int .i64 4 ∧ ∃ PB : Nat, p = .pointer (some ⟨PB, 0, none⟩) ∧ Hid (SOut pd pp wq PB wc))
              case first =>
                go_region_held3 (fun W => W.cell? ⟨w.heap.size, 0, none⟩ = some (.slice A1 ps.length c1) ∧ W.cell? ⟨w.heap.size, 1, none⟩ = some (.slice A2 ls.length c2) ∧ W.cell? ⟨w.heap.size, 2, none⟩ = some (.slice A3 L.length c3) ∧ W.cell? ⟨TB, 0, none⟩ = some (.slice (some ⟨g, o, none⟩) xd.length ct) ∧ W.cell? ⟨g, o + i, none⟩ = some (.int .i64 y))
                  (first | with_reducible exact SZ.out _ b5w | with_reducible exact SZ.out _ (b5w.alloc b5w.size _) | with_reducible exact SZ.out _ ((b5w.setCell (p := ⟨wq.heap.size, 0, none⟩) (Nat.le_refl _) _).setCell (p := ⟨wq.heap.size, 1, none⟩) (Nat.le_refl _) _) | with_reducible exact SZ.out _ ((Below.refl _ wq).alloc (Nat.le_refl _) _).drew | with_reducible exact SZ.out _ (Below.refl _ wq).drew)
                  ((go_at_call 13; refine (KS.out _ (by first | with_reducible exact (HBW.out.alloc HBW.out.size _).drew | with_reducible exact HBW.out.drew)).mono ?_; rintro e w5 ⟨rfl, b5⟩; have b5w : Below wq.heap.size wq w5 := (by first | exact Below.trans (((Below.refl _ wq).alloc (Nat.le_refl _) _).drew) (b5.mono (by simp)) | exact (bdrewN (Below.refl _ _) 1).trans b5); first | (have U5 : At w5 wq.heap.size #[.int .i64 0, .int .i64 0] 34 := (show At (wq.alloc (.cells #[.int .i64 0, .int .i64 0] 34)).drew wq.heap.size #[.int .i64 0, .int .i64 0] 34 from At.new wq _ _).belows b5; have y0 := (U5.cell 0).trans rfl; have y1 := (U5.cell 1).trans rfl; have f0 := U5.frozen 0; have f1 := U5.frozen 1) | skip))
                all_goals (go_wp2_with fail; go_meet)
                · exact ⟨rfl, w5.heap.size, rfl, Lib.hid ⟨At.new w5 _ _, b5w.alloc b5w.size _⟩⟩
                · exact ⟨rfl, wq.heap.size, rfl, Lib.hid ⟨(U5.set0 0 _).set0 1 _, (b5w.setCell (p := ⟨wq.heap.size, 0, none⟩) (Nat.le_refl _) _).setCell (p := ⟨wq.heap.size, 1, none⟩) (Nat.le_refl _) _⟩⟩
              case rest =>
                obtain ⟨rfl, PB, rfl, HU⟩ := hcut
                obtain ⟨P6, b6⟩ := HU.out
                clear HU SZ KS
                have D6 := HDq.out.belows b6
                have bw6 := HBW.out.trans (b6.mono HBW.out.size)
                have kn := KN.out wc bw6
                have d0 := (D6.cell 0).trans rfl; have d1 := (D6.cell 1).trans rfl
                have p0 := (P6.cell 0).trans rfl; have p1 := (P6.cell 1).trans rfl
                go_upto_region 19 with (go_at_call 18; refine kn.mono ?_; rintro e w7 ⟨rfl, b7⟩)
                obtain ⟨w8, hw8⟩ : ∃ w8, w8 = w7.alloc (.cells #[.int .i64 qd, .int .i64 qp] 34) := ⟨_, rfl⟩
                have b8 : Below w7.heap.size w7 w8 := by rw [hw8]; exact (Below.refl _ _).alloc (Nat.le_refl _) _
                have Q8 : At w8 w7.heap.size #[.int .i64 qd, .int .i64 qp] 34 := by rw [hw8]; exact At.new w7 _ _
                rw [← hw8]
                clear hw8 d0 d1 p0 p1 kn
                obtain ⟨QB, hQB⟩ : ∃ QB, QB = w7.heap.size := ⟨_, rfl⟩
                rw [← hQB] at Q8 ⊢
                clear hQB
                have b68 := b6.trans ((b7.trans (b8.mono b7.size)).mono b6.size)
                have T8 := HTq.out.belows b68
                have c8 : w8.cell? ⟨g, o + (i + 1), none⟩ = some (.int .i64 qd) := (b68.cell (p := ⟨g, _, none⟩) hgq).trans HCq.out
                have hb8 := HBq.out.trans (b68.mono HBq.out.size)
                have t0 := (T8.cell 0).trans rfl
                have q0 := (Q8.cell 0).trans rfl
                have i4 : (0 : Int) ≤ (i : Int) + 1 := by omega
                have i5 : (i : Int) + 1 < (xd.length : Int) := by omega
                clear P6 D6 b6 b7 b8 bw6 HTq HDq HBq HCq KN
                go_wp2_with fail
                go_quiet (fail)
                go_wp2
                go_roundw
                case rel => exact ⟨i + 1 + 1, by go_num, by omega, bdrewN hb8 _⟩
                case measure => simp [intOf]; omega
      · have hki : ¬ (k : Int) < (xd.length : Int) := by omega
        obtain rfl : k = xd.length := by omega
        have bwr := HB3.out.trans (hb.mono HB3.out.size)
        have To := HT3.out.belows hb
        have Do := HD3.out.belows hb
        have zr := HZ.out.belows hb
        obtain ⟨n, hn⟩ : ∃ n, n = xd.length - 1 := ⟨_, rfl⟩
        have hnl : n < xd.length := by omega
        have hseen := HE.out.seen (by show xd.length - 1 < xd.length; omega)
        have hout3 := fun h3 => HE.out.out3 h3 (by show xd.length - 1 < xd.length; omega)
        have houtn := HE.out.outn
        dsimp only at hseen hout3 houtn
        simp only [← hn] at hseen hout3
        have cl : wr.cell? ⟨g, o + n, none⟩ = some (.int .i64 xd[n]) := by
          obtain ⟨g', o', e, _, hc⟩ := zr.at n hnl
          cases e
          have := hc 0 (by decide); simpa [intA] using this
        have HTK : Hid (IsF 1 intA wr (.slice (some ⟨g, o, none⟩) n ct) (xd.take n)) := Lib.hid ⟨_, ct, by simp; omega, by simp; omega, mt, zr.take⟩
        have e1 : IntKind.i64.wrap ((xd.length : Int) - 1) = (n : Int) := by rw [show (xd.length : Int) - 1 = (n : Int) by omega]; exact IntWalk.i64_in _ (by omega)
        have i2 : (0 : Int) ≤ (n : Int) := by omega
        have i3 : (n : Int) < (xd.length : Int) := by omega
        have hsl : ∀ u, (Instr.slice 22 (.slice (some ⟨g, o, none⟩) xd.length ct) none (some (.int .i64 (n : Int))) none).run Try.prog u = .ok (.slice (some ⟨g, o, none⟩) n ct) u := fun u => run_to Try.underlying22 (sizeInt u) _ xd.length ct n (by omega) (fun a ha => by cases ha; exact ⟨g, o, rfl⟩)
        generalize xd[n] = last at cl hseen hout3
        have kh := rhasI_any (xd.take n) last wr HTK.out
        rw [hseen] at kh
        have t0 := (To.cell 0).trans rfl; have t1 := (To.cell 1).trans rfl; have t2 := (To.cell 2).trans rfl; have t3 := (To.cell 3).trans rfl
        have d0 := (Do.cell 0).trans rfl; have d1 := (Do.cell 1).trans rfl
        have kn := rnext_any ps ls ⟨xo, xp⟩ wr (HN.out wr bwr).1
        rw [show nextV (nextT ls ⟨xo, xp⟩) = .tuple #[.agg #[.int .i64 ((nextT ls ⟨xo, xp⟩).getD ⟨0, 0⟩).d, .int .i64 ((nextT ls ⟨xo, xp⟩).getD ⟨0, 0⟩).p], .bool (nextT ls ⟨xo, xp⟩).isSome] from rfl, show ptA ⟨xo, xp⟩ = #[.int .i64 xo, .int .i64 xp] from rfl] at kn
        generalize ((nextT ls ⟨xo, xp⟩).getD ⟨0, 0⟩).d = qd at kn
        generalize ((nextT ls ⟨xo, xp⟩).getD ⟨0, 0⟩).p = qp at kn
        have HJ : Hid (xf = 3 → (nextT ls ⟨xo, xp⟩).isSome = false ∧ xo = last) := Lib.hid fun h3 => ⟨by rw [(hout3 h3).2]; rfl, (hout3 h3).1⟩
        have HO : Hid (xf ≠ 3 → xo = 0 ∧ xp = 0) := Lib.hid fun h3 => by have := houtn h3; injection this with h1 h2; exact ⟨h1, h2⟩
        generalize (nextT ls ⟨xo, xp⟩).isSome = qj at kn HJ
        have hq0 := eql_pt ⟨0, 0⟩ ⟨0, 0⟩
        rw [decide_eq_true (rfl : (⟨0, 0⟩ : Pt) = _)] at hq0
        unfold ptA at hq0
        dsimp only at hq0
        have HBR := Lib.hid bwr
        have HTo := Lib.hid To
        clear hb bwr zr hseen hout3 houtn To Do HTK hn hnl
        go_upto_region 24 with (first
          | (go_at_call 19; refine kh.mono ?_; rintro e w2 ⟨rfl, e2⟩; rw [e2]; clear e2 w2)
          | (go_at_call 18; refine kn.mono ?_; rintro e w7 ⟨rfl, b7⟩))
        have b8 : Below wr.heap.size wr (w7.alloc (.cells #[.int .i64 qd, .int .i64 qp] 34)) := b7.alloc b7.size _
        go_wp2_with fail
        refine (alive9_any O _).mono ?_
        rintro e w9 ⟨rfl, b9⟩
        have b89 := b8.trans (b9.mono b8.size)
        have T9 := HTo.out.belows b89
        have hb9 := HBR.out.trans (b89.mono HBR.out.size)
        clear t0 t1 t2 t3 d0 d1 cl kh kn hsl b7 b8 b9 b89 e1
        have t1 := (T9.cell 1).trans rfl; have t2 := (T9.cell 2).trans rfl; have t3 := (T9.cell 3).trans rfl
        by_cases h3 : xf = 3
        · obtain ⟨hj, ho⟩ := HJ.out h3
          have hq1 := eql_pt ⟨xo, xp⟩ ⟨0, 0⟩
          generalize decide ((⟨xo, xp⟩ : Pt) = ⟨0, 0⟩) = qz at hq1
          unfold ptA at hq1
          dsimp only at hq1
          subst h3 hj ho
          clear hq0 HO HJ
          go_wp2
          go_ret
          exact ⟨rfl, hb9⟩
        · obtain ⟨ho, hp⟩ := HO.out h3
          subst ho hp
          have e3 : (xf == 3) = false := by simp [h3]
          have e3b : decide (xf = 3) = false := by simp [h3]
          by_cases h4 : xf = 4
          · subst h4
            clear h3
            go_wp2
            go_ret
            exact ⟨rfl, hb9⟩
          · have e4 : (xf == 4) = false := by simp [h4]
            have e4b : decide (xf = 4) = false := by simp [h4]
            have e3c : (xf != 3) = true := by simp [h3]
            have e3d : (!decide (xf = 3)) = true := by simp [h3]
            clear HO HJ
            go_wp2
            go_ret
            exact ⟨rfl, hb9⟩
end Go.Proofs.Ytmndgbpfophniaa
