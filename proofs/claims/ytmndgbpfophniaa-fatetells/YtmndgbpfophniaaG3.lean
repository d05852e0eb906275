/- FateTells, over the program's calls. -/
import Derived.Test.YtmndgbpfophniaaGP
namespace Go.Proofs.Ytmndgbpfophniaa
open Go.RowKit Go.Shelf

set_option maxRecDepth 100000 in
set_option maxHeartbeats 4000000 in
theorem tells9_walk (O : Own9) {vp vl vr : Value} (ps : List Int) (ls : List Lk) (L : List Ru) (d : Int) (a : Nat) (w : World) (h : IsN w vp vl vr ps ls L) (hW : NW ps ls L) (hdi : isI d) (ha : a < 4294967296) :
    Calls Try.prog 3 #[.agg #[vp, vl, vr], .int .i64 d, .int .u32 a] w fun e w' => e = .returned (.bool true) ∧ Below w.heap.size w w' := by
  have HN : Hid (∀ u, Below w.heap.size w u → IsN u vp vl vr ps ls L) := Lib.hid fun u hu => h.belows hu
  have HW := Lib.hid hW
  have HD := Lib.hid hdi
  have HA := Lib.hid ha
  obtain ⟨⟨⟨A1, c1, rfl, n1, m1, _⟩, ⟨A2, c2, rfl, n2, m2, _⟩⟩, ⟨A3, c3, rfl, n3, m3, _⟩⟩ := h
  have hM1 : ps.length ≤ 9223372036854775807 := Nat.le_trans n1 m1
  have hM2 : ls.length ≤ 9223372036854775807 := Nat.le_trans n2 m2
  have hM3 : L.length ≤ 9223372036854775807 := Nat.le_trans n3 m3
  have D0 := At.new w #[.slice A1 ps.length c1, .slice A2 ls.length c2, .slice A3 L.length c3] 28
  have b0 : Below w.heap.size w (w.alloc (.cells #[.slice A1 ps.length c1, .slice A2 ls.length c2, .slice A3 L.length c3] 28)) := (Below.refl _ w).alloc (Nat.le_refl _) _
  clear hW hdi ha n1 n2 n3 m1 m2 m3
  go_enter Try.func3, Try.ntmps3
  go_upto_region 1 with (fail)
  obtain ⟨w0, hw0⟩ : ∃ w0, w0 = w.alloc (.cells #[.slice A1 ps.length c1, .slice A2 ls.length c2, .slice A3 L.length c3] 28) := ⟨_, rfl⟩
  rw [← hw0] at D0 b0 ⊢
  clear hw0
  have x0 := (D0.cell 0).trans rfl
  have x1 := (D0.cell 1).trans rfl
  have x2 := (D0.cell 2).trans rfl
  by_cases hps : 20 < ps.length
  · have e1 : decide ((20 : Int) < (ps.length : Int)) = true := decide_eq_true (by omega)
    go_wp2_with fail
    refine (alive9_any O _).mono ?_
    rintro e u ⟨rfl, bu⟩
    go_wp2
    go_ret
    exact ⟨rfl, b0.trans (bu.mono b0.size)⟩
  have e1 : decide ((20 : Int) < (ps.length : Int)) = false := decide_eq_false (by omega)
  by_cases hls : 40 < ls.length
  · have e2 : decide ((40 : Int) < (ls.length : Int)) = true := decide_eq_true (by omega)
    go_wp2_with fail
    refine (alive9_any O _).mono ?_
    rintro e u ⟨rfl, bu⟩
    go_wp2
    go_ret
    exact ⟨rfl, b0.trans (bu.mono b0.size)⟩
  have e2 : decide ((40 : Int) < (ls.length : Int)) = false := decide_eq_false (by omega)
  by_cases hL : 60 < L.length
  · have e3 : decide ((60 : Int) < (L.length : Int)) = true := decide_eq_true (by omega)
    go_wp2_with fail
    refine (alive9_any O _).mono ?_
    rintro e u ⟨rfl, bu⟩
    go_wp2
    go_ret
    exact ⟨rfl, b0.trans (bu.mono b0.size)⟩
  have e3 : decide ((60 : Int) < (L.length : Int)) = false := decide_eq_false (by omega)
  clear hps hls hL
  have k1 := rrightN_any ps ls L w0 HW.out (HN.out w0 b0)
  obtain ⟨q, hq⟩ : ∃ q, q = rightN ps ls L := ⟨_, rfl⟩
  rw [← hq] at k1
  go_wp2_with fail
  refine k1.mono ?_
  rintro e w1 ⟨rfl, b1⟩
  have bw1 := b0.trans (b1.mono b0.size)
  have D1 := D0.belows b1
  have k2 := O.right ps ls L w1 HW.out (HN.out w1 bw1)
  rw [← hq] at k2
  have HQ := Lib.hid hq
  clear hq k1 x0 x1 x2 b1 e1 e2 e3 hM2 hM3
  have x0 := (D1.cell 0).trans rfl
  have x1 := (D1.cell 1).trans rfl
  have x2 := (D1.cell 2).trans rfl
  cases q with
  | false =>
    go_wp2_with fail
    refine k2.mono ?_
    rintro e w2 ⟨rfl, b2⟩
    have bw2 := bw1.trans (b2.mono bw1.size)
    go_wp2_with fail
    refine (alive9_any O _).mono ?_
    rintro e u ⟨rfl, bu⟩
    go_wp2
    go_ret
    exact ⟨rfl, bw2.trans (bu.mono bw2.size)⟩
  | true =>
    have HR := Lib.hid ((rightN_iff ps ls L).1 HQ.out.symm)
    go_wp2_with fail
    refine k2.mono ?_
    rintro e w2 ⟨rfl, b2⟩
    have bw2 := bw1.trans (b2.mono bw1.size)
    have D2 := D1.belows b2
    have k3 := O.trace ps ls L d a w2 HR.out HW.out HD.out HA.out (HN.out w2 bw2)
    clear x0 x1 x2 k2 b2
    have x0 := (D2.cell 0).trans rfl
    have x1 := (D2.cell 1).trans rfl
    have x2 := (D2.cell 2).trans rfl
    by_cases hin : inD ps d
    · have k3' : Calls Try.prog 10 #[.agg #[.slice A1 ps.length c1, .slice A2 ls.length c2, .slice A3 L.length c3], .int .i64 d, .int .u32 a] w2 (TrOut (trcN ps ls L a d) w2) := k3.mono fun e w' h => h.elim (·.2) fun h => absurd hin h.1
      have HTW := Lib.hid (trcN_w (L := L) (a := a) HR.out.topo HW.out hin)
      have HG := Lib.hid (genT_self (L := L) (a := a) HR.out.topo hin)
      have HIN := Lib.hid hin
      obtain ⟨x, hx⟩ : ∃ x, x = trcN ps ls L a d := ⟨_, rfl⟩
      rw [← hx] at k3' HTW HG
      have HX := Lib.hid hx
      clear k3 hin hx
      go_wp2_with fail
      refine k3'.mono ?_
      rintro e w3 ⟨vt, rfl, hvt, _, b3⟩
      have HVT := Lib.hid hvt
      have bw3 := bw2.trans (b3.mono bw2.size)
      have D3 := D2.belows b3
      obtain ⟨At', ct, rfl, _⟩ := hvt
      have bt : Below w3.heap.size w3 (w3.alloc (.cells #[.slice At' x.ds.length ct, .int .i64 x.ft, .int .i64 x.out.d, .int .i64 x.out.p] 36)) := (Below.refl _ w3).alloc (Nat.le_refl _) _
      have T3 := At.new w3 #[.slice At' x.ds.length ct, .int .i64 x.ft, .int .i64 x.out.d, .int .i64 x.out.p] 36
      have D3a := D3.belows bt
      have bw3a := bw3.trans (bt.mono bw3.size)
      have HVT2 := Lib.hid (HVT.out.belows bt)
      have k4 := rtrace_any ps ls L d a _ HR.out (HN.out _ bw3a)
      have k4' : Calls Try.prog 11 #[.agg #[.slice A1 ps.length c1, .slice A2 ls.length c2, .slice A3 L.length c3], .int .i64 d, .int .u32 a] (w3.alloc (.cells #[.slice At' x.ds.length ct, .int .i64 x.ft, .int .i64 x.out.d, .int .i64 x.out.p] 36)) (TrOut x _) := k4.mono fun e w' h => by rw [HX.out]; exact h.elim (·.2) fun h => absurd HIN.out h.1
      obtain ⟨xd, xf, ⟨xod, xop⟩⟩ := x
      unfold tcV
      dsimp only at T3 bt D3a bw3a HVT2 k4' ⊢
      clear k4 k3' x0 x1 x2 HVT
      have x0 := (D3.cell 0).trans rfl
      have x1 := (D3.cell 1).trans rfl
      have x2 := (D3.cell 2).trans rfl
      have hs3 := D3.lt
      go_wp2_with fail
      refine k4'.mono ?_
      unfold TrOut tcV
      dsimp only
      rintro e w4 ⟨vu, rfl, hvu, _, b4⟩
      have HVU := Lib.hid hvu
      have bw4 := bw3a.trans (b4.mono bw3a.size)
      have D4 := D3a.belows b4
      have T4 := T3.belows b4
      obtain ⟨Au, cu, rfl, _⟩ := hvu
      dsimp only at HVU ⊢
      have U4 := At.new w4 #[.slice Au xd.length cu, .int .i64 xf, .int .i64 xod, .int .i64 xop] 36
      have bu : Below w4.heap.size w4 (w4.alloc (.cells #[.slice Au xd.length cu, .int .i64 xf, .int .i64 xod, .int .i64 xop] 36)) := (Below.refl _ w4).alloc (Nat.le_refl _) _
      have HV1 := Lib.hid ((HVT2.out.belows b4).belows bu)
      have HV2 := Lib.hid (HVU.out.belows bu)
      have k5 := rsameC_any ⟨xd, xf, ⟨xod, xop⟩⟩ ⟨xd, xf, ⟨xod, xop⟩⟩ _ HV1.out HV2.out
      rw [decide_eq_true (rfl : (⟨xd, xf, ⟨xod, xop⟩⟩ : Tc) = _)] at k5
      unfold tcV at k5
      dsimp only at k5
      have bw4a := bw4.trans (bu.mono bw4.size)
      obtain ⟨w4a, hw4a⟩ : ∃ u, u = w4.alloc (.cells #[.slice Au xd.length cu, .int .i64 xf, .int .i64 xod, .int .i64 xop] 36) := ⟨_, rfl⟩
      have D4a := D4.belows bu
      have T4a := T4.belows bu
      rw [← hw4a] at U4 HV1 HV2 k5 bw4a D4a T4a
      clear HVT2 HVU k4' T3 bt D3a x0 x1 x2 bu D4
      go_upto_region 10 with (fail)
      rw [← hw4a]
      clear hw4a
      have t0 := (T4a.cell 0).trans rfl; have t1 := (T4a.cell 1).trans rfl; have t2 := (T4a.cell 2).trans rfl; have t3 := (T4a.cell 3).trans rfl
      have u0 := (U4.cell 0).trans rfl; have u1 := (U4.cell 1).trans rfl; have u2 := (U4.cell 2).trans rfl; have u3 := (U4.cell 3).trans rfl
      go_wp2_with fail
      refine k5.mono ?_
      rintro e w5 ⟨rfl, b5⟩
      have bw5 := bw4a.trans (b5.mono bw4a.size)
      have D5 := D4a.belows b5
      have T5 := T4a.belows b5
      have U5 := U4.belows b5
      have HV1' := Lib.hid (HV1.out.belows b5)
      have HV2' := Lib.hid (HV2.out.belows b5)
      have k6 := O.step ps ls L d a w5 HR.out HW.out HIN.out HA.out (HN.out w5 bw5)
      obtain ⟨st, hst⟩ : ∃ st, st = stepN ls L d a := ⟨_, rfl⟩
      rw [← hst] at k6
      have HST := Lib.hid hst
      obtain ⟨sf, ⟨sd, sp⟩⟩ := st
      rw [show stepV (sf, ⟨sd, sp⟩) = .tuple #[.int .i64 sf, .agg #[.int .i64 sd, .int .i64 sp]] from rfl] at k6
      clear hst HV1 HV2 k5 D4a T4a U4 t0 t1 t2 t3 u0 u1 u2 u3 b5
      have x0 := (D5.cell 0).trans rfl; have x1 := (D5.cell 1).trans rfl; have x2 := (D5.cell 2).trans rfl
      go_wp2_with fail
      refine k6.mono ?_
      rintro e w6 ⟨rfl, b6⟩
      have bp : Below w6.heap.size w6 (w6.alloc (.cells #[.int .i64 sd, .int .i64 sp] 34)) := (Below.refl _ w6).alloc (Nat.le_refl _) _
      have bs6 := b6.trans (bp.mono b6.size)
      have P6 := At.new w6 #[.int .i64 sd, .int .i64 sp] 34
      have bw6 := bw5.trans (bs6.mono bw5.size)
      have D6 := D5.belows bs6
      have T6 := T5.belows bs6
      have U6 := U5.belows bs6
      have HV1 := Lib.hid (HV1'.out.belows bs6)
      have HV2 := Lib.hid (HV2'.out.belows bs6)
      have k7 := rstep_any ps ls L d a _ HR.out.rules (HN.out _ bw6)
      rw [← HST.out, show stepV (sf, ⟨sd, sp⟩) = .tuple #[.int .i64 sf, .agg #[.int .i64 sd, .int .i64 sp]] from rfl] at k7
      obtain ⟨w6a, hw6a⟩ : ∃ u, u = w6.alloc (.cells #[.int .i64 sd, .int .i64 sp] 34) := ⟨_, rfl⟩
      rw [← hw6a] at P6 bw6 D6 T6 U6 HV1 HV2 k7
      clear HV1' HV2' k6 D5 T5 U5 x0 x1 x2 b6 bp bs6
      go_upto_region 14 with (fail)
      rw [← hw6a]
      clear hw6a
      have x0 := (D6.cell 0).trans rfl; have x1 := (D6.cell 1).trans rfl; have x2 := (D6.cell 2).trans rfl
      go_wp2_with fail
      refine k7.mono ?_
      rintro e w7 ⟨rfl, b7⟩
      have bp : Below w7.heap.size w7 (w7.alloc (.cells #[.int .i64 sd, .int .i64 sp] 34)) := (Below.refl _ w7).alloc (Nat.le_refl _) _
      have bs7 := b7.trans (bp.mono b7.size)
      have Q7 := At.new w7 #[.int .i64 sd, .int .i64 sp] 34
      have bw7 := bw6.trans (bs7.mono bw6.size)
      have D7 := D6.belows bs7
      have T7 := T6.belows bs7
      have U7 := U6.belows bs7
      have P7 := P6.belows bs7
      have HV1' := Lib.hid (HV1.out.belows bs7)
      have HV2' := Lib.hid (HV2.out.belows bs7)
      clear HV1 HV2 k7 D6 T6 U6 P6 x0 x1 x2 b7 bp bs7
      go_wp2_with fail
      refine (alive9_any O _).mono ?_
      rintro e w8 ⟨rfl, b8⟩
      have bw8 := bw7.trans (b8.mono bw7.size)
      have D8 := D7.belows b8
      have T8 := T7.belows b8
      have U8 := U7.belows b8
      have P8 := P7.belows b8
      have Q8 := Q7.belows b8
      have HV1 := Lib.hid (HV1'.out.belows b8)
      have HV2 := Lib.hid (HV2'.out.belows b8)
      have k9 := O.genuine ps ls L a ⟨xd, xf, ⟨xod, xop⟩⟩ w8 HR.out HW.out HA.out HTW.out (HN.out w8 bw8) HV1.out
      rw [HG.out] at k9
      unfold tcV at k9
      dsimp only at k9
      have hq := eql_pt ⟨sd, sp⟩ ⟨sd, sp⟩
      rw [decide_eq_true (rfl : (⟨sd, sp⟩ : Pt) = _)] at hq
      unfold ptA at hq
      dsimp only at hq
      clear HV1' HV2' D7 T7 U7 P7 Q7 b8
      have x0 := (D8.cell 0).trans rfl; have x1 := (D8.cell 1).trans rfl; have x2 := (D8.cell 2).trans rfl
      have t0 := (T8.cell 0).trans rfl; have t1 := (T8.cell 1).trans rfl; have t2 := (T8.cell 2).trans rfl; have t3 := (T8.cell 3).trans rfl
      have p0 := (P8.cell 0).trans rfl; have p1 := (P8.cell 1).trans rfl
      have q0 := (Q8.cell 0).trans rfl; have q1 := (Q8.cell 1).trans rfl
      go_wp2_with fail
      refine k9.mono ?_
      rintro e w9 ⟨rfl, b9⟩
      have bw9 := bw8.trans (b9.mono bw8.size)
      have T9 := T8.belows b9
      have U9 := U8.belows b9
      have k10 := O.same ⟨xd, xf, ⟨xod, xop⟩⟩ ⟨xd, xf, ⟨xod, xop⟩⟩ w9 HTW.out HTW.out (HV1.out.belows b9) (HV2.out.belows b9)
      rw [decide_eq_true (rfl : (⟨xd, xf, ⟨xod, xop⟩⟩ : Tc) = _)] at k10
      unfold tcV at k10
      dsimp only at k10
      clear x0 x1 x2 t0 t1 t2 t3 p0 p1 q0 q1 k9 hq T8 U8 P8 Q8 D8 HV1 HV2 b9
      have t0 := (T9.cell 0).trans rfl; have t1 := (T9.cell 1).trans rfl; have t2 := (T9.cell 2).trans rfl; have t3 := (T9.cell 3).trans rfl
      have u0 := (U9.cell 0).trans rfl; have u1 := (U9.cell 1).trans rfl; have u2 := (U9.cell 2).trans rfl; have u3 := (U9.cell 3).trans rfl
      go_wp2_with fail
      refine k10.mono ?_
      rintro e w10 ⟨rfl, b10⟩
      go_wp2
      go_ret
      exact ⟨rfl, bw9.trans (b10.mono bw9.size)⟩
    · have k3' : Calls Try.prog 10 #[.agg #[.slice A1 ps.length c1, .slice A2 ls.length c2, .slice A3 L.length c3], .int .i64 d, .int .u32 a] w2 (TrNo w2) := k3.mono fun e w' h => h.elim (fun h => absurd h.1 hin) (·.2)
      have HNI := Lib.hid hin
      clear k3 hin
      go_wp2_with fail
      refine k3'.mono ?_
      rintro e w3 ⟨At', ct, hct, rfl, b3⟩
      have bw3 := bw2.trans (b3.mono bw2.size)
      have D3 := D2.belows b3
      have bt : Below w3.heap.size w3 (w3.alloc (.cells #[.slice At' 0 ct, .int .i64 0, .int .i64 0, .int .i64 0] 36)) := (Below.refl _ w3).alloc (Nat.le_refl _) _
      have T3 := At.new w3 #[.slice At' 0 ct, .int .i64 0, .int .i64 0, .int .i64 0] 36
      have D3a := D3.belows bt
      have bw3a := bw3.trans (bt.mono bw3.size)
      have k4 := rtrace_any ps ls L d a _ HR.out (HN.out _ bw3a)
      have k4' : Calls Try.prog 11 #[.agg #[.slice A1 ps.length c1, .slice A2 ls.length c2, .slice A3 L.length c3], .int .i64 d, .int .u32 a] (w3.alloc (.cells #[.slice At' 0 ct, .int .i64 0, .int .i64 0, .int .i64 0] 36)) (fun e w' => e = .returned trNo ∧ Below _ _ w') := k4.mono fun e w' h => h.elim (fun h => absurd h.1 HNI.out) (·.2)
      obtain ⟨w3a, hw3a⟩ : ∃ u, u = w3.alloc (.cells #[.slice At' 0 ct, .int .i64 0, .int .i64 0, .int .i64 0] 36) := ⟨_, rfl⟩
      rw [← hw3a] at T3 D3a bw3a k4'
      clear k4 k3' x0 x1 x2 bt D3
      go_upto_region 9 with (fail)
      rw [← hw3a]
      clear hw3a
      have x0 := (D3a.cell 0).trans rfl; have x1 := (D3a.cell 1).trans rfl; have x2 := (D3a.cell 2).trans rfl
      go_wp2_with fail
      refine k4'.mono ?_
      unfold trNo
      rintro e w4 ⟨rfl, b4⟩
      have bu : Below w4.heap.size w4 (w4.alloc (.cells #[.slice none 0 0, .int .i64 0, .int .i64 0, .int .i64 0] 36)) := (Below.refl _ w4).alloc (Nat.le_refl _) _
      have bs4 := b4.trans (bu.mono b4.size)
      have U4 := At.new w4 #[.slice none 0 0, .int .i64 0, .int .i64 0, .int .i64 0] 36
      have T4 := T3.belows bs4
      have bw4 := bw3a.trans (bs4.mono bw3a.size)
      have k5 := rsameC_any (v1 := .slice At' 0 ct) (v2 := .slice none 0 0) ⟨[], 0, ⟨0, 0⟩⟩ ⟨[], 0, ⟨0, 0⟩⟩ (w4.alloc (.cells #[.slice none 0 0, .int .i64 0, .int .i64 0, .int .i64 0] 36)) ⟨_, _, rfl, Nat.zero_le _, hct, Fs.nil _ _⟩ ⟨_, _, rfl, Nat.zero_le _, by simp, Fs.nil _ _⟩
      rw [decide_eq_true (rfl : (⟨[], 0, ⟨0, 0⟩⟩ : Tc) = _)] at k5
      unfold tcV at k5
      dsimp only at k5
      obtain ⟨w4a, hw4a⟩ : ∃ u, u = w4.alloc (.cells #[.slice none 0 0, .int .i64 0, .int .i64 0, .int .i64 0] 36) := ⟨_, rfl⟩
      rw [← hw4a] at U4 T4 bw4 k5
      clear x0 x1 x2 k4' T3 D3a bu bs4 b4
      go_upto_region 10 with (fail)
      rw [← hw4a]
      clear hw4a
      have t0 := (T4.cell 0).trans rfl; have t1 := (T4.cell 1).trans rfl; have t2 := (T4.cell 2).trans rfl; have t3 := (T4.cell 3).trans rfl
      have u0 := (U4.cell 0).trans rfl; have u1 := (U4.cell 1).trans rfl; have u2 := (U4.cell 2).trans rfl; have u3 := (U4.cell 3).trans rfl
      go_wp2_with fail
      refine k5.mono ?_
      rintro e w5 ⟨rfl, b5⟩
      have bw5 := bw4.trans (b5.mono bw4.size)
      go_wp2_with fail
      refine (alive9_any O _).mono ?_
      rintro e w6 ⟨rfl, b6⟩
      go_wp2
      go_ret
      exact ⟨rfl, bw5.trans (b6.mono bw5.size)⟩
end Go.Proofs.Ytmndgbpfophniaa
