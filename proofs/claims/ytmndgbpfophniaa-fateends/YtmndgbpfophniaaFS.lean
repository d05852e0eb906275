/- Contracts: the program's Right, Step, Same. -/
import Derived.Test.YtmndgbpfophniaaF9
import Derived.Test.YtmndgbpfophniaaF5
import Derived.Test.YtmndgbpfophniaaF6
import Derived.Test.YtmndgbpfophniaaM2
import Derived.Test.YtmndgbpfophniaaM5
import Derived.Test.YtmndgbpfophniaaN2
import Derived.Test.YtmndgbpfophniaaN3
namespace Go.Proofs.Ytmndgbpfophniaa
open Go.RowKit Go.Shelf

set_option maxRecDepth 100000 in
set_option maxHeartbeats 1000000 in
/-- Right, of any network. -/
theorem fright_any {vp vl vr : Value} (ps : List Int) (ls : List Lk) (L : List Ru) (w : World) (hW : NW ps ls L) (h : IsN w vp vl vr ps ls L) : Calls Try.prog 9 #[.agg #[vp, vl, vr]] w fun e w' => e = .returned (.bool (rightN ps ls L)) ∧ Below w.heap.size w w' := by
  have HN : Hid (∀ u, Below w.heap.size w u → IsN u vp vl vr ps ls L) := Lib.hid fun u hu => h.belows hu
  have HW := Lib.hid hW
  obtain ⟨⟨⟨A1, c1, rfl, _⟩, ⟨A2, c2, rfl, _⟩⟩, ⟨A3, c3, rfl, _⟩⟩ := h
  have D0 := At.new w #[.slice A1 ps.length c1, .slice A2 ls.length c2, .slice A3 L.length c3] 28
  have b0 : Below w.heap.size w (w.alloc (.cells #[.slice A1 ps.length c1, .slice A2 ls.length c2, .slice A3 L.length c3] 28)) := (Below.refl _ w).alloc (Nat.le_refl _) _
  obtain ⟨V, hV⟩ : ∃ V, V = rightN ps ls L := ⟨_, rfl⟩
  rw [← hV]
  have HV := Lib.hid hV
  clear hV hW
  go_enter Try.func9, Try.ntmps9
  go_upto_region 1 with (fail)
  obtain ⟨w0, hw0⟩ : ∃ w0, w0 = w.alloc (.cells #[.slice A1 ps.length c1, .slice A2 ls.length c2, .slice A3 L.length c3] 28) := ⟨_, rfl⟩
  rw [← hw0] at D0 b0 ⊢
  clear hw0
  have k1 := right_any ps ls w0 HW.out.topo (HN.out w0 b0).1
  have x0 := (D0.cell 0).trans rfl
  have x1 := (D0.cell 1).trans rfl
  cases h1 : rightT ps ls with
  | false =>
    have HF : Hid (V = false) := Lib.hid (by rw [HV.out, rightN, h1]; rfl)
    rw [h1] at k1
    clear h1
    go_wp2_with fail
    refine k1.mono ?_
    rintro e w1 ⟨rfl, b1⟩
    go_wp2
    go_ret
    exact ⟨by first | (rw [HF.out]; done) | (rw [HF.out]; rfl), b0.trans (b1.mono b0.size)⟩
  | true =>
    have HR := Lib.hid ((rightT_iff _ _).1 h1)
    rw [h1] at k1
    go_wp2_with fail
    refine k1.mono ?_
    rintro e w1 ⟨rfl, b1⟩
    have bw1 := b0.trans (b1.mono b0.size)
    have D1 := D0.belows b1
    have k2 := all_any L w1 (HN.out w1 bw1).2
    clear x0 x1 k1
    have x2 := (D1.cell 2).trans rfl
    cases h2 : allB L with
    | false =>
      have HF : Hid (V = false) := Lib.hid (by rw [HV.out, rightN, h1, h2]; rfl)
      rw [h2] at k2
      clear h1 h2
      go_wp2_with fail
      refine k2.mono ?_
      rintro e w2 ⟨rfl, b2⟩
      go_wp2
      go_ret
      exact ⟨by first | (rw [HF.out]; done) | (rw [HF.out]; rfl), bw1.trans (b2.mono bw1.size)⟩
    | true =>
      have HF : Hid (V = fitsT ps L) := Lib.hid (by rw [HV.out, rightN, h1, h2]; rfl)
      have HA := Lib.hid h2
      rw [h2] at k2
      clear h1 h2
      go_wp2_with fail
      refine k2.mono ?_
      rintro e w2 ⟨rfl, b2⟩
      have bw2 := bw1.trans (b2.mono bw1.size)
      have D2 := D1.belows b2
      clear x2 k2
      have x0 := (D2.cell 0).trans rfl
      have x1 := (D2.cell 1).trans rfl
      have x2 := (D2.cell 2).trans rfl
      have k3 := fits_any ps ls L w2 HR.out HA.out (HN.out w2 bw2).1 (HN.out w2 bw2).2
      go_wp2_with fail
      refine k3.mono ?_
      rintro e w3 ⟨rfl, b3⟩
      go_wp2
      go_ret
      exact ⟨by first | (rw [HF.out]; done) | (rw [HF.out]; rfl), bw2.trans (b3.mono bw2.size)⟩
set_option maxRecDepth 100000 in
set_option maxHeartbeats 2000000 in
/-- Step, of any network. -/
theorem fstep_any {vp vl vr : Value} (ps : List Int) (ls : List Lk) (L : List Ru) (d : Int) (a : Nat) (w : World) (h : IsN w vp vl vr ps ls L) : Calls Try.prog 13 #[.agg #[vp, vl, vr], .int .i64 d, .int .u32 a] w fun e w' => e = .returned (stepV (stepN ls L d a)) ∧ Below w.heap.size w w' := by
  have HN : Hid (∀ u, Below w.heap.size w u → IsN u vp vl vr ps ls L) := Lib.hid fun u hu => h.belows hu
  obtain ⟨⟨⟨A1, c1, rfl, _⟩, ⟨A2, c2, rfl, _⟩⟩, ⟨A3, c3, rfl, _⟩⟩ := h
  have D0 := (At.new w #[.slice A1 ps.length c1, .slice A2 ls.length c2, .slice A3 L.length c3] 28).alloc (.cells #[.int .i64 0, .int .i64 0] 34)
  have R0 := At.new1 w (.cells #[.slice A1 ps.length c1, .slice A2 ls.length c2, .slice A3 L.length c3] 28) #[.int .i64 0, .int .i64 0] 34
  have b0 : Below w.heap.size w ((w.alloc (.cells #[.slice A1 ps.length c1, .slice A2 ls.length c2, .slice A3 L.length c3] 28)).alloc (.cells #[.int .i64 0, .int .i64 0] 34)) := ((Below.refl _ w).alloc (Nat.le_refl _) _).alloc (by simp) _
  obtain ⟨V, hV⟩ : ∃ V, V = stepN ls L d a := ⟨_, rfl⟩
  rw [← hV]
  have HV := Lib.hid hV
  clear hV
  go_enter Try.func13, Try.ntmps13
  go_upto_region 1 with (fail)
  obtain ⟨w0, hw0⟩ : ∃ w0, w0 = ((w.alloc (.cells #[.slice A1 ps.length c1, .slice A2 ls.length c2, .slice A3 L.length c3] 28)).alloc (.cells #[.int .i64 0, .int .i64 0] 34)) := ⟨_, rfl⟩
  rw [← hw0] at D0 R0 b0 ⊢
  clear hw0
  have k1 := denies_any L d a w0 (HN.out w0 b0).2
  have x2 := (D0.cell 2).trans rfl
  rw [show ((firstL (tk d 2 3 a) L).isSome && decide (((firstL (tk d 2 3 a) L).getD ru0).kd = 3)) = denB L d a from rfl] at k1
  cases hd : denB L d a with
  | true =>
    have HF : Hid (V = (2, ⟨0, 0⟩)) := Lib.hid (HV.out.trans (stepN_den hd))
    rw [hd] at k1
    clear hd
    go_wp2_with (go_at_call 30; refine k1.mono ?_; rintro e w1 ⟨rfl, b1⟩; have R1 := R0.belows b1; have y0 := (R1.cell 0).trans rfl; have y1 := (R1.cell 1).trans rfl; have z0 := R1.frozen 0; have z1 := R1.frozen 1)
    have Z := (R1.set0 0 (.int .i64 0)).set0 1 (.int .i64 0)
    have Y0 := Z.cell 0
    have Y1 := Z.cell 1
    have bw1 := b0.trans (b1.mono b0.size)
    refine bodyPost_ret (v := .tuple #[.int .i64 2, .agg #[.int .i64 0, .int .i64 0]]) ?_ rfl ⟨by rw [HF.out]; rfl, (bw1.setCell (p := ⟨w.heap.size + 1, 0, none⟩) (by show w.heap.size ≤ w.heap.size + 1; omega) _).setCell (p := ⟨w.heap.size + 1, 1, none⟩) (by show w.heap.size ≤ w.heap.size + 1; omega) _⟩
    simp at Y0 Y1
    simp [results, Try.results13, go_sem, Y0, Y1]
  | false =>
    have HF : Hid (V = goP ls d (firstL (tk d 0 1 a) L)) := Lib.hid (HV.out.trans (stepN_go hd))
    rw [hd] at k1
    clear hd
    obtain ⟨o, ho⟩ : ∃ o, o = firstL (tk d 0 1 a) L := ⟨_, rfl⟩
    rw [← ho] at HF
    have HK2 : Hid (∀ u, Below w.heap.size w u → Calls Try.prog 31 #[.slice A3 L.length c3, .int .i64 d, .int .u32 a] u fun e w' => e = .returned (firstV o) ∧ Below u.heap.size u w') := Lib.hid fun u hu => by rw [ho]; exact match_any L d a u (HN.out u hu).2
    clear ho
    cases o with
    | none =>
      have HF2 : Hid (V = (0, ⟨0, 0⟩)) := Lib.hid HF.out
      rw [show firstV none = .tuple #[.agg (ruA ru0), .bool false] from rfl, rd0] at HK2
      go_wp2_with (first
        | (go_at_call 30; refine k1.mono ?_; rintro e w1 ⟨rfl, b1⟩; have bw1 := b0.trans (b1.mono b0.size); have D1 := D0.belows b1; have R1 := R0.belows b1; have k2 := HK2.out w1 bw1; clear x2; have x2 := (D1.cell 2).trans rfl; have x0 := (D1.cell 0).trans rfl; have x1 := (D1.cell 1).trans rfl)
        | (go_at_call 31; refine k2.mono ?_; rintro e w2 ⟨rfl, b2⟩; have bw2 := bw1.trans (b2.mono bw1.size); have D2 := D1.belows b2; have R2 := R1.belows b2; have hs2 := R2.lt; have hs3 : w.heap.size < w2.heap.size := (by omega); have hs4 : w.heap.size < w2.heap.size + 1 := (by omega); have hs5 : w.heap.size + 1 < w2.heap.size + 1 := (by omega); have y0 := (R2.cell 0).trans rfl; have y1 := (R2.cell 1).trans rfl; have z0 := R2.frozen 0; have z1 := R2.frozen 1))
      have Z := (((R2.set0 0 (.int .i64 0)).set0 1 (.int .i64 0)).alloc (.cells #[.int .i64 0, .int .i64 0, .int .i64 0, .int .i64 0, .int .u32 0, .int .u32 0, .int .i64 0] 63))
      have Y0 := Z.cell 0
      have Y1 := Z.cell 1
      refine bodyPost_ret (v := .tuple #[.int .i64 0, .agg #[.int .i64 0, .int .i64 0]]) ?_ rfl ⟨by rw [HF2.out]; rfl, (((bw2.setCell (p := ⟨w.heap.size + 1, 0, none⟩) (by show w.heap.size ≤ w.heap.size + 1; omega) _).setCell (p := ⟨w.heap.size + 1, 1, none⟩) (by show w.heap.size ≤ w.heap.size + 1; omega) _).alloc (by have := bw2.size; simp; omega) _)⟩
      simp at Y0 Y1
      simp [results, Try.results13, go_sem, Y0, Y1]
    | some r =>
      obtain ⟨id, dv, pr, kd, rf, rt, pt⟩ := r
      rw [show firstV (some ⟨id, dv, pr, kd, rf, rt, pt⟩) = .tuple #[.agg #[.int .i64 id, .int .i64 dv, .int .i64 pr, .int .i64 kd, .int .u32 rf, .int .u32 rt, .int .i64 pt], .bool true] from rfl] at HK2
      by_cases hkd : kd = 1
      · have HF2 : Hid (V = (1, ⟨0, 0⟩)) := Lib.hid (HF.out.trans (goP_drop hkd))
        subst hkd
        go_wp2_with (first
          | (go_at_call 30; refine k1.mono ?_; rintro e w1 ⟨rfl, b1⟩; have bw1 := b0.trans (b1.mono b0.size); have D1 := D0.belows b1; have R1 := R0.belows b1; have k2 := HK2.out w1 bw1; clear x2; have x2 := (D1.cell 2).trans rfl; have x0 := (D1.cell 0).trans rfl; have x1 := (D1.cell 1).trans rfl)
          | (go_at_call 31; refine k2.mono ?_; rintro e w2 ⟨rfl, b2⟩; have bw2 := bw1.trans (b2.mono bw1.size); have D2 := D1.belows b2; have R2 := R1.belows b2; have hs2 := R2.lt; have hs3 : w.heap.size < w2.heap.size := (by omega); have hs4 : w.heap.size < w2.heap.size + 1 := (by omega); have hs5 : w.heap.size + 1 < w2.heap.size + 1 := (by omega); have y0 := (R2.cell 0).trans rfl; have y1 := (R2.cell 1).trans rfl; have z0 := R2.frozen 0; have z1 := R2.frozen 1))
        have Z := (((R2.set0 0 (.int .i64 0)).set0 1 (.int .i64 0)).alloc (.cells #[.int .i64 id, .int .i64 dv, .int .i64 pr, .int .i64 1, .int .u32 rf, .int .u32 rt, .int .i64 pt] 63))
        have Y0 := Z.cell 0
        have Y1 := Z.cell 1
        refine bodyPost_ret (v := .tuple #[.int .i64 1, .agg #[.int .i64 0, .int .i64 0]]) ?_ rfl ⟨by rw [HF2.out]; rfl, (((bw2.setCell (p := ⟨w.heap.size + 1, 0, none⟩) (by show w.heap.size ≤ w.heap.size + 1; omega) _).setCell (p := ⟨w.heap.size + 1, 1, none⟩) (by show w.heap.size ≤ w.heap.size + 1; omega) _).alloc (by have := bw2.size; simp; omega) _)⟩
        simp at Y0 Y1
        simp [results, Try.results13, go_sem, Y0, Y1]
      · have hk1 : (kd == 1) = false := by simp [hkd]
        have hk2 : decide (kd = 1) = false := by simp [hkd]
        have HNX : Hid (∀ u, Below w.heap.size w u → Calls Try.prog 32 #[.agg #[.slice A1 ps.length c1, .slice A2 ls.length c2], .agg #[.int .i64 d, .int .i64 pt]] u fun e w' => e = .returned (nextV (nextT ls ⟨d, pt⟩)) ∧ Below u.heap.size u w') := Lib.hid fun u hu => next_any ps ls ⟨d, pt⟩ u (HN.out u hu).1
        cases hn : nextT ls ⟨d, pt⟩ with
        | none =>
          have HF2 : Hid (V = (3, ⟨d, pt⟩)) := Lib.hid (HF.out.trans (goP_out hkd hn))
          rw [hn, show nextV none = .tuple #[.agg #[.int .i64 0, .int .i64 0], .bool false] from rfl] at HNX
          clear hn hkd HF
          go_upto_region 11 with (first
            | (go_at_call 30; refine k1.mono ?_; rintro e w1 ⟨rfl, b1⟩; have bw1 := b0.trans (b1.mono b0.size); have D1 := D0.belows b1; have R1 := R0.belows b1; have k2 := HK2.out w1 bw1; clear x2; have x2 := (D1.cell 2).trans rfl; have x0 := (D1.cell 0).trans rfl; have x1 := (D1.cell 1).trans rfl)
            | (go_at_call 31; refine k2.mono ?_; rintro e w2 ⟨rfl, b2⟩; have bw2 := bw1.trans (b2.mono bw1.size); have D2 := D1.belows b2; have R2 := R1.belows b2; have hs2 := R2.lt; have hs3 : w.heap.size < w2.heap.size := (by omega); have hs4 : w.heap.size < w2.heap.size + 1 := (by omega); have hs5 : w.heap.size + 1 < w2.heap.size + 1 := (by omega); have P4 := At.new1 w2 (.cells #[.int .i64 id, .int .i64 dv, .int .i64 pr, .int .i64 kd, .int .u32 rf, .int .u32 rt, .int .i64 pt] 63) #[.int .i64 d, .int .i64 pt] 34; have R4 := (R2.alloc (.cells #[.int .i64 id, .int .i64 dv, .int .i64 pr, .int .i64 kd, .int .u32 rf, .int .u32 rt, .int .i64 pt] 63)).alloc (.cells #[.int .i64 d, .int .i64 pt] 34); have D4 := (D2.alloc (.cells #[.int .i64 id, .int .i64 dv, .int .i64 pr, .int .i64 kd, .int .u32 rf, .int .u32 rt, .int .i64 pt] 63)).alloc (.cells #[.int .i64 d, .int .i64 pt] 34); have bw4 : Below w.heap.size w ((w2.alloc (.cells #[.int .i64 id, .int .i64 dv, .int .i64 pr, .int .i64 kd, .int .u32 rf, .int .u32 rt, .int .i64 pt] 63)).alloc (.cells #[.int .i64 d, .int .i64 pt] 34)) := (bw2.alloc bw2.size _).alloc (by have := bw2.size; simp; omega) _; clear x0 x1; have x0 := (D2.cell 0).trans rfl; have x1 := (D2.cell 1).trans rfl)
            | (go_at_call 32; refine (HNX.out _ bw4).mono ?_; rintro e w5 ⟨rfl, b5⟩; have bw5 := bw4.trans (b5.mono bw4.size); have P5 := P4.belows b5; have R5 := R4.belows b5; have p0 := (P5.cell 0).trans rfl; have p1 := (P5.cell 1).trans rfl; have y0 := (R5.cell 0).trans rfl; have y1 := (R5.cell 1).trans rfl; have z0 := R5.frozen 0; have z1 := R5.frozen 1))
          obtain ⟨w6, hw6⟩ : ∃ w6, w6 = w5.alloc (.cells #[.int .i64 0, .int .i64 0] 34) := ⟨_, rfl⟩
          have P6 := P5.alloc (.cells #[.int .i64 0, .int .i64 0] 34)
          have R6 := R5.alloc (.cells #[.int .i64 0, .int .i64 0] 34)
          have bw6 := bw5.alloc bw5.size (.cells #[.int .i64 0, .int .i64 0] 34)
          rw [← hw6] at P6 R6 bw6 ⊢
          clear hw6 p0 p1 y0 y1 z0 z1 k1 k2 x0 x1 x2 HNX HK2 HN
          have p0 := (P6.cell 0).trans rfl; have p1 := (P6.cell 1).trans rfl
          have p0d : ({ heap := w6.heap, tape := w6.tape, drawn := w6.drawn + 1, os := w6.os, output := w6.output } : World).cell? ⟨w2.heap.size + 1, 0, none⟩ = some (.int .i64 d) := p0
          have p1d : ({ heap := w6.heap, tape := w6.tape, drawn := w6.drawn + 1, os := w6.os, output := w6.output } : World).cell? ⟨w2.heap.size + 1, 1, none⟩ = some (.int .i64 pt) := p1
          go_still_tail 2, (by kernel_rfl)
          clear p0d p1d p0 p1
          change wpList _ _ _ _ _ w6.drew
          have R7 := R6.drew
          have bw7 := bdrewN bw6 1
          change At w6.drew _ _ _ at R7
          change Below _ _ w6.drew at bw7
          generalize w6.drew = w7 at R7 bw7 ⊢
          have y0 := (R7.cell 0).trans rfl; have y1 := (R7.cell 1).trans rfl; have z0 := R7.frozen 0; have z1 := R7.frozen 1
          go_wp2
          have Z := (R7.set0 0 (.int .i64 d)).set0 1 (.int .i64 pt)
          have Y0 := Z.cell 0
          have Y1 := Z.cell 1
          refine bodyPost_ret (v := .tuple #[.int .i64 3, .agg #[.int .i64 d, .int .i64 pt]]) ?_ rfl ⟨by rw [HF2.out]; rfl, (bw7.setCell (p := ⟨w.heap.size + 1, 0, none⟩) (by show w.heap.size ≤ w.heap.size + 1; omega) _).setCell (p := ⟨w.heap.size + 1, 1, none⟩) (by show w.heap.size ≤ w.heap.size + 1; omega) _⟩
          simp at Y0 Y1
          simp [results, Try.results13, go_sem, Y0, Y1]
        | some q =>
          have HF2 : Hid (V = (4, ⟨d, pt⟩)) := Lib.hid (HF.out.trans (goP_on hkd hn))
          obtain ⟨qd, qp⟩ := q
          rw [hn, show nextV (some ⟨qd, qp⟩) = .tuple #[.agg #[.int .i64 qd, .int .i64 qp], .bool true] from rfl] at HNX
          clear hn hkd HF
          go_upto_region 12 with (first
            | (go_at_call 30; refine k1.mono ?_; rintro e w1 ⟨rfl, b1⟩; have bw1 := b0.trans (b1.mono b0.size); have D1 := D0.belows b1; have R1 := R0.belows b1; have k2 := HK2.out w1 bw1; clear x2; have x2 := (D1.cell 2).trans rfl; have x0 := (D1.cell 0).trans rfl; have x1 := (D1.cell 1).trans rfl)
            | (go_at_call 31; refine k2.mono ?_; rintro e w2 ⟨rfl, b2⟩; have bw2 := bw1.trans (b2.mono bw1.size); have D2 := D1.belows b2; have R2 := R1.belows b2; have hs2 := R2.lt; have hs3 : w.heap.size < w2.heap.size := (by omega); have hs4 : w.heap.size < w2.heap.size + 1 := (by omega); have hs5 : w.heap.size + 1 < w2.heap.size + 1 := (by omega); have P4 := At.new1 w2 (.cells #[.int .i64 id, .int .i64 dv, .int .i64 pr, .int .i64 kd, .int .u32 rf, .int .u32 rt, .int .i64 pt] 63) #[.int .i64 d, .int .i64 pt] 34; have R4 := (R2.alloc (.cells #[.int .i64 id, .int .i64 dv, .int .i64 pr, .int .i64 kd, .int .u32 rf, .int .u32 rt, .int .i64 pt] 63)).alloc (.cells #[.int .i64 d, .int .i64 pt] 34); have D4 := (D2.alloc (.cells #[.int .i64 id, .int .i64 dv, .int .i64 pr, .int .i64 kd, .int .u32 rf, .int .u32 rt, .int .i64 pt] 63)).alloc (.cells #[.int .i64 d, .int .i64 pt] 34); have bw4 : Below w.heap.size w ((w2.alloc (.cells #[.int .i64 id, .int .i64 dv, .int .i64 pr, .int .i64 kd, .int .u32 rf, .int .u32 rt, .int .i64 pt] 63)).alloc (.cells #[.int .i64 d, .int .i64 pt] 34)) := (bw2.alloc bw2.size _).alloc (by have := bw2.size; simp; omega) _; clear x0 x1; have x0 := (D2.cell 0).trans rfl; have x1 := (D2.cell 1).trans rfl)
            | (go_at_call 32; refine (HNX.out _ bw4).mono ?_; rintro e w5 ⟨rfl, b5⟩; have bw5 := bw4.trans (b5.mono bw4.size); have P5 := P4.belows b5; have R5 := R4.belows b5; have p0 := (P5.cell 0).trans rfl; have p1 := (P5.cell 1).trans rfl; have y0 := (R5.cell 0).trans rfl; have y1 := (R5.cell 1).trans rfl; have z0 := R5.frozen 0; have z1 := R5.frozen 1))
          obtain ⟨w6, hw6⟩ : ∃ w6, w6 = w5.alloc (.cells #[.int .i64 qd, .int .i64 qp] 34) := ⟨_, rfl⟩
          have P6 := P5.alloc (.cells #[.int .i64 qd, .int .i64 qp] 34)
          have R6 := R5.alloc (.cells #[.int .i64 qd, .int .i64 qp] 34)
          have bw6 := bw5.alloc bw5.size (.cells #[.int .i64 qd, .int .i64 qp] 34)
          rw [← hw6] at P6 R6 bw6 ⊢
          clear hw6 p0 p1 y0 y1 z0 z1 k1 k2 x0 x1 x2 HNX HK2 HN
          have p0 := (P6.cell 0).trans rfl; have p1 := (P6.cell 1).trans rfl
          have p0d : ({ heap := w6.heap, tape := w6.tape, drawn := w6.drawn + 1, os := w6.os, output := w6.output } : World).cell? ⟨w2.heap.size + 1, 0, none⟩ = some (.int .i64 d) := p0
          have p1d : ({ heap := w6.heap, tape := w6.tape, drawn := w6.drawn + 1, os := w6.os, output := w6.output } : World).cell? ⟨w2.heap.size + 1, 1, none⟩ = some (.int .i64 pt) := p1
          go_still_tail 2, (by kernel_rfl)
          clear p0d p1d p0 p1
          change wpList _ _ _ _ _ w6.drew
          have R7 := R6.drew
          have bw7 := bdrewN bw6 1
          change At w6.drew _ _ _ at R7
          change Below _ _ w6.drew at bw7
          generalize w6.drew = w7 at R7 bw7 ⊢
          have y0 := (R7.cell 0).trans rfl; have y1 := (R7.cell 1).trans rfl; have z0 := R7.frozen 0; have z1 := R7.frozen 1
          go_wp2
          have Z := (R7.set0 0 (.int .i64 d)).set0 1 (.int .i64 pt)
          have Y0 := Z.cell 0
          have Y1 := Z.cell 1
          refine bodyPost_ret (v := .tuple #[.int .i64 4, .agg #[.int .i64 d, .int .i64 pt]]) ?_ rfl ⟨by rw [HF2.out]; rfl, (bw7.setCell (p := ⟨w.heap.size + 1, 0, none⟩) (by show w.heap.size ≤ w.heap.size + 1; omega) _).setCell (p := ⟨w.heap.size + 1, 1, none⟩) (by show w.heap.size ≤ w.heap.size + 1; omega) _⟩
          simp at Y0 Y1
          simp [results, Try.results13, go_sem, Y0, Y1]
set_option maxRecDepth 100000 in
set_option maxHeartbeats 1000000 in
/-- Same. -/
theorem fsame_any {v1 v2 : Value} (x y : Tc) (w : World) (h1 : IsF 1 intA w v1 x.ds) (h2 : IsF 1 intA w v2 y.ds) : Calls Try.prog 16 #[tcV v1 x, tcV v2 y] w fun e w' => e = .returned (.bool (decide (x = y))) ∧ Below w.heap.size w w' := by
  obtain ⟨D, f, ⟨pd, pp⟩⟩ := x
  obtain ⟨E, f', ⟨pd', pp'⟩⟩ := y
  dsimp only at h1 h2
  unfold tcV
  dsimp only
  have b0 : Below w.heap.size w ((w.alloc (.cells #[v1, .int .i64 f, .int .i64 pd, .int .i64 pp] 36)).alloc (.cells #[v2, .int .i64 f', .int .i64 pd', .int .i64 pp'] 36)) := ((Below.refl _ w).alloc (Nat.le_refl _) _).alloc (by simp) _
  have k1 := eqInts_any D E _ (h1.belows b0) (h2.belows b0)
  have X0 := (At.new w #[v1, .int .i64 f, .int .i64 pd, .int .i64 pp] 36).alloc (.cells #[v2, .int .i64 f', .int .i64 pd', .int .i64 pp'] 36)
  have Y0 := At.new1 w (.cells #[v1, .int .i64 f, .int .i64 pd, .int .i64 pp] 36) #[v2, .int .i64 f', .int .i64 pd', .int .i64 pp'] 36
  obtain ⟨V, hV⟩ : ∃ V, V = decide ((⟨D, f, ⟨pd, pp⟩⟩ : Tc) = ⟨E, f', ⟨pd', pp'⟩⟩) := ⟨_, rfl⟩
  rw [← hV]
  have e0 : V = (decide (D = E) && (decide (f = f') && decide ((⟨pd, pp⟩ : Pt) = ⟨pd', pp'⟩))) := by
    rw [hV, Bool.eq_iff_iff, decide_eq_true_eq, Tc.eq_iff]
    simp only [Bool.and_eq_true, decide_eq_true_eq]
  have hq := eql_pt ⟨pd, pp⟩ ⟨pd', pp'⟩
  unfold ptA at hq
  dsimp only at hq
  generalize decide (D = E) = q1 at k1 e0
  generalize decide ((⟨pd, pp⟩ : Pt) = ⟨pd', pp'⟩) = q3 at hq e0
  have hq2 : (f == f') = decide (f = f') := rfl
  generalize decide (f = f') = q2 at hq2 e0
  have HV := Lib.hid e0
  obtain ⟨A1, c1, rfl, _⟩ := h1
  obtain ⟨A2, c2, rfl, _⟩ := h2
  clear hV e0
  go_enter Try.func16, Try.ntmps16
  go_upto_region 1 with (fail)
  obtain ⟨w0, hw0⟩ : ∃ w0, w0 = ((w.alloc (.cells #[.slice A1 D.length c1, .int .i64 f, .int .i64 pd, .int .i64 pp] 36)).alloc (.cells #[.slice A2 E.length c2, .int .i64 f', .int .i64 pd', .int .i64 pp'] 36)) := ⟨_, rfl⟩
  rw [← hw0] at b0 k1 X0 Y0 ⊢
  clear hw0
  have x0 := (X0.cell 0).trans rfl; have y0 := (Y0.cell 0).trans rfl
  have x1 := (X0.cell 1).trans rfl; have y1 := (Y0.cell 1).trans rfl
  have x2 := (X0.cell 2).trans rfl; have y2 := (Y0.cell 2).trans rfl
  have x3 := (X0.cell 3).trans rfl; have y3 := (Y0.cell 3).trans rfl
  cases q2 with
  | false =>
    have HF : Hid (V = false) := Lib.hid (by rw [HV.out]; cases q1 <;> rfl)
    clear k1
    go_wp2
    go_ret
    exact ⟨by first | (rw [HF.out]; done) | (rw [HF.out]; rfl), b0⟩
  | true =>
    cases q3 with
    | false =>
      have HF : Hid (V = false) := Lib.hid (by rw [HV.out]; cases q1 <;> rfl)
      clear k1
      go_wp2
      go_ret
      exact ⟨by first | (rw [HF.out]; done) | (rw [HF.out]; rfl), b0⟩
    | true =>
      have HF : Hid (V = q1) := Lib.hid (by rw [HV.out]; cases q1 <;> rfl)
      go_wp2_with fail
      refine k1.mono ?_
      rintro e w1 ⟨rfl, b1⟩
      go_wp2
      go_ret
      exact ⟨by first | (rw [HF.out]; done) | (rw [HF.out]; rfl), b0.trans (b1.mono b0.size)⟩
end Go.Proofs.Ytmndgbpfophniaa
