/- Texts of this seat, put together: FS, FQ, RC, FD, FC, FT, FG, Pf3p, Pf3, ZoR3, ZoG1, ZoG2, ZoG3, ZoG4, ZoG5, ZoG6, ZoShelf, ZoO1, ZoO2, Pf4, Pf5, Pf6, Pf7, Pf8. -/
import Derived.Test.YteboadppighplaaGreatZ2
import Derived.Test.YteboadppighplaaGreatZ4
import Derived.Test.YteboadppighplaaGreatZ1
import Derived.RangeFuncNested
import Derived.RangeFuncBound
import Derived.RangeFuncCalls
import Derived.RangeFuncLeaves
import Derived.Shelf.Abstract
import Derived.OwnWalkIn
import Derived.TacticsInMore
import Derived.LoopNIn
import Derived.LoopIn
import Derived.Maps.OwnIn
import Derived.Sort.QuietTacIn
import Derived.Sort.BigQuietIn
import Derived.Sort.CutIn
import Derived.Test.YteboadppighplaaGreatZ3
import Derived.Maps.AppendAt
import Derived.Deep.DeepMust
import Derived.Shelf.RegionOpen
import Derived.Shelf.SlSortCmp.WholeK
import Derived.Test.YteboadppighplaaGreatProg
import Derived.Shelf.SlSortCmp.NoneTotal
import Derived.Deep.AppendSrc
/- Contracts: the program's Right, Step, Same. -/
namespace Go.Proofs.YteboadppighplaaGreat
open Go.RowKit Go.Shelf

set_option maxRecDepth 100000 in
set_option maxHeartbeats 2000000 in
/-- Step, of any network. -/
theorem fstep_any {vp vl vr : Value} (ps : List Int) (ls : List Lk) (L : List Ru) (d : Int) (a : Nat) (w : World) (h : IsN w vp vl vr ps ls L) : Calls Tryz.prog 57 #[.agg #[vp, vl, vr], .int .i64 d, .int .u32 a] w fun e w' => e = .returned (stepV (stepN ls L d a)) ∧ Below w.heap.size w w' := by
  have HN : Hid (∀ u, Below w.heap.size w u → IsN u vp vl vr ps ls L) := Lib.hid fun u hu => h.belows hu
  obtain ⟨⟨⟨A1, c1, rfl, _⟩, ⟨A2, c2, rfl, _⟩⟩, ⟨A3, c3, rfl, _⟩⟩ := h
  have D0 := (At.new w #[.slice A1 ps.length c1, .slice A2 ls.length c2, .slice A3 L.length c3] 28).alloc (.cells #[.int .i64 0, .int .i64 0] 55)
  have R0 := At.new1 w (.cells #[.slice A1 ps.length c1, .slice A2 ls.length c2, .slice A3 L.length c3] 28) #[.int .i64 0, .int .i64 0] 55
  have b0 : Below w.heap.size w ((w.alloc (.cells #[.slice A1 ps.length c1, .slice A2 ls.length c2, .slice A3 L.length c3] 28)).alloc (.cells #[.int .i64 0, .int .i64 0] 55)) := ((Below.refl _ w).alloc (Nat.le_refl _) _).alloc (by simp) _
  obtain ⟨V, hV⟩ : ∃ V, V = stepN ls L d a := ⟨_, rfl⟩
  rw [← hV]
  have HV := Lib.hid hV
  clear hV
  go_enter Tryz.func57, Tryz.ntmps57
  go_upto_region 1 with (fail)
  obtain ⟨w0, hw0⟩ : ∃ w0, w0 = ((w.alloc (.cells #[.slice A1 ps.length c1, .slice A2 ls.length c2, .slice A3 L.length c3] 28)).alloc (.cells #[.int .i64 0, .int .i64 0] 55)) := ⟨_, rfl⟩
  rw [← hw0] at D0 R0 b0 ⊢
  clear hw0
  have k1 := denies_any L d a w0 (HN.out w0 b0).2
  have x2 := (D0.cell 2).trans rfl
  rw [show ((firstL (tk d 2 3 a) L).isSome && decide (((firstL (tk d 2 3 a) L).getD ru0).kd = 3)) = denB L d a from rfl] at k1
  cases hd : denB L d a with
  | true =>
    have HF : Hid (V = (2, ⟨0, 0⟩)) := Lib.hid (HV.out.trans (stepN_den hd))
    rw [hd] at k1
    clear hd
    go_wp2_with (go_at_call 77; refine k1.mono ?_; rintro e w1 ⟨rfl, b1⟩; have R1 := R0.belows b1; have y0 := (R1.cell 0).trans rfl; have y1 := (R1.cell 1).trans rfl; have z0 := R1.frozen 0; have z1 := R1.frozen 1)
    have Z := (R1.set0 0 (.int .i64 0)).set0 1 (.int .i64 0)
    have Y0 := Z.cell 0
    have Y1 := Z.cell 1
    have bw1 := b0.trans (b1.mono b0.size)
    refine bodyPost_ret (v := .tuple #[.int .i64 2, .agg #[.int .i64 0, .int .i64 0]]) ?_ rfl ⟨by rw [HF.out]; rfl, (bw1.setCell (p := ⟨w.heap.size + 1, 0, none⟩) (by show w.heap.size ≤ w.heap.size + 1; omega) _).setCell (p := ⟨w.heap.size + 1, 1, none⟩) (by show w.heap.size ≤ w.heap.size + 1; omega) _⟩
    simp at Y0 Y1
    simp [results, Tryz.results57, go_sem, Y0, Y1]
  | false =>
    have HF : Hid (V = goP ls d (firstL (tk d 0 1 a) L)) := Lib.hid (HV.out.trans (stepN_go hd))
    rw [hd] at k1
    clear hd
    obtain ⟨o, ho⟩ : ∃ o, o = firstL (tk d 0 1 a) L := ⟨_, rfl⟩
    rw [← ho] at HF
    have HK2 : Hid (∀ u, Below w.heap.size w u → Calls Tryz.prog 78 #[.slice A3 L.length c3, .int .i64 d, .int .u32 a] u fun e w' => e = .returned (firstV o) ∧ Below u.heap.size u w') := Lib.hid fun u hu => by rw [ho]; exact match_any L d a u (HN.out u hu).2
    clear ho
    cases o with
    | none =>
      have HF2 : Hid (V = (0, ⟨0, 0⟩)) := Lib.hid HF.out
      rw [show firstV none = .tuple #[.agg (ruA ru0), .bool false] from rfl, rd0] at HK2
      go_wp2_with (first
        | (go_at_call 77; refine k1.mono ?_; rintro e w1 ⟨rfl, b1⟩; have bw1 := b0.trans (b1.mono b0.size); have D1 := D0.belows b1; have R1 := R0.belows b1; have k2 := HK2.out w1 bw1; clear x2; have x2 := (D1.cell 2).trans rfl; have x0 := (D1.cell 0).trans rfl; have x1 := (D1.cell 1).trans rfl)
        | (go_at_call 78; refine k2.mono ?_; rintro e w2 ⟨rfl, b2⟩; have bw2 := bw1.trans (b2.mono bw1.size); have D2 := D1.belows b2; have R2 := R1.belows b2; have hs2 := R2.lt; have hs3 : w.heap.size < w2.heap.size := (by omega); have hs4 : w.heap.size < w2.heap.size + 1 := (by omega); have hs5 : w.heap.size + 1 < w2.heap.size + 1 := (by omega); have y0 := (R2.cell 0).trans rfl; have y1 := (R2.cell 1).trans rfl; have z0 := R2.frozen 0; have z1 := R2.frozen 1))
      have Z := (((R2.set0 0 (.int .i64 0)).set0 1 (.int .i64 0)).alloc (.cells #[.int .i64 0, .int .i64 0, .int .i64 0, .int .i64 0, .int .u32 0, .int .u32 0, .int .i64 0] 105))
      have Y0 := Z.cell 0
      have Y1 := Z.cell 1
      refine bodyPost_ret (v := .tuple #[.int .i64 0, .agg #[.int .i64 0, .int .i64 0]]) ?_ rfl ⟨by rw [HF2.out]; rfl, (((bw2.setCell (p := ⟨w.heap.size + 1, 0, none⟩) (by show w.heap.size ≤ w.heap.size + 1; omega) _).setCell (p := ⟨w.heap.size + 1, 1, none⟩) (by show w.heap.size ≤ w.heap.size + 1; omega) _).alloc (by have := bw2.size; simp; omega) _)⟩
      simp at Y0 Y1
      simp [results, Tryz.results57, go_sem, Y0, Y1]
    | some r =>
      obtain ⟨id, dv, pr, kd, rf, rt, pt⟩ := r
      rw [show firstV (some ⟨id, dv, pr, kd, rf, rt, pt⟩) = .tuple #[.agg #[.int .i64 id, .int .i64 dv, .int .i64 pr, .int .i64 kd, .int .u32 rf, .int .u32 rt, .int .i64 pt], .bool true] from rfl] at HK2
      by_cases hkd : kd = 1
      · have HF2 : Hid (V = (1, ⟨0, 0⟩)) := Lib.hid (HF.out.trans (goP_drop hkd))
        subst hkd
        go_wp2_with (first
          | (go_at_call 77; refine k1.mono ?_; rintro e w1 ⟨rfl, b1⟩; have bw1 := b0.trans (b1.mono b0.size); have D1 := D0.belows b1; have R1 := R0.belows b1; have k2 := HK2.out w1 bw1; clear x2; have x2 := (D1.cell 2).trans rfl; have x0 := (D1.cell 0).trans rfl; have x1 := (D1.cell 1).trans rfl)
          | (go_at_call 78; refine k2.mono ?_; rintro e w2 ⟨rfl, b2⟩; have bw2 := bw1.trans (b2.mono bw1.size); have D2 := D1.belows b2; have R2 := R1.belows b2; have hs2 := R2.lt; have hs3 : w.heap.size < w2.heap.size := (by omega); have hs4 : w.heap.size < w2.heap.size + 1 := (by omega); have hs5 : w.heap.size + 1 < w2.heap.size + 1 := (by omega); have y0 := (R2.cell 0).trans rfl; have y1 := (R2.cell 1).trans rfl; have z0 := R2.frozen 0; have z1 := R2.frozen 1))
        have Z := (((R2.set0 0 (.int .i64 0)).set0 1 (.int .i64 0)).alloc (.cells #[.int .i64 id, .int .i64 dv, .int .i64 pr, .int .i64 1, .int .u32 rf, .int .u32 rt, .int .i64 pt] 105))
        have Y0 := Z.cell 0
        have Y1 := Z.cell 1
        refine bodyPost_ret (v := .tuple #[.int .i64 1, .agg #[.int .i64 0, .int .i64 0]]) ?_ rfl ⟨by rw [HF2.out]; rfl, (((bw2.setCell (p := ⟨w.heap.size + 1, 0, none⟩) (by show w.heap.size ≤ w.heap.size + 1; omega) _).setCell (p := ⟨w.heap.size + 1, 1, none⟩) (by show w.heap.size ≤ w.heap.size + 1; omega) _).alloc (by have := bw2.size; simp; omega) _)⟩
        simp at Y0 Y1
        simp [results, Tryz.results57, go_sem, Y0, Y1]
      · have hk1 : (kd == 1) = false := by simp [hkd]
        have hk2 : decide (kd = 1) = false := by simp [hkd]
        have HNX : Hid (∀ u, Below w.heap.size w u → Calls Tryz.prog 76 #[.agg #[.slice A1 ps.length c1, .slice A2 ls.length c2], .agg #[.int .i64 d, .int .i64 pt]] u fun e w' => e = .returned (nextV (nextT ls ⟨d, pt⟩)) ∧ Below u.heap.size u w') := Lib.hid fun u hu => next_any ps ls ⟨d, pt⟩ u (HN.out u hu).1
        cases hn : nextT ls ⟨d, pt⟩ with
        | none =>
          have HF2 : Hid (V = (3, ⟨d, pt⟩)) := Lib.hid (HF.out.trans (goP_out hkd hn))
          rw [hn, show nextV none = .tuple #[.agg #[.int .i64 0, .int .i64 0], .bool false] from rfl] at HNX
          clear hn hkd HF
          go_upto_region 11 with (first
            | (go_at_call 77; refine k1.mono ?_; rintro e w1 ⟨rfl, b1⟩; have bw1 := b0.trans (b1.mono b0.size); have D1 := D0.belows b1; have R1 := R0.belows b1; have k2 := HK2.out w1 bw1; clear x2; have x2 := (D1.cell 2).trans rfl; have x0 := (D1.cell 0).trans rfl; have x1 := (D1.cell 1).trans rfl)
            | (go_at_call 78; refine k2.mono ?_; rintro e w2 ⟨rfl, b2⟩; have bw2 := bw1.trans (b2.mono bw1.size); have D2 := D1.belows b2; have R2 := R1.belows b2; have hs2 := R2.lt; have hs3 : w.heap.size < w2.heap.size := (by omega); have hs4 : w.heap.size < w2.heap.size + 1 := (by omega); have hs5 : w.heap.size + 1 < w2.heap.size + 1 := (by omega); have P4 := At.new1 w2 (.cells #[.int .i64 id, .int .i64 dv, .int .i64 pr, .int .i64 kd, .int .u32 rf, .int .u32 rt, .int .i64 pt] 105) #[.int .i64 d, .int .i64 pt] 55; have R4 := (R2.alloc (.cells #[.int .i64 id, .int .i64 dv, .int .i64 pr, .int .i64 kd, .int .u32 rf, .int .u32 rt, .int .i64 pt] 105)).alloc (.cells #[.int .i64 d, .int .i64 pt] 55); have D4 := (D2.alloc (.cells #[.int .i64 id, .int .i64 dv, .int .i64 pr, .int .i64 kd, .int .u32 rf, .int .u32 rt, .int .i64 pt] 105)).alloc (.cells #[.int .i64 d, .int .i64 pt] 55); have bw4 : Below w.heap.size w ((w2.alloc (.cells #[.int .i64 id, .int .i64 dv, .int .i64 pr, .int .i64 kd, .int .u32 rf, .int .u32 rt, .int .i64 pt] 105)).alloc (.cells #[.int .i64 d, .int .i64 pt] 55)) := (bw2.alloc bw2.size _).alloc (by have := bw2.size; simp; omega) _; clear x0 x1; have x0 := (D2.cell 0).trans rfl; have x1 := (D2.cell 1).trans rfl)
            | (go_at_call 76; refine (HNX.out _ bw4).mono ?_; rintro e w5 ⟨rfl, b5⟩; have bw5 := bw4.trans (b5.mono bw4.size); have P5 := P4.belows b5; have R5 := R4.belows b5; have p0 := (P5.cell 0).trans rfl; have p1 := (P5.cell 1).trans rfl; have y0 := (R5.cell 0).trans rfl; have y1 := (R5.cell 1).trans rfl; have z0 := R5.frozen 0; have z1 := R5.frozen 1))
          obtain ⟨w6, hw6⟩ : ∃ w6, w6 = w5.alloc (.cells #[.int .i64 0, .int .i64 0] 55) := ⟨_, rfl⟩
          have P6 := P5.alloc (.cells #[.int .i64 0, .int .i64 0] 55)
          have R6 := R5.alloc (.cells #[.int .i64 0, .int .i64 0] 55)
          have bw6 := bw5.alloc bw5.size (.cells #[.int .i64 0, .int .i64 0] 55)
          rw [← hw6] at P6 R6 bw6 ⊢
          clear hw6 p0 p1 y0 y1 z0 z1 k1 k2 x0 x1 x2 HNX HK2 HN
          have p0 := (P6.cell 0).trans rfl; have p1 := (P6.cell 1).trans rfl
          have p0d : ({ heap := w6.heap, tape := w6.tape, drawn := w6.drawn + 1, os := w6.os, output := w6.output } : World).cell? ⟨w2.heap.size + 1, 0, none⟩ = some (.int .i64 d) := p0
          have p1d : ({ heap := w6.heap, tape := w6.tape, drawn := w6.drawn + 1, os := w6.os, output := w6.output } : World).cell? ⟨w2.heap.size + 1, 1, none⟩ = some (.int .i64 pt) := p1
          go_still_tail 2, (by kernel_rfl)
          clear p0d p1d p0 p1
          change wpList _ _ _ _ _ w6.drew
          have R7 := R6.drew
          have bw7 := bdrewN bw6 1
          change At w6.drew _ _ _ at R7
          change Below _ _ w6.drew at bw7
          generalize w6.drew = w7 at R7 bw7 ⊢
          have y0 := (R7.cell 0).trans rfl; have y1 := (R7.cell 1).trans rfl; have z0 := R7.frozen 0; have z1 := R7.frozen 1
          go_wp2
          have Z := (R7.set0 0 (.int .i64 d)).set0 1 (.int .i64 pt)
          have Y0 := Z.cell 0
          have Y1 := Z.cell 1
          refine bodyPost_ret (v := .tuple #[.int .i64 3, .agg #[.int .i64 d, .int .i64 pt]]) ?_ rfl ⟨by rw [HF2.out]; rfl, (bw7.setCell (p := ⟨w.heap.size + 1, 0, none⟩) (by show w.heap.size ≤ w.heap.size + 1; omega) _).setCell (p := ⟨w.heap.size + 1, 1, none⟩) (by show w.heap.size ≤ w.heap.size + 1; omega) _⟩
          simp at Y0 Y1
          simp [results, Tryz.results57, go_sem, Y0, Y1]
        | some q =>
          have HF2 : Hid (V = (4, ⟨d, pt⟩)) := Lib.hid (HF.out.trans (goP_on hkd hn))
          obtain ⟨qd, qp⟩ := q
          rw [hn, show nextV (some ⟨qd, qp⟩) = .tuple #[.agg #[.int .i64 qd, .int .i64 qp], .bool true] from rfl] at HNX
          clear hn hkd HF
          go_upto_region 12 with (first
            | (go_at_call 77; refine k1.mono ?_; rintro e w1 ⟨rfl, b1⟩; have bw1 := b0.trans (b1.mono b0.size); have D1 := D0.belows b1; have R1 := R0.belows b1; have k2 := HK2.out w1 bw1; clear x2; have x2 := (D1.cell 2).trans rfl; have x0 := (D1.cell 0).trans rfl; have x1 := (D1.cell 1).trans rfl)
            | (go_at_call 78; refine k2.mono ?_; rintro e w2 ⟨rfl, b2⟩; have bw2 := bw1.trans (b2.mono bw1.size); have D2 := D1.belows b2; have R2 := R1.belows b2; have hs2 := R2.lt; have hs3 : w.heap.size < w2.heap.size := (by omega); have hs4 : w.heap.size < w2.heap.size + 1 := (by omega); have hs5 : w.heap.size + 1 < w2.heap.size + 1 := (by omega); have P4 := At.new1 w2 (.cells #[.int .i64 id, .int .i64 dv, .int .i64 pr, .int .i64 kd, .int .u32 rf, .int .u32 rt, .int .i64 pt] 105) #[.int .i64 d, .int .i64 pt] 55; have R4 := (R2.alloc (.cells #[.int .i64 id, .int .i64 dv, .int .i64 pr, .int .i64 kd, .int .u32 rf, .int .u32 rt, .int .i64 pt] 105)).alloc (.cells #[.int .i64 d, .int .i64 pt] 55); have D4 := (D2.alloc (.cells #[.int .i64 id, .int .i64 dv, .int .i64 pr, .int .i64 kd, .int .u32 rf, .int .u32 rt, .int .i64 pt] 105)).alloc (.cells #[.int .i64 d, .int .i64 pt] 55); have bw4 : Below w.heap.size w ((w2.alloc (.cells #[.int .i64 id, .int .i64 dv, .int .i64 pr, .int .i64 kd, .int .u32 rf, .int .u32 rt, .int .i64 pt] 105)).alloc (.cells #[.int .i64 d, .int .i64 pt] 55)) := (bw2.alloc bw2.size _).alloc (by have := bw2.size; simp; omega) _; clear x0 x1; have x0 := (D2.cell 0).trans rfl; have x1 := (D2.cell 1).trans rfl)
            | (go_at_call 76; refine (HNX.out _ bw4).mono ?_; rintro e w5 ⟨rfl, b5⟩; have bw5 := bw4.trans (b5.mono bw4.size); have P5 := P4.belows b5; have R5 := R4.belows b5; have p0 := (P5.cell 0).trans rfl; have p1 := (P5.cell 1).trans rfl; have y0 := (R5.cell 0).trans rfl; have y1 := (R5.cell 1).trans rfl; have z0 := R5.frozen 0; have z1 := R5.frozen 1))
          obtain ⟨w6, hw6⟩ : ∃ w6, w6 = w5.alloc (.cells #[.int .i64 qd, .int .i64 qp] 55) := ⟨_, rfl⟩
          have P6 := P5.alloc (.cells #[.int .i64 qd, .int .i64 qp] 55)
          have R6 := R5.alloc (.cells #[.int .i64 qd, .int .i64 qp] 55)
          have bw6 := bw5.alloc bw5.size (.cells #[.int .i64 qd, .int .i64 qp] 55)
          rw [← hw6] at P6 R6 bw6 ⊢
          clear hw6 p0 p1 y0 y1 z0 z1 k1 k2 x0 x1 x2 HNX HK2 HN
          have p0 := (P6.cell 0).trans rfl; have p1 := (P6.cell 1).trans rfl
          have p0d : ({ heap := w6.heap, tape := w6.tape, drawn := w6.drawn + 1, os := w6.os, output := w6.output } : World).cell? ⟨w2.heap.size + 1, 0, none⟩ = some (.int .i64 d) := p0
          have p1d : ({ heap := w6.heap, tape := w6.tape, drawn := w6.drawn + 1, os := w6.os, output := w6.output } : World).cell? ⟨w2.heap.size + 1, 1, none⟩ = some (.int .i64 pt) := p1
          go_still_tail 2, (by kernel_rfl)
          clear p0d p1d p0 p1
          change wpList _ _ _ _ _ w6.drew
          have R7 := R6.drew
          have bw7 := bdrewN bw6 1
          change At w6.drew _ _ _ at R7
          change Below _ _ w6.drew at bw7
          generalize w6.drew = w7 at R7 bw7 ⊢
          have y0 := (R7.cell 0).trans rfl; have y1 := (R7.cell 1).trans rfl; have z0 := R7.frozen 0; have z1 := R7.frozen 1
          go_wp2
          have Z := (R7.set0 0 (.int .i64 d)).set0 1 (.int .i64 pt)
          have Y0 := Z.cell 0
          have Y1 := Z.cell 1
          refine bodyPost_ret (v := .tuple #[.int .i64 4, .agg #[.int .i64 d, .int .i64 pt]]) ?_ rfl ⟨by rw [HF2.out]; rfl, (bw7.setCell (p := ⟨w.heap.size + 1, 0, none⟩) (by show w.heap.size ≤ w.heap.size + 1; omega) _).setCell (p := ⟨w.heap.size + 1, 1, none⟩) (by show w.heap.size ≤ w.heap.size + 1; omega) _⟩
          simp at Y0 Y1
          simp [results, Tryz.results57, go_sem, Y0, Y1]
set_option maxRecDepth 100000 in
set_option maxHeartbeats 1000000 in
/-- Same. -/
theorem fsame_any {v1 v2 : Value} (x y : Tc) (w : World) (h1 : IsF 1 intA w v1 x.ds) (h2 : IsF 1 intA w v2 y.ds) : Calls Tryz.prog 27 #[tcV v1 x, tcV v2 y] w fun e w' => e = .returned (.bool (decide (x = y))) ∧ Below w.heap.size w w' := by
  obtain ⟨D, f, ⟨pd, pp⟩⟩ := x
  obtain ⟨E, f', ⟨pd', pp'⟩⟩ := y
  dsimp only at h1 h2
  unfold tcV
  dsimp only
  have b0 : Below w.heap.size w ((w.alloc (.cells #[v1, .int .i64 f, .int .i64 pd, .int .i64 pp] 57)).alloc (.cells #[v2, .int .i64 f', .int .i64 pd', .int .i64 pp'] 57)) := ((Below.refl _ w).alloc (Nat.le_refl _) _).alloc (by simp) _
  have k1 := eqInts_any D E _ (h1.belows b0) (h2.belows b0)
  have X0 := (At.new w #[v1, .int .i64 f, .int .i64 pd, .int .i64 pp] 57).alloc (.cells #[v2, .int .i64 f', .int .i64 pd', .int .i64 pp'] 57)
  have Y0 := At.new1 w (.cells #[v1, .int .i64 f, .int .i64 pd, .int .i64 pp] 57) #[v2, .int .i64 f', .int .i64 pd', .int .i64 pp'] 57
  obtain ⟨V, hV⟩ : ∃ V, V = decide ((⟨D, f, ⟨pd, pp⟩⟩ : Tc) = ⟨E, f', ⟨pd', pp'⟩⟩) := ⟨_, rfl⟩
  rw [← hV]
  have e0 : V = (decide (D = E) && (decide (f = f') && decide ((⟨pd, pp⟩ : Pt) = ⟨pd', pp'⟩))) := by
    rw [hV, Bool.eq_iff_iff, decide_eq_true_eq, Tc.eq_iff]
    simp only [Bool.and_eq_true, decide_eq_true_eq]
  have hq := eql_pt ⟨pd, pp⟩ ⟨pd', pp'⟩
  unfold ptA at hq
  dsimp only at hq
  generalize decide (D = E) = q1 at k1 e0
  generalize decide ((⟨pd, pp⟩ : Pt) = ⟨pd', pp'⟩) = q3 at hq e0
  have hq2 : (f == f') = decide (f = f') := rfl
  generalize decide (f = f') = q2 at hq2 e0
  have HV := Lib.hid e0
  obtain ⟨A1, c1, rfl, _⟩ := h1
  obtain ⟨A2, c2, rfl, _⟩ := h2
  clear hV e0
  go_enter Tryz.func27, Tryz.ntmps27
  go_upto_region 1 with (fail)
  obtain ⟨w0, hw0⟩ : ∃ w0, w0 = ((w.alloc (.cells #[.slice A1 D.length c1, .int .i64 f, .int .i64 pd, .int .i64 pp] 57)).alloc (.cells #[.slice A2 E.length c2, .int .i64 f', .int .i64 pd', .int .i64 pp'] 57)) := ⟨_, rfl⟩
  rw [← hw0] at b0 k1 X0 Y0 ⊢
  clear hw0
  have x0 := (X0.cell 0).trans rfl; have y0 := (Y0.cell 0).trans rfl
  have x1 := (X0.cell 1).trans rfl; have y1 := (Y0.cell 1).trans rfl
  have x2 := (X0.cell 2).trans rfl; have y2 := (Y0.cell 2).trans rfl
  have x3 := (X0.cell 3).trans rfl; have y3 := (Y0.cell 3).trans rfl
  cases q2 with
  | false =>
    have HF : Hid (V = false) := Lib.hid (by rw [HV.out]; cases q1 <;> rfl)
    clear k1
    go_wp2
    go_ret
    exact ⟨by first | (rw [HF.out]; done) | (rw [HF.out]; rfl), b0⟩
  | true =>
    cases q3 with
    | false =>
      have HF : Hid (V = false) := Lib.hid (by rw [HV.out]; cases q1 <;> rfl)
      clear k1
      go_wp2
      go_ret
      exact ⟨by first | (rw [HF.out]; done) | (rw [HF.out]; rfl), b0⟩
    | true =>
      have HF : Hid (V = q1) := Lib.hid (by rw [HV.out]; cases q1 <;> rfl)
      go_wp2_with fail
      refine k1.mono ?_
      rintro e w1 ⟨rfl, b1⟩
      go_wp2
      go_ret
      exact ⟨by first | (rw [HF.out]; done) | (rw [HF.out]; rfl), b0.trans (b1.mono b0.size)⟩
end Go.Proofs.YteboadppighplaaGreat
/- Plain mathematics: the devices to which a packet comes, one behind another, in any network. -/
namespace Go.Proofs.YteboadppighplaaGreat
open Go.RowKit Go.Shelf

/-- The i-th device. -/
def dvI (ls : List Lk) (L : List Ru) (a : Nat) (d : Int) : Nat → Int
  | 0 => d
  | i + 1 => onTo ls L (dvI ls L a d i) a
/-- The first ones. -/
def dvs (ls : List Lk) (L : List Ru) (a : Nat) (d : Int) (k : Nat) : List Int := (List.range k).map (dvI ls L a d)
theorem dvs_len (ls : List Lk) (L : List Ru) (a : Nat) (d : Int) (k : Nat) : (dvs ls L a d k).length = k := by simp [dvs]
theorem dvs_succ (ls : List Lk) (L : List Ru) (a : Nat) (d : Int) (k : Nat) : dvs ls L a d (k + 1) = dvs ls L a d k ++ [dvI ls L a d k] := by simp [dvs, List.range_succ]
/-- It goes on, so far. -/
def goes (ls : List Lk) (L : List Ru) (a : Nat) (d : Int) (k : Nat) : Prop := ∀ i, i < k → (stepN ls L (dvI ls L a d i) a).1 = 4
theorem nodup_snoc_iff {s : List Int} {x : Int} : (s ++ [x]).Nodup ↔ s.Nodup ∧ x ∉ s := by
  rw [List.nodup_append]
  constructor
  · rintro ⟨h1, _, h3⟩
    exact ⟨h1, fun hx => h3 x hx x (by simp) rfl⟩
  · rintro ⟨h1, h2⟩
    exact ⟨h1, by simp, fun y hy z hz => by simp at hz; subst hz; exact fun e => h2 (e ▸ hy)⟩
theorem trc_at {ls : List Lk} {L : List Ru} {a : Nat} {d : Int} (K : Nat) : ∀ k, k ≤ K → goes ls L a d k → (dvs ls L a d k).Nodup → trc ls L a K [] d = trc ls L a (K - k) (dvs ls L a d k) (dvI ls L a d k) := by
  intro k
  induction k with
  | zero => intro _ _ _; rfl
  | succ k ih =>
    intro hk hg hn
    rw [dvs_succ] at hn
    obtain ⟨h1, h2⟩ := nodup_snoc_iff.1 hn
    rw [ih (by omega) (fun i hi => hg i (by omega)) h1, show K - k = (K - (k + 1)) + 1 by omega, trc_on h2 (hg k (by omega)), dvs_succ]
    rfl
theorem nodup_in : ∀ {s M : List Int}, s.Nodup → (∀ x ∈ s, x ∈ M) → s.length ≤ M.length := by
  intro s
  induction s with
  | nil => intro M _ _; exact Nat.zero_le _
  | cons x t ih =>
    intro M hn hm
    obtain ⟨hx, ht⟩ := List.nodup_cons.1 hn
    have h := ih (M := M.erase x) ht fun y hy => (List.mem_erase_of_ne (fun e : y = x => hx (by rw [← e]; exact hy))).2 (hm y (List.mem_cons_of_mem _ hy))
    have hmx := hm x (List.mem_cons_self ..)
    rw [List.length_erase_of_mem hmx] at h
    have := List.length_pos_of_mem hmx
    simp; omega
/-- A device from which it goes on has a rule. -/
theorem goes_rule {ls : List Lk} {L : List Ru} {a : Nat} {d : Int} (h : (stepN ls L d a).1 = 4) : d ∈ L.map (·.dv) := by
  cases hd : denB L d a with
  | true => rw [stepN_den hd] at h; simp at h
  | false =>
    rw [stepN_go hd] at h
    rcases firstL_is (tk d 0 1 a) L with ⟨h0, _⟩ | ⟨x, h0, hm, ht, _⟩
    · rw [h0] at h; simp [goP] at h
    · refine List.mem_map.2 ⟨x, hm, ?_⟩
      simp only [tk, takesB, Bool.and_eq_true, decide_eq_true_eq] at ht
      exact ht.1
theorem goes_room {ls : List Lk} {L : List Ru} {a : Nat} {d : Int} {k : Nat} (hg : goes ls L a d k) (hn : (dvs ls L a d k).Nodup) : k ≤ L.length := by
  have := nodup_in (M := L.map (·.dv)) hn fun x hx => by
    obtain ⟨i, hi, rfl⟩ := List.mem_map.1 hx
    exact goes_rule (hg i (List.mem_range.1 hi))
  rwa [dvs_len, List.length_map] at this
/-- How much fuel is enough for any network. -/
def fuelN (ps : List Int) (L : List Ru) : Nat := L.length + ps.length + 3
/-- The trace in any network. -/
def trcA (ps : List Int) (ls : List Lk) (L : List Ru) (a : Nat) (d : Int) : Tc := trc ls L a (fuelN ps L) [] d
theorem trcA_right {ps : List Int} {ls : List Lk} (hR : RT ps ls) (L : List Ru) (a : Nat) {d : Int} (hd : inD ps d) : trcA ps ls L a d = trcN ps ls L a d :=
  trc_more hR (L.length + ps.length + 2) ps.length [] d List.nodup_nil (fun x hx => by simp at hx) hd (by simp; omega) (by simp)
/-- .. where it comes to a device once more, .. -/
theorem trcA_in {ps : List Int} {ls : List Lk} {L : List Ru} {a : Nat} {d : Int} {k : Nat} (hg : goes ls L a d k) (hn : (dvs ls L a d k).Nodup) (hm : dvI ls L a d k ∈ dvs ls L a d k) : trcA ps ls L a d = ⟨dvs ls L a d k ++ [dvI ls L a d k], 4, ⟨0, 0⟩⟩ := by
  have hk := goes_room hg hn
  unfold trcA fuelN
  rw [trc_at _ k (by omega) hg hn, show L.length + ps.length + 3 - k = (L.length + ps.length + 2 - k) + 1 by omega, trc_in hm]
/-- .. and where it ends. -/
theorem trcA_end {ps : List Int} {ls : List Lk} {L : List Ru} {a : Nat} {d : Int} {k : Nat} (hg : goes ls L a d k) (hn : (dvs ls L a d (k + 1)).Nodup) (h4 : (stepN ls L (dvI ls L a d k) a).1 ≠ 4) :
    trcA ps ls L a d = ⟨dvs ls L a d (k + 1), (stepN ls L (dvI ls L a d k) a).1, (stepN ls L (dvI ls L a d k) a).2⟩ := by
  rw [dvs_succ] at hn ⊢
  obtain ⟨h1, h2⟩ := nodup_snoc_iff.1 hn
  have hk := goes_room hg h1
  unfold trcA fuelN
  rw [trc_at _ k (by omega) hg h1, show L.length + ps.length + 3 - k = (L.length + ps.length + 2 - k) + 1 by omega, trc_end h2 h4]
end Go.Proofs.YteboadppighplaaGreat
/- A range over a function where the rounds, not the function, see to it that it ends. Over any program. -/
namespace Go.Proofs.YteboadppighplaaGreat
open Go.RowKit Go.Shelf
theorem wide_fn (f : FuncId) : Fence.wide.fn f = True := eq_true trivial
theorem grown_none {W W' : World} (h : Below W.heap.size W W') : W.grownBy W' none := ⟨h.os, h.tape, h.output, h.size, fun k hk _ => h.block k hk⟩

section
variable {F : Fence} {n : Nat} {P : Program} {α : Type}
/-- A function that hands over, one behind another, what 'Nx' names, as long as its caller keeps 'C'; it ends by itself where 'S' holds. -/
def HandsC (F : Fence) (n : Nat) (P : Program) (g : Nat) (lb : Array Value) (en : α → Array Value) (C : List α → World → Prop) (Nx : List α → α → Prop) (S : List α → Prop) : Prop :=
  ∀ (l : Nat) (J Jx : List α → World → Prop) (W : World), AbidesFrom W.heap.size J → (∀ s U, J s U → C s U) → J [] W →
    (∀ s x U, J s U → Nx s x → YieldAt F (n - 1) P l (en x) U fun e U' => (e = .returned (.bool true) ∧ J (s ++ [x]) U') ∨ (e = .returned (.bool false) ∧ Jx (s ++ [x]) U')) →
    CallsIn F n P g (#[.func (.yield l) #[] #[]] ++ lb) W fun e U => (∃ v, e = .returned v) ∧ ((∃ s, S s ∧ J s U) ∨ ∃ s, Jx s U)
/-- The loop's two blocks. -/
def Two (l : Nat) (r : Loop) (W : World) : Prop := W.heap[l + 1]? = some (.loop r) ∧ W.heap[l]? = some (.deferred (some []))
theorem Two.grown {l : Nat} {r : Loop} {W U : World} {row : Option Nat} (h : Two l r W) (hg : W.grownBy U row) (hr : ∀ q, row = some q → ∃ o : Obj, W.heap[q]? = some o ∧ o.isWalk = true) : Two l r U :=
  ⟨(grownBy_keeps hg hr h.1 rfl).trans h.1, (grownBy_keeps hg hr h.2 rfl).trans h.2⟩
theorem Two.keeps {l : Nat} {r : Loop} {W U : World} (h : Two l r W) (hk : KeepsFrom l W U) : Two l r U :=
  ⟨hk.same _ _ (Nat.le_succ l) h.1 rfl, hk.same _ _ (Nat.le_refl l) h.2 rfl⟩
theorem Two.put {l : Nat} {r : Loop} {W : World} (h : Two l r W) (r' : Loop) : Two l r' (W.putObj (l + 1) (.loop r')) :=
  ⟨World.putObj_heap_same (Array.getElem?_eq_some_iff.1 h.1).1, (World.putObj_heap_other (by omega)).trans h.2⟩
/-- What is owned does not see the loop's record. -/
theorem Two.own {β : Type} {l : Nat} {r : Loop} {W : World} (h : Two l r W) {I : β → World → Prop} (hI : OwnFrom l I) {s : β} (hs : I s W) (r' : Loop) : I s (W.putObj (l + 1) (.loop r')) := hI.putObj _ hs (Nat.le_succ l) h.1 rfl
theorem range_c {g : Operand} {ps : Array Tmp} {asg body : Code} {Q : Exit → Act → World → Prop} {a : Act} {w : World}
    (hro : F.round = none) (h1 : 1 ≤ n) {gf : Nat} {lb : Array Value} (hg : a.eval g = .func (.func gf) #[] lb) (hFg : F.fn gf) (eg : ∀ args w, (callFunc gf args).run P w = .ok (.enter gf args) w)
    {en : α → Array Value} {C : List α → World → Prop} {Nx : List α → α → Prop} {S : List α → Prop} (hseq : HandsC F (n - 1) P gf lb en C Nx S) (hps : ∀ x, (en x).size = ps.size)
    (I : List α → World → Prop) (Ix : Code → List α → World → Prop) (hI : OwnFrom w.heap.size I) (hIx : ∀ c, OwnFrom w.heap.size (Ix c)) (hC : ∀ s W, I s W → C s W) (h0 : I [] w) (a₁ : α → Act)
    (hasg : ∀ (l : Nat) (x : α) (W : World) (K : Act → World → Prop), K (a₁ x) W → asg.wpIn (F.inRound l) (n - 1 - 1) P (Exit.then K (fun _ _ _ => False)) { tmps := (ps.zip (en x)).foldl (fun t (p, v) => t.setIfInBounds p v) a.tmps, defers := [] } W)
    (hbody : ∀ (l : Nat) (s : List α) (x : α) (W : World), I s W → Nx s x → body.wpIn (F.inRound l) (n - 1 - 1) P (ownPostG w.heap.size (fun _ _ => True) I Ix (s ++ [x]) W) (a₁ x) W)
    (hdone : ∀ (D : Nat) (s : List α) (W : World), w.heap.size ≤ D → S s → I s W → W.heap[D]? = some (.deferred (some [])) → Q .normal { a with defers := { target := .collected D, args := #[] } :: a.defers } W)
    (hstop : ∀ (D : Nat) (c : Code) (s : List α) (W : World), w.heap.size ≤ D → Ix c s W → W.heap[D]? = some (.deferred (some [])) → c.wpIn F n P Q { a with defers := { target := .collected D, args := #[] } :: a.defers } W) :
    (Code.rangeFunc g ps asg body).wpIn F n P Q a w := by
  refine wpIn_rangeFunc fun fn hfn => ?_
  rw [hro]
  obtain ⟨R, hR⟩ : ∃ R : LoopState → Option Code → Loop, R = fun st pe => { state := st, pending := pe, fn, tmps := a.tmps, params := ps, assign := asg, body, defers := w.heap.size } := ⟨_, rfl⟩
  have hst : ∀ st pe, (R st pe).state = st := fun st pe => by rw [hR]
  have hpe : ∀ st pe, (R st pe).pending = pe := fun st pe => by rw [hR]
  have hbusy : ∀ st pe st', { R st pe with state := st' } = R st' pe := fun st pe st' => by rw [hR]
  have hend : ∀ st pe st' pe', { R st pe with state := st', pending := pe' } = R st' pe' := fun st pe st' pe' => by rw [hR]
  have T1 : Two w.heap.size (R .ready none) ((w.alloc (.deferred (some []))).alloc (.loop (R .ready none))) := by
    refine ⟨?_, (Below.heap_alloc _ _ _ (by simp)).trans (World.alloc_heap_new w _)⟩
    have := World.alloc_heap_new (w.alloc (.deferred (some []))) (.loop (R .ready none))
    rwa [World.size_alloc] at this
  have hi1 : I [] ((w.alloc (.deferred (some []))).alloc (.loop (R .ready none))) := hI.alloc _ (hI.alloc _ h0)
  obtain ⟨W1, hW1⟩ : ∃ W1, W1 = (w.alloc (.deferred (some []))).alloc (.loop (R .ready none)) := ⟨_, rfl⟩
  rw [← hW1] at T1 hi1
  refine ⟨w.heap.size + 1, [{ target := .collected w.heap.size, args := #[] }], W1, { target := .fn (.func gf) lb, args := #[.func (.yield (w.heap.size + 1)) #[] #[]] }, W1, gf,
    #[.func (.yield (w.heap.size + 1)) #[] #[]] ++ lb, W1, ?_, ?_, ?_, ?_, fun _ => h1, ?_⟩
  · rw [hW1, hR]; exact run_enterLoop_outer _ _ _ _ _
  · simp only [resolve, hg]; simp [go_sem]
  · intro f' hf'; simp [Target.leads] at hf'; subst hf'; exact hFg
  · simp [invoke, go_sem, eg]
  clear hW1
  have hsz1 : w.heap.size < W1.heap.size := (Array.getElem?_eq_some_iff.1 T1.2).1
  have hrow : ∀ {A : World} {row : Option Nat}, (∀ q, row = some q → W1.heap.size ≤ q ∧ ∃ o : Obj, A.heap[q]? = some o ∧ o.isWalk = true) → ∀ q, row = some q → w.heap.size ≤ q ∧ ∃ o : Obj, A.heap[q]? = some o ∧ o.isCells = false := fun hr q e => by
    obtain ⟨hq, o, ho, hw⟩ := hr q e
    exact ⟨by omega, o, ho, Obj.not_cells_of_walk hw⟩
  refine (hseq (w.heap.size + 1) (fun s W => I s W ∧ Two w.heap.size (R .ready none) W) (fun s W => ∃ c, Ix c s W ∧ Two w.heap.size (R .done (some c)) W) W1
    (fun s A B row hs hgr hr => ⟨hI s A B row hs.1 hgr (hrow hr), hs.2.grown hgr fun q e => (hr q e).2⟩) (fun s U hs => hC s U hs.1) ⟨hi1, T1⟩ ?_).mono ?_
  · rintro s x W ⟨hi, T⟩ hx
    have hy := run_yield (P := P) (args := en x) T.1 (by rw [hR]; exact hps x)
    rw [hR] at hy
    refine ⟨fn, _, asg, body, hy, roundIn_of_wpIn hfn (hasg _ x W _ ?_)⟩
    have hb := run_beginRound (P := P) T.1 (hst _ _)
    rw [hbusy] at hb
    have T2 := T.put (R .busy none)
    refine ⟨_, hb, wpIn_mono (hbody _ s x _ (T.own hI hi _) hx) ?_⟩
    -- however the body is left, the record is turned
    have fin : ∀ (jump : Option Code) (U : World), KeepsFrom w.heap.size (W.putObj (w.heap.size + 1) (.loop (R .busy none))) U → Two w.heap.size (R .busy none) U ∧
        (Instr.endRound (w.heap.size + 1) jump).run P U = .ok (.bool jump.isNone) (U.putObj (w.heap.size + 1) (.loop (R (if jump.isNone then .ready else .done) jump))) := fun jump U hk => by
      have T3 := T2.keeps hk
      refine ⟨T3, ?_⟩
      have := run_endRound (P := P) jump T3.1
      rwa [hend] at this
    have out : ∀ (c : Code) (U : World), KeepsFrom w.heap.size (W.putObj (w.heap.size + 1) (.loop (R .busy none))) U → Ix c (s ++ [x]) U → ∃ v U', (Instr.endRound (w.heap.size + 1) (some c)).run P U = .ok v U' ∧
        ((Ending.returned v = .returned (.bool true) ∧ I (s ++ [x]) U' ∧ Two w.heap.size (R .ready none) U') ∨ (Ending.returned v = .returned (.bool false) ∧ ∃ c, Ix c (s ++ [x]) U' ∧ Two w.heap.size (R .done (some c)) U')) := fun c U hk hx => by
      obtain ⟨T3, hr⟩ := fin (some c) U hk
      exact ⟨_, _, hr, .inr ⟨rfl, c, T3.own (hIx c) hx _, T3.put _⟩⟩
    intro e a3 U hp
    match e with
    | .normal =>
      obtain ⟨T3, hr⟩ := fin none U hp.1
      exact ⟨_, _, hr, .inl ⟨rfl, T3.own hI hp.2.2 _, T3.put _⟩⟩
    | .ret => exact out .ret U hp.1 hp.2
    | .exit id => exact out (.exit id) U hp.1 hp.2
    | .goto t => exact out (.goto t) U hp.1 hp.2
    | .panic _ => exact hp.elim
    | .outgrown => exact hp.elim
  · rintro e U ⟨⟨v, rfl⟩, ⟨s, hS, hi, T⟩ | ⟨s, c, hx, T⟩⟩
    · refine ⟨none, _, ?_, hdone _ s _ (Nat.le_refl _) hS (T.own hI hi _) (T.put (R .exhausted none)).2⟩
      have := run_endLoop (P := P) T.1 (by rw [hst]; decide)
      rwa [hbusy, hpe] at this
    · refine ⟨some c, _, ?_, hstop _ c s _ (Nat.le_refl _) (T.own (hIx c) hx _) (T.put (R .exhausted (some c))).2⟩
      have := run_endLoop (P := P) T.1 (by rw [hst]; decide)
      rwa [hbusy, hpe] at this
end
end Go.Proofs.YteboadppighplaaGreat
/- Contracts: fate.devices, an iterator that may have no end. -/
namespace Go.Proofs.YteboadppighplaaGreat
open Go.RowKit Go.Shelf
attribute [local go_sem] Oper.semAt_some
attribute [local go_sem] wide_fn

/-- What the iterator holds. -/
def dvB (B : Nat) : Array Value := #[.pointer (some ⟨B + 1, 0, none⟩), .pointer (some ⟨B, 0, none⟩), .pointer (some ⟨B + 1 + 1, 0, none⟩)]
def enD (x : Int) : Array Value := #[.int .i64 x]
/-- What it asks of its caller: its own three boxes, the network, and in the box Bc as many devices as it has handed over, each once. -/
structure DvC (vp vl vr : Value) (ps : List Int) (ls : List Lk) (L : List Ru) (a : Nat) (d : Int) (B Bc : Nat) (s : List Int) (W : World) : Prop where
  net : At W B #[vp, vl, vr] 28
  dev : At W (B + 1) #[.int .i64 d] 3
  adr : At W (B + 1 + 1) #[.int .u32 a] 41
  isN : IsN W vp vl vr ps ls L
  len : lenAt W Bc = s.length
  lt : Bc < W.heap.size
  eq : s = dvs ls L a d s.length
  nd : s.Nodup
  go : goes ls L a d (s.length - 1)
/-- The next one. -/
def DvN (ls : List Lk) (L : List Ru) (a : Nat) (d : Int) (s : List Int) (x : Int) : Prop := x = dvI ls L a d s.length ∧ goes ls L a d s.length
/-- Where it ends. -/
def DvS (ls : List Lk) (L : List Ru) (a : Nat) (d : Int) (s : List Int) : Prop := ∃ k, s.length = k + 1 ∧ (stepN ls L (dvI ls L a d k) a).1 ≠ 4
theorem DvC.room {vp vl vr : Value} {ps : List Int} {ls : List Lk} {L : List Ru} {a : Nat} {d : Int} {B Bc : Nat} {s : List Int} {W : World} (h : DvC vp vl vr ps ls L a d B Bc s W) : s.length ≤ L.length + 1 := by
  obtain ⟨k, hk⟩ : ∃ k, s.length - 1 = k := ⟨_, rfl⟩
  have hg := h.go
  have he := h.eq
  have hn := h.nd
  rw [hk] at hg
  by_cases h0 : s.length = 0
  · omega
  · rw [show s.length = k + 1 by omega, dvs_succ] at he
    rw [he] at hn
    have := goes_room hg (nodup_snoc_iff.1 hn).1
    omega
set_option maxRecDepth 100000 in
theorem devices_in {A1 A2 A3 : Option Addr} {n1 c1 n2 c2 n3 c3 : Nat} (d : Int) (a : Nat) (n : Nat) (w : World) : CallsIn Fence.wide n Tryz.prog 56 #[.agg #[.slice A1 n1 c1, .slice A2 n2 c2, .slice A3 n3 c3], .int .i64 d, .int .u32 a] w fun e w' => e = .returned (.func (.func 75) #[] (dvB w.heap.size)) ∧
    w' = ((w.alloc (.cells #[.slice A1 n1 c1, .slice A2 n2 c2, .slice A3 n3 c3] 28)).alloc (.cells #[.int .i64 d] 3)).alloc (.cells #[.int .u32 a] 41) := by
  refine callsIn_of_wp Tryz.func56 rfl trivial ?_ rfl
  simp only [Tryz.ntmps56, List.size_toArray, List.length_cons, List.length_nil, Nat.reduceAdd, Nat.reduceSub, Array.replicate_succ, Array.replicate_zero, List.push_toArray, List.append_toArray, List.nil_append, List.cons_append]
  gi_wp2
  go_ret
  exact ⟨rfl, rfl⟩
set_option maxRecDepth 100000 in
set_option maxHeartbeats 4000000 in
theorem devices1_in {A1 A2 A3 : Option Addr} {n1 c1 n2 c2 n3 c3 : Nat} (ps : List Int) (ls : List Lk) (L : List Ru) (a : Nat) (d : Int) (B Bc n : Nat) (hn : 1 ≤ n) :
    HandsC Fence.wide n Tryz.prog 75 (dvB B) enD (DvC (.slice A1 n1 c1) (.slice A2 n2 c2) (.slice A3 n3 c3) ps ls L a d B Bc) (DvN ls L a d) (DvS ls L a d) := by
  intro l J Jx W hJ hC h0 hY
  have HC := Lib.hid hC
  have HJ : Hid (∀ s U U', J s U → Below U.heap.size U U' → J s U') := Lib.hid fun s U U' h hb => hJ s U U' none h (grown_none hb) (fun r e => by cases e)
  have HY := Lib.hid hY
  have H0 := Lib.hid h0
  have c0 := hC [] W h0
  have x1 := (c0.dev.cell 0).trans rfl
  clear hC hJ hY h0 c0
  unfold dvB
  refine callsIn_of_wp Tryz.func75 rfl trivial ?_ rfl
  simp only [Tryz.ntmps75, List.size_toArray, List.length_cons, List.length_nil, Nat.reduceAdd, Nat.reduceSub, Array.replicate_succ, Array.replicate_zero, List.push_toArray, List.append_toArray, List.nil_append, List.cons_append]
  gi_wp2
  gi_loopw [5] (fun v wr => ∃ x : Int, v = .int .i64 x ∧ Hid (∃ s, J s wr ∧ DvN ls L a d s x)) (fun _ wr => L.length + 3 - lenAt wr Bc)
  case atStart => exact ⟨d, rfl, Lib.hid ⟨[], H0.out, rfl, fun i hi => absurd hi (by simp)⟩⟩
  case round =>
    obtain ⟨x, rfl, HR⟩ := hrel
    obtain ⟨s, hj, hnx⟩ := HR.out
    clear HR x1
    have hroom := (HC.out s wr hj).room
    have hlen := (HC.out s wr hj).len
    rw [hlen]
    have HN := Lib.hid hnx
    obtain ⟨fn, tmps, assign, body, hy, hR⟩ := HY.out s x wr hj hnx
    unfold enD at hy
    clear hj hnx hlen
    gi_wp2
    refine hR.mono ?_
    clear hy hR
    rintro e W3 (⟨rfl, hj⟩ | ⟨rfl, hjx⟩)
    · have HC3 := Lib.hid (HC.out _ _ hj)
      have HJ3 := Lib.hid hj
      have y0 := (HC3.out.net.cell 0).trans rfl; have y1 := (HC3.out.net.cell 1).trans rfl; have y2 := (HC3.out.net.cell 2).trans rfl
      have y3 := (HC3.out.adr.cell 0).trans rfl
      have k1 := fstep_any ps ls L x a W3 HC3.out.isN
      have hs1 := HC3.out.net.lt
      clear hj
      obtain ⟨st, hst⟩ : ∃ st, st = stepN ls L x a := ⟨_, rfl⟩
      rw [← hst] at k1
      have HS : Hid (st = stepN ls L (dvI ls L a d s.length) a) := Lib.hid (by rw [hst, HN.out.1])
      have HO : Hid (onTo ls L x a = ((nextT ls st.2).getD ⟨0, 0⟩).d) := Lib.hid (by rw [hst]; rfl)
      clear hst
      obtain ⟨f, ⟨pd, pp⟩⟩ := st
      rw [show stepV (f, ⟨pd, pp⟩) = .tuple #[.int .i64 f, .agg #[.int .i64 pd, .int .i64 pp]] from rfl] at k1
      dsimp only at HO
      gi_upto_region 3 with (gi_at_call 57; refine (callsIn_wide.2 k1).mono ?_; rintro e w4 ⟨rfl, b4⟩)
      obtain ⟨w5, hw5⟩ : ∃ w5, w5 = w4.alloc (.cells #[.int .i64 pd, .int .i64 pp] 55) := ⟨_, rfl⟩
      have b5 : Below W3.heap.size W3 w5 := by rw [hw5]; exact b4.alloc b4.size _
      have P5 : At w5 w4.heap.size #[.int .i64 pd, .int .i64 pp] 55 := by rw [hw5]; exact At.new w4 _ _
      rw [← hw5]
      have HJ5 := Lib.hid (HJ.out _ _ _ HJ3.out b5)
      have HC5 := Lib.hid (HC.out _ _ HJ5.out)
      clear hw5 b4 y0 y1 y2 y3 k1 hs1
      by_cases h4 : f = 4
      · have hd : (f == 4) = true := by simp [h4]
        have hd2 : (!(f == 4)) = false := by simp [h4]
        have HG : Hid (goes ls L a d (s.length + 1)) := Lib.hid fun i hi => by
          by_cases his : i < s.length
          · exact HN.out.2 i his
          · rw [show i = s.length by omega, ← HS.out]; exact h4
        have z0 := (HC5.out.net.cell 0).trans rfl; have z1 := (HC5.out.net.cell 1).trans rfl
        have p0 := (P5.cell 0).trans rfl; have p1 := (P5.cell 1).trans rfl
        have k2 := next_any ps ls ⟨pd, pp⟩ w5 HC5.out.isN.1
        obtain ⟨qo, hqo⟩ : ∃ qo, qo = nextT ls ⟨pd, pp⟩ := ⟨_, rfl⟩
        rw [← hqo] at k2 HO
        rw [show nextV qo = .tuple #[.agg #[.int .i64 (qo.getD ⟨0, 0⟩).d, .int .i64 (qo.getD ⟨0, 0⟩).p], .bool qo.isSome] from rfl, show ptA ⟨pd, pp⟩ = #[.int .i64 pd, .int .i64 pp] from rfl] at k2
        generalize qo.isSome = qb at k2
        generalize hqg : qo.getD ⟨0, 0⟩ = qg at k2 HO
        obtain ⟨qd, qp⟩ := qg
        dsimp only at k2 HO
        clear hqo hqg
        subst h4
        gi_wp2_with (gi_at_call 76; refine (callsIn_wide.2 k2).mono ?_; rintro e w6 ⟨rfl, b6⟩)
        have HJ7 := Lib.hid (HJ.out _ _ (w6.alloc (.cells #[.int .i64 qd, .int .i64 qp] 55)) HJ5.out (b6.alloc b6.size _))
        go_roundw
        case rel => exact ⟨onTo ls L x a, by rw [HO.out], Lib.hid ⟨_, HJ7.out, by rw [List.length_append, List.length_singleton]; show _ = onTo ls L (dvI ls L a d s.length) a; rw [HN.out.1], by rw [List.length_append, List.length_singleton]; exact HG.out⟩⟩
        case measure =>
          rw [(HC.out _ _ HJ7.out).len]
          simp
          omega
      · have hd : (f == 4) = false := by simp [h4]
        have hd2 : (!(f == 4)) = true := by simp [h4]
        have HG : Hid (DvS ls L a d (s ++ [x])) := Lib.hid ⟨s.length, by simp, by rw [← HS.out]; exact h4⟩
        clear h4
        gi_wp2
        refine bodyPost_ret (results_none rfl _ _ _) rfl ?_
        exact ⟨⟨_, rfl⟩, .inl ⟨_, HG.out, HJ5.out⟩⟩
    · gi_wp2
      refine bodyPost_end (results_none rfl _ _ _) rfl ?_
      exact ⟨⟨_, rfl⟩, .inr ⟨_, hjx⟩⟩
end Go.Proofs.YteboadppighplaaGreat
/- Contracts: slices.Index, slices.Contains of numbers. -/
namespace Go.Proofs.YteboadppighplaaGreat
open Go.RowKit Go.Shelf

set_option maxRecDepth 100000 in
set_option maxHeartbeats 1000000 in
/-- slices.Index of numbers: whether it is at or above 0. -/
theorem indexInts_any {v : Value} (D : List Int) (x : Int) (w : World) (h : IsF 1 intA w v D) : Calls Tryz.prog 66 #[v, .int .i64 x] w fun e w' => ∃ r : Int, e = .returned (.int .i64 r) ∧ decide (0 ≤ r) = decide (x ∈ D) ∧ w' = w := by
  obtain ⟨A1, c1, rfl, n1, m1, z1⟩ := h
  have hL : D.length ≤ 9223372036854775807 := Nat.le_trans n1 m1
  have H1 := Lib.hid z1
  obtain ⟨q, hq⟩ : ∃ q, q = decide (x ∈ D) := ⟨_, rfl⟩
  rw [← hq]
  have HQ := Lib.hid hq
  clear z1 hq
  go_enter Tryz.func66, Tryz.ntmps66
  go_wp2
  go_loopw [8] (fun i wr => ∃ k : Nat, i = .int .i64 k ∧ k ≤ D.length ∧ Hid (∀ j (h1 : j < D.length), j < k → D[j] ≠ x) ∧ wr = w) (fun i _ => D.length - (intOf i).toNat)
  case atStart => exact ⟨0, rfl, by omega, Lib.hid (fun j _ hj => by omega), rfl⟩
  case round =>
    obtain ⟨k, rfl, hk, HK, rfl⟩ := hrel
    by_cases hlt : k < D.length
    · obtain ⟨g1, o1, e1, _, r⟩ := H1.out.at k hlt
      subst e1
      have r0 : wr.cell? ⟨g1, o1 + k, none⟩ = some (.int .i64 D[k]) := by have := r 0 (by decide); simpa [intA] using this
      have HX : Hid (x ≠ D[k] → ∀ j (h1 : j < D.length), j < k + 1 → D[j] ≠ x) := Lib.hid fun e j h1 hj => by
        by_cases hjk : j = k
        · subst hjk; exact fun h => e h.symm
        · exact HK.out j h1 (by omega)
      have HY : Hid (x = D[k] → q = true) := Lib.hid fun e => by
        rw [HQ.out]; exact decide_eq_true (e ▸ List.getElem_mem hlt)
      clear r
      generalize D[k] = y at r0 HX HY
      have i0 : (0 : Int) ≤ (k : Int) := by omega
      have i1 : (k : Int) < (D.length : Int) := by omega
      by_cases hxy : x = y
      · have hqt := HY.out hxy
        clear HX HY
        subst hqt
        have hb1 : (x == y) = true := by simp [hxy]
        have hb2 : decide (x = y) = true := by simp [hxy]
        clear hxy
        go_wp2
        go_ret
        exact ⟨_, rfl, by simp, rfl⟩
      · have HZ := Lib.hid (HX.out hxy)
        have hb1 : (x == y) = false := by simp [hxy]
        have hb2 : decide (x = y) = false := by simp [hxy]
        clear HX HY hxy
        go_wp2
        go_roundw
        case rel => exact ⟨k + 1, by go_num, by omega, HZ, (by first | rfl | trivial)⟩
        case measure => simp [intOf]; omega
    · have hqf : q = false := by
        rw [HQ.out]; apply decide_eq_false
        intro hm
        obtain ⟨j, hj, e⟩ := List.getElem_of_mem hm
        exact HK.out j hj (by omega) e
      have hki : ¬ (k : Int) < (D.length : Int) := by omega
      subst hqf
      go_wp2
      go_ret
      exact ⟨_, rfl, by simp, rfl⟩
set_option maxRecDepth 100000 in
/-- slices.Contains of numbers. -/
theorem containsInts_any {v : Value} (D : List Int) (x : Int) (w : World) (h : IsF 1 intA w v D) : Calls Tryz.prog 39 #[v, .int .i64 x] w fun e w' => e = .returned (.bool (decide (x ∈ D))) ∧ w' = w := by
  have k1 := indexInts_any D x w h
  generalize decide (x ∈ D) = q at k1
  obtain ⟨A1, c1, rfl, _⟩ := h
  go_enter Tryz.func39, Tryz.ntmps39
  go_wp2_with (go_at_call 66; refine k1.mono ?_; rintro e w1 ⟨r, rfl, hr, rfl⟩)
  go_ret
  exact ⟨by rw [← hr]; rfl, rfl⟩
end Go.Proofs.YteboadppighplaaGreat
/- Contract: fate.Trace, of any network. -/
namespace Go.Proofs.YteboadppighplaaGreat
open Go.RowKit Go.Shelf
attribute [local go_sem] Oper.semAt_some
attribute [local go_sem] wide_fn

/-- Where Trace's loop stands: the network's box, the result's two, the devices' box, the iterator's three; the row of devices. -/
structure TrJ (A1 A2 A3 : Option Addr) (c1 c2 c3 : Nat) (ps : List Int) (ls : List Lk) (L : List Ru) (a : Nat) (d : Int) (w : World) (s : List Int) (W : World) : Prop where
  net : At W w.heap.size #[.slice A1 ps.length c1, .slice A2 ls.length c2, .slice A3 L.length c3] 28
  res : At W (w.heap.size + 1) #[.slice none 0 0, .int .i64 0, .int .i64 0, .int .i64 0] 57
  err : At W (w.heap.size + 1 + 1) #[.int .i64 0] 33
  bn : At W (w.heap.size + 1 + 1 + 1 + 1) #[.slice A1 ps.length c1, .slice A2 ls.length c2, .slice A3 L.length c3] 28
  bd : At W (w.heap.size + 1 + 1 + 1 + 1 + 1) #[.int .i64 d] 3
  ba : At W (w.heap.size + 1 + 1 + 1 + 1 + 1 + 1) #[.int .u32 a] 41
  came : ∃ v, At W (w.heap.size + 1 + 1 + 1) #[v] 22 ∧ W.ownsRow (w.heap.size + 1 + 1 + 1 + 1 + 1 + 1 + 1) 3 1 v s.length (fcs intA s)
  bel : Below w.heap.size w W
  sz : w.heap.size + 1 + 1 + 1 + 1 + 1 + 1 + 1 ≤ W.heap.size
  eq : s = dvs ls L a d s.length
  nd : s.Nodup
  go : goes ls L a d (s.length - 1)
/-- Where a round has answered. -/
structure TrX (ps : List Int) (ls : List Lk) (L : List Ru) (a : Nat) (d : Int) (w : World) (s : List Int) (W : World) : Prop where
  res : ∃ v, At W (w.heap.size + 1) #[v, .int .i64 4, .int .i64 0, .int .i64 0] 57 ∧ W.ownsRow (w.heap.size + 1 + 1 + 1 + 1 + 1 + 1 + 1) 3 1 v s.length (fcs intA s)
  err : At W (w.heap.size + 1 + 1) #[.int .i64 0] 33
  bel : Below w.heap.size w W
  val : trcA ps ls L a d = ⟨s, 4, ⟨0, 0⟩⟩
  pos : 0 < s.length
theorem at_from {W W' : World} {n B : Nat} {cs : Array Value} {t : TypeId} {row : Option Nat} (h : At W B cs t) (hg : W.grownBy W' row) (hr : ∀ r, row = some r → n ≤ r ∧ ∃ o : Obj, W.heap[r]? = some o ∧ o.isCells = false) : At W' B cs t :=
  h.kept hg fun e => by obtain ⟨_, o, ho, hc⟩ := hr B e.symm; rw [show W.heap[B]? = _ from h] at ho; cases ho; cases hc
theorem row_from {W W' : World} {n base size k : Nat} {e : TypeId} {v : Value} {xs : List Value} {row : Option Nat} (h : W.ownsRow base e size v k xs) (hg : W.grownBy W' row) (hr : ∀ r, row = some r → n ≤ r ∧ ∃ o : Obj, W.heap[r]? = some o ∧ o.isCells = false) : W'.ownsRow base e size v k xs := by
  refine h.kept hg ?_
  rcases h.2 with ⟨rfl, _⟩ | ⟨g, cap, cur, rfl, _, hgb, _⟩
  · exact .inl rfl
  · refine .inr fun e' => ?_
    obtain ⟨_, o, ho, hc⟩ := hr g e'.symm
    rw [hgb] at ho; cases ho; cases hc
theorem below_from {B n : Nat} {w W W' : World} {row : Option Nat} (h : Below B w W) (hB : B ≤ W.heap.size) (hn : B ≤ n) (hg : W.grownBy W' row) (hr : ∀ r, row = some r → n ≤ r ∧ ∃ o : Obj, W.heap[r]? = some o ∧ o.isCells = false) : Below B w W' :=
  h.grown hg hB fun k hk => Nat.le_trans hn (hr k hk).1
theorem trj_own {A1 A2 A3 : Option Addr} {c1 c2 c3 : Nat} {ps : List Int} {ls : List Lk} {L : List Ru} {a : Nat} {d : Int} {w : World} {n : Nat} (hn : w.heap.size ≤ n) : OwnFrom n (TrJ A1 A2 A3 c1 c2 c3 ps ls L a d w) := fun _ _ _ _ h hg hr =>
  ⟨at_from h.net hg hr, at_from h.res hg hr, at_from h.err hg hr, at_from h.bn hg hr, at_from h.bd hg hr, at_from h.ba hg hr, by obtain ⟨v, h1, h2⟩ := h.came; exact ⟨v, at_from h1 hg hr, row_from h2 hg hr⟩, below_from h.bel h.bel.size hn hg hr, Nat.le_trans h.sz hg.size, h.eq, h.nd, h.go⟩
theorem trx_own {ps : List Int} {ls : List Lk} {L : List Ru} {a : Nat} {d : Int} {w : World} {n : Nat} (hn : w.heap.size ≤ n) : OwnFrom n (TrX ps ls L a d w) := fun _ _ _ _ h hg hr =>
  ⟨by obtain ⟨v, h1, h2⟩ := h.res; exact ⟨v, at_from h1 hg hr, row_from h2 hg hr⟩, at_from h.err hg hr, below_from h.bel h.bel.size hn hg hr, h.val, h.pos⟩
theorem TrJ.dvc {A1 A2 A3 : Option Addr} {c1 c2 c3 : Nat} {ps : List Int} {ls : List Lk} {L : List Ru} {a : Nat} {d : Int} {w W : World} {s : List Int} (h : TrJ A1 A2 A3 c1 c2 c3 ps ls L a d w s W) (hN : IsN w (.slice A1 ps.length c1) (.slice A2 ls.length c2) (.slice A3 L.length c3) ps ls L) :
    DvC (.slice A1 ps.length c1) (.slice A2 ls.length c2) (.slice A3 L.length c3) ps ls L a d (w.heap.size + 1 + 1 + 1 + 1) (w.heap.size + 1 + 1 + 1) s W := by
  obtain ⟨v, hv, hrow⟩ := h.came
  refine ⟨h.bn, h.bd, h.ba, hN.belows h.bel, ?_, hv.lt, h.eq, h.nd, h.go⟩
  have hc := (hv.cell 0).trans rfl
  rcases hrow.2 with ⟨e, h0⟩ | ⟨g, cap, cur, e, _⟩
  · rw [e] at hc; rw [lenAt_of hc]; exact h0.symm
  · rw [e] at hc; exact lenAt_of hc
set_option maxRecDepth 100000 in
set_option maxHeartbeats 4000000 in
theorem ftrace_in {vp vl vr : Value} (ps : List Int) (ls : List Lk) (L : List Ru) (d : Int) (a : Nat) (w : World) (hW : NW ps ls L) (h : IsN w vp vl vr ps ls L) (hin : inD ps d) : CallsIn Fence.wide 5 Tryz.prog 25 #[.agg #[vp, vl, vr], .int .i64 d, .int .u32 a] w (TrOut (trcA ps ls L a d) w) := by
  have HN := Lib.hid h
  obtain ⟨⟨⟨A1, c1, rfl, n1, m1, _⟩, ⟨A2, c2, rfl, _⟩⟩, ⟨A3, c3, rfl, _⟩⟩ := h
  have hM : ps.length ≤ 9223372036854775807 := Nat.le_trans n1 m1
  have e1 : decide (d < 0) = false := decide_eq_false (by have := hin.1; omega)
  have e2 : decide ((ps.length : Int) ≤ d) = false := decide_eq_false (by have := hin.2; omega)
  have D0 := ((At.new w #[.slice A1 ps.length c1, .slice A2 ls.length c2, .slice A3 L.length c3] 28).alloc (.cells #[.slice none 0 0, .int .i64 0, .int .i64 0, .int .i64 0] 57)).alloc (.cells #[.int .i64 0] 33)
  have R0 := (At.new1 w (.cells #[.slice A1 ps.length c1, .slice A2 ls.length c2, .slice A3 L.length c3] 28) #[.slice none 0 0, .int .i64 0, .int .i64 0, .int .i64 0] 57).alloc (.cells #[.int .i64 0] 33)
  have E0 := At.new2 w (.cells #[.slice A1 ps.length c1, .slice A2 ls.length c2, .slice A3 L.length c3] 28) (.cells #[.slice none 0 0, .int .i64 0, .int .i64 0, .int .i64 0] 57) #[.int .i64 0] 33
  have b0 : Below w.heap.size w (((w.alloc (.cells #[.slice A1 ps.length c1, .slice A2 ls.length c2, .slice A3 L.length c3] 28)).alloc (.cells #[.slice none 0 0, .int .i64 0, .int .i64 0, .int .i64 0] 57)).alloc (.cells #[.int .i64 0] 33)) := (((Below.refl _ w).alloc (Nat.le_refl _) _).alloc (by simp) _).alloc (by simp; omega) _
  have hs0 : (((w.alloc (.cells #[.slice A1 ps.length c1, .slice A2 ls.length c2, .slice A3 L.length c3] 28)).alloc (.cells #[.slice none 0 0, .int .i64 0, .int .i64 0, .int .i64 0] 57)).alloc (.cells #[.int .i64 0] 33)).heap.size = w.heap.size + 1 + 1 + 1 := by simp
  clear hin
  refine callsIn_of_wp_marks Tryz.func25 rfl trivial ?_ rfl
  simp only [Tryz.ntmps25, List.size_toArray, List.length_cons, List.length_nil, Nat.reduceAdd, Nat.reduceSub, Array.replicate_succ, Array.replicate_zero, List.push_toArray, List.append_toArray, List.nil_append, List.cons_append]
  gi_upto_region 1 with (fail)
  obtain ⟨w0, hw0⟩ : ∃ w0, w0 = (((w.alloc (.cells #[.slice A1 ps.length c1, .slice A2 ls.length c2, .slice A3 L.length c3] 28)).alloc (.cells #[.slice none 0 0, .int .i64 0, .int .i64 0, .int .i64 0] 57)).alloc (.cells #[.int .i64 0] 33)) := ⟨_, rfl⟩
  rw [← hw0] at D0 R0 E0 b0 hs0 ⊢
  clear hw0
  have x0 := (D0.cell 0).trans rfl
  have x1 := (D0.cell 1).trans rfl
  have x2 := (D0.cell 2).trans rfl
  have HS0 := Lib.hid hs0
  have hlt0 := D0.lt
  clear hs0
  gi_wp2_with (gi_at_call 56; refine (devices_in d a _ _).mono ?_; rintro e w2 ⟨rfl, rfl⟩)
  rw [HS0.out]
  obtain ⟨W2, hW2⟩ : ∃ W2, W2 = ((((w0.alloc (.cells #[.slice none 0 0] 22)).alloc (.cells #[.slice A1 ps.length c1, .slice A2 ls.length c2, .slice A3 L.length c3] 28)).alloc (.cells #[.int .i64 d] 3)).alloc (.cells #[.int .u32 a] 41)) := ⟨_, rfl⟩
  have hsz : W2.heap.size = w.heap.size + 1 + 1 + 1 + 1 + 1 + 1 + 1 := by rw [hW2]; simp; have := HS0.out; omega
  have hJ0 : TrJ A1 A2 A3 c1 c2 c3 ps ls L a d w [] W2 := by
    have q0 := At.new w0 #[.slice none 0 0] 22
    have q1 := At.new1 w0 (.cells #[.slice none 0 0] 22) #[.slice A1 ps.length c1, .slice A2 ls.length c2, .slice A3 L.length c3] 28
    have q2 := At.new2 w0 (.cells #[.slice none 0 0] 22) (.cells #[.slice A1 ps.length c1, .slice A2 ls.length c2, .slice A3 L.length c3] 28) #[.int .i64 d] 3
    have q3 := At.new2 (w0.alloc (.cells #[.slice none 0 0] 22)) (.cells #[.slice A1 ps.length c1, .slice A2 ls.length c2, .slice A3 L.length c3] 28) (.cells #[.int .i64 d] 3) #[.int .u32 a] 41
    rw [World.size_alloc] at q3
    rw [HS0.out] at q0 q1 q2 q3
    have g : ∀ {B : Nat} {cs : Array Value} {t : TypeId}, At w0 B cs t → At W2 B cs t := fun h => by rw [hW2]; exact (((h.alloc _).alloc _).alloc _).alloc _
    refine ⟨g D0, g R0, g E0, ?_, ?_, ?_, ⟨_, ?_, World.ownsRow_nil _ _ _ _⟩, ?_, by omega, rfl, List.nodup_nil, fun i hi => absurd hi (by simp)⟩
    · rw [hW2]; exact (q1.alloc _).alloc _
    · rw [hW2]; exact q2.alloc _
    · rw [hW2]; exact q3
    · rw [hW2]; exact ((q0.alloc _).alloc _).alloc _
    · rw [hW2]; exact (((b0.alloc b0.size _).alloc (by have := b0.size; simp; omega) _).alloc (by have := b0.size; simp; omega) _).alloc (by have := b0.size; simp; omega) _
  rw [← hW2]
  have HJ0 := Lib.hid hJ0
  clear hJ0 hW2 x0 x1 x2 D0 R0 E0 b0 hlt0
  have hn2 : w.heap.size ≤ W2.heap.size := by omega
  have HSZ := Lib.hid hsz
  clear hsz
  refine range_c rfl (by omega) (gf := 75) (lb := dvB (w.heap.size + 1 + 1 + 1 + 1)) rfl trivial (enters_of Tryz.func75 (by kernel_rfl) rfl)
    (devices1_in ps ls L a d (w.heap.size + 1 + 1 + 1 + 1) (w.heap.size + 1 + 1 + 1) 4 (by omega)) (fun _ => rfl)
    (TrJ A1 A2 A3 c1 c2 c3 ps ls L a d w) (fun c s W => c = .ret ∧ TrX ps ls L a d w s W)
    (trj_own hn2) (fun c s W W' row hs hg hr => ⟨hs.1, trx_own hn2 s W W' row hs.2 hg hr⟩) (fun s W hs => hs.dvc HN.out) HJ0.out
    (fun x => { tmps := #[.agg #[.slice A1 ps.length c1, .slice A2 ls.length c2, .slice A3 L.length c3], .int .i64 d, .int .u32 a, .pointer (some ⟨w.heap.size, 0, none⟩), undef, undef, .pointer (some ⟨w.heap.size + 1, 0, none⟩), .pointer (some ⟨w.heap.size + 1 + 1, 0, none⟩), .pointer (some ⟨w.heap.size + 1 + 1 + 1, 0, none⟩), .int .i64 x, undef, undef, undef, .int .i64 d, .bool false, .bool false, .int .i64 d, .pointer (some ⟨w.heap.size, 0, none⟩), .pointer (some ⟨w.heap.size, 0, none⟩), .slice A1 ps.length c1, .int .i64 ps.length, .bool false, .bool false, undef, .agg #[.slice A1 ps.length c1, .slice A2 ls.length c2, .slice A3 L.length c3], .int .i64 d, .int .u32 a, .func (.func 75) #[] (dvB (w.heap.size + 1 + 1 + 1 + 1)), .int .i64 x, undef, undef, undef, undef, undef, undef, undef, undef, undef, undef, undef, undef, undef, undef, undef, undef, undef, undef, undef, undef, undef, undef, undef, undef, undef, undef], defers := [] }) ?asg ?body ?done ?stop
  case asg =>
    rintro l x W K hK
    simp only [enD]
    gi_wp2
    exact hK
  case body =>
    rintro l s x W hJ hx
    dsimp only
    obtain ⟨v, hv, hrow⟩ := hJ.came
    have HJ := Lib.hid hJ
    have HX := Lib.hid hx
    have kh := containsInts_any s x W (isF_of_row intA_size hrow)
    have hroom := (hJ.dvc HN.out).room
    have hL3 := hW.room
    have t0 := (hv.cell 0).trans rfl
    have HROW := Lib.hid hrow
    have HV := Lib.hid hv
    have hcb := hv.lt
    -- behind append
    have HAPP : Hid (∀ v' w5, w5.ownsRow (w.heap.size + 1 + 1 + 1 + 1 + 1 + 1 + 1) 3 1 v' (s ++ [x]).length (fcs intA (s ++ [x])) → (W.alloc (.cells #[.int .i64 x] 3)).grownBy w5 v.ownBlock → ∃ g cap, v' = .slice (some ⟨g, 0, none⟩) (s.length + 1) cap ∧
        At w5 (w.heap.size + 1 + 1 + 1) #[v] 22 ∧ At w5 (w.heap.size + 1) #[.slice none 0 0, .int .i64 0, .int .i64 0, .int .i64 0] 57 ∧ At w5 (w.heap.size + 1 + 1) #[.int .i64 0] 33 ∧ Below (w.heap.size + 1 + 1 + 1 + 1 + 1 + 1 + 1) (W.alloc (.cells #[.int .i64 x] 3)) w5 ∧ KeepsFrom W2.heap.size W w5) := Lib.hid fun v' w5 ho hg => by
      have hw := HJ.out
      have hsz := hw.sz
      obtain ⟨g, cap, e, _, _⟩ := row_some ho (by simp)
      have hb : Below (w.heap.size + 1 + 1 + 1 + 1 + 1 + 1 + 1) (W.alloc (.cells #[.int .i64 x] 3)) w5 := (Below.refl _ _).grown hg (by simp; omega) (fun k hk => (HROW.out.lt k hk).1)
      refine ⟨g, cap, by rw [e]; simp, (HV.out.alloc _).below hb (by omega), (hw.res.alloc _).below hb (by omega), (hw.err.alloc _).below hb (by omega), hb, ?_⟩
      refine ((KeepsOthers.alloc W _).trans (KeepsOthers.of_grownBy hg fun j o hj ho' => ?_)).from _
      rcases (HROW.out.alloc (.cells #[.int .i64 x] 3)).2 with ⟨e', _⟩ | ⟨g', cap', cur, e', _, hgb, _⟩
      · rw [e'] at hj; simp [Value.ownBlock] at hj
      · rw [e'] at hj
        obtain rfl : g' = j := by simpa [Value.ownBlock] using hj
        rw [hgb] at ho'; cases ho'; rfl
    clear hJ hx hrow hv
    obtain ⟨q, hq⟩ : ∃ q, q = decide (x ∈ s) := ⟨_, rfl⟩
    rw [← hq] at kh
    have HQ := Lib.hid hq
    clear hq
    obtain ⟨i0, hi, hz0, hz1, hz2⟩ := info_parts infoInt
    gi_upto_region 8 with (first
      | (gi_at_call 39; refine ((callsIn_wide.2 kh).inRound _).mono ?_; rintro e u2 ⟨rfl, e2⟩; rw [e2]; clear e2 u2)
      | (gi_at_builtin; refine wpListIn_append_own _ rfl _ _ 22 rfl (w.heap.size + 1 + 1 + 1 + 1 + 1 + 1 + 1) 3 i0 (.int .i64 0) 1 8 Tryz.underlying22 hi hz0 hz1 hz2 rfl (by decide) _ _ _ rfl (HROW.out.alloc _) ⟨W.heap.size, 0, none⟩ 1 1 [.int .i64 x] rfl rfl (f_new intA_size W [x] #[.int .i64 x] 3 rfl) (by simp [Value.oneCell']) (by simp only [maxLen]; omega) (by omega) (by have := HJ.out.sz; simp; omega) ?_; intro v' w5 ho hgrow _; obtain ⟨g, cap, rfl, C5, R5, E5, b5, k5⟩ := HAPP.out v' w5 (by rw [fcs_append, List.length_append]; exact ho) hgrow; have y0 := (C5.cell 0).trans rfl; have z0 := C5.frozen 0))
    have HJ1 := HJ.out
    have bw5 : Below w.heap.size w w5 := (HJ1.bel.alloc HJ1.bel.size _).trans (b5.mono (by omega))
    have N6 := ((HJ1.net.alloc (.cells #[.int .i64 x] 3)).below b5 (by omega)).other (B' := w.heap.size + 1 + 1 + 1) (by omega) 0 (.slice (some ⟨g, 0, none⟩) (s.length + 1) cap)
    have n6 := ((HJ1.bn.alloc (.cells #[.int .i64 x] 3)).below b5 (by omega)).other (B' := w.heap.size + 1 + 1 + 1) (by omega) 0 (.slice (some ⟨g, 0, none⟩) (s.length + 1) cap)
    have d6 := ((HJ1.bd.alloc (.cells #[.int .i64 x] 3)).below b5 (by omega)).other (B' := w.heap.size + 1 + 1 + 1) (by omega) 0 (.slice (some ⟨g, 0, none⟩) (s.length + 1) cap)
    have a6 := ((HJ1.ba.alloc (.cells #[.int .i64 x] 3)).below b5 (by omega)).other (B' := w.heap.size + 1 + 1 + 1) (by omega) 0 (.slice (some ⟨g, 0, none⟩) (s.length + 1) cap)
    have sz5 : w.heap.size + 1 + 1 + 1 + 1 + 1 + 1 + 1 ≤ w5.heap.size := by have := HJ1.sz; have := b5.size; simp at this; omega
    obtain ⟨w6, hw6⟩ : ∃ w6, w6 = w5.setCell ⟨w.heap.size + 1 + 1 + 1, 0, none⟩ (.slice (some ⟨g, 0, none⟩) (s.length + 1) cap) := ⟨_, rfl⟩
    have C6 := C5.set0 0 (.slice (some ⟨g, 0, none⟩) (s.length + 1) cap)
    have R6 := R5.other (B' := w.heap.size + 1 + 1 + 1) (by omega) 0 (.slice (some ⟨g, 0, none⟩) (s.length + 1) cap)
    have E6 := E5.other (B' := w.heap.size + 1 + 1 + 1) (by omega) 0 (.slice (some ⟨g, 0, none⟩) (s.length + 1) cap)
    have o6 := row_far ho (grownBy_set w5 (w.heap.size + 1 + 1 + 1) 0 (.slice (some ⟨g, 0, none⟩) (s.length + 1) cap)) (by omega)
    have bw6 := bw5.setCell (p := ⟨w.heap.size + 1 + 1 + 1, 0, none⟩) (by show w.heap.size ≤ w.heap.size + 1 + 1 + 1; omega) (.slice (some ⟨g, 0, none⟩) (s.length + 1) cap)
    have k6 := k5.trans ((KeepsOthers.setCell w5 ⟨w.heap.size + 1 + 1 + 1, 0, none⟩ (.slice (some ⟨g, 0, none⟩) (s.length + 1) cap)).from W2.heap.size)
    have sz6 : w.heap.size + 1 + 1 + 1 + 1 + 1 + 1 + 1 ≤ (w5.setCell ⟨w.heap.size + 1 + 1 + 1, 0, none⟩ (.slice (some ⟨g, 0, none⟩) (s.length + 1) cap)).heap.size := by simpa using sz5
    rw [← hw6] at N6 n6 d6 a6 C6 R6 E6 o6 bw6 k6 sz6 ⊢
    change At w6 _ #[.slice (some ⟨g, 0, none⟩) (s.length + 1) cap] _ at C6
    obtain ⟨hxe, hgo⟩ := HX.out
    have heq := HJ1.eq
    clear hw6 C5 R5 E5 ho bw5 b5 k5 sz5 y0 z0 HAPP hgrow kh t0 hW
    cases q with
    | false =>
      have hmem : x ∉ s := of_decide_eq_false HQ.out.symm
      have HF : Hid (TrJ A1 A2 A3 c1 c2 c3 ps ls L a d w (s ++ [x]) w6) := Lib.hid (by
        refine ⟨N6, R6, E6, n6, d6, a6, ⟨_, C6, by rw [fcs_append, List.length_append]; exact o6⟩, bw6, sz6, ?_, nodup_snoc_iff.2 ⟨HJ1.nd, hmem⟩, ?_⟩
        · rw [List.length_append, List.length_singleton, dvs_succ, ← heq, ← hxe]
        · rw [List.length_append, List.length_singleton]; exact hgo)
      have HK := Lib.hid k6
      clear N6 n6 d6 a6 C6 R6 E6 o6 bw6 k6 sz6 hxe hgo heq HJ1
      gi_wp2
      exact ⟨HK.out, trivial, HF.out⟩
    | true =>
      have hmem : x ∈ s := of_decide_eq_true HQ.out.symm
      have HV : Hid (trcA ps ls L a d = ⟨s ++ [x], 4, ⟨0, 0⟩⟩) := Lib.hid (by
        have hnd := HJ1.nd
        rw [heq] at hnd hmem
        rw [hxe] at hmem
        rw [trcA_in hgo hnd hmem, ← heq, ← hxe])
      have HO6 := Lib.hid o6
      have HB6 := Lib.hid bw6
      have HK6 := Lib.hid k6
      clear N6 n6 d6 a6 o6 bw6 k6 hxe hgo heq HJ1
      have t0 := (C6.cell 0).trans rfl
      have r0 := (R6.cell 0).trans rfl; have r1 := (R6.cell 1).trans rfl; have r2 := (R6.cell 2).trans rfl; have r3 := (R6.cell 3).trans rfl
      have q0 := R6.frozen 0; have q1 := R6.frozen 1; have q2 := R6.frozen 2; have q3 := R6.frozen 3
      have u0 := (E6.cell 0).trans rfl; have v0 := E6.frozen 0
      gi_wp2
      have Z := (putW_at (g := g) (n := s.length + 1) (cap := cap) (f := 4) (pd := 0) (pp := 0) R6).other (B' := w.heap.size + 1 + 1) (by omega) 0 (.int .i64 0)
      have hb : ∀ (U : World) (B j : Nat) (v : Value), w.heap.size ≤ B → Below w.heap.size w U → Below w.heap.size w (U.setCell ⟨B, j, none⟩ v) := fun U B j v hB h => h.setCell (p := ⟨B, j, none⟩) hB v
      have hk : ∀ (U : World) (p : Addr) (v : Value), KeepsFrom W2.heap.size W U → KeepsFrom W2.heap.size W (U.setCell p v) := fun U p v h => h.trans ((KeepsOthers.setCell U p v).from _)
      have hr : ∀ (U : World) (B j : Nat) (v : Value), B < w.heap.size + 1 + 1 + 1 → U.ownsRow (w.heap.size + 1 + 1 + 1 + 1 + 1 + 1 + 1) 3 1 (.slice (some ⟨g, 0, none⟩) (s.length + 1) cap) (s.length + 1) (fcs intA s ++ [.int .i64 x]) → (U.setCell ⟨B, j, none⟩ v).ownsRow (w.heap.size + 1 + 1 + 1 + 1 + 1 + 1 + 1) 3 1 (.slice (some ⟨g, 0, none⟩) (s.length + 1) cap) (s.length + 1) (fcs intA s ++ [.int .i64 x]) := fun U B j v hB h => row_far h (grownBy_set U B j v) (by omega)
      have Y := ((((E6.other (B' := w.heap.size + 1) (by omega) 0 (.slice (some ⟨g, 0, none⟩) (s.length + 1) cap)).other (B' := w.heap.size + 1) (by omega) 1 (.int .i64 4)).other (B' := w.heap.size + 1) (by omega) 2 (.int .i64 0)).other (B' := w.heap.size + 1) (by omega) 3 (.int .i64 0)).set0 0 (.int .i64 0)
      refine ⟨hk _ _ _ (hk _ _ _ (hk _ _ _ (hk _ _ _ (hk _ _ _ HK6.out)))), rfl, ⟨⟨_, Z, ?_⟩, Y, ?_, HV.out, by simp⟩⟩
      · rw [fcs_append, List.length_append]
        exact hr _ _ _ _ (by omega) (hr _ _ _ _ (by omega) (hr _ _ _ _ (by omega) (hr _ _ _ _ (by omega) (hr _ _ _ _ (by omega) HO6.out))))
      · exact hb _ _ _ _ (by omega) (hb _ _ _ _ (by omega) (hb _ _ _ _ (by omega) (hb _ _ _ _ (by omega) (hb _ _ _ _ (by omega) HB6.out))))
  case done =>
    rintro D s W hD ⟨k, hsk, h4⟩ hJ hK
    gi_upto_region 10 with (fail)
    obtain ⟨v, hv, hrow⟩ := hJ.came
    have HJ := Lib.hid hJ
    have hk' : s.length = k + 1 := hsk
    obtain ⟨g, cap, rfl, hgb, hglt⟩ := row_some hrow (by omega)
    have hlast : W.cell? ⟨g, k, none⟩ = some (.int .i64 (dvI ls L a d k)) := by
      have e0 := World.ownsRow.cellAt hrow k (by rw [hk']; omega)
      rw [e0]
      have he := hJ.eq
      rw [hk', dvs_succ] at he
      rw [he, fcs_append]
      have hlen : (fcs intA (dvs ls L a d k)).length = k := by rw [fcs_length intA_size, dvs_len]; omega
      rw [List.getElem?_append_right (by rw [hlen]; exact Nat.le_refl _), hlen, Nat.sub_self]
      rfl
    obtain ⟨x, hx⟩ : ∃ x, x = dvI ls L a d k := ⟨_, rfl⟩
    rw [← hx] at hlast h4
    have HX := Lib.hid hx
    obtain ⟨st, hst⟩ : ∃ st, st = stepN ls L x a := ⟨_, rfl⟩
    have HST : Hid (∀ u, Below W.heap.size W u → Calls Tryz.prog 57 #[.agg #[.slice A1 ps.length c1, .slice A2 ls.length c2, .slice A3 L.length c3], .int .i64 x, .int .u32 a] u fun e w' => e = .returned (stepV st) ∧ Below u.heap.size u w') := Lib.hid fun u hu => by
      rw [hst]; exact fstep_any ps ls L x a u (HN.out.belows (HJ.out.bel.trans (hu.mono HJ.out.bel.size)))
    have HV : Hid (trcA ps ls L a d = ⟨s, st.1, st.2⟩) := Lib.hid (by
      have hgo := HJ.out.go
      have hnd := HJ.out.nd
      have he := HJ.out.eq
      rw [hk'] at hgo he
      rw [he] at hnd ⊢
      rw [hst, hx]
      exact trcA_end hgo hnd (by rw [← hx]; exact h4))
    obtain ⟨f, ⟨pd, pp⟩⟩ := st
    rw [show stepV (f, ⟨pd, pp⟩) = .tuple #[.int .i64 f, .agg #[.int .i64 pd, .int .i64 pp]] from rfl] at HST
    obtain ⟨N, hN⟩ : ∃ N, N = s.length := ⟨_, rfl⟩
    rw [← hN] at hv hk'
    have SZ : Hid (∀ u, Below W.heap.size W u → u.cell? ⟨w.heap.size, 0, none⟩ = some (.slice A1 ps.length c1) ∧ u.cell? ⟨w.heap.size, 1, none⟩ = some (.slice A2 ls.length c2) ∧ u.cell? ⟨w.heap.size, 2, none⟩ = some (.slice A3 L.length c3) ∧ u.cell? ⟨w.heap.size + 1 + 1 + 1, 0, none⟩ = some (.slice (some ⟨g, 0, none⟩) N cap) ∧ u.cell? ⟨g, k, none⟩ = some (.int .i64 x)) := Lib.hid fun u hu =>
      ⟨((HJ.out.net.belows hu).cell 0).trans rfl, ((HJ.out.net.belows hu).cell 1).trans rfl, ((HJ.out.net.belows hu).cell 2).trans rfl, ((hv.belows hu).cell 0).trans rfl, (hu.cell (p := ⟨g, _, none⟩) hglt).trans hlast⟩
    have HROW := Lib.hid hrow
    have HCB := Lib.hid hv
    have hroom := (HJ.out.dvc HN.out).room
    have hL3 := hW.room
    have hNk : N ≤ 9223372036854775807 := by omega
    have i2 : IntKind.i64.wrap ((N : Int) - 1) = (k : Int) := by rw [IntWalk.i64_in _ (by omega)]; omega
    have i3 : (k : Int) < (N : Int) := by omega
    have i5 : (0 : Int) ≤ (k : Int) := by omega
    have HNN := Lib.hid hN
    clear hN hk' hroom hL3
    clear hJ hv hrow hlast hst hx h4 hW hgb hsk
    gi_cut [11, 12] from 39 (fun fr p wc => fr = .int .i64 f ∧ ∃ UB : Nat, p = .pointer (some ⟨UB, 0, none⟩) ∧ Hid (At wc UB #[.int .i64 pd, .int .i64 pp] 55 ∧ Below W.heap.size W wc))
    case first =>
      refine wpIn_wide.2 ?_
      go_region_held3 (fun W' => W'.cell? ⟨w.heap.size, 0, none⟩ = some (.slice A1 ps.length c1) ∧ W'.cell? ⟨w.heap.size, 1, none⟩ = some (.slice A2 ls.length c2) ∧ W'.cell? ⟨w.heap.size, 2, none⟩ = some (.slice A3 L.length c3) ∧ W'.cell? ⟨w.heap.size + 1 + 1 + 1, 0, none⟩ = some (.slice (some ⟨g, 0, none⟩) N cap) ∧ W'.cell? ⟨g, k, none⟩ = some (.int .i64 x))
        (first | exact SZ.out _ b5w | exact SZ.out _ (b5w.alloc b5w.size _) | exact SZ.out _ ((b5w.setCell (p := ⟨W.heap.size, 0, none⟩) (Nat.le_refl _) _).setCell (p := ⟨W.heap.size, 1, none⟩) (Nat.le_refl _) _) | exact SZ.out _ ((Below.refl _ W).alloc (Nat.le_refl _) _).drew | exact SZ.out _ (bdrewN (Below.refl _ _) 1))
        ((go_at_call 57; refine (HST.out _ (by first | exact ((Below.refl _ W).alloc (Nat.le_refl _) _).drew | exact bdrewN (Below.refl _ _) 1)).mono ?_; rintro e w5 ⟨rfl, b5⟩; have b5w : Below W.heap.size W w5 := (by first | exact Below.trans (((Below.refl _ W).alloc (Nat.le_refl _) _).drew) (b5.mono (by simp)) | exact (bdrewN (Below.refl _ _) 1).trans b5); first | (have U5 : At w5 W.heap.size #[.int .i64 0, .int .i64 0] 55 := (show At (W.alloc (.cells #[.int .i64 0, .int .i64 0] 55)).drew W.heap.size #[.int .i64 0, .int .i64 0] 55 from At.new W _ _).belows b5; have y0 := (U5.cell 0).trans rfl; have y1 := (U5.cell 1).trans rfl; have f0 := U5.frozen 0; have f1 := U5.frozen 1) | skip))
      all_goals (go_wp2_with fail; go_meet)
      · exact ⟨rfl, w5.heap.size, rfl, Lib.hid ⟨At.new w5 _ _, b5w.alloc b5w.size _⟩⟩
      · exact ⟨rfl, W.heap.size, rfl, Lib.hid ⟨(U5.set0 0 _).set0 1 _, (b5w.setCell (p := ⟨W.heap.size, 0, none⟩) (Nat.le_refl _) _).setCell (p := ⟨W.heap.size, 1, none⟩) (Nat.le_refl _) _⟩⟩
    case rest =>
      obtain ⟨rfl, UB, rfl, HU⟩ := hcut
      obtain ⟨hU, hb⟩ := HU.out
      have R6 := HJ.out.res.belows hb
      have E6 := HJ.out.err.belows hb
      have C6 := HCB.out.belows hb
      have HO6 := Lib.hid (row_belows HROW.out hb)
      have HB6 := Lib.hid (HJ.out.bel.trans (hb.mono HJ.out.bel.size))
      have HK6 : Hid (wc.heap[D]? = some (.deferred (some []))) := Lib.hid ((hb.block D (Array.getElem?_eq_some_iff.1 hK).1).trans hK)
      have p0 := (hU.cell 0).trans rfl; have p1 := (hU.cell 1).trans rfl
      have t0 := (C6.cell 0).trans rfl
      have r0 := (R6.cell 0).trans rfl; have r1 := (R6.cell 1).trans rfl; have r2 := (R6.cell 2).trans rfl; have r3 := (R6.cell 3).trans rfl
      have q0 := R6.frozen 0; have q1 := R6.frozen 1; have q2 := R6.frozen 2; have q3 := R6.frozen 3
      have u0 := (E6.cell 0).trans rfl; have v0 := E6.frozen 0
      clear hU hb HU hK SZ HST HROW
      gi_wp2
      have hN := HNN.out
      subst hN
      have hsz := HSZ.out
      obtain ⟨Wf, hWf⟩ : ∃ Wf, Wf = (putW wc (w.heap.size + 1) g s.length cap f pd pp).setCell ⟨w.heap.size + 1 + 1, 0, none⟩ (.int .i64 0) := ⟨_, rfl⟩
      have hb : ∀ (U : World) (B j : Nat) (v : Value), w.heap.size ≤ B → Below w.heap.size w U → Below w.heap.size w (U.setCell ⟨B, j, none⟩ v) := fun U B j v hB h => h.setCell (p := ⟨B, j, none⟩) hB v
      have hr : ∀ (U : World) (B j : Nat) (v : Value), B < w.heap.size + 1 + 1 + 1 → U.ownsRow (w.heap.size + 1 + 1 + 1 + 1 + 1 + 1 + 1) 3 1 (.slice (some ⟨g, 0, none⟩) s.length cap) s.length (fcs intA s) → (U.setCell ⟨B, j, none⟩ v).ownsRow (w.heap.size + 1 + 1 + 1 + 1 + 1 + 1 + 1) 3 1 (.slice (some ⟨g, 0, none⟩) s.length cap) s.length (fcs intA s) := fun U B j v hB h => row_far h (grownBy_set U B j v) (by omega)
      have hd : ∀ (U : World) (B j : Nat) (v : Value), B < w.heap.size + 1 + 1 + 1 → U.heap[D]? = some (.deferred (some [])) → (U.setCell ⟨B, j, none⟩ v).heap[D]? = some (.deferred (some [])) := fun U B j v hB h => (Below.heap_setCell U ⟨B, j, none⟩ v (k := D) (by show D ≠ B; omega)).trans h
      have hRf : At Wf (w.heap.size + 1) #[.slice (some ⟨g, 0, none⟩) s.length cap, .int .i64 f, .int .i64 pd, .int .i64 pp] 57 := by rw [hWf]; exact (putW_at R6).other (B' := w.heap.size + 1 + 1) (by omega) 0 (.int .i64 0)
      have hEf : At Wf (w.heap.size + 1 + 1) #[.int .i64 0] 33 := by rw [hWf]; exact ((((E6.other (B' := w.heap.size + 1) (by omega) 0 (.slice (some ⟨g, 0, none⟩) s.length cap)).other (B' := w.heap.size + 1) (by omega) 1 (.int .i64 f)).other (B' := w.heap.size + 1) (by omega) 2 (.int .i64 pd)).other (B' := w.heap.size + 1) (by omega) 3 (.int .i64 pp)).set0 0 (.int .i64 0)
      have hrow : Wf.ownsRow (w.heap.size + 1 + 1 + 1 + 1 + 1 + 1 + 1) 3 1 (.slice (some ⟨g, 0, none⟩) s.length cap) s.length (fcs intA s) := by rw [hWf]; exact hr _ _ _ _ (by omega) (hr _ _ _ _ (by omega) (hr _ _ _ _ (by omega) (hr _ _ _ _ (by omega) (hr _ _ _ _ (by omega) HO6.out))))
      have hbl0 : Below w.heap.size w Wf := by rw [hWf]; exact hb _ _ _ _ (by omega) (hb _ _ _ _ (by omega) (hb _ _ _ _ (by omega) (hb _ _ _ _ (by omega) (hb _ _ _ _ (by omega) HB6.out))))
      have hK : Wf.heap[D]? = some (.deferred (some [])) := by rw [hWf]; exact hd _ _ _ _ (by omega) (hd _ _ _ _ (by omega) (hd _ _ _ _ (by omega) (hd _ _ _ _ (by omega) (hd _ _ _ _ (by omega) HK6.out))))
      change bodyPostM _ _ _ _ _ _ _ ((putW wc (w.heap.size + 1) g s.length cap f pd pp).setCell ⟨w.heap.size + 1 + 1, 0, none⟩ (.int .i64 0))
      rw [← hWf]
      clear hWf R6 E6 C6 p0 p1 t0 r0 r1 r2 r3 q0 q1 q2 q3 u0 v0
      have q : ∀ {B : Nat} {cs : Array Value} {t : TypeId}, B < w.heap.size + 1 + 1 + 1 → At Wf B cs t → At (Wf.putObj D (.deferred none)) B cs t := fun hB h => (World.putObj_heap_other (by omega)).trans h
      have Z := q (by omega) hRf
      have Y := q (by omega) hEf
      have Z0 := (Z.cell 0).trans rfl; have Z1 := (Z.cell 1).trans rfl; have Z2 := (Z.cell 2).trans rfl; have Z3 := (Z.cell 3).trans rfl; have Y0 := (Y.cell 0).trans rfl
      have hbl : Below w.heap.size w (Wf.putObj D (.deferred none)) := hbl0.trans (belowK_b (w := w) (Nat.le_refl _) Wf D _ _ (by omega) hK rfl rfl)
      have hrw := ownsRow_putObj hrow (.deferred none) hK rfl
      refine ⟨by simp, .inl ⟨_, _, rfl, run_takeDeferred hK, ?_⟩⟩
      refine ⟨.tuple #[.agg #[.slice (some ⟨g, 0, none⟩) s.length cap, .int .i64 f, .int .i64 pd, .int .i64 pp], .int .i64 0], ?_, ?_⟩
      · simp at Z0 Z1 Z2 Z3 Y0
        simp [results, Tryz.results25, go_sem, Z0, Z1, Z2, Z3, Y0]
      · rw [HV.out]
        refine ⟨_, rfl, isF_of_row intA_size hrw, fun g' o n c e => ?_, hbl⟩
        have := (hrw.lt g' (by cases e; rfl)).1
        omega
  case stop =>
    rintro D c s W hD ⟨rfl, hX⟩ hK
    gi_wp2
    obtain ⟨v, hR, hrow⟩ := hX.res
    have hsz := HSZ.out
    have q : ∀ {B : Nat} {cs : Array Value} {t : TypeId}, B < w.heap.size + 1 + 1 + 1 → At W B cs t → At (W.putObj D (.deferred none)) B cs t := fun hB h => (World.putObj_heap_other (by omega)).trans h
    have Z := q (by omega) hR
    have Y := q (by omega) hX.err
    have Z0 := (Z.cell 0).trans rfl; have Z1 := (Z.cell 1).trans rfl; have Z2 := (Z.cell 2).trans rfl; have Z3 := (Z.cell 3).trans rfl; have Y0 := (Y.cell 0).trans rfl
    have hbl : Below w.heap.size w (W.putObj D (.deferred none)) := hX.bel.trans (belowK_b (w := w) (Nat.le_refl _) W D _ _ (by omega) hK rfl rfl)
    have hrw := ownsRow_putObj hrow (.deferred none) hK rfl
    refine ⟨by simp, .inl ⟨_, _, rfl, run_takeDeferred hK, ?_⟩⟩
    refine ⟨.tuple #[.agg #[v, .int .i64 4, .int .i64 0, .int .i64 0], .int .i64 0], ?_, ?_⟩
    · simp at Z0 Z1 Z2 Z3 Y0
      simp [results, Tryz.results25, go_sem, Z0, Z1, Z2, Z3, Y0]
    · rw [hX.val]
      refine ⟨v, rfl, isF_of_row intA_size hrw, fun g o n c e => ?_, hbl⟩
      have := (hrw.lt g (by rw [e]; rfl)).1
      omega
end Go.Proofs.YteboadppighplaaGreat
/- Contracts: fate.Trace where there is no such device; fate.Genuine. -/
namespace Go.Proofs.YteboadppighplaaGreat
open Go.RowKit Go.Shelf

theorem cell_at_block {W W' : World} {p : Addr} (h : W'.heap[p.block]? = W.heap[p.block]?) : W'.cell? p = W.cell? p := by unfold World.cell?; rw [h]
set_option maxRecDepth 100000 in
set_option maxHeartbeats 1000000 in
theorem ftrace_no {vp vl vr : Value} (ps : List Int) (ls : List Lk) (L : List Ru) (d : Int) (a : Nat) (w : World) (h : IsN w vp vl vr ps ls L) (hno : ¬ inD ps d) : Calls Tryz.prog 25 #[.agg #[vp, vl, vr], .int .i64 d, .int .u32 a] w (TrNo w) := by
  obtain ⟨⟨⟨A1, c1, rfl, n1, m1, _⟩, ⟨A2, c2, rfl, _⟩⟩, ⟨A3, c3, rfl, _⟩⟩ := h
  have hM : ps.length ≤ 9223372036854775807 := Nat.le_trans n1 m1
  have D0 := ((At.new w #[.slice A1 ps.length c1, .slice A2 ls.length c2, .slice A3 L.length c3] 28).alloc (.cells #[.slice none 0 0, .int .i64 0, .int .i64 0, .int .i64 0] 57)).alloc (.cells #[.int .i64 0] 33)
  have R0 := (At.new1 w (.cells #[.slice A1 ps.length c1, .slice A2 ls.length c2, .slice A3 L.length c3] 28) #[.slice none 0 0, .int .i64 0, .int .i64 0, .int .i64 0] 57).alloc (.cells #[.int .i64 0] 33)
  have E0 := At.new2 w (.cells #[.slice A1 ps.length c1, .slice A2 ls.length c2, .slice A3 L.length c3] 28) (.cells #[.slice none 0 0, .int .i64 0, .int .i64 0, .int .i64 0] 57) #[.int .i64 0] 33
  have b0 : Below w.heap.size w (((w.alloc (.cells #[.slice A1 ps.length c1, .slice A2 ls.length c2, .slice A3 L.length c3] 28)).alloc (.cells #[.slice none 0 0, .int .i64 0, .int .i64 0, .int .i64 0] 57)).alloc (.cells #[.int .i64 0] 33)) := (((Below.refl _ w).alloc (Nat.le_refl _) _).alloc (by simp) _).alloc (by simp; omega) _
  go_enter Tryz.func25, Tryz.ntmps25
  go_upto_region 1 with (fail)
  obtain ⟨w0, hw0⟩ : ∃ w0, w0 = (((w.alloc (.cells #[.slice A1 ps.length c1, .slice A2 ls.length c2, .slice A3 L.length c3] 28)).alloc (.cells #[.slice none 0 0, .int .i64 0, .int .i64 0, .int .i64 0] 57)).alloc (.cells #[.int .i64 0] 33)) := ⟨_, rfl⟩
  rw [← hw0] at D0 R0 E0 b0 ⊢
  clear hw0
  have x0 := (D0.cell 0).trans rfl
  have r0 := (R0.cell 0).trans rfl; have r1 := (R0.cell 1).trans rfl; have r2 := (R0.cell 2).trans rfl; have r3 := (R0.cell 3).trans rfl
  have q0 := R0.frozen 0; have q1 := R0.frozen 1; have q2 := R0.frozen 2; have q3 := R0.frozen 3
  have u0 := (E0.cell 0).trans rfl; have v0 := E0.frozen 0
  have Z := ((((R0.set0 0 (.slice none 0 0)).set0 1 (.int .i64 0)).set0 2 (.int .i64 0)).set0 3 (.int .i64 0)).other (B' := w.heap.size + 1 + 1) (by omega) 0 (.int .i64 91)
  have Y := ((((E0.other (B' := w.heap.size + 1) (by omega) 0 (.slice none 0 0)).other (B' := w.heap.size + 1) (by omega) 1 (.int .i64 0)).other (B' := w.heap.size + 1) (by omega) 2 (.int .i64 0)).other (B' := w.heap.size + 1) (by omega) 3 (.int .i64 0)).set0 0 (.int .i64 91)
  have Z0 := Z.cell 0; have Z1 := Z.cell 1; have Z2 := Z.cell 2; have Z3 := Z.cell 3; have Y0 := Y.cell 0
  simp at Z0 Z1 Z2 Z3 Y0
  have hb : ∀ (U : World) (B j : Nat) (v : Value), w.heap.size ≤ B → Below w.heap.size w U → Below w.heap.size w (U.setCell ⟨B, j, none⟩ v) := fun U B j v hB h => h.setCell (p := ⟨B, j, none⟩) hB v
  have HB := Lib.hid (hb _ _ 0 (.int .i64 91) (by omega : w.heap.size ≤ w.heap.size + 1 + 1) (hb _ _ 3 (.int .i64 0) (by omega : w.heap.size ≤ w.heap.size + 1) (hb _ _ 2 (.int .i64 0) (by omega : w.heap.size ≤ w.heap.size + 1) (hb _ _ 1 (.int .i64 0) (by omega : w.heap.size ≤ w.heap.size + 1) (hb _ _ 0 (.slice none 0 0) (by omega : w.heap.size ≤ w.heap.size + 1) b0)))))
  have e1 : (decide (d < 0) || decide ((ps.length : Int) ≤ d)) = true := by
    unfold inD at hno
    simp only [Bool.or_eq_true, decide_eq_true_eq]
    omega
  clear Z Y hb D0 R0 E0 b0
  by_cases h1 : d < 0
  · have e1 : decide (d < 0) = true := decide_eq_true h1
    clear hno h1
    go_wp2
    refine bodyPost_ret (v := .tuple #[.agg #[.slice none 0 0, .int .i64 0, .int .i64 0, .int .i64 0], .int .i64 91]) ?_ rfl ⟨none, 0, Nat.zero_le _, rfl, HB.out⟩
    simp [results, Tryz.results25, go_sem, Z0, Z1, Z2, Z3, Y0]
  · have e1 : decide (d < 0) = false := decide_eq_false h1
    have h2 : (ps.length : Int) ≤ d := by unfold inD at hno; omega
    have e2 : decide ((ps.length : Int) ≤ d) = true := decide_eq_true h2
    clear hno h1 h2
    go_wp2
    refine bodyPost_ret (v := .tuple #[.agg #[.slice none 0 0, .int .i64 0, .int .i64 0, .int .i64 0], .int .i64 91]) ?_ rfl ⟨none, 0, Nat.zero_le _, rfl, HB.out⟩
    simp [results, Tryz.results25, go_sem, Z0, Z1, Z2, Z3, Y0]
/-- Trace, of any network. -/
theorem ftrace_any {vp vl vr : Value} (ps : List Int) (ls : List Lk) (L : List Ru) (d : Int) (a : Nat) (w : World) (hW : NW ps ls L) (h : IsN w vp vl vr ps ls L) : Calls Tryz.prog 25 #[.agg #[vp, vl, vr], .int .i64 d, .int .u32 a] w fun e w' => (inD ps d ∧ TrOut (trcA ps ls L a d) w e w') ∨ (¬ inD ps d ∧ TrNo w e w') := by
  by_cases hd : inD ps d
  · exact (callsIn_wide.1 (ftrace_in ps ls L d a w hW h hd)).mono fun _ _ h => .inl ⟨hd, h⟩
  · exact (ftrace_no ps ls L d a w h hd).mono fun _ _ h => .inr ⟨hd, h⟩
/-- .. of a right one. -/
theorem ftrace_right {vp vl vr : Value} (ps : List Int) (ls : List Lk) (L : List Ru) (d : Int) (a : Nat) (w : World) (hR : RN ps ls L) (hW : NW ps ls L) (h : IsN w vp vl vr ps ls L) : Calls Tryz.prog 25 #[.agg #[vp, vl, vr], .int .i64 d, .int .u32 a] w fun e w' => (inD ps d ∧ TrOut (trcN ps ls L a d) w e w') ∨ (¬ inD ps d ∧ TrNo w e w') :=
  (ftrace_any ps ls L d a w hW h).mono fun _ _ h => h.imp (fun h => ⟨h.1, by rw [← trcA_right hR.topo L a h.1]; exact h.2⟩) id
/-- A trace that is held. -/
def OwnT (y : Tc) (W : World) (UB : Nat) (wc : World) : Prop := ∃ A c, At wc UB #[.slice A y.ds.length c, .int .i64 y.ft, .int .i64 y.out.d, .int .i64 y.out.p] 57 ∧ IsF 1 intA wc (.slice A y.ds.length c) y.ds ∧ Below W.heap.size W wc
end Go.Proofs.YteboadppighplaaGreat
/- Words for package flow: what holds whatever is written below a block, or into one; traces, parts in memory. -/
namespace Go.Proofs.YteboadppighplaaGreat
open Go.RowKit Go.Shelf

/-- Holds whatever becomes of the blocks below B, and of that one. -/
def Stay (B : Nat) (ex : Option Nat) (Q : World → Prop) (w : World) : Prop := ∀ w', w.heap.size ≤ w'.heap.size → (∀ g, B ≤ g → g < w.heap.size → some g ≠ ex → w'.heap[g]? = w.heap[g]?) → Q w'
theorem Stay.now {B : Nat} {ex : Option Nat} {Q : World → Prop} {w : World} (h : Stay B ex Q w) : Q w := h w (Nat.le_refl _) fun _ _ _ _ => rfl
theorem Stay.belows {B : Nat} {ex : Option Nat} {Q : World → Prop} {w w' : World} (h : Stay B ex Q w) (hb : Below w.heap.size w w') : Stay B ex Q w' := fun u hs hg => h u (Nat.le_trans hb.size hs) fun g h1 h2 h3 => (hg g h1 (Nat.lt_of_lt_of_le h2 hb.size) h3).trans (hb.block g h2)
theorem Stay.grown {B : Nat} {ex ex' : Option Nat} {Q : World → Prop} {w w' : World} (h : Stay B ex Q w) (hb : w.grownBy w' ex) (he : ex' = ex ∨ ∃ g, ex' = some g ∧ w.heap.size ≤ g) : Stay B ex' Q w' := fun u hs hg => h u (Nat.le_trans hb.size hs) fun g h1 h2 h3 => (hg g h1 (Nat.lt_of_lt_of_le h2 hb.size) (by
  rcases he with e | ⟨g', e, hl⟩
  · rw [e]; exact h3
  · rw [e]; intro e'; injection e' with e'; omega)).trans (hb.block g h2 h3)
theorem Stay.set {B : Nat} {ex : Option Nat} {Q : World → Prop} {w : World} (h : Stay B ex Q w) {b : Nat} (hb : b < B) (j : Nat) (v : Value) : Stay B ex Q (w.setCell ⟨b, j, none⟩ v) := fun u hs hg => h u (Nat.le_trans (grownBy_set w b j v).size hs) fun g h1 h2 h3 => (hg g h1 (Nat.lt_of_lt_of_le h2 (grownBy_set w b j v).size) h3).trans ((grownBy_set w b j v).block g h2 (by intro e; injection e with e; omega))
theorem Stay.less {B B' : Nat} {ex : Option Nat} {Q : World → Prop} {w : World} (h : Stay B ex Q w) (hB : B' ≤ B) : Stay B' ex Q w := fun u hs hg => h u hs fun g h1 => hg g (Nat.le_trans hB h1)
theorem Stay.but {B : Nat} {ex : Option Nat} {Q : World → Prop} {w : World} (h : Stay B none Q w) (he : ∀ g, ex = some g → g < B) : Stay B ex Q w := fun u hs hg => h u hs fun g h1 h2 _ => hg g h1 h2 fun e => by have := he g e.symm; omega
theorem Stay.and {B : Nat} {ex : Option Nat} {Q R Z : World → Prop} {w : World} (h : Stay B ex Q w) (k : Stay B ex R w) (hz : ∀ u, Q u → R u → Z u) : Stay B ex Z w := fun u hs hg => hz u (h u hs hg) (k u hs hg)
theorem Stay.free {B : Nat} {ex : Option Nat} {Q : World → Prop} {w : World} (h : ∀ u, Q u) : Stay B ex Q w := fun u _ _ => h u
section
variable {α : Type} {n : Nat} {f : α → Array Value}
theorem stay_f {w : World} {v : Value} {L : List α} {B : Nat} {ex : Option Nat} (h : IsF n f w v L) (hv : ∀ g o m c, v = .slice (some ⟨g, o, none⟩) m c → B ≤ g ∧ some g ≠ ex) : Stay B ex (fun W => IsF n f W v L) w := fun u hs hg => by
  obtain ⟨A, c, rfl, h1, h2, h3⟩ := h
  refine ⟨A, c, rfl, h1, h2, fun hn => ?_⟩
  obtain ⟨g, o, e, hl, hc⟩ := h3 hn
  obtain ⟨k1, k2⟩ := hv g o _ _ (by rw [e])
  exact ⟨g, o, e, Nat.lt_of_lt_of_le hl hs, fun k hk j hj => (World.cell?_of_block (a := ⟨g, _, none⟩) (hg g k1 hl k2)).trans (hc k hk j hj)⟩
theorem row_block {w : World} {base : Nat} {e : TypeId} {v : Value} {k : Nat} {xs : List Value} (h : w.ownsRow base e n v k xs) {g o m c : Nat} (hv : v = .slice (some ⟨g, o, none⟩) m c) : base ≤ g ∧ g < w.heap.size := by
  subst hv
  exact h.lt g rfl
theorem stay_row (hf : ∀ r, (f r).size = n) {w : World} {base : Nat} {e : TypeId} {v : Value} {L : List α} (h : w.ownsRow base e n v L.length (fcs f L)) : Stay base none (fun W => IsF n f W v L) w :=
  stay_f (isF_of_row hf h) fun g o m c hv => ⟨(row_block h hv).1, by simp⟩
end
/-- A trace's cells, its devices' slice apart. -/
def trA (e : Value × Tc) : Array Value := #[e.1, .int .i64 e.2.ft, .int .i64 e.2.out.d, .int .i64 e.2.out.p]
theorem trA_size (e : Value × Tc) : (trA e).size = 4 := rfl
/-- A slice of traces. -/
def DevOk (w : World) (X : List (Value × Tc)) : Prop := ∀ e ∈ X, IsF 1 intA w e.1 e.2.ds
def IsTs (w : World) (v : Value) (X : List (Value × Tc)) : Prop := IsF 4 trA w v X ∧ DevOk w X
/-- A part. -/
structure Prt where
  f : Nat
  t : Nat
  v : Value
  X : List (Value × Tc)
def prA (p : Prt) : Array Value := #[.int .u32 p.f, .int .u32 p.t, p.v]
theorem prA_size (p : Prt) : (prA p).size = 3 := rfl
def PrsOk (w : World) (L : List Prt) : Prop := ∀ p ∈ L, IsTs w p.v p.X
def IsPs (w : World) (v : Value) (L : List Prt) : Prop := IsF 3 prA w v L ∧ PrsOk w L
theorem IsTs.belows {w w' : World} {v : Value} {X : List (Value × Tc)} (h : IsTs w v X) (hb : Below w.heap.size w w') : IsTs w' v X := ⟨h.1.belows hb, fun e he => (h.2 e he).belows hb⟩
theorem IsPs.belows {w w' : World} {v : Value} {L : List Prt} (h : IsPs w v L) (hb : Below w.heap.size w w') : IsPs w' v L := ⟨h.1.belows hb, fun p hp => (h.2 p hp).belows hb⟩
/-- The trace of an address's packet from a device in a network. -/
def trN (d : Int) (a : Nat) (n : Nt) : Tc := trcA n.ps n.ls n.L a d
def prR (p : Prt) : Nat × Nat := (p.f, p.t)
/-- Parts' traces. -/
def PrsIs (ns : List Nt) (d : Int) (L : List Prt) : Prop := ∀ p ∈ L, p.X.map (·.2) = ns.map (trN d p.f)
def inAll (ns : List Nt) (d : Int) : Prop := ∀ n ∈ ns, inD n.ps d
/-- What traced answers. -/
def TrdOut (ns : List Nt) (d : Int) (Z : List (Nat × Nat)) (w : World) (e : Ending) (w' : World) : Prop :=
  (inAll ns d ∧ ∃ v L, e = .returned (.tuple #[v, .int .i64 0]) ∧ IsPs w' v L ∧ L.map prR = Z ∧ PrsIs ns d L ∧ Below w.heap.size w w') ∨
  (¬ inAll ns d ∧ e = .returned (.tuple #[.slice none 0 0, .int .i64 91]) ∧ Below w.heap.size w w')
/-- Where the gathering of a part's traces stands. -/
def InI (W0 : World) (PB : Nat) (f t : Nat) (ns : List Nt) (d : Int) (k : Nat) (W : World) : Prop := ∃ v X, At W PB #[.int .u32 f, .int .u32 t, v] 107 ∧ At W (W0.heap.size) #[.int .u32 f, .int .u32 t] 43 ∧ W.ownsRow (PB + 1) 57 4 v X.length (fcs trA X) ∧ Stay (PB + 1) v.ownBlock (fun U => DevOk U X) W ∧ X.map (·.2) = (ns.take k).map (trN d f) ∧ (∀ n ∈ ns.take k, inD n.ps d) ∧ Below W0.heap.size W0 W
/-- Where the gathering of the parts stands. -/
def PaI (W0 : World) (ns : List Nt) (d : Int) (Z : List (Nat × Nat)) (k : Nat) (v : Value) (W : World) : Prop := ∃ L : List Prt, L.length = k ∧ W.ownsRow W0.heap.size 107 3 v L.length (fcs prA L) ∧ Stay W0.heap.size v.ownBlock (fun U => PrsOk U L) W ∧ L.map prR = Z.take k ∧ PrsIs ns d L ∧ (k = 0 ∨ inAll ns d) ∧ Below W0.heap.size W0 W
theorem infoTrace : (Tryz.prog.info? 57).map (fun i => (i.zero, i.size, i.bytes)) = some (some (.agg #[.slice none 0 0, .int .i64 0, .int .i64 0, .int .i64 0]), 4, 48) := by kernel_rfl
theorem infoPart : (Tryz.prog.info? 107).map (fun i => (i.zero, i.size, i.bytes)) = some (some (.agg #[.int .u32 0, .int .u32 0, .slice none 0 0]), 3, 32) := by kernel_rfl
end Go.Proofs.YteboadppighplaaGreat
/- Contracts of package flow: traced. -/
namespace Go.Proofs.YteboadppighplaaGreat
open Go.RowKit Go.Shelf

/-- All addresses, cut. -/
theorem cutA11_any {v : Value} (ns : List Nt) (w : World) (hns : ns.length ≤ 2) (hL : ∀ n ∈ ns, ∀ r ∈ n.L, r.wf) (h : Ns w v ns) :
    Calls Tryz.prog 19 #[v, .agg #[.int .u32 0, .int .u32 4294967295]] w fun e w' => ∃ v, e = .returned (.tuple #[v, .int .i64 0]) ∧ Tr.IsZ w' v (cutZ (addAll [(0, 4294967295)] (rgN ns)) 0 4294967295) ∧ Below w.heap.size w w' := by
  have k := cut11_any ns 0 4294967295 w (by decide) (by decide) hns hL h
  exact k.mono fun e w' h => by
    obtain ⟨v, e1, z, b⟩ := h
    exact ⟨v, e1, z, b⟩
theorem inAll_snoc {ns : List Nt} {d : Int} {k : Nat} (hk : k < ns.length) (h : ∀ n ∈ ns.take k, inD n.ps d) (hn : inD ns[k].ps d) : ∀ n ∈ ns.take (k + 1), inD n.ps d := fun n hm => by
  rw [List.take_succ_eq_append_getElem hk] at hm
  rcases List.mem_append.1 hm with hm | hm
  · exact h n hm
  · simp at hm; subst hm; exact hn
theorem PaI.start (W0 : World) (ns : List Nt) (d : Int) (Z : List (Nat × Nat)) : PaI W0 ns d Z 0 (.slice none 0 0) W0 :=
  ⟨[], rfl, World.ownsRow_nil _ _ _ _, Stay.free fun u p hp => by simp at hp, rfl, fun p hp => by simp at hp, .inl rfl, Below.refl _ _⟩
theorem PaI.size {W0 W : World} {ns : List Nt} {d : Int} {Z : List (Nat × Nat)} {k : Nat} {v : Value} (h : PaI W0 ns d Z k v W) : W0.heap.size ≤ W.heap.size := by
  obtain ⟨_, _, _, _, _, _, _, b⟩ := h
  exact b.size
theorem Stay.all {B : Nat} {ex : Option Nat} {Q : World → Prop} {w : World} (h : Stay B ex Q w) : Stay B none Q w := fun u hs hg => h u hs fun g h1 h2 _ => hg g h1 h2 (by simp)
theorem own_slice {g o m c : Nat} {v : Value} (h : v = .slice (some ⟨g, o, none⟩) m c) : v.ownBlock = some g := by rw [h]; rfl
theorem rowS {w : World} {base : Nat} {e : TypeId} {n : Nat} {v : Value} {k : Nat} {xs : List Value} (h : w.ownsRow base e n v k xs) : ∃ A m c, v = .slice A m c := by
  rcases h.2 with ⟨rfl, _⟩ | ⟨g, cap, cur, rfl, _⟩ <;> exact ⟨_, _, _, rfl⟩
/-- One trace more. -/
theorem InI.step {W0 W7 W8 : World} {PB f t k : Nat} {ns : List Nt} {d : Int} {v v' vu : Value} {X : List (Value × Tc)} {x : Tc} (hP : W0.heap.size < PB)
    (PA : At W7 PB #[.int .u32 f, .int .u32 t, v] 107) (RA : At W7 W0.heap.size #[.int .u32 f, .int .u32 t] 43)
    (hlt : ∀ g, v.ownBlock = some g → PB + 1 ≤ g ∧ g < W7.heap.size)
    (hst : Stay (PB + 1) v.ownBlock (fun U => DevOk U X) W7) (hu : IsF 1 intA W7 vu x.ds) (hv : ∀ g o m c, vu = .slice (some ⟨g, o, none⟩) m c → PB + 1 ≤ g ∧ some g ≠ v.ownBlock)
    (hX : (X ++ [(vu, x)]).map (·.2) = (ns.take (k + 1)).map (trN d f)) (hin : ∀ n ∈ ns.take (k + 1), inD n.ps d) (hb : Below W0.heap.size W0 W7) (hs7 : PB < W7.heap.size)
    (hown : W8.ownsRow (PB + 1) 57 4 v' (X.length + 1) (fcs trA X ++ (trA (vu, x)).toList)) (hg : W7.grownBy W8 v.ownBlock) (ho : v'.ownBlock = v.ownBlock ∨ v'.ownBlock = some W7.heap.size) :
    InI W0 PB f t ns d (k + 1) (W8.setCell ⟨PB, 2, none⟩ v') := by
  have hpb : some PB ≠ v.ownBlock := fun e => by have := (hlt PB e.symm).1; omega
  have hpr : some W0.heap.size ≠ v.ownBlock := fun e => by have := (hlt _ e.symm).1; omega
  have hs8 : W7.heap.size ≤ W8.heap.size := hg.size
  refine ⟨v', X ++ [(vu, x)], (PA.kept hg hpb).set0 2 v', (RA.kept hg hpr).other (by omega) 2 v', ?_, ?_, hX, hin, ?_⟩
  · refine row_far (b := PB) ?_ (grownBy_set _ _ _ _) (by omega)
    rw [fcs_append, List.length_append]
    have e : fcs trA [(vu, x)] = (trA (vu, x)).toList := by simp [fcs]
    rw [e]
    exact hown
  · have h1 := (hst.and (stay_f hu hv) (Z := fun U => DevOk U (X ++ [(vu, x)])) fun u h1 h2 e he => by
      rcases List.mem_append.1 he with he | he
      · exact h1 e he
      · simp at he; subst he; exact h2).grown hg (ho.imp id fun h => ⟨_, h, Nat.le_refl _⟩)
    exact h1.set (by omega) 2 v'
  · exact (hb.grown hg (Nat.le_of_lt (by omega)) fun g h => by have := (hlt g h).1; omega).setCell (p := ⟨PB, 2, none⟩) (Nat.le_of_lt hP) v'
/-- One part more. -/
theorem PaI.step {W1 W0 W W8 : World} {ns : List Nt} {d : Int} {Z : List (Nat × Nat)} {k f t PB : Nat} {pv pv' v : Value} {L : List Prt} {X : List (Value × Tc)} (hL : L.length = k) (hP : W0.heap.size < PB)
    (hrow0 : W0.ownsRow W1.heap.size 107 3 pv L.length (fcs prA L)) (hst0 : Stay W1.heap.size pv.ownBlock (fun U => PrsOk U L) W0) (hb0 : Below W1.heap.size W1 W0)
    (hm : L.map prR = Z.take k) (hz : Z.take (k + 1) = Z.take k ++ [(f, t)]) (hpr : PrsIs ns d L)
    (hb : Below W0.heap.size W0 W) (hrow : W.ownsRow (PB + 1) 57 4 v X.length (fcs trA X)) (hst : Stay (PB + 1) v.ownBlock (fun U => DevOk U X) W) (hX : X.map (·.2) = ns.map (trN d f)) (hin : inAll ns d)
    (hown : W8.ownsRow W1.heap.size 107 3 pv' (L.length + 1) (fcs prA L ++ (prA ⟨f, t, v, X⟩).toList)) (hg : W.grownBy W8 pv.ownBlock) (ho : pv'.ownBlock = pv.ownBlock ∨ pv'.ownBlock = some W.heap.size) :
    PaI W1 ns d Z (k + 1) pv' W8 := by
  refine ⟨L ++ [⟨f, t, v, X⟩], by simp [hL], ?_, ?_, ?_, ?_, .inr hin, ?_⟩
  · rw [fcs_append, List.length_append]
    have e : fcs prA [⟨f, t, v, X⟩] = (prA ⟨f, t, v, X⟩).toList := by simp [fcs]
    rw [e]
    exact hown
  · have h1 : Stay (PB + 1) none (fun U => IsTs U v X) W := (stay_row trA_size hrow).and hst.all fun u a b => ⟨a, b⟩
    have h2 : Stay W1.heap.size pv.ownBlock (fun U => IsTs U v X) W := (h1.but fun g hgo => by have := (hrow0.lt g hgo).2; omega).less (by have := hb0.size; omega)
    exact ((hst0.belows hb).and h2 (Z := fun U => PrsOk U (L ++ [⟨f, t, v, X⟩])) fun u a b p hp => by
      rcases List.mem_append.1 hp with hp | hp
      · exact a p hp
      · simp at hp; subst hp; exact b).grown hg (ho.imp id fun h => ⟨_, h, Nat.le_refl _⟩)
  · rw [List.map_append, hm, hz]; rfl
  · intro p hp
    rcases List.mem_append.1 hp with hp | hp
    · exact hpr p hp
    · simp at hp; subst hp; exact hX
  · exact (hb0.trans (hb.mono hb0.size)).grown hg (Nat.le_trans hb0.size hb.size) fun g h => (hrow0.lt g h).1
set_option maxRecDepth 100000 in
set_option maxHeartbeats 4000000 in
theorem traced_any {v : Value} (ns : List Nt) (d : Int) (w : World) (hns : ns.length ≤ 2) (hW : ∀ n ∈ ns, NW n.ps n.ls n.L) (h : Ns w v ns) :
    Calls Tryz.prog 30 #[.int .i64 d, v] w (TrdOut ns d (cutZ (addAll [(0, 4294967295)] (rgN ns)) 0 4294967295) w) := by
  have kC := cutA11_any ns w hns (fun n hn => (hW n hn).rules) h
  have HN : Hid (∀ u, Below w.heap.size w u → Ns u v ns) := Lib.hid fun u hu => h.belows hu
  have HW := Lib.hid hW
  have HZ2 : Hid (0 < (cutZ (addAll [(0, 4294967295)] (rgN ns)) 0 4294967295).length ∧ ∀ x ∈ cutZ (addAll [(0, 4294967295)] (rgN ns)) 0 4294967295, x.1 < 4294967296 ∧ x.2 < 4294967296) := Lib.hid ⟨by
    have := Tr.bd_of (addAll [(0, 4294967295)] (rgN ns))
    rw [cutZ_len]
    exact this.pos, fun x hx => by have := cutZ_in hx; omega⟩
  have HZ3 : Hid ((cutZ (addAll [(0, 4294967295)] (rgN ns)) 0 4294967295).length ≤ 4294967296) := Lib.hid (parts_len _)
  obtain ⟨⟨A1, c1, rfl, n1, m1, _⟩, _⟩ := h
  generalize cutZ (addAll [(0, 4294967295)] (rgN ns)) 0 4294967295 = Z at kC HZ2 HZ3 ⊢
  have hnl : ns.length ≤ 9223372036854775807 := by omega
  clear hW
  unfold TrdOut
  go_enter Tryz.func30, Tryz.ntmps30
  go_upto_region 3 with (go_at_call 19; refine kC.mono ?_; rintro e w1 ⟨vc, rfl, ⟨Ac, cc, rfl, nc, mc, zc⟩, b1⟩)
  have HB1 := Lib.hid b1
  have HZC := Lib.hid zc
  have HST := Lib.hid (PaI.start w1 ns d Z)
  have hzl : Z.length ≤ 9223372036854775807 := by have := HZ3.out; omega
  clear b1 zc kC nc mc
  go_wp2
  go_loopw [6, 24] (fun pv i wr => ∃ k : Nat, i = .int .i64 k ∧ k ≤ Z.length ∧ Hid (PaI w1 ns d Z k pv wr)) (fun _ i _ => Z.length - (intOf i).toNat)
  case atStart => exact ⟨0, rfl, by omega, HST⟩
  case round =>
    obtain ⟨k, rfl, hk, HI⟩ := hrel
    by_cases hlt : k < Z.length
    · obtain ⟨wo, rfl⟩ : ∃ wo, wo = wr := ⟨_, rfl⟩
      have hb : Below w1.heap.size w1 wo := HI.out.choose_spec.2.2.2.2.2.2
      obtain ⟨g, o, e, hg, hc⟩ := HZC.out (by omega)
      subst e
      obtain ⟨c0, c1'⟩ := hc k hlt
      have c0' := (hb.cell (p := ⟨g, _, none⟩) hg).trans c0
      have c1'' := (hb.cell (p := ⟨g, _, none⟩) hg).trans c1'
      have hft := HZ2.out.2 _ (List.getElem_mem hlt)
      have HZK : Hid (Z.take (k + 1) = Z.take k ++ [Z[k]]) := Lib.hid (List.take_succ_eq_append_getElem hlt)
      generalize Z[k] = x at c0' c1'' hft HZK
      obtain ⟨f, t⟩ := x
      dsimp only at c0' c1'' hft HZK
      have HFT := Lib.hid hft
      have HB := Lib.hid hb
      have i0 : (0 : Int) ≤ (k : Int) := by omega
      have i1 : (k : Int) < (Z.length : Int) := by omega
      clear hc c0 c1' hft hb
      go_upto_region 7 with (fail)
      obtain ⟨w2, hw2⟩ : ∃ w2, w2 = (wo.alloc (.cells #[.int .u32 f, .int .u32 t] 43)).alloc (.cells #[.int .u32 f, .int .u32 t, .slice none 0 0] 107) := ⟨_, rfl⟩
      have R2 : At w2 wo.heap.size #[.int .u32 f, .int .u32 t] 43 := by rw [hw2]; exact (At.new wo _ _).alloc _
      have P2 : At w2 (wo.heap.size + 1) #[.int .u32 f, .int .u32 t, .slice none 0 0] 107 := by rw [hw2]; exact At.new1 wo _ _ _
      have b2 : Below wo.heap.size wo w2 := by rw [hw2]; exact ((Below.refl _ wo).alloc (Nat.le_refl _) _).alloc (by simp) _
      have HIN : Hid (InI wo (wo.heap.size + 1) f t ns d 0 w2) := Lib.hid ⟨.slice none 0 0, [], P2, R2, World.ownsRow_nil _ _ _ _, Stay.free fun u e he => by simp at he, rfl, fun n hn => by simp at hn, b2⟩
      rw [← hw2]
      clear hw2 R2 P2 b2
      go_wp2
      go_loopw [32] (fun i wr => ∃ k2 : Nat, i = .int .i64 k2 ∧ k2 ≤ ns.length ∧ Hid (InI wo (wo.heap.size + 1) f t ns d k2 wr)) (fun i _ => ns.length - (intOf i).toNat)
      case atStart => exact ⟨0, rfl, by omega, HIN⟩
      case round =>
        obtain ⟨k2, rfl, hk2, HJ⟩ := hrel
        obtain ⟨v, X, PA, RA, hrow, hst, hX, hin, bI⟩ := HJ.out
        obtain ⟨Av, mv, cv, rfl⟩ := rowS hrow
        have hXl : X.length ≤ 2 := by have := congrArg List.length hX; simp at this; omega
        have bw : Below w.heap.size w wr := (HB1.out.trans (HB.out.mono HB1.out.size)).trans (bI.mono (Nat.le_trans HB1.out.size HB.out.size))
        by_cases hlt2 : k2 < ns.length
        · obtain ⟨g2, o2, e, hg2, q0, q1, q2, hNk⟩ := (HN.out wr bw).at k2 hlt2
          subst e
          have j0 : (0 : Int) ≤ (k2 : Int) := by omega
          have j1 : (k2 : Int) < (ns.length : Int) := by omega
          have HWk := HW.out ns[k2] (List.getElem_mem hlt2)
          have hTk : (ns.take (k2 + 1)).map (trN d f) = (ns.take k2).map (trN d f) ++ [trN d f ns[k2]] := by rw [List.take_succ_eq_append_getElem hlt2, List.map_append]; rfl
          have HNO : Hid (¬ inD ns[k2].ps d → ¬ inAll ns d) := Lib.hid fun h ha => h (ha _ (List.getElem_mem hlt2))
          have HSN : Hid (inD ns[k2].ps d → ∀ n ∈ ns.take (k2 + 1), inD n.ps d) := Lib.hid fun h => inAll_snoc hlt2 hin h
          generalize ns[k2] = y at q0 q1 q2 hNk HWk hTk HNO HSN
          obtain ⟨vp, vl, vr, ps, ls, L⟩ := y
          dsimp only at q0 q1 q2 hNk HWk HNO HSN
          obtain ⟨w3, hw3⟩ : ∃ w3, w3 = wr.alloc (.cells #[vp, vl, vr] 28) := ⟨_, rfl⟩
          have b3 : Below wr.heap.size wr w3 := by rw [hw3]; exact (Below.refl _ wr).alloc (Nat.le_refl _) _
          have kT := ftrace_any ps ls L d f w3 HWk (hNk.belows b3)
          obtain ⟨x, hx⟩ : ∃ x, x = trcA ps ls L f d := ⟨_, rfl⟩
          have HTX := Lib.hid (show (ns.take (k2 + 1)).map (trN d f) = (ns.take k2).map (trN d f) ++ [x] by rw [hTk, hx]; rfl)
          rw [← hx] at kT
          obtain ⟨⟨⟨B1, d1, rfl, _⟩, ⟨B2, d2, rfl, _⟩⟩, ⟨B3, d3, rfl, _⟩⟩ := hNk
          have r0 : wr.cell? ⟨wo.heap.size, 0, none⟩ = some (.int .u32 f) := (RA.cell 0).trans rfl
          have HPA := Lib.hid PA
          have HRA := Lib.hid RA
          have HROW := Lib.hid hrow
          have HSTY := Lib.hid hst
          have HX := Lib.hid hX
          have HBI := Lib.hid bI
          have HB3 := Lib.hid b3
          have hsr : wr.heap.size ≤ w3.heap.size := b3.size
          have hlr : wo.heap.size + 1 < wr.heap.size := PA.lt
          have hlr0 : wo.heap.size < wr.heap.size := RA.lt
          clear hx hTk PA RA hrow hst hX bI b3 hin HWk
          by_cases hid : inD ps d
          · have kT' := kT.mono fun e w' h => (h.resolve_right fun h => h.1 hid).2
            have HIN2 := Lib.hid (HSN.out hid)
            rw [hw3] at kT'
            clear kT hid HSN HNO
            go_upto_region 11 with (go_at_call 25; refine kT'.mono ?_; unfold TrOut tcV; rw [← hw3]; rintro e w5 ⟨vu, rfl, ⟨Au, cu, rfl, nu, mu, zu⟩, hfr, b5⟩)
            have b5w : Below wr.heap.size wr w5 := HB3.out.trans (b5.mono hsr)
            have HB5 := Lib.hid b5w
            have hs5 : wr.heap.size ≤ w5.heap.size := b5w.size
            obtain ⟨w6, hw6⟩ : ∃ w6, w6 = w5.alloc (.cells #[.slice Au x.ds.length cu, .int .i64 x.ft, .int .i64 x.out.d, .int .i64 x.out.p] 57) := ⟨_, rfl⟩
            have b6 : Below w5.heap.size w5 w6 := by rw [hw6]; exact (Below.refl _ w5).alloc (Nat.le_refl _) _
            have T6 : At w6 w5.heap.size #[.slice Au x.ds.length cu, .int .i64 x.ft, .int .i64 x.out.d, .int .i64 x.out.p] 57 := by rw [hw6]; exact At.new w5 _ _
            have hs6 : w5.heap.size < w6.heap.size := by rw [hw6]; simp
            have b6w : Below wr.heap.size wr w6 := b5w.trans (b6.mono hs5)
            have HB6 := Lib.hid b6w
            have HT6 := Lib.hid T6
            have HU6 : Hid (IsF 1 intA w6 (.slice Au x.ds.length cu) x.ds ∧ ∀ g o m c, (.slice Au x.ds.length cu : Value) = .slice (some ⟨g, o, none⟩) m c → wr.heap.size ≤ g) := Lib.hid ⟨IsF.belows ⟨Au, cu, rfl, nu, mu, zu⟩ b6, fun g o m c e => Nat.le_trans hsr (hfr g o m c e)⟩
            have P6 := HPA.out.belows b6w
            have HP6 := Lib.hid P6
            have p2 : w6.cell? ⟨wo.heap.size + 1, 2, none⟩ = some (.slice Av mv cv) := (P6.cell 2).trans rfl
            have t0 : w6.cell? ⟨w5.heap.size, 0, none⟩ = some (.slice Au x.ds.length cu) := (T6.cell 0).trans rfl
            have t1 : w6.cell? ⟨w5.heap.size, 1, none⟩ = some (.int .i64 x.ft) := (T6.cell 1).trans rfl
            have t2 : w6.cell? ⟨w5.heap.size, 2, none⟩ = some (.int .i64 x.out.d) := (T6.cell 2).trans rfl
            have t3 : w6.cell? ⟨w5.heap.size, 3, none⟩ = some (.int .i64 x.out.p) := (T6.cell 3).trans rfl
            rw [← hw6]
            clear hw6 b5 b5w b6 b6w zu nu mu hfr P6 T6 hw3
            have HR6 := Lib.hid (row_belows HROW.out HB6.out)
            obtain ⟨iT, hi, hz0, hz1, hz2⟩ := info_parts infoTrace
            have hx6 : wo.heap.size + 1 + 1 ≤ w6.heap.size := by omega
            go_wp2_with (at_builtin; go_must (refine wpList_append_own_at _ rfl _ _ 69 rfl (wo.heap.size + 1 + 1) 57 iT _ 4 48 Tryz.underlying69 hi hz0 hz1 hz2 rfl (by decide) _ _ _ rfl (HR6.out.alloc _) ⟨w6.heap.size, 0, none⟩ 1 1 (trA (.slice Au x.ds.length cu, x)).toList rfl rfl (World.news_of_block (cs := trA (.slice Au x.ds.length cu, x)) (t := 57) (fr := (0, 0)) (heap_alloc_new _ _)) (by simp [trA, Value.oneCell']) (by simp only [maxLen]; omega) (by omega) (by simp; omega) ?_; intro v' w8 hown' hgrow _ hob; have P8 := (HP6.out.alloc (.cells #[.slice Au x.ds.length cu, .int .i64 x.ft, .int .i64 x.out.d, .int .i64 x.out.p] 57)).kept hgrow (fun e => by have := (HR6.out.lt _ e.symm).1; omega); have y8 : w8.cell? ⟨wo.heap.size + 1, 2, none⟩ = some (.slice Av mv cv) := (P8.cell 2).trans rfl; have f8 : w8.frozen? ⟨wo.heap.size + 1, 2, none⟩ = false := P8.frozen 2; obtain ⟨A8, m8, c8, rfl⟩ := rowS hown'))
            have HJ' : Hid (InI wo (wo.heap.size + 1) f t ns d (k2 + 1) (w8.setCell ⟨wo.heap.size + 1, 2, none⟩ (.slice A8 m8 c8))) := Lib.hid (by
              have b67 : Below w6.heap.size w6 (w6.alloc (.cells #[.slice Au x.ds.length cu, .int .i64 x.ft, .int .i64 x.out.d, .int .i64 x.out.p] 57)) := (Below.refl _ w6).alloc (Nat.le_refl _) _
              refine InI.step (v := .slice Av mv cv) (vu := .slice Au x.ds.length cu) (X := X) (x := x) (Nat.lt_succ_self _) (HP6.out.alloc _) ((HRA.out.belows HB6.out).alloc _) (fun g hgo => by have := HR6.out.lt g hgo; exact ⟨this.1, Nat.lt_of_lt_of_le this.2 b67.size⟩) ((HSTY.out.belows HB6.out).belows b67) (HU6.out.1.belows b67) (fun g o m c e => ?_) ?_ HIN2.out ((HBI.out.trans (HB6.out.mono HBI.out.size)).alloc (Nat.le_trans HBI.out.size HB6.out.size) _) (by simp; omega) hown' hgrow hob
              · have h1 := HU6.out.2 g o m c e
                exact ⟨by omega, fun e2 => by have := (HROW.out.lt g e2.symm).2; omega⟩
              · rw [List.map_append, HX.out, HTX.out]; rfl)
            clear hown' hgrow hob y8 f8 P8
            go_roundw
            case rel => exact ⟨k2 + 1, by go_num, by omega, HJ'⟩
            case measure => simp [intOf]; omega
          · have kT' := kT.mono fun e w' h => (h.resolve_left fun h => hid h.1).2
            have HNA := Lib.hid (HNO.out hid)
            have HBW := Lib.hid bw
            rw [hw3] at kT'
            clear kT hid HSN HNO bw
            go_upto_region 11 with (go_at_call 25; refine kT'.mono ?_; unfold TrNo; rw [← hw3]; rintro e w5 ⟨Au, cu, hcu, rfl, b5⟩)
            have HB5 := Lib.hid (HBW.out.trans ((HB3.out.trans (b5.mono hsr)).mono HBW.out.size))
            clear b5 hw3
            go_wp2
            go_ret2
            exact .inr ⟨HNA.out, rfl, HB5.out.trans ((Below.refl _ w5).alloc (Nat.le_refl _) _ |>.mono HB5.out.size)⟩
        · have hk2e : k2 = ns.length := by omega
          have hki : ¬ (k2 : Int) < (ns.length : Int) := by omega
          have hall : inAll ns d := fun n hn => hin n (by rw [hk2e, List.take_length]; exact hn)
          have hX' : X.map (·.2) = ns.map (trN d f) := by rw [hX, hk2e, List.take_length]
          obtain ⟨L, hL, hrow0, hst0, hm, hpr, _, hb0⟩ := HI.out
          have p0 : wr.cell? ⟨wo.heap.size + 1, 0, none⟩ = some (.int .u32 f) := (PA.cell 0).trans rfl
          have p1 : wr.cell? ⟨wo.heap.size + 1, 1, none⟩ = some (.int .u32 t) := (PA.cell 1).trans rfl
          have p2 : wr.cell? ⟨wo.heap.size + 1, 2, none⟩ = some (.slice Av mv cv) := (PA.cell 2).trans rfl
          have hLl : L.length < 4294967296 := by have := HZ3.out; omega
          have HROWP := Lib.hid (row_belows hrow0 bI)
          have hsr : w1.heap.size ≤ wr.heap.size := Nat.le_trans hb0.size bI.size
          obtain ⟨iP, hi, hz0, hz1, hz2⟩ := info_parts infoPart
          have HALL := Lib.hid hall
          have HX' := Lib.hid hX'
          have HROW := Lib.hid hrow
          have HROW0 := Lib.hid hrow0
          have HST0 := Lib.hid hst0
          have HSTY := Lib.hid hst
          have HM := Lib.hid hm
          have HPR := Lib.hid hpr
          have HB0 := Lib.hid hb0
          have HBI := Lib.hid bI
          clear hall hX' hrow hrow0 hst0 hst hm hpr hb0 bI PA RA hX hin
          go_wp2_with (at_builtin; go_must (refine wpList_append_own_at _ rfl _ _ 65 rfl w1.heap.size 107 iP _ 3 32 Tryz.underlying65 hi hz0 hz1 hz2 rfl (by decide) _ _ _ rfl (HROWP.out.alloc _) ⟨wr.heap.size, 0, none⟩ 1 1 (prA ⟨f, t, .slice Av mv cv, X⟩).toList rfl rfl (World.news_of_block (cs := prA ⟨f, t, .slice Av mv cv, X⟩) (t := 107) (fr := (0, 0)) (heap_alloc_new _ _)) (by simp [prA, Value.oneCell']) (by simp only [maxLen]; omega) (by omega) (by simp; omega) ?_; intro v' w8 hown' hgrow _ hob))
          have HJ' : Hid (PaI w1 ns d Z (k + 1) v' w8) := Lib.hid (by
            have b67 : Below wr.heap.size wr (wr.alloc (.cells (prA ⟨f, t, .slice Av mv cv, X⟩) 107)) := (Below.refl _ wr).alloc (Nat.le_refl _) _
            exact PaI.step (PB := wo.heap.size + 1) hL (Nat.lt_succ_self _) HROW0.out HST0.out HB0.out HM.out HZK.out HPR.out (HBI.out.trans (b67.mono HBI.out.size)) (row_belows HROW.out b67) (HSTY.out.belows b67) HX'.out HALL.out hown' hgrow hob)
          clear hown' hgrow hob
          go_roundw
          case rel => exact ⟨k + 1, by go_num, by omega, HJ'⟩
          case measure => simp [intOf]; omega
    · have hke : k = Z.length := by omega
      have hki : ¬ (k : Int) < (Z.length : Int) := by omega
      go_wp2
      go_ret2
      obtain ⟨L, hL, hrow, hst, hm, hpr, hall, hb⟩ := HI.out
      refine .inl ⟨hall.resolve_left (by have := HZ2.out.1; omega), ?_⟩
      exact ⟨_, rfl, L, ⟨isF_of_row prA_size hrow, hst.now⟩, by rw [hm, hke, List.take_length], hpr, HB1.out.trans (hb.mono HB1.out.size)⟩
end Go.Proofs.YteboadppighplaaGreat
/- Contracts: slices.ContainsFunc at a predicate with a state; zone.Right, zone.Has. -/
namespace Go.Proofs.YteboadppighplaaGreat.Zo
open Go.Proofs.YteboadppighplaaGreat.Tr
open Go.RowKit Go.Shelf

/-- What is asked of a predicate at each range of a list: its answer, and its state behind it. -/
def Steps (g : Nat) (lb : Array Value) (L : List (Nat × Nat)) (p : Nat → Bool) (I : Nat → World → Prop) (B : Nat) : Prop :=
  ∀ k (hk : k < L.length) W, I k W → Calls Tryz.prog g (#[.agg #[.int .u32 L[k].1, .int .u32 L[k].2]] ++ lb) W fun e W' => e = .returned (.bool (p k)) ∧ I (k + 1) W' ∧ Below B W W'

/-- What a search answers. -/
def Found (n : Nat) (p : Nat → Bool) (r : Int) : Prop := (r = -1 ∧ ∀ j, j < n → p j = false) ∨ ∃ k : Nat, k < n ∧ r = k ∧ p k = true
set_option maxRecDepth 100000 in
set_option maxHeartbeats 1000000 in
theorem indexFunc_any {v : Value} (g : Nat) (lb : Array Value) (eg : ∀ args w, (callFunc g args).run Tryz.prog w = .ok (.enter g args) w) (L : List (Nat × Nat)) (p : Nat → Bool) (I : Nat → World → Prop) (B : Nat) (w : World)
    (hs : Steps g lb L p I B) (h0 : I 0 w) (h : ∀ W, Below B w W → IsZ W v L) :
    Calls Tryz.prog 74 #[v, .func (.func g) #[] lb] w fun e w' => ∃ r : Int, e = .returned (.int .i64 r) ∧ Found L.length p r ∧ Below B w w' := by
  obtain ⟨A1, c1, rfl, n1, m1, z1⟩ := h w (Below.refl _ _)
  have hL : L.length ≤ 9223372036854775807 := Nat.le_trans n1 m1
  have H1 : Hid (∀ W, Below B w W → Zs W A1 L) := Lib.hid fun W hW => by
    obtain ⟨A, c, e, _, _, z⟩ := h W hW
    cases e
    exact z
  have HS := Lib.hid hs
  have H0 := Lib.hid h0
  clear z1 h hs h0
  go_enter Tryz.func74, Tryz.ntmps74
  go_wp2
  go_loopw [8] (fun i wr => ∃ k : Nat, i = .int .i64 k ∧ k ≤ L.length ∧ Hid (∀ j, j < k → p j = false) ∧ Hid (I k wr) ∧ Below B w wr) (fun i _ => L.length - (intOf i).toNat)
  case atStart => exact ⟨0, rfl, by omega, Lib.hid (fun j hj => by omega), H0, Below.refl _ _⟩
  case round =>
    obtain ⟨k, rfl, hk, HR, HI, hb⟩ := hrel
    by_cases hlt : k < L.length
    · obtain ⟨g1, o1, e1, _, r1⟩ := (H1.out wr hb) (by omega)
      subst e1
      obtain ⟨c10, c11⟩ := r1 k hlt
      have hcall := HS.out k hlt wr HI.out
      generalize L[k] = x at c10 c11 hcall
      clear r1
      have i0 : (0 : Int) ≤ (k : Int) := by omega
      have i1 : (k : Int) < (L.length : Int) := by omega
      cases hq : p k with
      | true =>
        rw [hq] at hcall
        go_wp2_with (go_at_fn g; refine hcall.mono ?_; rintro e w' ⟨rfl, hi', hb'⟩)
        go_ret
        exact ⟨_, rfl, .inr ⟨k, hlt, rfl, hq⟩, hb.trans hb'⟩
      | false =>
        rw [hq] at hcall
        go_wp2_with (go_at_fn g; refine hcall.mono ?_; rintro e w' ⟨rfl, hi', hb'⟩)
        go_roundw
        case rel =>
          refine ⟨k + 1, by go_num, by omega, Lib.hid (fun j hj => ?_), Lib.hid hi', hb.trans hb'⟩
          by_cases e : j = k
          · subst e; exact hq
          · exact HR.out j (by omega)
        case measure => simp [intOf]; omega
    · obtain rfl : k = L.length := by omega
      go_wp2
      go_ret
      exact ⟨_, rfl, .inl ⟨rfl, HR.out⟩, hb⟩

theorem containsFunc_any {v : Value} (g : Nat) (lb : Array Value) (eg : ∀ args w, (callFunc g args).run Tryz.prog w = .ok (.enter g args) w) (L : List (Nat × Nat)) (p : Nat → Bool) (I : Nat → World → Prop) (B : Nat) (w : World)
    (hs : Steps g lb L p I B) (h0 : I 0 w) (h : ∀ W, Below B w W → IsZ W v L) :
    Calls Tryz.prog 52 #[v, .func (.func g) #[] lb] w fun e w' => ∃ b : Bool, e = .returned (.bool b) ∧ (b = true ↔ ∃ k, k < L.length ∧ p k = true) ∧ Below B w w' := by
  have hi := indexFunc_any g lb eg L p I B w hs h0 h
  obtain ⟨A1, c1, rfl, n1, m1, z1⟩ := h w (Below.refl _ _)
  clear hs h0 h z1
  go_enter Tryz.func52, Tryz.ntmps52
  go_wp2_with (go_at_call 74; refine hi.mono ?_; rintro e w1 ⟨r, rfl, hr, b1⟩)
  go_ret
  refine ⟨_, rfl, ?_, b1⟩
  rw [decide_eq_true_eq]
  rcases hr with ⟨rfl, hn⟩ | ⟨k, hk, rfl, hp⟩
  · constructor
    · intro h; omega
    · rintro ⟨k, hk, hp⟩; rw [hn k hk] at hp; cases hp
  · exact ⟨fun _ => ⟨k, hk, hp⟩, fun _ => by omega⟩

/-- Whether a range is backward, or begins too early. -/
def wrongAt (L : List (Nat × Nat)) (k : Nat) : Bool := decide ((L[k]?.getD (0, 0)).2 < (L[k]?.getD (0, 0)).1) || decide ((L[k]?.getD (0, 0)).1 < least L k)

set_option maxRecDepth 100000 in
set_option maxHeartbeats 1000000 in
theorem right1_any (f t l C : Nat) (W : World) (hf : f < 4294967296) (ht : t < 4294967296) (_hl : l < 18446744073709551616) (hA : At W C #[.int .u64 l] 48) :
    Calls Tryz.prog 53 #[.agg #[.int .u32 f, .int .u32 t], .pointer (some ⟨C, 0, none⟩)] W fun e W' => e = .returned (.bool (decide (t < f) || decide (f < l))) ∧ At W' C #[.int .u64 (t + 2 : Nat)] 48 ∧ Below C W W' := by
  have hC := hA.lt
  by_cases h1 : t < f
  · have d1 : decide (t < f) = true := by simpa using h1
    rw [d1, Bool.true_or]
    go_enter Tryz.func53, Tryz.ntmps53
    go_wp2_with (go_at_call 54; refine (backward_any f t _).mono ?_; rintro e w1 ⟨rfl, b1⟩; have A1 := (hA.alloc (.cells #[.int .u32 f, .int .u32 t] 43)).belows b1; have X1 := (At.new W #[.int .u32 f, .int .u32 t] 43).belows b1; have hx0 := (X1.cell 0).trans rfl; have hx1 := (X1.cell 1).trans rfl; have ha0 := (A1.cell 0).trans rfl; have hfz := A1.frozen 0; rw [d1])
    go_ret
    refine ⟨rfl, ?_, ?_⟩
    · have := A1.set0 0 (.int .u64 (t + 2 : Nat))
      simpa using this
    · exact ((((Below.refl C W).alloc (by omega) _).trans (b1.mono (by simp; omega)))).setCell (p := ⟨C, 0, none⟩) (Nat.le_refl _) _
  · have d1 : decide (t < f) = false := by simpa using h1
    rw [d1, Bool.false_or]
    go_enter Tryz.func53, Tryz.ntmps53
    go_wp2_with (go_at_call 54; refine (backward_any f t _).mono ?_; rintro e w1 ⟨rfl, b1⟩; have A1 := (hA.alloc (.cells #[.int .u32 f, .int .u32 t] 43)).belows b1; have X1 := (At.new W #[.int .u32 f, .int .u32 t] 43).belows b1; have hx0 := (X1.cell 0).trans rfl; have hx1 := (X1.cell 1).trans rfl; have ha0 := (A1.cell 0).trans rfl; have hfz := A1.frozen 0; rw [d1])
    go_ret
    refine ⟨rfl, ?_, ?_⟩
    · have := A1.set0 0 (.int .u64 (t + 2 : Nat))
      simpa using this
    · exact ((((Below.refl C W).alloc (by omega) _).trans (b1.mono (by simp; omega)))).setCell (p := ⟨C, 0, none⟩) (Nat.le_refl _) _

theorem least_lt {L : List (Nat × Nat)} (hu : U32 L) (k : Nat) : least L k < 18446744073709551616 := by
  cases k with
  | zero => simp [least]
  | succ k =>
    simp only [least]
    by_cases h : k < L.length
    · have := hu.at k h; simp [h]; omega
    · simp [h]
/-- zone.Right. -/
theorem right_any {v : Value} (L : List (Nat × Nat)) (w : World) (hu : U32 L) (h : IsZ w v L) : Calls Tryz.prog 21 #[v] w fun e w' => e = .returned (.bool (rzB 0 L)) ∧ Below w.heap.size w w' := by
  have hsteps : Steps 53 #[.pointer (some ⟨w.heap.size, 0, none⟩)] L (wrongAt L) (fun k W => At W w.heap.size #[.int .u64 (least L k : Nat)] 48) w.heap.size := by
    intro k hk W hI
    have e1 : wrongAt L k = (decide (L[k].2 < L[k].1) || decide (L[k].1 < least L k)) := by simp [wrongAt, hk]
    have e2 : least L (k + 1) = L[k].2 + 2 := by simp [least, hk]
    rw [e1]
    show Calls Tryz.prog 53 _ W fun e W' => _ ∧ At W' w.heap.size #[.int .u64 (least L (k + 1) : Nat)] 48 ∧ _
    rw [e2]
    obtain ⟨b1, b2⟩ := hu.at k hk
    exact right1_any _ _ _ _ W b1 b2 (least_lt hu k) hI
  have hZ : ∀ W, Below w.heap.size (w.alloc (.cells #[.int .u64 0] 48)) W → IsZ W v L := fun W hW => h.belows (((Below.refl _ w).alloc (Nat.le_refl _) _).trans hW)
  have hc := containsFunc_any 53 #[.pointer (some ⟨w.heap.size, 0, none⟩)] (enters_of Tryz.func53 (by kernel_rfl) rfl) L (wrongAt L) _ w.heap.size (w.alloc (.cells #[.int .u64 0] 48)) hsteps (At.new _ _ _) hZ
  have hfin : ∀ b : Bool, (b = true ↔ ∃ k, k < L.length ∧ wrongAt L k = true) → (!b) = rzB 0 L := by
    intro b hb
    have : b = true ↔ rzB 0 L = false := by
      rw [hb, ← rz_any]
      constructor
      · rintro ⟨k, hk, hp⟩; exact ⟨k, hk, by simpa [wrongAt, hk] using hp⟩
      · rintro ⟨k, hk, hp⟩; exact ⟨k, hk, by simpa [wrongAt, hk] using hp⟩
    cases b <;> cases hq : rzB 0 L <;> simp_all
  obtain ⟨A1, c1, rfl, n1, m1, z1⟩ := h
  clear hsteps hZ z1
  go_enter Tryz.func21, Tryz.ntmps21
  go_wp2_with (go_at_call 52; refine hc.mono ?_; rintro e w1 ⟨b, rfl, hb, b1⟩)
  go_ret
  refine ⟨by first | rfl | exact ret_bool (hfin b hb), ?_⟩
  exact (((Below.refl _ w).alloc (Nat.le_refl _) _).trans b1)

/-- What lies on either side of a search by halves. -/
def BS (L : List (Nat × Nat)) (a i j : Nat) : Prop := (∀ t (ht : t < L.length), t < i → L[t].2 < a) ∧ (∀ t (ht : t < L.length), j ≤ t → a ≤ L[t].2)
theorem BS.up {L : List (Nat × Nat)} {a i j h : Nat} (hz : RZ 0 L) (hb : BS L a i j) (hh : h < L.length) (hlt : L[h].2 < a) : BS L a (h + 1) j :=
  ⟨fun t ht h1 => by
    by_cases e : t = h
    · subst e; exact hlt
    · have := hz.rise t h ht hh (by omega); have := hz.each h hh; omega, hb.2⟩
theorem BS.down {L : List (Nat × Nat)} {a i j h : Nat} (hz : RZ 0 L) (hb : BS L a i j) (hh : h < L.length) (hlt : ¬ L[h].2 < a) : BS L a i h :=
  ⟨hb.1, fun t ht h1 => by
    by_cases e : t = h
    · subst e; omega
    · have := hz.rise h t hh ht (by omega); have := hz.each t ht; omega⟩

end Go.Proofs.YteboadppighplaaGreat.Zo
/- Contract: zone.gather, over any iterator. -/
namespace Go.Proofs.YteboadppighplaaGreat.Zo
open Go.Proofs.YteboadppighplaaGreat.Tr
open Go.RowKit Go.Shelf
attribute [local go_sem] Oper.semAt_some
theorem wide_fn (f : FuncId) : Fence.wide.fn f = True := eq_true trivial
attribute [local go_sem] wide_fn

/-- A range of two addresses. -/
abbrev R32 := { x : Nat × Nat // x.1 < 4294967296 ∧ x.2 < 4294967296 }
def vals (xs : List R32) : List (Nat × Nat) := xs.map (·.1)
theorem vals_snoc (xs : List R32) (x : R32) : vals (xs ++ [x]) = vals xs ++ [x.1] := by simp [vals]
theorem vals_u32 (xs : List R32) : U32 (vals xs) := fun r hr => by
  obtain ⟨x, _, rfl⟩ := List.mem_map.1 hr
  exact x.2
theorem vals_len (xs : List R32) : (vals xs).length = xs.length := by simp [vals]
def encR (x : R32) : Array Value := #[.agg #[.int .u32 x.1.1, .int .u32 x.1.2]]
/-- The blocks that the loop owns: the box at n₀, and the row that it leads to. -/
def rowIn (n₀ : Nat) (W : World) (b : Nat) : Prop := b = n₀ ∨ ∃ v, W.cell? ⟨n₀, 0, none⟩ = some v ∧ v.ownBlock = some b
/-- The box leads to nothing that is not there. -/
def Vd (n₀ : Nat) (W : World) : Prop := ∀ v b, W.cell? ⟨n₀, 0, none⟩ = some v → v.ownBlock = some b → b < W.heap.size
/-- What a round keeps: all below n₀, and every block that the loop does not own. -/
def Kg (n₀ : Nat) (W W' : World) : Prop := Below n₀ W W' ∧ (Vd n₀ W → Vd n₀ W') ∧ ∀ b cs t, At W b cs t → ¬ rowIn n₀ W b → At W' b cs t ∧ ¬ rowIn n₀ W' b
theorem Kg.t {n₀ : Nat} {A B C : World} (h : Kg n₀ A B) (k : Kg n₀ B C) : Kg n₀ A C :=
  ⟨h.1.trans k.1, fun v => k.2.1 (h.2.1 v), fun b cs t ha hr => by obtain ⟨h1, h2⟩ := h.2.2 b cs t ha hr; exact k.2.2 b cs t h1 h2⟩
theorem Kg.of {n₀ : Nat} {W W' : World} {v v' : Value} (hb : Below n₀ W W') (hbox : W.cell? ⟨n₀, 0, none⟩ = some v) (hbox' : W'.cell? ⟨n₀, 0, none⟩ = some v')
    (hkeep : ∀ b, b < W.heap.size → b ≠ n₀ → v.ownBlock ≠ some b → W'.heap[b]? = W.heap[b]?) (hrow : v'.ownBlock = v.ownBlock ∨ ∀ b, v'.ownBlock = some b → W.heap.size ≤ b) (hval : Vd n₀ W → ∀ b, v'.ownBlock = some b → b < W'.heap.size) : Kg n₀ W W' := by
  refine ⟨hb, fun hv u b hu hb => ?_, fun b cs t ha hr => ?_⟩
  · rw [hbox'] at hu; cases hu; exact hval hv b hb
  · have h1 : b ≠ n₀ := fun e => hr (.inl e)
    have h2 : v.ownBlock ≠ some b := fun e => hr (.inr ⟨v, hbox, e⟩)
    refine ⟨(hkeep b ha.lt h1 h2).trans ha, ?_⟩
    rintro (e | ⟨u, hu, e⟩)
    · exact h1 e
    · rw [hbox'] at hu; cases hu
      rcases hrow with h | h
      · rw [h] at e; exact h2 e
      · have := h b e; have := ha.lt; omega
/-- Blocks below the heap's end lie as they lay. -/
theorem Kg.same {n₀ : Nat} {W W' : World} (hn : n₀ < W.heap.size) (hb : Below W.heap.size W W') : Kg n₀ W W' := by
  have hc : W'.cell? ⟨n₀, 0, none⟩ = W.cell? ⟨n₀, 0, none⟩ := hb.cell hn
  refine ⟨hb.mono (Nat.le_of_lt hn), fun hv u b hu h => ?_, fun b cs t ha hr => ⟨ha.belows hb, ?_⟩⟩
  · rw [hc] at hu; exact Nat.lt_of_lt_of_le (hv u b hu h) hb.size
  · rintro (e | ⟨u, hu, e⟩)
    · exact hr (.inl e)
    · rw [hc] at hu; exact hr (.inr ⟨u, hu, e⟩)
theorem cell_at_block {W W' : World} {p : Addr} (h : W'.heap[p.block]? = W.heap[p.block]?) : W'.cell? p = W.cell? p := by unfold World.cell?; rw [h]
theorem kg_b {n₀ : Nat} {w : World} (hn : n₀ < w.heap.size) (W : World) (l : Nat) (o o' : Obj) (hl : w.heap.size ≤ l) (ho : W.heap[l]? = some o) (hc : o.isCells = false) (hw : o.isWalk = false) : Kg n₀ W (W.putObj l o') := by
  have hcell : (W.putObj l o').cell? ⟨n₀, 0, none⟩ = W.cell? ⟨n₀, 0, none⟩ := cell_at_block (World.putObj_heap_other (by show n₀ ≠ l; omega))
  have hB : Below n₀ W (W.putObj l o') := belowK_b (w := w) (n₀ := n₀) (Nat.le_of_lt hn) W l o o' hl ho hc hw
  refine ⟨hB, fun hv u b hu h => ?_, fun b cs t ha hr => ?_⟩
  · rw [hcell] at hu; exact Nat.lt_of_lt_of_le (hv u b hu h) hB.size
  · have hbl : b ≠ l := fun e => by
      subst e
      have := ho.symm.trans ha
      cases this; cases hc
    refine ⟨(World.putObj_heap_other hbl).trans ha, ?_⟩
    rintro (e | ⟨u, hu, e⟩)
    · exact hr (.inl e)
    · rw [hcell] at hu; exact hr (.inr ⟨u, hu, e⟩)

theorem cell_of_heap {W W' : World} (h : W'.heap = W.heap) (p : Addr) : W'.cell? p = W.cell? p := by unfold World.cell?; rw [h]
theorem kg_append {W W2 w1 : World} {n₀ m : Nat} {v v' : Value} {tmp : Obj} {ys : List Value} (hheap : W2.heap = W.heap) (hv : Boxed W2 n₀ 31 v) (hgrow : (W2.alloc tmp).grownBy w1 v.ownBlock) (hv2 : Boxed (w1.setCell ⟨n₀, 0, none⟩ v') n₀ 31 v')
    (hb : Below n₀ W (w1.setCell ⟨n₀, 0, none⟩ v')) (hat : v'.ownBlock = v.ownBlock ∨ v'.ownBlock = some (W2.alloc tmp).heap.size) (hown' : w1.ownsRow n₀ 43 2 v' m ys) : Kg n₀ W (w1.setCell ⟨n₀, 0, none⟩ v') := by
  refine Kg.of hb ((cell_of_heap hheap _).symm.trans hv.cell) hv2.cell (fun b hb1 hb2 hb3 => ?_) ?_ (fun _ b e => by have := (hown'.lt b e).2; simpa using this)
  · have hb1' : b < W2.heap.size := by rw [hheap]; exact hb1
    rw [Below.heap_setCell w1 _ v' b hb2, hgrow.block b (by simp; omega) (fun e => hb3 e.symm), Below.heap_alloc W2 tmp b hb1', hheap]
  · rcases hat with h | h
    · exact .inl h
    · refine .inr fun b e => ?_
      rw [h] at e
      have : (W2.alloc tmp).heap.size = b := by simpa using e
      rw [← this, World.size_alloc, hheap]; omega
theorem kg_store {W W3 : World} {n₀ g j : Nat} {v u : Value} (hheap : W3.heap = W.heap) (hv : Boxed W3 n₀ 31 v) (hg : v.ownBlock = some g) (hgne : g ≠ n₀) (hb : Below n₀ W (W3.setCell ⟨g, j, none⟩ u)) : Kg n₀ W (W3.setCell ⟨g, j, none⟩ u) := by
  have hv' : Boxed (W3.setCell ⟨g, j, none⟩ u) n₀ 31 v := (Below.heap_setCell W3 _ u n₀ (Ne.symm hgne)).trans hv
  refine Kg.of hb ((cell_of_heap hheap _).symm.trans hv.cell) hv'.cell (fun b hb1 hb2 hb3 => ?_) (.inl rfl) (fun hvd b e => ?_)
  · rw [Below.heap_setCell W3 _ u b (fun e => hb3 (by rw [hg, e])), hheap]
  · have := hvd v b ((cell_of_heap hheap _).symm.trans hv.cell) e
    exact Nat.lt_of_lt_of_le this hb.size

/-- An iterator that hands these ranges over, one by one, whatever the loop's body does above n₀. -/
def Hands (gf : Nat) (lb : Array Value) (n₀ : Nat) (xs : List R32) (w : World) : Prop := SeqStopsK Fence.wide 4 Tryz.prog gf lb encR (Kg n₀) (fun ys => ys = xs) (fun pre => pre <+: xs) xs.length w

theorem at_own {β : Type} (B : Nat) (cs : Array Value) (t : TypeId) : Own (fun (_ : β) W => At W B cs t) := fun s X Y row hs hg hrow =>
  hs.kept hg (fun e' => by obtain ⟨o, ho, hc⟩ := hrow B e'.symm; rw [show X.heap[B]? = _ from hs] at ho; cases ho; cases hc)

/-- What gather answers. -/
def GatherOut (xs : List (Nat × Nat)) (w : World) (e : Ending) (w' : World) : Prop := ∃ v, e = .returned v ∧ IsZ w' v (gatherZ xs) ∧ Below w.heap.size w w'
def GI (w : World) (z : List (Nat × Nat)) (W : World) : Prop := (∃ v, Boxed W w.heap.size 31 v ∧ W.ownsRow w.heap.size 43 2 v z.length (zcells z) ∧ True) ∧ Below w.heap.size w W

set_option maxRecDepth 100000 in
set_option maxHeartbeats 4000000 in
theorem gather_in (gf : Nat) (lb : Array Value) (eg : ∀ args w, (callFunc gf args).run Tryz.prog w = .ok (.enter gf args) w) (xs : List R32) (w : World) (hlen : xs.length ≤ 4294967297) (hseq : ∀ W, Below w.heap.size w W → At W w.heap.size #[.slice none 0 0] 31 → Hands gf lb w.heap.size xs W) :
    CallsIn Fence.wide 5 Tryz.prog 85 #[.func (.func gf) #[] lb] w (GatherOut (vals xs) w) := by
  obtain ⟨i0, hi, hz0, hz1, hz2⟩ := info_parts info32
  refine callsIn_of_wp_marks Tryz.func85 rfl trivial ?_ rfl
  simp only [Tryz.ntmps85, List.size_toArray, List.length_cons, List.length_nil, Nat.reduceAdd, Nat.reduceSub, Array.replicate_succ, Array.replicate_zero, List.push_toArray, List.append_toArray, List.nil_append, List.cons_append]
  gi_wp2
  have bO := Boxed.new w 31 (.slice none 0 0)
  have hB0 : Below w.heap.size w (w.alloc (.cells #[.slice none 0 0] 31)) := (Below.refl _ w).alloc (Nat.le_refl _) _
  refine wpIn_rangeFunc_ownH rfl (by omega) (gf := gf) (lb := lb) rfl trivial eg
    (hseq _ hB0 (At.new _ _ _)) Kg.t (kg_b (by simp)) (Below.refl _ _) (fun _ => rfl)
    (fun pre W => (∃ v, Boxed W w.heap.size 31 v ∧ W.ownsRow w.heap.size 43 2 v (gatherZ (vals pre)).length (zcells (gatherZ (vals pre))) ∧ True) ∧ Below w.heap.size w W)
    (fun _ _ _ => False)
    (OwnFrom.and (Own.from (holdsRow_own w.heap.size w.heap.size 31 43 2 (fun pre : List R32 => (gatherZ (vals pre)).length) (fun pre => zcells (gatherZ (vals pre))) (fun _ _ => True)) _) (ownFrom_below (Nat.le_refl _) (by simp)))
    (fun _ _ _ _ _ hs _ _ => hs)
    ⟨⟨_, bO, World.ownsRow_nil _ _ _ _, trivial⟩, hB0⟩
    (fun x a' W => ∃ Bx, At W Bx #[.int .u32 x.1.1, .int .u32 x.1.2] 43 ∧ a' = { tmps := #[.func (.func gf) #[] lb, undef, .slice none 0 0, .pointer (some ⟨w.heap.size, 0, none⟩), .pointer (some ⟨Bx, 0, none⟩), undef, .func (.func gf) #[] lb, .agg #[.int .u32 x.1.1, .int .u32 x.1.2], undef, undef, undef, undef, undef, undef, undef, undef, undef, undef, undef, undef, undef, undef, undef, undef, undef, undef, undef, undef, undef, undef, undef, undef, undef, undef, undef, undef, undef, undef, undef, undef, undef, undef, undef], defers := [] })
    (fun x a' s X Y row hs hg hr => by
      obtain ⟨Bx, hx, ha⟩ := hs
      exact ⟨Bx, (at_own (β := Unit) Bx _ _) () X Y row hx hg (fun r e => (hr r e).2), ha⟩) ?assign ?body ?done ?stop
  case assign =>
    rintro l pre x W K ⟨⟨v, hv, hrow, _⟩, hB⟩ hK
    simp only [encR]
    gi_wp2
    exact hK _ _ ((KeepsOthers.alloc _ _).from _) (Kg.same hv.lt ((Below.refl _ W).alloc (Nat.le_refl _) _)) ⟨⟨v, hv.alloc _, hrow.alloc _, trivial⟩, hB.alloc hB.size _⟩ ⟨W.heap.size, World.alloc_heap_new W _, rfl⟩
  case body =>
    rintro l pre x a' W hl ⟨r, hr⟩ ⟨⟨v, hv, hrow, _⟩, hB⟩ ⟨Bx, hx, rfl⟩ hlt
    have hx0 : W.cell? ⟨Bx, 0, none⟩ = some (.int .u32 x.1.1) := (hx.cell 0).trans rfl
    have hx1 : W.cell? ⟨Bx, 1, none⟩ = some (.int .u32 x.1.2) := (hx.cell 1).trans rfl
    have hlz : (gatherZ (vals pre)).length ≤ 4294967297 := by have := gatherZ_len (vals pre); rw [vals_len] at this; omega
    have hu := gatherZ_u32 (vals_u32 pre)
    have e1 : gatherZ (vals (pre ++ [x])) = gstep (gatherZ (vals pre)) x.1 := by rw [vals_snoc, gatherZ_snoc]
    generalize gatherZ (vals pre) = z at hrow hlz hu e1
    have HE := Lib.hid e1
    clear e1
    obtain ⟨b1, b2⟩ := x.2
    have HB := Lib.hid hB
    have HROW := Lib.hid hrow
    have HV := Lib.hid hv
    have hc := hv.cell
    rcases List.eq_nil_or_concat z with rfl | ⟨zl, s, hls⟩
    · have hv0 : ∃ A c, v = .slice A 0 c := by rcases hrow.2 with ⟨rfl, _⟩ | ⟨g, cap, cur, rfl, _⟩ <;> exact ⟨_, _, rfl⟩
      obtain ⟨A, c, rfl⟩ := hv0
      clear hv hrow hB
      gi_wp2
      refine round_reads (by kernel_rfl) (by kernel_rfl) (by kernel_rfl) ?_
      repeat (go_big_quiet_step (fail))
      refine wpQuiet_nil ?_
      rintro _ ⟨nq, rfl⟩
      obtain ⟨W2, hW2⟩ : ∃ W2, W.drewN nq = W2 := ⟨_, rfl⟩
      have HB2 : Hid (Below w.heap.size w W2) := Lib.hid (hW2 ▸ bdrewN HB.out nq)
      have HROW2 : Hid (W2.ownsRow w.heap.size 43 2 _ _ _) := Lib.hid (hW2 ▸ (show (W.drewN nq).ownsRow w.heap.size 43 2 _ _ _ from HROW.out))
      have HV2 : Hid (Boxed W2 w.heap.size 31 _) := Lib.hid (hW2 ▸ (show Boxed (W.drewN nq) w.heap.size 31 _ from HV.out))
      have HX2 : Hid (At W2 Bx #[.int .u32 x.1.1, .int .u32 x.1.2] 43) := Lib.hid (hW2 ▸ (show At (W.drewN nq) Bx #[.int .u32 x.1.1, .int .u32 x.1.2] 43 from hx))
      have HH : Hid (W2.heap = W.heap) := Lib.hid (hW2 ▸ rfl)
      have hKF : KeepsFrom (w.alloc (.cells #[.slice none 0 0] 31)).heap.size W W2 := hW2 ▸ KeepsFrom.of_grownBy (Tr.grown_none (bdrewN (Below.refl _ W) nq)) (fun j e => by cases e)
      have hBW : Below w.heap.size W W2 := hW2 ▸ bdrewN (Below.refl _ _) nq
      rw [hW2]
      have hc2 := HV2.out.cell
      have hy0 : W2.cell? ⟨Bx, 0, none⟩ = some (.int .u32 x.1.1) := (HX2.out.cell 0).trans rfl
      have hy1 : W2.cell? ⟨Bx, 1, none⟩ = some (.int .u32 x.1.2) := (HX2.out.cell 1).trans rfl
      clear hc hx0 hx1 hx hW2 hr
      gi_wp2_with (gi_at_builtin; refine wpListIn_append_own_at _ rfl _ _ 31 rfl w.heap.size 43 i0 (.agg #[.int .u32 0, .int .u32 0]) 2 8 Tryz.underlying31 hi hz0 hz1 hz2 rfl (by decide) _ _ _ rfl (HROW2.out.alloc _) ⟨W2.heap.size, 0, none⟩ 1 1 [.int .u32 x.1.1, .int .u32 x.1.2] rfl rfl (World.news_of_block (cs := #[.int .u32 x.1.1, .int .u32 x.1.2]) (t := 43) (fr := (0, 0)) (heap_alloc_new W2 _)) (by simp [Value.oneCell']) (by simp only [maxLen]; omega) (by omega) (by have := HB2.out.size; simp; omega) ?_; intro v' w3 hown' hgrow _ hat; obtain ⟨g', cap', rfl⟩ := ownsRow_succ hown'; obtain ⟨hv1, hv2, hr2, hk2, hb2⟩ := HV2.out.appended (by decide) HROW2.out HB2.out.size (Nat.le_refl _) hown' hgrow; have hc1 := hv1.cell; have hf1 := hv1.frozen)
      refine ⟨hKF.trans (hk2.from _), kg_append HH.out HV2.out hgrow hv2 (hBW.trans hb2) hat hown', ⟨_, hv2, ?_, trivial⟩, HB2.out.trans hb2⟩
      rw [HE.out, gstep_nil]
      simpa [zcells] using hr2
    · obtain rfl : z = zl ++ [s] := by rw [hls]; simp
      have hlen1 : (zl ++ [s]).length = zl.length + 1 := by simp
      have hg0 : ∃ g cap, v = .slice (some ⟨g, 0, none⟩) (zl.length + 1) cap ∧ zl.length + 1 ≤ cap ∧ g ≠ w.heap.size ∧ w.heap.size ≤ g := by
        rcases hrow.2 with ⟨_, h0⟩ | ⟨g, cap, cur, rfl, hb, hg, hnc, _⟩
        · rw [hlen1] at h0; omega
        · refine ⟨g, cap, by rw [hlen1], by rw [← hlen1]; exact hnc, fun e => ?_, hb⟩
          have hh : W.heap[w.heap.size]? = _ := hv
          rw [← e, hg] at hh
          cases hh
      obtain ⟨g, cap, rfl, hcap, hgne, hgb⟩ := hg0
      obtain ⟨us1, us2⟩ := hu s (by simp)
      rw [hlen1] at hrow hlz HROW
      obtain ⟨_, hs1⟩ := zcells_at (zl ++ [s]) zl.length (by simp)
      have hcs1 : W.cell? ⟨g, zl.length * 2 + 1, none⟩ = some (.int .u32 s.2) := by
        rw [World.ownsRow.cellAt hrow _ (by omega), Nat.mul_comm]
        simpa using hs1
      have hpc : (zcells (zl ++ [s])).set (zl.length * 2 + 1) (.int .u32 (max s.2 x.1.2 : Nat)) = zcells (zl ++ [(s.1, max s.2 x.1.2)]) := by
        rw [zcells_snoc, zcells_snoc, List.set_append_right _ _ (by rw [zcells_length]; omega), zcells_length]
        simp [show zl.length * 2 + 1 - zl.length * 2 = 1 by omega]
      have HPC := Lib.hid hpc
      have HS1 := Lib.hid hs1
      have k0 : (0 : Int) ≤ (zl.length : Int) := by omega
      have k1 : (zl.length : Int) < ((zl.length + 1 : Nat) : Int) := by omega
      have k2 : decide ((zl.length : Int) < 0) = false := by simp
      have k3 : (zl.length : Int) < (zl.length : Int) + 1 := by omega
      have j1 : IntKind.u64.wrap (x.1.1 : Int) = (x.1.1 : Int) := IntWalk.u64_in _ (by omega)
      have j2 : IntKind.u64.wrap (s.2 : Int) = (s.2 : Int) := IntWalk.u64_in _ (by omega)
      have j3 : IntKind.u64.wrap ((s.2 : Int) + 1) = (s.2 : Int) + 1 := IntWalk.u64_in _ (by omega)
      clear hv hrow hB hpc hs1 hu
      by_cases hcond : s.2 + 1 < x.1.1
      · have hd : decide ((s.2 : Int) + 1 < (x.1.1 : Int)) = true := by simp; omega
        gi_wp2
        refine round_reads (by kernel_rfl) (by kernel_rfl) (by kernel_rfl) ?_
        repeat (go_big_quiet_step (fail))
        refine wpQuiet_nil ?_
        rintro _ ⟨nq, rfl⟩
        obtain ⟨W2, hW2⟩ : ∃ W2, W.drewN nq = W2 := ⟨_, rfl⟩
        have HB2 : Hid (Below w.heap.size w W2) := Lib.hid (hW2 ▸ bdrewN HB.out nq)
        have HROW2 : Hid (W2.ownsRow w.heap.size 43 2 _ _ _) := Lib.hid (hW2 ▸ (show (W.drewN nq).ownsRow w.heap.size 43 2 _ _ _ from HROW.out))
        have HV2 : Hid (Boxed W2 w.heap.size 31 _) := Lib.hid (hW2 ▸ (show Boxed (W.drewN nq) w.heap.size 31 _ from HV.out))
        have HX2 : Hid (At W2 Bx #[.int .u32 x.1.1, .int .u32 x.1.2] 43) := Lib.hid (hW2 ▸ (show At (W.drewN nq) Bx #[.int .u32 x.1.1, .int .u32 x.1.2] 43 from hx))
        have HH : Hid (W2.heap = W.heap) := Lib.hid (hW2 ▸ rfl)
        have hKF : KeepsFrom (w.alloc (.cells #[.slice none 0 0] 31)).heap.size W W2 := hW2 ▸ KeepsFrom.of_grownBy (Tr.grown_none (bdrewN (Below.refl _ W) nq)) (fun j e => by cases e)
        have hBW : Below w.heap.size W W2 := hW2 ▸ bdrewN (Below.refl _ _) nq
        rw [hW2]
        have hc2 := HV2.out.cell
        have hy0 : W2.cell? ⟨Bx, 0, none⟩ = some (.int .u32 x.1.1) := (HX2.out.cell 0).trans rfl
        have hy1 : W2.cell? ⟨Bx, 1, none⟩ = some (.int .u32 x.1.2) := (HX2.out.cell 1).trans rfl
        clear hc hx0 hx1 hx hW2 hr
        gi_wp2_with (gi_at_builtin; refine wpListIn_append_own_at _ rfl _ _ 31 rfl w.heap.size 43 i0 (.agg #[.int .u32 0, .int .u32 0]) 2 8 Tryz.underlying31 hi hz0 hz1 hz2 rfl (by decide) _ _ _ rfl (HROW2.out.alloc _) ⟨W2.heap.size, 0, none⟩ 1 1 [.int .u32 x.1.1, .int .u32 x.1.2] rfl rfl (World.news_of_block (cs := #[.int .u32 x.1.1, .int .u32 x.1.2]) (t := 43) (fr := (0, 0)) (heap_alloc_new W2 _)) (by simp [Value.oneCell']) (by simp only [maxLen]; omega) (by omega) (by have := HB2.out.size; simp; omega) ?_; intro v' w3 hown' hgrow _ hat; obtain ⟨g', cap', rfl⟩ := ownsRow_succ hown'; obtain ⟨hv1, hv2, hr2, hk2, hb2⟩ := HV2.out.appended (by decide) HROW2.out HB2.out.size (Nat.le_refl _) hown' hgrow; have hc1 := hv1.cell; have hf1 := hv1.frozen)
        refine ⟨hKF.trans (hk2.from _), kg_append HH.out HV2.out hgrow hv2 (hBW.trans hb2) hat hown', ⟨_, hv2, ?_, trivial⟩, HB2.out.trans hb2⟩
        rw [HE.out, gstep_more hcond]
        rw [zcells_snoc (zl ++ [s]) x.1]
        simpa using hr2
      · have hd : decide ((s.2 : Int) + 1 < (x.1.1 : Int)) = false := by simp; omega
        gi_wp2
        refine round_reads (by kernel_rfl) (by kernel_rfl) (by kernel_rfl) ?_
        repeat (go_big_quiet_step (fail))
        refine wpQuiet_nil ?_
        rintro _ ⟨nq, rfl⟩
        obtain ⟨W2, hW2⟩ : ∃ W2, W.drewN nq = W2 := ⟨_, rfl⟩
        have HB2 : Hid (Below w.heap.size w W2) := Lib.hid (hW2 ▸ bdrewN HB.out nq)
        have HROW2 : Hid (W2.ownsRow w.heap.size 43 2 _ _ _) := Lib.hid (hW2 ▸ (show (W.drewN nq).ownsRow w.heap.size 43 2 _ _ _ from HROW.out))
        have HV2 : Hid (Boxed W2 w.heap.size 31 _) := Lib.hid (hW2 ▸ (show Boxed (W.drewN nq) w.heap.size 31 _ from HV.out))
        have HX2 : Hid (At W2 Bx #[.int .u32 x.1.1, .int .u32 x.1.2] 43) := Lib.hid (hW2 ▸ (show At (W.drewN nq) Bx #[.int .u32 x.1.1, .int .u32 x.1.2] 43 from hx))
        have HH : Hid (W2.heap = W.heap) := Lib.hid (hW2 ▸ rfl)
        have hKF : KeepsFrom (w.alloc (.cells #[.slice none 0 0] 31)).heap.size W W2 := hW2 ▸ KeepsFrom.of_grownBy (Tr.grown_none (bdrewN (Below.refl _ W) nq)) (fun j e => by cases e)
        have hBW : Below w.heap.size W W2 := hW2 ▸ bdrewN (Below.refl _ _) nq
        rw [hW2]
        have hc2 := HV2.out.cell
        have hy0 : W2.cell? ⟨Bx, 0, none⟩ = some (.int .u32 x.1.1) := (HX2.out.cell 0).trans rfl
        have hy1 : W2.cell? ⟨Bx, 1, none⟩ = some (.int .u32 x.1.2) := (HX2.out.cell 1).trans rfl
        clear hc hx0 hx1 hx hW2 hr
        have hcs2 : W2.cell? ⟨g, zl.length * 2 + 1, none⟩ = some (.int .u32 s.2) := by
          rw [World.ownsRow.cellAt HROW2.out _ (by omega), Nat.mul_comm]
          simpa using HS1.out
        have hfz : W2.frozen? ⟨g, zl.length * 2 + 1, none⟩ = false := World.ownsRow.frozenAt HROW2.out _
        gi_wp2
        refine round_tail 12 (by kernel_rfl) (by kernel_rfl) (by kernel_rfl) ?_
        simp only [List.take_succ_cons, List.take_zero, List.drop_succ_cons, List.drop_zero]
        repeat still_step
        try refine wpStill_nil ?_
        change wpList _ _ _ _ _ W2.drew
        have HB3 : Hid (Below w.heap.size w W2.drew) := Lib.hid HB2.out.drew
        have HROW3 : Hid (W2.drew.ownsRow w.heap.size 43 2 (.slice (some ⟨g, 0, none⟩) (zl.length + 1) cap) (zl.length + 1) (zcells (zl ++ [s]))) := Lib.hid HROW2.out.drew
        have HV3 : Hid (Boxed W2.drew w.heap.size 31 (.slice (some ⟨g, 0, none⟩) (zl.length + 1) cap)) := Lib.hid (show Boxed W2.drew _ _ _ from HV2.out)
        have hKF3 : KeepsFrom (w.alloc (.cells #[.slice none 0 0] 31)).heap.size W W2.drew := hKF.trans ((KeepsOthers.drew W2).from _)
        have hBW3 : Below w.heap.size W W2.drew := hBW.drew
        have HH3 : Hid (W2.drew.heap = W.heap) := Lib.hid HH.out
        generalize W2.drew = W3 at HB3 HROW3 HV3 hKF3 hBW3 HH3 ⊢
        have hcs3 : W3.cell? ⟨g, zl.length * 2 + 1, none⟩ = some (.int .u32 s.2) := by
          rw [World.ownsRow.cellAt HROW3.out _ (by omega), Nat.mul_comm]
          simpa using HS1.out
        have hfz3 : W3.frozen? ⟨g, zl.length * 2 + 1, none⟩ = false := World.ownsRow.frozenAt HROW3.out _
        clear hcs2 hfz hc2 hy0 hy1
        have fin : ∀ val : Nat, val = max s.2 x.1.2 → (KeepsFrom (w.alloc (.cells #[.slice none 0 0] 31)).heap.size W (W3.setCell ⟨g, zl.length * 2 + 1, none⟩ (.int .u32 val))) ∧ Kg w.heap.size W (W3.setCell ⟨g, zl.length * 2 + 1, none⟩ (.int .u32 val)) ∧ (∃ v, Boxed (W3.setCell ⟨g, zl.length * 2 + 1, none⟩ (.int .u32 val)) w.heap.size 31 v ∧ (W3.setCell ⟨g, zl.length * 2 + 1, none⟩ (.int .u32 val)).ownsRow w.heap.size 43 2 v (gatherZ (vals (pre ++ [x]))).length (zcells (gatherZ (vals (pre ++ [x])))) ∧ True) ∧ Below w.heap.size w (W3.setCell ⟨g, zl.length * 2 + 1, none⟩ (.int .u32 val)) := by
          rintro val rfl
          obtain ⟨q1, q2⟩ := HROW3.out.stored (zl.length * 2 + 1) (.int .u32 (max s.2 x.1.2 : Nat))
          refine ⟨hKF3.trans ((KeepsOthers.setCell _ _ _).from _), kg_store HH3.out HV3.out rfl hgne (hBW3.setCell (p := ⟨g, _, none⟩) hgb _), ⟨_, HV3.out.kept q2 (by simpa using Ne.symm hgne), ?_, trivial⟩, HB3.out.setCell (p := ⟨g, _, none⟩) hgb _⟩
          rw [HE.out, gstep_into hcond, ← HPC.out]
          simpa using q1
        have FIN := Lib.hid fin
        clear fin
        go_wp2
        all_goals
          show Exit.inBlock 1 _ Exit.normal _ _
          gi_wp2
          first
          | exact FIN.out _ (by omega)
          | (rw [show max (s.2 : Int) (x.1.2 : Int) = ((max s.2 x.1.2 : Nat) : Int) by omega]; exact FIN.out _ rfl)
  case done =>
    rintro D ys W hD rfl ⟨⟨v, hv, hrow, _⟩, hB⟩ hK
    have hc := hv.cell
    gi_wp2
    refine ⟨by simp, .inl ⟨_, _, rfl, run_takeDeferred hK, ?_⟩⟩
    exact ⟨_, results_tmp rfl _ _ _, v, rfl, isZ_of_row (ownsRow_putObj hrow _ hK rfl), hB.trans (belowK_b (w := w) (Nat.le_refl _) W D _ _ (by simp at hD; omega) hK rfl rfl)⟩
  case stop =>
    rintro D c pre W _ _ h _
    exact h.elim
/-- zone.gather. -/
theorem gather_any (gf : Nat) (lb : Array Value) (eg : ∀ args w, (callFunc gf args).run Tryz.prog w = .ok (.enter gf args) w) (xs : List R32) (w : World) (hlen : xs.length ≤ 4294967297) (hseq : ∀ W, Below w.heap.size w W → At W w.heap.size #[.slice none 0 0] 31 → Hands gf lb w.heap.size xs W) :
    Calls Tryz.prog 85 #[.func (.func gf) #[] lb] w (GatherOut (vals xs) w) := callsIn_wide.1 (gather_in gf lb eg xs w hlen hseq)
end Go.Proofs.YteboadppighplaaGreat.Zo
/- Contracts: slices.Values. -/
namespace Go.Proofs.YteboadppighplaaGreat.Zo
open Go.Proofs.YteboadppighplaaGreat.Tr
open Go.RowKit Go.Shelf
attribute [local go_sem] Oper.semAt_some
attribute [local go_sem] wide_fn

theorem vals_cons {rest : List R32} {q : Nat × Nat} {t : List (Nat × Nat)} (h : vals rest = q :: t) : ∃ (x : R32) (r' : List R32), rest = x :: r' ∧ x.1 = q ∧ vals r' = t := by
  cases rest with
  | nil => simp [vals] at h
  | cons x r' =>
    simp only [vals, List.map_cons, List.cons.injEq] at h
    exact ⟨x, r', rfl, h.1, h.2⟩
theorem vals_nil {rest : List R32} (h : vals rest = []) : rest = [] := by simpa [vals] using h
/-- Ranges whose numbers fit are such values. -/
theorem vals_of {L : List (Nat × Nat)} (h : U32 L) : ∃ xs : List R32, vals xs = L := by
  induction L with
  | nil => exact ⟨[], rfl⟩
  | cons r L ih =>
    obtain ⟨xs, rfl⟩ := ih (fun q hq => h q (by simp [hq]))
    exact ⟨⟨r, h r (by simp)⟩ :: xs, rfl⟩
/-- What a loop's body does with what is handed over. -/
def Yields3 (l n₀ N : Nat) (J Jx : List R32 → World → Prop) : Prop :=
  ∀ pre (x : R32) W, J pre W → pre.length < N → YieldAt Fence.wide 3 Tryz.prog l #[.agg #[.int .u32 x.1.1, .int .u32 x.1.2]] W fun e W' => (e = .returned (.bool true) ∧ J (pre ++ [x]) W' ∧ Kg n₀ W W') ∨ (e = .returned (.bool false) ∧ Jx (pre ++ [x]) W')
/-- How an iterator ends. -/
def Ends (xs : List R32) (J Jx : List R32 → World → Prop) (e : Ending) (W' : World) : Prop := (∃ v, e = .returned v) ∧ ((∃ ys, ys = xs ∧ J ys W') ∨ (∃ pre, pre <+: xs ∧ Jx pre W'))
theorem hands_of {gf : Nat} {lb : Array Value} {xs : List R32} {w : World}
    (h : ∀ (l : Nat) (J Jx : List R32 → World → Prop) (W : World), Below w.heap.size w W → At W w.heap.size #[.slice none 0 0] 31 → (∀ s A B, J s A → A.grownBy B none → J s B) → Yields3 l w.heap.size xs.length J Jx → J [] W → CallsIn Fence.wide 4 Tryz.prog gf (#[.func (.yield l) #[] #[]] ++ lb) W (Ends xs J Jx)) :
    ∀ W, Below w.heap.size w W → At W w.heap.size #[.slice none 0 0] 31 → Hands gf lb w.heap.size xs W := fun W hW hA l J Jx W1 hW1 hJ _ hY h0 =>
  h l J Jx W1 (hW.trans (hW1.mono hW.size)) (hA.belows hW1) (fun s A B hs hg => hJ s A B none hs hg (fun r e => by cases e)) hY h0

set_option maxRecDepth 100000 in
set_option maxHeartbeats 2000000 in
theorem values_hands (Bs : Nat) (v : Value) (xs : List R32) (w : World) (hA : At w Bs #[v] 31) (hz : IsZ w v (vals xs)) : ∀ W, Below w.heap.size w W → At W w.heap.size #[.slice none 0 0] 31 → Hands 104 #[.pointer (some ⟨Bs, 0, none⟩)] w.heap.size xs W := by
  refine hands_of fun l J Jx W hW _ hJ hY h0 => ?_
  obtain ⟨A, c, rfl, n1, m1, z⟩ := hz
  rw [vals_len] at n1 hA
  have hL : xs.length ≤ 9223372036854775807 := Nat.le_trans n1 m1
  have HZ : Hid (∀ W, Below w.heap.size w W → Zs W A (vals xs)) := Lib.hid fun W hW => z.belows hW
  have HY := Lib.hid hY
  have hc := ((hA.belows hW).cell 0).trans rfl
  clear z hY
  show CallsIn Fence.wide 4 Tryz.prog 104 #[.func (.yield l) #[] #[], .pointer (some ⟨Bs, 0, none⟩)] W _
  refine callsIn_of_wp Tryz.func104 rfl trivial ?_ rfl
  simp only [Tryz.ntmps104, List.size_toArray, List.length_cons, List.length_nil, Nat.reduceAdd, Nat.reduceSub, Array.replicate_succ, Array.replicate_zero, List.push_toArray, List.append_toArray, List.nil_append, List.cons_append]
  gi_wp2
  gi_loopw [7] (fun i wr => ∃ k : Nat, i = .int .i64 k ∧ k ≤ xs.length ∧ Hid (J (xs.take k) wr) ∧ Below w.heap.size w wr) (fun i _ => xs.length - (intOf i).toNat)
  case atStart => exact ⟨0, rfl, by omega, Lib.hid (by simpa using h0), hW⟩
  case round =>
    obtain ⟨k, rfl, hk, HJ, hb⟩ := hrel
    by_cases hlt : k < xs.length
    · obtain ⟨g1, o1, e1, hg1, r1⟩ := (HZ.out wr hb) (by rw [vals_len]; omega)
      subst e1
      obtain ⟨c10, c11⟩ := r1 k (by rw [vals_len]; exact hlt)
      have ex : (vals xs)[k]'(by rw [vals_len]; exact hlt) = xs[k].1 := by simp [vals]
      rw [ex] at c10 c11
      have htk : xs.take (k + 1) = xs.take k ++ [xs[k]] := List.take_succ_eq_append_getElem hlt
      have hpre : xs.take k ++ [xs[k]] <+: xs := by rw [← htk]; exact List.take_prefix _ _
      clear ex r1
      generalize xs[k] = x at c10 c11 htk hpre
      have i0 : (0 : Int) ≤ (k : Int) := by omega
      have i1 : (k : Int) < (xs.length : Int) := by omega
      have hJ2 : J (xs.take k) (wr.alloc (.cells #[.int .u32 x.1.1, .int .u32 x.1.2] 43)) := hJ _ _ _ HJ.out (World.grownBy_alloc _ _ none)
      obtain ⟨fn, tmps, assign, body, hy, hR⟩ := HY.out (xs.take k) x _ hJ2 (by simp; omega)
      have HTK := Lib.hid htk
      have HPR := Lib.hid hpre
      clear hJ2 htk hpre
      have hb2 : Below w.heap.size w (wr.alloc (.cells #[.int .u32 x.1.1, .int .u32 x.1.2] 43)) := hb.alloc hb.size _
      gi_wp2
      refine hR.mono ?_
      rintro e W3 (⟨rfl, hJ3, hk3⟩ | ⟨rfl, hJx3⟩)
      · gi_wp2
        go_roundw
        case rel => exact ⟨k + 1, by go_num, by omega, Lib.hid (by rw [HTK.out]; exact hJ3), hb2.trans hk3.1⟩
        case measure => simp [intOf]; omega
      · gi_wp2
        refine bodyPost_ret (results_none rfl _ _ _) rfl ?_
        exact ⟨⟨_, rfl⟩, .inr ⟨_, HPR.out, hJx3⟩⟩
    · obtain rfl : k = xs.length := by omega
      gi_wp2
      go_end0
      exact ⟨⟨_, rfl⟩, .inl ⟨xs, rfl, by simpa using HJ.out⟩⟩

theorem values_any (A : Option Addr) (n c : Nat) (w : World) : Calls Tryz.prog 86 #[.slice A n c] w fun e w' => e = .returned (.func (.func 104) #[] #[.pointer (some ⟨w.heap.size, 0, none⟩)]) ∧ w' = w.alloc (.cells #[.slice A n c] 31) := by
  go_enter Tryz.func86, Tryz.ntmps86
  go_wp2
  go_ret
  exact ⟨rfl, rfl⟩
/-- The box holds nothing yet. -/
theorem Vd.start {n₀ : Nat} {W : World} (h : At W n₀ #[.slice none 0 0] 31) : Vd n₀ W := fun v b hv hb => by
  rw [h.cell 0] at hv
  cases hv; cases hb
theorem Vd.same {n₀ : Nat} {W W' : World} (h : Vd n₀ W) (hn : n₀ < W.heap.size) (hb : Below W.heap.size W W') : Vd n₀ W' := (Kg.same hn hb).2.1 h
/-- A new block is none of the loop's. -/
theorem Vd.fresh {n₀ : Nat} {W W' : World} (h : Vd n₀ W) (hn : n₀ < W.heap.size) (hb : Below W.heap.size W W') {b : Nat} (hb' : W.heap.size ≤ b) : ¬ rowIn n₀ W' b := by
  rintro (e | ⟨u, hu, e⟩)
  · omega
  · rw [hb.cell (p := ⟨n₀, 0, none⟩) hn] at hu
    have := h u b hu e
    omega
end Go.Proofs.YteboadppighplaaGreat.Zo
/- Contracts: zone.common. -/
namespace Go.Proofs.YteboadppighplaaGreat.Zo
open Go.Proofs.YteboadppighplaaGreat.Tr
open Go.RowKit Go.Shelf
attribute [local go_sem] Oper.semAt_some
attribute [local go_sem] wide_fn

/-- What is still to come of two zones' common ranges. -/
def CI (xs : List R32) (X Y : List (Nat × Nat)) (i j : Nat) (pre : List R32) : Prop := ∃ rest, xs = pre ++ rest ∧ vals rest = comm (X.drop i) (Y.drop j)
theorem CI.fin {xs pre : List R32} {X Y : List (Nat × Nat)} {i j : Nat} (h : CI xs X Y i j pre) (hij : X.length ≤ i ∨ Y.length ≤ j) : pre = xs := by
  obtain ⟨rest, rfl, hr⟩ := h
  rcases hij with h | h
  · rw [List.drop_eq_nil_of_le h, comm_nil'] at hr; simp [vals_nil hr]
  · rw [List.drop_eq_nil_of_le h, comm_nil] at hr; simp [vals_nil hr]
theorem CI.pass {xs pre : List R32} {X Y : List (Nat × Nat)} {i j : Nat} (h : CI xs X Y i j pre) (hi : i < X.length) (hj : j < Y.length) (hq : ¬ max X[i].1 Y[j].1 ≤ min X[i].2 Y[j].2) :
    (X[i].2 ≤ Y[j].2 → CI xs X Y (i + 1) j pre) ∧ (¬ X[i].2 ≤ Y[j].2 → CI xs X Y i (j + 1) pre) := by
  obtain ⟨rest, hx, hr⟩ := h
  rw [List.drop_eq_getElem_cons hi, List.drop_eq_getElem_cons hj, comm, if_neg hq, List.nil_append] at hr
  refine ⟨fun h => ⟨rest, hx, ?_⟩, fun h => ⟨rest, hx, ?_⟩⟩
  · rw [hr, if_pos h, List.drop_eq_getElem_cons hj]
  · rw [hr, if_neg h, List.drop_eq_getElem_cons hi]
theorem CI.give {xs pre : List R32} {X Y : List (Nat × Nat)} {i j : Nat} (h : CI xs X Y i j pre) (hi : i < X.length) (hj : j < Y.length) (hq : max X[i].1 Y[j].1 ≤ min X[i].2 Y[j].2) :
    ∃ x : R32, x.1 = (max X[i].1 Y[j].1, min X[i].2 Y[j].2) ∧ pre.length < xs.length ∧ pre ++ [x] <+: xs ∧ (X[i].2 ≤ Y[j].2 → CI xs X Y (i + 1) j (pre ++ [x])) ∧ (¬ X[i].2 ≤ Y[j].2 → CI xs X Y i (j + 1) (pre ++ [x])) := by
  obtain ⟨rest, hx, hr⟩ := h
  rw [List.drop_eq_getElem_cons hi, List.drop_eq_getElem_cons hj, comm, if_pos hq, List.cons_append, List.nil_append] at hr
  obtain ⟨x, r', rfl, hx1, hr'⟩ := vals_cons hr
  refine ⟨x, hx1, by rw [hx]; simp, ⟨r', by rw [hx]; simp⟩, fun h => ⟨r', by rw [hx]; simp, ?_⟩, fun h => ⟨r', by rw [hx]; simp, ?_⟩⟩
  · rw [hr', if_pos h, List.drop_eq_getElem_cons hj]
  · rw [hr', if_neg h, List.drop_eq_getElem_cons hi]

end Go.Proofs.YteboadppighplaaGreat.Zo
/- Contracts: zone.gaps. -/
namespace Go.Proofs.YteboadppighplaaGreat.Zo
open Go.Proofs.YteboadppighplaaGreat.Tr
open Go.RowKit Go.Shelf
attribute [local go_sem] Oper.semAt_some
attribute [local go_sem] wide_fn

/-- What is still to come of a zone's gaps. -/
def PI (xs : List R32) (Z : List (Nat × Nat)) (n k : Nat) (pre : List R32) : Prop := ∃ rest, xs = pre ++ rest ∧ vals rest = gapsL n (Z.drop k)
theorem PI.pass {xs pre : List R32} {Z : List (Nat × Nat)} {n k : Nat} (h : PI xs Z n k pre) (hk : k < Z.length) (hq : ¬ n < Z[k].1) : PI xs Z (Z[k].2 + 1) (k + 1) pre := by
  obtain ⟨rest, hx, hr⟩ := h
  rw [List.drop_eq_getElem_cons hk, gapsL, if_neg hq] at hr
  exact ⟨rest, hx, hr⟩
theorem PI.give {xs pre : List R32} {Z : List (Nat × Nat)} {n k : Nat} (h : PI xs Z n k pre) (hk : k < Z.length) (hq : n < Z[k].1) :
    ∃ x : R32, x.1 = (n, Z[k].1 - 1) ∧ pre.length < xs.length ∧ pre ++ [x] <+: xs ∧ PI xs Z (Z[k].2 + 1) (k + 1) (pre ++ [x]) := by
  obtain ⟨rest, hx, hr⟩ := h
  rw [List.drop_eq_getElem_cons hk, gapsL, if_pos hq] at hr
  obtain ⟨x, r', rfl, hx1, hr'⟩ := vals_cons hr
  exact ⟨x, hx1, by rw [hx]; simp, ⟨r', by rw [hx]; simp⟩, r', by rw [hx]; simp, hr'⟩
theorem PI.last {xs pre : List R32} {Z : List (Nat × Nat)} {n : Nat} (h : PI xs Z n Z.length pre) (hq : n ≤ 4294967295) : ∃ x : R32, x.1 = (n, 4294967295) ∧ pre.length < xs.length ∧ pre ++ [x] = xs := by
  obtain ⟨rest, hx, hr⟩ := h
  rw [List.drop_length, gapsL, if_pos hq] at hr
  obtain ⟨x, r', rfl, hx1, hr'⟩ := vals_cons hr
  rw [vals_nil hr'] at hx
  exact ⟨x, hx1, by rw [hx]; simp, hx.symm⟩
theorem PI.none {xs pre : List R32} {Z : List (Nat × Nat)} {n : Nat} (h : PI xs Z n Z.length pre) (hq : ¬ n ≤ 4294967295) : pre = xs := by
  obtain ⟨rest, hx, hr⟩ := h
  rw [List.drop_length, gapsL, if_neg hq] at hr
  rw [hx, vals_nil hr]; simp

end Go.Proofs.YteboadppighplaaGreat.Zo
/- Contracts: zone.both. -/
namespace Go.Proofs.YteboadppighplaaGreat.Zo
open Go.Proofs.YteboadppighplaaGreat.Tr
open Go.RowKit Go.Shelf
attribute [local go_sem] Oper.semAt_some
attribute [local go_sem] wide_fn

/-- What is still to come of two zones' ranges. -/
def MI (xs : List R32) (F S : List (Nat × Nat)) (pre : List R32) : Prop := ∃ rest, xs = pre ++ rest ∧ vals rest = mrg F S
theorem MI.step {xs pre : List R32} {F S T U : List (Nat × Nat)} {h : Nat × Nat} (hm : MI xs F S pre) (e : mrg F S = h :: mrg T U) : ∃ x : R32, x.1 = h ∧ pre.length < xs.length ∧ pre ++ [x] <+: xs ∧ MI xs T U (pre ++ [x]) := by
  obtain ⟨rest, hx, hr⟩ := hm
  rw [e] at hr
  obtain ⟨x, r', rfl, hx1, hr'⟩ := vals_cons hr
  exact ⟨x, hx1, by rw [hx]; simp, ⟨r', by rw [hx]; simp⟩, r', by rw [hx]; simp, hr'⟩
theorem MI.fin {xs pre : List R32} (h : MI xs [] [] pre) : pre = xs := by
  obtain ⟨rest, hx, hr⟩ := h
  rw [mrg] at hr
  rw [hx, vals_nil hr]; simp
/-- A slice's address, of these ranges, in every later world. -/
def ZF (w : World) (A : Option Addr) (L : List (Nat × Nat)) : Prop := ∀ W, Below w.heap.size w W → Zs W A L
theorem ZF.tail {w : World} {g o c : Nat} {r : Nat × Nat} {L : List (Nat × Nat)} (h : ZF w (some ⟨g, o, none⟩) (r :: L)) (hc : L.length + 1 ≤ c) (A : Option Addr) (hA : A = if c = 1 then some ⟨g, o, none⟩ else some ⟨g, o + 2, none⟩) : ZF w A L := fun W hW => by
  have := (h W hW).drop (k := 1) (cap := c) (by simpa using hc)
  rw [hA]
  simpa [add_off] using this
def lenOf : Value → Nat
  | .slice _ n _ => n
  | _ => 0

end Go.Proofs.YteboadppighplaaGreat.Zo
/- Contracts: zone.And, Or, Minus: right zones that have what is asked. -/
namespace Go.Proofs.YteboadppighplaaGreat.Zo
open Go.Proofs.YteboadppighplaaGreat.Tr
open Go.RowKit Go.Shelf

/-- A right zone of addresses. -/
def Zn (L : List (Nat × Nat)) : Prop := RZ 0 L ∧ Under 4294967296 L
theorem Zn.u32 {L : List (Nat × Nat)} (h : Zn L) : U32 L := h.1.u32 h.2
theorem Zn.len {L : List (Nat × Nat)} (h : Zn L) : L.length ≤ 2147483648 := zone_len32 h.1 h.2
theorem Zn.eq {X Y : List (Nat × Nat)} (hx : Zn X) (hy : Zn Y) (h : ∀ a, a < 4294967296 → has X a = has Y a) : X = Y := zone_eq hx.1 hy.1 hx.2 hy.2 h
theorem zn_gather {xs : List (Nat × Nat)} (h : Asc 0 xs) (hu : U32 xs) : Zn (gatherZ xs) ∧ ∀ a, has (gatherZ xs) a = has xs a := by
  obtain ⟨h1, h2, h3⟩ := gatherZ_spec h hu.under
  exact ⟨⟨h1, h2⟩, h3⟩
/-- It hands back a right zone that has just what p says. -/
def ZOut (w : World) (p : Nat → Bool) (e : Ending) (w' : World) : Prop := ∃ v L, e = .returned v ∧ IsZ w' v L ∧ Zn L ∧ (∀ a, a < 4294967296 → has L a = p a) ∧ Below w.heap.size w w'
theorem two_boxes (w : World) (v1 v2 : Value) : Below w.heap.size w ((w.alloc (.cells #[v1] 31)).alloc (.cells #[v2] 31)) ∧ At ((w.alloc (.cells #[v1] 31)).alloc (.cells #[v2] 31)) w.heap.size #[v1] 31 ∧ At ((w.alloc (.cells #[v1] 31)).alloc (.cells #[v2] 31)) (w.heap.size + 1) #[v2] 31 :=
  ⟨((Below.refl _ w).alloc (Nat.le_refl _) _).alloc (by simp) _, (At.new w _ _).alloc _, At.new1 w _ _ _⟩

end Go.Proofs.YteboadppighplaaGreat.Zo
/- The contract of slices.SortFunc laid at this program, by the shelf's own command, in plain words (tools/shelfsort.py: the numbers are one seat's). -/
namespace Go.Proofs.YteboadppighplaaGreat.Zo
open Go.Shelf
def sortR_ren : Go.Shelf.Ren := ⟨fun | 6 => 82 | 15 => 102 | 14 => 101 | 28 => 123 | 29 => 124 | 20 => 115 | 21 => 116 | 22 => 117 | 23 => 118 | 24 => 119 | 25 => 120 | 26 => 121 | 27 => 122 | 46 => 130 | 47 => 131 | 48 => 132 | 49 => 133 | 50 => 134 | 57 => 137 | n => n, fun | 22 => 31 | 24 => 43 | 25 => 133 | 3 => 3 | 39 => 156 | 0 => 0 | 53 => 41 | 55 => 48 | 4 => 4 | 46 => 176 | 45 => 175 | 50 => 164 | 5 => 5 | 9 => 9 | 66 => 184 | 70 => 187 | 76 => 189 | 77 => 190 | n => n, fun | n => n⟩
theorem sortR : Go.Proofs.SlLaysF0.n6 Tryz.prog sortR_ren := {
  mixed := by kernel_rfl
  f6 := ⟨Tryz.f82.name, by decide, Tryz.func82.trans (congrArg some (by kernel_rfl))⟩
  f14 := ⟨Tryz.f101.name, by decide, Tryz.func101.trans (congrArg some (by kernel_rfl))⟩
  f15 := Tryz.func102.trans (congrArg some (by kernel_rfl))
  f20 := ⟨Tryz.f115.name, by decide, Tryz.func115.trans (congrArg some (by kernel_rfl))⟩
  f21 := ⟨Tryz.f116.name, by decide, Tryz.func116.trans (congrArg some (by kernel_rfl))⟩
  f22 := ⟨Tryz.f117.name, by decide, Tryz.func117.trans (congrArg some (by kernel_rfl))⟩
  f23 := ⟨Tryz.f118.name, by decide, Tryz.func118.trans (congrArg some (by kernel_rfl))⟩
  f24 := ⟨Tryz.f119.name, by decide, Tryz.func119.trans (congrArg some (by kernel_rfl))⟩
  f25 := ⟨Tryz.f120.name, by decide, Tryz.func120.trans (congrArg some (by kernel_rfl))⟩
  f26 := ⟨Tryz.f121.name, by decide, Tryz.func121.trans (congrArg some (by kernel_rfl))⟩
  f27 := ⟨Tryz.f122.name, by decide, Tryz.func122.trans (congrArg some (by kernel_rfl))⟩
  f28 := Tryz.func123.trans (congrArg some (by kernel_rfl))
  f29 := Tryz.func124.trans (congrArg some (by kernel_rfl))
  f46 := ⟨Tryz.f130.name, by decide, Tryz.func130.trans (congrArg some (by kernel_rfl))⟩
  f47 := Tryz.func131.trans (congrArg some (by kernel_rfl))
  f48 := Tryz.func132.trans (congrArg some (by kernel_rfl))
  f49 := ⟨Tryz.f133.name, by decide, Tryz.func133.trans (congrArg some (by kernel_rfl))⟩
  f50 := ⟨Tryz.f134.name, by decide, Tryz.func134.trans (congrArg some (by kernel_rfl))⟩
  f57 := ⟨Tryz.f137.name, by decide, Tryz.func137.trans (congrArg some (by kernel_rfl))⟩
  t0 := Tryz.underlying0
  a0 := Tryz.isAgg0
  z0 := Tryz.sizeOf0
  v0 := Tryz.zeroValue0
  t3 := Tryz.underlying3
  a3 := Tryz.isAgg3
  z3 := Tryz.sizeOf3
  v3 := Tryz.zeroValue3
  t4 := Tryz.underlying4
  a4 := Tryz.isAgg4
  z4 := Tryz.sizeOf4
  v4 := Tryz.zeroValue4
  t5 := Tryz.underlying5
  a5 := Tryz.isAgg5
  z5 := Tryz.sizeOf5
  v5 := Tryz.zeroValue5
  t9 := Tryz.underlying9
  a9 := Tryz.isAgg9
  z9 := Tryz.sizeOf9
  v9 := Tryz.zeroValue9
  t22 := Tryz.underlying31
  a22 := Tryz.isAgg31
  z22 := Tryz.sizeOf31
  v22 := Tryz.zeroValue31
  t25 := Tryz.underlying133
  a25 := Tryz.isAgg133
  z25 := Tryz.sizeOf133
  v25 := Tryz.zeroValue133
  t39 := Tryz.underlying156
  a39 := Tryz.isAgg156
  z39 := Tryz.sizeOf156
  v39 := Tryz.zeroValue156
  t45 := Tryz.underlying175
  a45 := Tryz.isAgg175
  z45 := Tryz.sizeOf175
  v45 := Tryz.zeroValue175
  t46 := Tryz.underlying176
  a46 := Tryz.isAgg176
  z46 := Tryz.sizeOf176
  v46 := Tryz.zeroValue176
  t50 := Tryz.underlying164
  a50 := Tryz.isAgg164
  z50 := Tryz.sizeOf164
  v50 := Tryz.zeroValue164
  t53 := Tryz.underlying41
  a53 := Tryz.isAgg41
  z53 := Tryz.sizeOf41
  v53 := Tryz.zeroValue41
  t55 := Tryz.underlying48
  a55 := Tryz.isAgg48
  z55 := Tryz.sizeOf48
  v55 := Tryz.zeroValue48
  t66 := Tryz.underlying184
  a66 := Tryz.isAgg184
  z66 := Tryz.sizeOf184
  v66 := Tryz.zeroValue184
  t70 := Tryz.underlying187
  a70 := Tryz.isAgg187
  z70 := Tryz.sizeOf187
  v70 := Tryz.zeroValue187
  t76 := Tryz.underlying189
  a76 := Tryz.isAgg189
  z76 := Tryz.sizeOf189
  v76 := Tryz.zeroValue189
  t77 := Tryz.underlying190
  a77 := Tryz.isAgg190
  z77 := Tryz.sizeOf190
  v77 := Tryz.zeroValue190 }
end Go.Proofs.YteboadppighplaaGreat.Zo
/- Contracts: append of ranges onto a row of one's own; slices.Clone; the sort. -/
namespace Go.Proofs.YteboadppighplaaGreat.Zo
open Go.Proofs.YteboadppighplaaGreat.Tr
open Go.RowKit Go.Shelf

theorem clone_any {v : Value} (L : List (Nat × Nat)) (w : World) (hlen : L.length ≤ 4294967300) (hz : IsZ w v L) : Calls Tryz.prog 81 #[v] w fun e w' => ∃ v', e = .returned v' ∧ ((v' = .slice none 0 0 ∧ L = []) ∨ Row w' w.heap.size v' L) ∧ Below w.heap.size w w' := by
  obtain ⟨A, c, rfl, n1, m1, z⟩ := hz
  have q22 : ∀ (w : World) (a : Option Addr) (n c n' c' : Nat), (binOp .eql 31 (.slice a n c) (.slice none n' c')).run Tryz.prog w = .ok (.bool a.isNone) w := fun w a n c n' c' => Lib.run_eql_slice_nil w _ _ a n c n' c' Tryz.underlying31
  cases A with
  | none =>
    have hL : L = [] := by
      cases L with
      | nil => rfl
      | cons r L => obtain ⟨g, o, e, _⟩ := z (by simp); cases e
    subst hL
    go_enter Tryz.func81, Tryz.ntmps81
    go_wp2
    go_ret
    exact ⟨_, rfl, .inl (by simp), Below.refl _ _⟩
  | some ad =>
    have HZ := Lib.hid (z.belows ((Below.refl _ w).alloc (Nat.le_refl _) (.cells #[] 43)))
    clear z
    go_enter Tryz.func81, Tryz.ntmps81
    go_wp2_with (at_builtin; refine wpList_app_z rfl _ _ rfl w.heap.size _ [] rfl (Row.empty w) _ _ L rfl HZ.out (fun e => by cases e) (by simpa using hlen) (by simp) ?_; intro g cap w1 hrow b1)
    go_ret
    exact ⟨_, rfl, .inr (by simpa using hrow), ((Below.refl _ w).alloc (Nat.le_refl _) _).trans b1⟩

/-- A range's cells. -/
def encN (x : Nat × Nat) : List Value := [.int .u32 x.1, .int .u32 x.2]
theorem closure31 (x y : Nat × Nat) (W : World) : Calls Tryz.prog 83 #[.agg #[.int .u32 x.1, .int .u32 x.2], .agg #[.int .u32 y.1, .int .u32 y.2]] W fun e w' => e = .returned (.int .i64 (cmpN x.1 y.1)) ∧ ∃ q os', w' = Sort.grow (W.drewN q) os' := by
  have hc := fun u : World => compare_any x.1 y.1 u
  generalize cmpN x.1 y.1 = r at hc ⊢
  go_enter Tryz.func83, Tryz.ntmps83
  go_wp2_with (go_at_call 84; refine (hc _).mono ?_; rintro e w1 ⟨rfl, rfl⟩)
  go_ret
  exact ⟨rfl, 0, _, by rw [Sort.alloc_eq_grow, Sort.alloc_eq_grow, Sort.grow_grow]; rfl⟩
theorem cmpN_lt (x y : Nat × Nat) : ltOf (fun x y : Nat × Nat => cmpN x.1 y.1) x y = decide (x.1 < y.1) := by
  unfold ltOf cmpN
  by_cases h1 : x.1 < y.1
  · simp [h1]
  · by_cases h2 : y.1 < x.1 <;> simp [h1, h2]
theorem swoN : Sort.SWO (ltOf fun x y : Nat × Nat => cmpN x.1 y.1) where
  irrefl x := by rw [cmpN_lt]; simp
  trans x y z h1 h2 := by rw [cmpN_lt] at *; simp at *; omega
  ntrans x y z h1 h2 := by rw [cmpN_lt] at *; simp at *; omega

theorem holds_row {w : World} {base g cap : Nat} {L : List (Nat × Nat)} (h : w.ownsRow base 43 2 (.slice (some ⟨g, 0, none⟩) L.length cap) L.length (zcells L)) : Sort.HoldsK encN 2 w g 0 L.toArray := by
  intro j hj
  rw [Sort.size_flatK] at hj
  simp only [List.size_toArray] at hj
  rw [Sort.get_flatK _ _ _ _ (by simpa using hj)]
  have hk : j / 2 < L.length := by omega
  obtain ⟨p1, p2⟩ := zcells_at L (j / 2) hk
  refine ⟨?_, by rw [Nat.zero_add]; exact World.ownsRow.frozenAt h _⟩
  rw [Nat.zero_add, World.ownsRow.cellAt h _ hj]
  have e1 : L.toArray[j / 2]! = L[j / 2] := by simp [hk]
  rw [e1]
  rcases Nat.mod_two_eq_zero_or_one j with hm | hm
  · rw [show 2 * (j / 2) = j by omega] at p1
    rw [p1, hm]; rfl
  · rw [show 2 * (j / 2) + 1 = j by omega] at p2
    rw [p2, hm]; rfl

theorem below_sorted {w : World} {base g n : Nat} {d : Array (Nat × Nat)} {os : Array Obj} (hb : base ≤ g) (hg : g < w.heap.size) : Below base w (sortWorldK encN 2 w g 0 n d os) := by
  refine ⟨rfl, rfl, rfl, size_sortWorldK_c encN 2 w g 0 n d os, fun k hk => ?_⟩
  unfold sortWorldK Sort.grow Sort.putRowK Sort.putRow Sort.mapBlock Sort.ahead
  simp only
  rw [Array.getElem?_append_left (by simp; omega), Array.getElem?_modify, if_neg (by omega)]

/-- What the sort leaves. -/
def Sorted (L M : List (Nat × Nat)) : Prop := M.Perm L ∧ ∀ i j (hi : i < M.length) (hj : j < M.length), i < j → M[i].1 ≤ M[j].1
theorem sort_any {v : Value} {base : Nat} (L : List (Nat × Nat)) (w : World) (hlen : L.length ≤ 4294967300) (hrow : (v = .slice none 0 0 ∧ L = []) ∨ Row w base v L) :
    Calls Tryz.prog 82 #[v, .func (.func 83) #[] #[]] w fun e w' => e = .returned (.tuple #[]) ∧ ∃ M, Sorted L M ∧ IsZ w' v M ∧ Below base w w' := by
  rcases hrow with ⟨rfl, rfl⟩ | ⟨hown, g, cap, rfl⟩
  · have h := AnyF.slices_SortFunc_none sortR none 0 (.func (.func 83) #[] #[]) w
    refine (show Calls Tryz.prog 82 _ _ _ from h).mono ?_
    rintro e w' ⟨rfl, rfl⟩
    exact ⟨rfl, [], ⟨List.Perm.refl _, fun i j hi => by simp at hi⟩, ⟨none, 0, rfl, Nat.le_refl _, by simp, Zs.nil _ _⟩, Below.refl _ _⟩
  · have hg : base ≤ g ∧ g < w.heap.size := hown.lt g rfl
    have hcap : L.length ≤ cap ∧ cap ≤ maxLen := by
      rcases hown.2 with ⟨e, _⟩ | ⟨g', cap', cur, e, _, _, hnc, hm, _⟩
      · cases e
      · cases e; exact ⟨hnc, hm⟩
    have hH := holds_row hown
    have eg : ∀ args w, (callFunc 83 args).run Tryz.prog w = .ok (.enter 83 args) w := enters_of Tryz.func83 (by kernel_rfl) rfl
    have h := AnyQ.slices_SortFunc sortR 2 Tryz.isAgg43 Tryz.sizeOf43 encN (fun _ => rfl) (fun x v hv => by simp [encN] at hv; rcases hv with rfl | rfl <;> rfl) (fun x y => cmpN x.1 y.1) swoN 83 #[] g 0 cap L.toArray w eg
      (fun _ _ _ _ x y => closure31 x y _) hH hg.2 (by simp; omega)
    simp only [List.size_toArray] at h
    refine (show Calls Tryz.prog 82 _ _ _ from h).mono ?_
    rintro e w' ⟨rfl, d', n, os, hp, hsrt, rfl⟩
    obtain ⟨hsz, _, hperm⟩ := hp
    have hsz' : d'.size = L.length := by simpa using hsz
    have hH' := holdsK_sortWorldK_c encN 2 w g 0 L.toArray d' n os hH hg.2 hsz
    refine ⟨rfl, d'.toList, ⟨?_, fun i j hi hj hij => ?_⟩, ⟨_, cap, by simp [hsz'], by simpa [hsz'] using hcap.1, hcap.2, fun _ => ⟨g, 0, rfl, Nat.lt_of_lt_of_le hg.2 (size_sortWorldK_c encN 2 w g 0 n d' os), fun k hk => ?_⟩⟩, below_sorted hg.1 hg.2⟩
    · have e1 : d'.extract 0 L.length = d' := by rw [← hsz']; simp
      have e2 : L.toArray.extract 0 L.length = L.toArray := by simp
      rw [e1, e2] at hperm
      simpa using hperm
    · have := hsrt i j (by omega) hij (by simpa [hsz'] using hj)
      rw [cmpN_lt] at this
      have hi' : i < d'.size := by simpa using hi
      have hj' : j < d'.size := by simpa using hj
      simp [hi', hj'] at this
      simpa using this
    · have hk' : k < d'.size := by simpa using hk
      obtain ⟨q1, _⟩ := hH'.cell (i := k) (c := 0) hk' (by omega)
      obtain ⟨q2, _⟩ := hH'.cell (i := k) (c := 1) hk' (by omega)
      simp [hk', encN] at q1 q2
      exact ⟨by simpa using q1, by simpa using q2⟩
end Go.Proofs.YteboadppighplaaGreat.Zo
/- Contracts: zone.Of; the live question. -/
namespace Go.Proofs.YteboadppighplaaGreat.Zo
open Go.Proofs.YteboadppighplaaGreat.Tr
open Go.RowKit Go.Shelf

theorem has_perm {L M : List (Nat × Nat)} (h : M.Perm L) (a : Nat) : has M a = has L a := by
  rw [Bool.eq_iff_iff, has_iff, has_iff]
  constructor
  · rintro ⟨r, hr, h1⟩; exact ⟨r, h.mem_iff.1 hr, h1⟩
  · rintro ⟨r, hr, h1⟩; exact ⟨r, h.mem_iff.2 hr, h1⟩
theorem asc_of : ∀ (M : List (Nat × Nat)) (lo : Nat), (∀ r ∈ M, lo ≤ r.1 ∧ r.1 ≤ r.2) → (∀ i j (hi : i < M.length) (hj : j < M.length), i < j → M[i].1 ≤ M[j].1) → Asc lo M
  | [], _, _, _ => trivial
  | r :: M, lo, h1, h2 => by
    refine ⟨(h1 r (by simp)).1, (h1 r (by simp)).2, asc_of M r.1 (fun q hq => ⟨?_, (h1 q (by simp [hq])).2⟩) (fun i j hi hj hij => h2 (i + 1) (j + 1) (by simp; omega) (by simp; omega) (by omega))⟩
    obtain ⟨j, hj, rfl⟩ := List.getElem_of_mem hq
    exact h2 0 (j + 1) (by simp) (by simp; omega) (by omega)
theorem sorted_asc {L M : List (Nat × Nat)} (h : Sorted L M) (hok : okB L = true) : Asc 0 M :=
  asc_of M 0 (fun r hr => ⟨by omega, by
    have := List.all_eq_true.1 hok r (h.1.mem_iff.1 hr)
    simpa using this⟩) h.2
theorem back_steps (L : List (Nat × Nat)) (B : Nat) : Steps 54 #[] L (fun k => decide ((L[k]?.getD (0, 0)).2 < (L[k]?.getD (0, 0)).1)) (fun _ W => B ≤ W.heap.size) B := by
  intro k hk W hI
  have e1 : (L[k]?.getD (0, 0)) = L[k] := by simp [hk]
  exact (backward_any _ _ W).mono fun e w' h => ⟨by show e = .returned (.bool (decide ((L[k]?.getD (0, 0)).2 < (L[k]?.getD (0, 0)).1))); rw [e1]; exact h.1, Nat.le_trans hI h.2.size, h.2.mono hI⟩

theorem ok_iff {L : List (Nat × Nat)} {b : Bool} (h : b = true ↔ ∃ k, k < L.length ∧ decide ((L[k]?.getD (0, 0)).2 < (L[k]?.getD (0, 0)).1) = true) : b = !okB L := by
  have : b = true ↔ okB L = false := by
    rw [h]
    constructor
    · rintro ⟨k, hk, hp⟩
      rw [Bool.eq_false_iff]
      intro hok
      have := List.all_eq_true.1 hok L[k] (List.getElem_mem hk)
      simp [hk] at hp this
      omega
    · intro hok
      unfold okB at hok
      rw [List.all_eq_false] at hok
      obtain ⟨r, hr, hp⟩ := hok
      obtain ⟨k, hk, rfl⟩ := List.getElem_of_mem hr
      exact ⟨k, hk, by simp [hk] at hp ⊢; omega⟩
  cases b <;> cases hq : okB L <;> simp_all
theorem docOf_zn (L : List (Nat × Nat)) : Zn (docOf L) ∧ ∀ a, a < 4294967296 → has (docOf L) a = has L a := by
  obtain ⟨h1, h2, h3⟩ := doc_of (l := L)
  exact ⟨⟨h1, h2⟩, h3⟩

set_option maxRecDepth 100000 in
set_option maxHeartbeats 1000000 in
/-- zone.Of. -/
theorem of_any {v : Value} (L : List (Nat × Nat)) (w : World) (hu : U32 L) (hlen : L.length ≤ 1000000) (hz : IsZ w v L) : Calls Tryz.prog 62 #[v] w (OfOut L (docOf L) w) := by
  have hc := containsFunc_any 54 #[] (enters_of Tryz.func54 (by kernel_rfl) rfl) L _ _ w.heap.size w (back_steps L w.heap.size) (Nat.le_refl _) (fun W hW => hz.belows hW)
  have hcl := fun (W : World) (hW : Below w.heap.size w W) => clone_any L W (by omega) (hz.belows hW)
  have HCL := Lib.hid hcl
  obtain ⟨A1, c1, rfl, n1, m1, z1⟩ := hz
  clear z1 hcl
  go_enter Tryz.func62, Tryz.ntmps62
  go_wp2_with fail
  refine hc.mono ?_
  rintro e w1 ⟨b, rfl, hb, b1⟩
  have hbok := ok_iff hb
  subst hbok
  clear hb hc
  cases hok : okB L with
  | false =>
    have HOK := Lib.hid hok
    clear hok
    go_wp2
    go_ret2
    exact OfOut.no HOK.out b1
  | true =>
    have HOK := Lib.hid hok
    clear hok
    go_wp2_with fail
    refine (HCL.out _ b1).mono ?_
    rintro e w2 ⟨v2, rfl, hr2, b2⟩
    have bb2 : Below w.heap.size w w2 := b1.trans (b2.mono b1.size)
    go_wp2_with fail
    refine (sort_any L w2 (by omega) hr2).mono ?_
    rintro e w3 ⟨rfl, M, hM, hz3, b3⟩
    have bb3 : Below w.heap.size w w3 := b1.trans ((b2.trans b3).mono b1.size)
    obtain ⟨xs, hxs⟩ := vals_of (L := M) (fun r hr => hu r (hM.1.mem_iff.1 hr))
    have hlx : xs.length ≤ 4294967297 := by rw [← vals_len, hxs, hM.1.length_eq]; omega
    have b4 : Below w3.heap.size w3 (w3.alloc (.cells #[v2] 31)) := (Below.refl _ w3).alloc (Nat.le_refl _) _
    have hg := gather_any 104 #[.pointer (some ⟨w3.heap.size, 0, none⟩)] (enters_of Tryz.func104 (by kernel_rfl) rfl) xs _ hlx (values_hands _ v2 xs _ (At.new w3 #[v2] 31) (by rw [hxs]; exact hz3.belows b4))
    rw [hxs] at hg
    have hT : gatherZ M = docOf L := by
      obtain ⟨g1, g2⟩ := zn_gather (sorted_asc hM HOK.out) (hxs ▸ vals_u32 xs)
      obtain ⟨d1, d2⟩ := docOf_zn L
      exact Zn.eq g1 d1 fun a ha => by rw [g2, d2 a ha, has_perm hM.1]
    have HT := Lib.hid hT
    obtain ⟨A3, k3, rfl, n3, m3, z3⟩ := hz3
    clear z3 hr2 hT
    go_wp2_with (first | (go_at_call 86; refine (values_any _ _ _ _).mono ?_; rintro e w4 ⟨rfl, rfl⟩) | (go_at_call 85; refine hg.mono ?_; rintro e w5 ⟨v5, rfl, hz5, b5⟩))
    go_ret2
    exact OfOut.yes HOK.out (HT.out ▸ hz5) (bb3.trans ((b4.trans (b5.mono b4.size)).mono bb3.size))
end Go.Proofs.YteboadppighplaaGreat.Zo
/- Contracts of package flow: zoneOf, over any closure. -/
namespace Go.Proofs.YteboadppighplaaGreat
open Go.RowKit Go.Shelf

/-- What is asked of what is wanted. -/
def AskP (g : Nat) (lb : Array Value) (L : List Prt) (p : Prt → Bool) (w : World) : Prop :=
  ∀ q ∈ L, ∀ W, Below w.heap.size w W → Calls Tryz.prog g (#[q.v] ++ lb) W fun e W' => e = .returned (.bool (p q)) ∧ Below W.heap.size W W'
/-- What is picked of the first parts. -/
def pkd (p : Prt → Bool) (L : List Prt) : List (Nat × Nat) := (L.filter p).map prR
theorem pkd_yes {p : Prt → Bool} {L : List Prt} {k : Nat} (hk : k < L.length) (h : p L[k] = true) : pkd p (L.take (k + 1)) = pkd p (L.take k) ++ [(L[k].f, L[k].t)] := by
  unfold pkd
  rw [List.take_succ_eq_append_getElem hk, List.filter_append, List.map_append, List.filter_cons_of_pos (by simpa using h)]
  rfl
theorem pkd_no {p : Prt → Bool} {L : List Prt} {k : Nat} (hk : k < L.length) (h : p L[k] = false) : pkd p (L.take (k + 1)) = pkd p (L.take k) := by
  unfold pkd
  rw [List.take_succ_eq_append_getElem hk, List.filter_append, List.filter_cons_of_neg (by simp [h])]
  simp
theorem pkd_len (p : Prt → Bool) (L : List Prt) : (pkd p L).length ≤ L.length := by
  unfold pkd
  rw [List.length_map]
  exact List.length_filter_le _ _
theorem pkd_in {p : Prt → Bool} {L : List Prt} {x : Nat × Nat} (h : x ∈ pkd p L) : ∃ q ∈ L, x = (q.f, q.t) := by
  obtain ⟨q, hq, e⟩ := List.mem_map.1 h
  exact ⟨q, (List.mem_filter.1 hq).1, e.symm⟩
/-- Parts that are right ranges. -/
def PrsRt (L : List Prt) : Prop := L.length ≤ 4000 ∧ ∀ q ∈ L, q.f ≤ q.t ∧ q.t < 4294967296
theorem pkd_u32 {p : Prt → Bool} {L : List Prt} (h : PrsRt L) : Tr.U32 (pkd p L) := fun x hx => by
  obtain ⟨q, hq, rfl⟩ := pkd_in hx
  have := h.2 q hq
  dsimp only; omega
theorem pkd_ok {p : Prt → Bool} {L : List Prt} (h : PrsRt L) : Zo.okB (pkd p L) = true := by
  unfold Zo.okB
  rw [List.all_eq_true]
  intro x hx
  obtain ⟨q, hq, rfl⟩ := pkd_in hx
  have := (h.2 q hq).1
  simpa using this
theorem zoneOf_ok {v : Value} {p : Prt → Bool} {L : List Prt} (hr : PrsRt L) (w : World) (hz : Tr.IsZ w v (pkd p L)) : Calls Tryz.prog 62 #[v] w fun e w' => ∃ v', e = .returned (.tuple #[v', .int .i64 0]) ∧ Tr.IsZ w' v' (Zo.docOf (pkd p L)) ∧ Below w.heap.size w w' := by
  have h := Zo.of_any (pkd p L) w (pkd_u32 hr) (by have := pkd_len p L; have := hr.1; omega) hz
  refine h.mono fun e w' h => ?_
  unfold Zo.OfOut at h
  rw [pkd_ok hr] at h
  exact h
set_option maxRecDepth 100000 in
set_option maxHeartbeats 2000000 in
theorem zoneOf_any {v : Value} (g : Nat) (lb : Array Value) (eg : ∀ args w, (callFunc g args).run Tryz.prog w = .ok (.enter g args) w) (L : List Prt) (p : Prt → Bool) (w : World) (hr : PrsRt L) (hp : AskP g lb L p w) (h : IsPs w v L) :
    Calls Tryz.prog 31 #[v, .func (.func g) #[] lb] w fun e w' => ∃ v', e = .returned v' ∧ Tr.IsZ w' v' (Zo.docOf (pkd p L)) ∧ Below w.heap.size w w' := by
  have HP := Lib.hid hp
  have HRT := Lib.hid hr
  have HV : Hid (∀ q ∈ L, ∃ A m c, q.v = .slice A m c) := Lib.hid fun q hq => by
    obtain ⟨A, c, e, _⟩ := (h.2 q hq).1
    exact ⟨A, _, c, e⟩
  have hll : L.length ≤ 4000 := hr.1
  obtain ⟨⟨A1, c1, rfl, n1, m1, z1⟩, _⟩ := h
  have HZ := Lib.hid z1
  have hL : L.length ≤ 9223372036854775807 := by omega
  clear z1 hp hr
  go_enter Tryz.func31, Tryz.ntmps31
  go_wp2
  go_loopw [5, 12] (fun sv i wr => ∃ k : Nat, i = .int .i64 k ∧ k ≤ L.length ∧ Hid (wr.ownsRow w.heap.size 43 2 sv (pkd p (L.take k)).length (Tr.zcells (pkd p (L.take k))) ∧ Below w.heap.size w wr)) (fun _ i _ => L.length - (intOf i).toNat)
  case atStart => exact ⟨0, rfl, by omega, Lib.hid ⟨World.ownsRow_nil _ _ _ _, Below.refl _ _⟩⟩
  case round =>
    obtain ⟨k, rfl, hk, HI⟩ := hrel
    have hb := HI.out.2
    by_cases hlt : k < L.length
    · obtain ⟨g1, o1, e1, hg1, hc⟩ := (HZ.out.belows hb).at k hlt
      subst e1
      have i0 : (0 : Int) ≤ (k : Int) := by omega
      have i1 : (k : Int) < (L.length : Int) := by omega
      have HY := Lib.hid (fun h => pkd_yes (p := p) hlt h)
      have HNN := Lib.hid (fun h => pkd_no (p := p) hlt h)
      have hcl := fun W hW => HP.out L[k] (List.getElem_mem hlt) W hW
      obtain ⟨A2, m2, c2, e2⟩ := HV.out L[k] (List.getElem_mem hlt)
      generalize L[k] = x at hc HY HNN hcl e2
      obtain ⟨f, t, xv, X⟩ := x
      dsimp only at e2
      subst e2
      dsimp only at HY HNN hcl
      have r0 : wr.cell? ⟨g1, o1 + k * 3, none⟩ = some (.int .u32 f) := hc 0 (by omega)
      have r1 : wr.cell? ⟨g1, o1 + k * 3 + 1, none⟩ = some (.int .u32 t) := hc 1 (by omega)
      have r2 : wr.cell? ⟨g1, o1 + k * 3 + 2, none⟩ = some (.slice A2 m2 c2) := hc 2 (by omega)
      obtain ⟨w2, hw2⟩ : ∃ w2, w2 = wr.alloc (.cells #[.int .u32 f, .int .u32 t, .slice A2 m2 c2] 107) := ⟨_, rfl⟩
      have P2 : At w2 wr.heap.size #[.int .u32 f, .int .u32 t, .slice A2 m2 c2] 107 := by rw [hw2]; exact At.new wr _ _
      have b2 : Below wr.heap.size wr w2 := by rw [hw2]; exact (Below.refl _ wr).alloc (Nat.le_refl _) _
      have hcall := hcl w2 (hb.trans (b2.mono hb.size))
      have HROW := Lib.hid HI.out.1
      have HB := Lib.hid hb
      have HP2 := Lib.hid P2
      have HB2 := Lib.hid b2
      have hlen : (pkd p (L.take k)).length ≤ 4000 := by
        have h1 := pkd_len p (L.take k)
        rw [List.length_take] at h1
        omega
      have hsz : w.heap.size ≤ wr.heap.size := hb.size
      clear hc hb b2 P2 hcl
      obtain ⟨q, hq⟩ : ∃ q, q = p ⟨f, t, .slice A2 m2 c2, X⟩ := ⟨_, rfl⟩
      rw [← hq] at hcall
      have HQ := Lib.hid hq
      clear hq
      rw [hw2] at hcall
      cases q with
      | false =>
        go_wp2_with (go_at_fn g; refine hcall.mono ?_; rw [← hw2]; rintro e w5 ⟨rfl, b5⟩)
        have HF : Hid (w5.ownsRow w.heap.size 43 2 u5 (pkd p (L.take (k + 1))).length (Tr.zcells (pkd p (L.take (k + 1)))) ∧ Below w.heap.size w w5) := Lib.hid (by
          rw [HNN.out HQ.out.symm]
          have b := HB2.out.trans (b5.mono HB2.out.size)
          exact ⟨row_belows HROW.out b, HB.out.trans (b.mono HB.out.size)⟩)
        clear b5
        go_roundw
        case rel => exact ⟨k + 1, by go_num, by omega, HF⟩
        case measure => simp [intOf]; omega
      | true =>
        go_upto_region 6 with (go_at_fn g; refine hcall.mono ?_; rw [← hw2]; rintro e w5 ⟨rfl, b5⟩)
        have P5 := HP2.out.belows b5
        have p0 : w5.cell? ⟨wr.heap.size, 0, none⟩ = some (.int .u32 f) := (P5.cell 0).trans rfl
        have p1 : w5.cell? ⟨wr.heap.size, 1, none⟩ = some (.int .u32 t) := (P5.cell 1).trans rfl
        have HB5 := Lib.hid (HB2.out.trans (b5.mono HB2.out.size))
        have HR5 := Lib.hid (row_belows HROW.out HB5.out)
        have hs5 : wr.heap.size ≤ w5.heap.size := HB5.out.size
        obtain ⟨i0', hi, hz0, hz1, hz2⟩ := info_parts Tr.info32
        clear b5 P5 hcall hw2
        go_wp2_with (at_builtin; go_must (refine wpList_append_own _ rfl _ _ 31 rfl w.heap.size 43 i0' (.agg #[.int .u32 0, .int .u32 0]) 2 8 Tryz.underlying31 hi hz0 hz1 hz2 rfl (by decide) _ _ _ rfl (HR5.out.alloc _) ⟨w5.heap.size, 0, none⟩ 1 1 [.int .u32 f, .int .u32 t] rfl rfl (World.news_of_block (cs := #[.int .u32 f, .int .u32 t]) (t := 43) (fr := (0, 0)) (heap_alloc_new _ _)) (by simp [Value.oneCell']) (by simp only [maxLen]; omega) (by omega) (by simp; omega) ?_; intro v' w8 hown' hgrow _))
        have HF : Hid (w8.ownsRow w.heap.size 43 2 v' (pkd p (L.take (k + 1))).length (Tr.zcells (pkd p (L.take (k + 1)))) ∧ Below w.heap.size w w8) := Lib.hid (by
          rw [HY.out HQ.out.symm, List.length_append, Tr.zcells_append]
          exact ⟨hown', ((HB.out.trans (HB5.out.mono HB.out.size)).alloc (Nat.le_trans hsz hs5) _).grown hgrow (by simp; omega) fun j hj => (HROW.out.lt j hj).1⟩)
        clear hown' hgrow
        go_roundw
        case rel => exact ⟨k + 1, by go_num, by omega, HF⟩
        case measure => simp [intOf]; omega
    · have hke : k = L.length := by omega
      have hki : ¬ (k : Int) < (L.length : Int) := by omega
      have hz : Tr.IsZ wr u5 (pkd p L) := by
        have := HI.out.1
        rw [hke, List.take_length] at this
        exact Tr.isZ_of_row (base := w.heap.size) this
      have kO := zoneOf_ok HRT.out wr hz
      obtain ⟨A5, c5, rfl, _⟩ := hz
      have HB := Lib.hid hb
      clear hb HI
      go_wp2_with (go_at_call 62; refine kO.mono ?_; rintro e w5 ⟨v5, rfl, z5, b5⟩)
      go_ret
      exact ⟨_, rfl, z5, HB.out.trans (b5.mono HB.out.size)⟩
end Go.Proofs.YteboadppighplaaGreat
/- Contracts of package flow: what is wanted of a part's traces; slices.Contains of ints. -/
namespace Go.Proofs.YteboadppighplaaGreat
open Go.RowKit Go.Shelf

set_option maxRecDepth 100000 in
set_option maxHeartbeats 1000000 in
theorem indexI_any {v : Value} (D : List Int) (x : Int) (w : World) (h : IsF 1 intA w v D) : Calls Tryz.prog 66 #[v, .int .i64 x] w fun e w' => ∃ r : Int, e = .returned (.int .i64 r) ∧ decide (0 ≤ r) = decide (x ∈ D) ∧ w' = w := by
  obtain ⟨A1, c1, rfl, n1, m1, z1⟩ := h
  have hL : D.length ≤ 9223372036854775807 := Nat.le_trans n1 m1
  have H1 := Lib.hid z1
  clear z1
  go_enter Tryz.func66, Tryz.ntmps66
  go_wp2
  go_loopw [8] (fun i wr => ∃ k : Nat, i = .int .i64 k ∧ k ≤ D.length ∧ Hid (∀ j (h1 : j < D.length), j < k → D[j] ≠ x) ∧ wr = w) (fun i _ => D.length - (intOf i).toNat)
  case atStart => exact ⟨0, rfl, by omega, Lib.hid (fun j _ hj => by omega), rfl⟩
  case round =>
    obtain ⟨k, rfl, hk, HK, rfl⟩ := hrel
    by_cases hlt : k < D.length
    · obtain ⟨g1, o1, e1, _, r⟩ := H1.out.at k hlt
      subst e1
      have r0 : wr.cell? ⟨g1, o1 + k, none⟩ = some (.int .i64 D[k]) := by have := r 0 (by decide); simpa [intA] using this
      have HX : Hid (D[k] ≠ x → ∀ j (h1 : j < D.length), j < k + 1 → D[j] ≠ x) := Lib.hid fun e j h1 hj => by
        by_cases hjk : j = k
        · subst hjk; exact e
        · exact HK.out j h1 (by omega)
      have HY : Hid (D[k] = x → x ∈ D) := Lib.hid fun e => e ▸ List.getElem_mem hlt
      clear r
      generalize D[k] = y at r0 HX HY
      have i0 : (0 : Int) ≤ (k : Int) := by omega
      have i1 : (k : Int) < (D.length : Int) := by omega
      by_cases hxy : y = x
      · have HM := Lib.hid (HY.out hxy)
        clear HX HY
        subst hxy
        go_wp2
        go_ret
        exact ⟨k, rfl, by simp [HM.out], rfl⟩
      · have HZ := Lib.hid (HX.out hxy)
        have hxy' : ¬ x = y := fun e => hxy e.symm
        have hb1 : (x == y) = false := by simp [hxy']
        have hb2 : decide (x = y) = false := by simp [hxy']
        clear HX HY
        go_wp2
        go_roundw
        case rel => exact ⟨k + 1, by go_num, by omega, HZ, (by first | rfl | trivial)⟩
        case measure => simp [intOf]; omega
    · have hke : k = D.length := by omega
      have HNM : Hid (x ∉ D) := Lib.hid fun hm => by
        obtain ⟨j, hj, e⟩ := List.mem_iff_getElem.1 hm
        exact HK.out j hj (by omega) e
      have hki : ¬ (k : Int) < (D.length : Int) := by omega
      go_wp2
      go_ret
      exact ⟨-1, rfl, by simp [HNM.out], rfl⟩
set_option maxRecDepth 100000 in
theorem containsI_any {v : Value} (D : List Int) (x : Int) (w : World) (h : IsF 1 intA w v D) : Calls Tryz.prog 39 #[v, .int .i64 x] w fun e w' => e = .returned (.bool (decide (x ∈ D))) ∧ w' = w := by
  have k := indexI_any D x w h
  obtain ⟨q, hq⟩ : ∃ q, q = decide (x ∈ D) := ⟨_, rfl⟩
  rw [← hq] at k ⊢
  obtain ⟨A1, c1, rfl, _⟩ := h
  clear hq
  go_enter Tryz.func39, Tryz.ntmps39
  go_wp2_with (go_at_call 66; refine k.mono ?_; rintro e w5 ⟨r, rfl, hr, rfl⟩)
  go_ret
  exact ⟨rfl, rfl⟩
/-- The first trace, in memory. -/
theorem first_at {w : World} {v : Value} {X : List (Value × Tc)} (h : IsTs w v X) (x : Tc) (D : List Tc) (hx : X.map (·.2) = x :: D) : ∃ g o m c vd, v = .slice (some ⟨g, o, none⟩) m c ∧ 0 < m ∧ (∃ A c', vd = .slice A x.ds.length c') ∧ w.cell? ⟨g, o, none⟩ = some vd ∧ w.cell? ⟨g, o + 1, none⟩ = some (.int .i64 x.ft) ∧ w.cell? ⟨g, o + 2, none⟩ = some (.int .i64 x.out.d) ∧ w.cell? ⟨g, o + 3, none⟩ = some (.int .i64 x.out.p) ∧ IsF 1 intA w vd x.ds := by
  cases X with
  | nil => simp at hx
  | cons e X =>
    simp only [List.map_cons, List.cons.injEq] at hx
    obtain ⟨rfl, _⟩ := hx
    obtain ⟨⟨A, c, rfl, _, _, z⟩, hd⟩ := h
    obtain ⟨g, o, rfl, _, hc⟩ := z.at 0 (by simp)
    have hd0 := hd e (by simp)
    obtain ⟨A', c', e', _⟩ := id hd0
    refine ⟨g, o, _, c, e.1, rfl, by simp, ⟨A', c', e'⟩, ?_, ?_, ?_, ?_, hd0⟩
    · have := hc 0 (by omega); simpa [trA] using this
    · have := hc 1 (by omega); simpa [trA] using this
    · have := hc 2 (by omega); simpa [trA] using this
    · have := hc 3 (by omega); simpa [trA] using this
set_option maxRecDepth 100000 in
theorem vis1_any {v : Value} {X : List (Value × Tc)} (x : Tc) (D : List Tc) (B : Nat) (b : Int) (w : World) (hx : X.map (·.2) = x :: D) (hB : At w B #[.int .i64 b] 3) (h : IsTs w v X) : Calls Tryz.prog 38 #[v, .pointer (some ⟨B, 0, none⟩)] w fun e w' => e = .returned (.bool (decide (b ∈ x.ds))) ∧ Below w.heap.size w w' := by
  obtain ⟨g, o, m, c, vd, rfl, hm, ⟨A', c', rfl⟩, r0, r1, r2, r3, hd⟩ := first_at h x D hx
  have c0 : w.cell? ⟨B, 0, none⟩ = some (.int .i64 b) := (hB.cell 0).trans rfl
  have kC : Hid (∀ u : World, u.heap = w.heap → Calls Tryz.prog 39 #[.slice A' x.ds.length c', .int .i64 b] u fun e w' => e = .returned (.bool (decide (b ∈ x.ds))) ∧ w' = u) := Lib.hid fun u hu => containsI_any x.ds b u (by
    obtain ⟨A, c2, e, h1, h2, h3⟩ := hd
    exact ⟨A, c2, e, h1, h2, fun hn => by
      obtain ⟨g, o, e2, h4, h5⟩ := h3 hn
      exact ⟨g, o, e2, by rw [hu]; exact h4, fun k hk j hj => (World.cell?_of_block (w := w) (by rw [hu])).trans (h5 k hk j hj)⟩⟩)
  obtain ⟨q, hq⟩ : ∃ q, q = decide (b ∈ x.ds) := ⟨_, rfl⟩
  rw [← hq] at kC ⊢
  have i1 : (0 : Int) < (m : Int) := by omega
  clear hq hd hB h hx
  go_enter Tryz.func38, Tryz.ntmps38
  go_wp2_with fail
  go_quiet ((go_at_call 39; exact Calls.quiet_of_same (kC.out _ rfl)))
  go_wp2
  go_ret
  exact ⟨rfl, bdrewN (Below.refl _ _) nq⟩
set_option maxRecDepth 100000 in
theorem fat1_any {v : Value} {X : List (Value × Tc)} (x : Tc) (D : List Tc) (B : Nat) (k : Int) (w : World) (hx : X.map (·.2) = x :: D) (hB : At w B #[.int .i64 k] 3) (h : IsTs w v X) : Calls Tryz.prog 32 #[v, .pointer (some ⟨B, 0, none⟩)] w fun e w' => e = .returned (.bool (decide (x.ft = k))) ∧ Below w.heap.size w w' := by
  obtain ⟨g, o, m, c, vd, rfl, hm, ⟨A', c', rfl⟩, r0, r1, r2, r3, hd⟩ := first_at h x D hx
  have c0 : w.cell? ⟨B, 0, none⟩ = some (.int .i64 k) := (hB.cell 0).trans rfl
  have i1 : (0 : Int) < (m : Int) := by omega
  clear hd hB h hx
  go_enter Tryz.func32, Tryz.ntmps32
  go_wp2_with fail
  go_quiet (fail)
  go_wp2
  go_ret
  exact ⟨rfl, bdrewN (Below.refl _ _) nq⟩
set_option maxRecDepth 100000 in
theorem del1_any {v : Value} {X : List (Value × Tc)} (x : Tc) (D : List Tc) (B : Nat) (b : Int) (w : World) (hx : X.map (·.2) = x :: D) (hB : At w B #[.int .i64 b] 3) (h : IsTs w v X) : Calls Tryz.prog 41 #[v, .pointer (some ⟨B, 0, none⟩)] w fun e w' => e = .returned (.bool (decide (x.ft = 3) && decide (x.out.d = b))) ∧ Below w.heap.size w w' := by
  obtain ⟨g, o, m, c, vd, rfl, hm, ⟨A', c', rfl⟩, r0, r1, r2, r3, hd⟩ := first_at h x D hx
  have c0 : w.cell? ⟨B, 0, none⟩ = some (.int .i64 b) := (hB.cell 0).trans rfl
  have i1 : (0 : Int) < (m : Int) := by omega
  clear hd hB h hx
  by_cases h3 : x.ft = 3
  · have e3 : (x.ft == 3) = true := by simp [h3]
    rw [show (decide (x.ft = 3) && decide (x.out.d = b)) = decide (x.out.d = b) by simp [h3]]
    rw [h3] at r1
    clear e3 h3
    go_enter Tryz.func41, Tryz.ntmps41
    go_wp2_with fail
    go_quiet (fail)
    go_wp2
    go_ret
    exact ⟨rfl, bdrewN (Below.refl _ _) nq⟩
  · have e3 : (x.ft == 3) = false := by simp [h3]
    rw [show (decide (x.ft = 3) && decide (x.out.d = b)) = false by simp [h3]]
    go_enter Tryz.func41, Tryz.ntmps41
    go_wp2_with fail
    go_quiet (fail)
    go_wp2
    go_ret
    exact ⟨rfl, bdrewN (Below.refl _ _) nq⟩
end Go.Proofs.YteboadppighplaaGreat
/- Contracts of package flow: Differs$1; between. -/
namespace Go.Proofs.YteboadppighplaaGreat
open Go.RowKit Go.Shelf

/-- The first two traces, in memory. -/
theorem two_at {w : World} {v : Value} {X : List (Value × Tc)} (h : IsTs w v X) (x y : Tc) (hx : X.map (·.2) = [x, y]) : ∃ g o m c A A' ca ca', v = .slice (some ⟨g, o, none⟩) m c ∧ m = 2 ∧ g < w.heap.size ∧
    (w.cell? ⟨g, o, none⟩ = some (.slice A x.ds.length ca) ∧ w.cell? ⟨g, o + 1, none⟩ = some (.int .i64 x.ft) ∧ w.cell? ⟨g, o + 2, none⟩ = some (.int .i64 x.out.d) ∧ w.cell? ⟨g, o + 3, none⟩ = some (.int .i64 x.out.p)) ∧
    (w.cell? ⟨g, o + 4, none⟩ = some (.slice A' y.ds.length ca') ∧ w.cell? ⟨g, o + 4 + 1, none⟩ = some (.int .i64 y.ft) ∧ w.cell? ⟨g, o + 4 + 2, none⟩ = some (.int .i64 y.out.d) ∧ w.cell? ⟨g, o + 4 + 3, none⟩ = some (.int .i64 y.out.p)) ∧
    IsF 1 intA w (.slice A x.ds.length ca) x.ds ∧ IsF 1 intA w (.slice A' y.ds.length ca') y.ds := by
  match X, hx with
  | [e, e'], hx =>
    simp only [List.map_cons, List.map_nil, List.cons.injEq, and_true] at hx
    obtain ⟨rfl, rfl⟩ := hx
    obtain ⟨⟨A, c, rfl, _, _, z⟩, hd⟩ := h
    obtain ⟨g, o, rfl, hg, hc⟩ := z.at 0 (by simp)
    obtain ⟨g2, o2, eq2, _, hc2⟩ := z.at 1 (by simp)
    cases eq2
    have hd0 := hd e (by simp)
    have hd1 := hd e' (by simp)
    obtain ⟨A1, c1, e1, _⟩ := id hd0
    obtain ⟨A2, c2, e2, _⟩ := id hd1
    refine ⟨g, o, _, c, A1, A2, c1, c2, rfl, rfl, hg, ⟨?_, ?_, ?_, ?_⟩, ⟨?_, ?_, ?_, ?_⟩, e1 ▸ hd0, e2 ▸ hd1⟩
    · have := hc 0 (by omega); rw [← e1]; simpa [trA] using this
    · have := hc 1 (by omega); simpa [trA] using this
    · have := hc 2 (by omega); simpa [trA] using this
    · have := hc 3 (by omega); simpa [trA] using this
    · have := hc2 0 (by omega); rw [← e2]; simpa [trA] using this
    · have := hc2 1 (by omega); simpa [trA] using this
    · have := hc2 2 (by omega); simpa [trA] using this
    · have := hc2 3 (by omega); simpa [trA] using this
set_option maxRecDepth 100000 in
set_option maxHeartbeats 1000000 in
theorem dif1_any {v : Value} {X : List (Value × Tc)} (x y : Tc) (w : World) (hx : X.map (·.2) = [x, y]) (h : IsTs w v X) : Calls Tryz.prog 42 #[v] w fun e w' => e = .returned (.bool (!decide (x = y))) ∧ Below w.heap.size w w' := by
  obtain ⟨g, o, m, c, A, A', ca, ca', rfl, rfl, hg, ⟨r0, r1, r2, r3⟩, ⟨s0, s1, s2, s3⟩, hd, hd'⟩ := two_at h x y hx
  obtain ⟨q, hq⟩ : ∃ q, q = decide (x = y) := ⟨_, rfl⟩
  have kS : Hid (∀ u : World, u.heap = w.heap → Calls Tryz.prog 27 #[.agg #[.slice A x.ds.length ca, .int .i64 x.ft, .int .i64 x.out.d, .int .i64 x.out.p], .agg #[.slice A' y.ds.length ca', .int .i64 y.ft, .int .i64 y.out.d, .int .i64 y.out.p]] u fun e w' => e = .returned (.bool q) ∧ Below u.heap.size u w') := Lib.hid fun u hu => by
    rw [hq]
    have far : ∀ {D : List Int} {vv : Value}, IsF 1 intA w vv D → IsF 1 intA u vv D := fun hd => by
      obtain ⟨A, c2, e, h1, h2, h3⟩ := hd
      exact ⟨A, c2, e, h1, h2, fun hn => by
        obtain ⟨g, o, e2, h4, h5⟩ := h3 hn
        exact ⟨g, o, e2, by rw [hu]; exact h4, fun k hk j hj => (World.cell?_of_block (w := w) (by rw [hu])).trans (h5 k hk j hj)⟩⟩
    exact fsame_any x y u (far hd) (far hd')
  rw [← hq]
  obtain ⟨xd, xf, ⟨xo, xp⟩⟩ := x
  obtain ⟨yd, yf, ⟨yo, yp⟩⟩ := y
  dsimp only at r0 r1 r2 r3 s0 s1 s2 s3 kS
  have KS : Hid (∀ u, Below w.heap.size w u → (u.cell? ⟨g, o, none⟩ = some (.slice A xd.length ca) ∧ u.cell? ⟨g, o + 1, none⟩ = some (.int .i64 xf) ∧ u.cell? ⟨g, o + 2, none⟩ = some (.int .i64 xo) ∧ u.cell? ⟨g, o + 3, none⟩ = some (.int .i64 xp) ∧ u.cell? ⟨g, o + 4, none⟩ = some (.slice A' yd.length ca') ∧ u.cell? ⟨g, o + 4 + 1, none⟩ = some (.int .i64 yf) ∧ u.cell? ⟨g, o + 4 + 2, none⟩ = some (.int .i64 yo) ∧ u.cell? ⟨g, o + 4 + 3, none⟩ = some (.int .i64 yp))) := Lib.hid fun u hu =>
    ⟨(hu.cell (p := ⟨g, _, none⟩) hg).trans r0, (hu.cell (p := ⟨g, _, none⟩) hg).trans r1, (hu.cell (p := ⟨g, _, none⟩) hg).trans r2, (hu.cell (p := ⟨g, _, none⟩) hg).trans r3, (hu.cell (p := ⟨g, _, none⟩) hg).trans s0, (hu.cell (p := ⟨g, _, none⟩) hg).trans s1, (hu.cell (p := ⟨g, _, none⟩) hg).trans s2, (hu.cell (p := ⟨g, _, none⟩) hg).trans s3⟩
  clear hq hd hd' h hx
  cases q <;>
  · go_enter Tryz.func42, Tryz.ntmps42
    go_wp2_with fail
    go_region_held3 (fun u => u.cell? ⟨g, o, none⟩ = some (.slice A xd.length ca) ∧ u.cell? ⟨g, o + 1, none⟩ = some (.int .i64 xf) ∧ u.cell? ⟨g, o + 2, none⟩ = some (.int .i64 xo) ∧ u.cell? ⟨g, o + 3, none⟩ = some (.int .i64 xp) ∧ u.cell? ⟨g, o + 4, none⟩ = some (.slice A' yd.length ca') ∧ u.cell? ⟨g, o + 4 + 1, none⟩ = some (.int .i64 yf) ∧ u.cell? ⟨g, o + 4 + 2, none⟩ = some (.int .i64 yo) ∧ u.cell? ⟨g, o + 4 + 3, none⟩ = some (.int .i64 yp))
      (first | exact KS.out _ b5w | exact KS.out _ (bdrewN (Below.refl _ _) 1) | exact KS.out _ (Below.refl _ _))
      ((go_at_call 27; refine (kS.out w.drew rfl).mono ?_; rintro e w5 ⟨rfl, b5⟩; have b5w : Below w.heap.size w w5 := (by first | exact (bdrewN (Below.refl _ _) 1).trans b5 | exact b5)))
    all_goals
      go_wp2
      go_ret
      exact ⟨rfl, b5w⟩
end Go.Proofs.YteboadppighplaaGreat
/- Contracts of package flow: between, Visits, Delivers, Differs. -/
namespace Go.Proofs.YteboadppighplaaGreat
open Go.RowKit Go.Shelf

theorem bnds_short11 (L : List (Nat × Nat)) : (Tr.bnds L).length ≤ 1 + 2 * L.length := by
  have := Tr.rise_len (ks := (Tr.ends L).map (fun c : Nat => (c : Int))) (Tr.rising_pw (Tr.bnds_rise L)) (fun a ha => by
    obtain ⟨x, hx, rfl⟩ := List.mem_map.1 ha
    exact List.mem_map.2 ⟨x, ((Tr.bnds_mem L x).1 hx).1, rfl⟩)
  rwa [List.length_map, List.length_map, Tr.ends_len] at this
/-- A range's own boundaries do not cut it. -/
theorem cut_right {R : List (Nat × Nat)} {f t : Nat} (hft : f ≤ t) (ht : t < 4294967296) (hR : ∀ r ∈ R, r.1 ≤ r.2) (hl : R.length ≤ 499) : cutZ (addAll [(f, t)] R) f t = cutZ R f t := by
  have e := addAll_ok (M := [(f, t)]) hR (by simp; omega)
  have h1 := (seg_cut (M := addAll [(f, t)] R) (R := addAll [(f, t)] R) hft ht (ends_own (show (f, t) ∈ addAll [(f, t)] R from addAll_in (by simp)))).2.2
  have h2 := (seg_cut (M := addAll [(f, t)] R) (R := R) hft ht fun x => by rw [e]; exact ends_one (f, t) R x).2.2
  exact h1.symm.trans h2
/-- All addresses, cut by a table that may refuse some. -/
def cutA (ns : List Nt) : List (Nat × Nat) := cutZ (addAll [(0, 4294967295)] (rgN ns)) 0 4294967295
theorem rgN_u32 {ns : List Nt} (h : ∀ n ∈ ns, ∀ r ∈ n.L, r.wf) : ∀ r ∈ rgN ns, r.2 < 4294967296 := fun r hr => by
  obtain ⟨n, hn, hr⟩ := List.mem_flatMap.1 hr
  obtain ⟨x, hx, rfl⟩ := List.mem_map.1 hr
  exact (h n hn x hx).2.2.2.2.2.1
theorem cutA_few {ns : List Nt} (h : ∀ n ∈ ns, ∀ r ∈ n.L, r.wf) : (cutA ns).length ≤ 1001 := by
  unfold cutA
  rw [cutZ_len]
  have h1 := bnds_short11 (addAll [(0, 4294967295)] (rgN ns))
  have h2 := (addAll_rl (M := [(0, 4294967295)]) ⟨fun r hr => by simp at hr; subst hr; exact ⟨Nat.zero_le _, by decide⟩, by simp⟩ (rgN_u32 h)).2
  omega
theorem prsRt_of {ns : List Nt} {L : List Prt} (h : ∀ n ∈ ns, ∀ r ∈ n.L, r.wf) (hL : L.map prR = cutA ns) : PrsRt L := by
  refine ⟨?_, fun q hq => ?_⟩
  · have h1 := congrArg List.length hL
    rw [List.length_map] at h1
    have := cutA_few h
    omega
  · have hm : prR q ∈ cutA ns := by rw [← hL]; exact List.mem_map.2 ⟨q, hq, rfl⟩
    have h1 := cutZ_in hm
    unfold prR at h1
    dsimp only at h1
    omega
theorem pkd_cut {ns : List Nt} {L : List Prt} (hL : L.map prR = cutA ns) (pp : Nat → Bool) : pkd (fun q => pp q.f) L = (cutA ns).filter fun r => pp r.1 := by
  rw [← hL, List.filter_map]
  rfl
/-- What between answers. -/
def BtwOut (n : Nt) (a b : Int) (pp : Nat → Bool) (w : World) (e : Ending) (w' : World) : Prop :=
  ((inD n.ps a ∧ inD n.ps b) ∧ ∃ v, e = .returned (.tuple #[v, .int .i64 0]) ∧ Tr.IsZ w' v (Zo.docOf ((cutA [n]).filter fun r => pp r.1)) ∧ Below w.heap.size w w') ∨
  (¬ (inD n.ps a ∧ inD n.ps b) ∧ e = .returned (.tuple #[.slice none 0 0, .int .i64 91]) ∧ Below w.heap.size w w')
/-- What is asked of what is wanted of one network's traces. -/
def Ask1 (g : Nat) (lb : Array Value) (n : Nt) (a : Int) (pp : Nat → Bool) (w : World) : Prop :=
  ∀ W, Below w.heap.size w W → ∀ v X f, IsTs W v X → X.map (·.2) = [trN a f n] → Calls Tryz.prog g (#[v] ++ lb) W fun e W' => e = .returned (.bool (pp f)) ∧ Below W.heap.size W W'
theorem inAll_one (n : Nt) (a : Int) : inAll [n] a ↔ inD n.ps a := by simp [inAll]
theorem inAll_two (n m : Nt) (a : Int) : inAll [n, m] a ↔ inD n.ps a ∧ inD m.ps a := by simp [inAll]
set_option maxRecDepth 100000 in
set_option maxHeartbeats 2000000 in
theorem between_any {A1 A2 A3 : Option Addr} {c1 c2 c3 : Nat} (g : Nat) (lb : Array Value) (eg : ∀ args w, (callFunc g args).run Tryz.prog w = .ok (.enter g args) w) (ps : List Int) (ls : List Lk) (L : List Ru) (a b : Int) (pp : Nat → Bool) (w : World) (hW : NW ps ls L)
    (hp : Ask1 g lb ⟨.slice A1 ps.length c1, .slice A2 ls.length c2, .slice A3 L.length c3, ps, ls, L⟩ a pp w) (h : IsN w (.slice A1 ps.length c1) (.slice A2 ls.length c2) (.slice A3 L.length c3) ps ls L) :
    Calls Tryz.prog 37 #[.agg #[.slice A1 ps.length c1, .slice A2 ls.length c2, .slice A3 L.length c3], .int .i64 a, .int .i64 b, .func (.func g) #[] lb] w (BtwOut ⟨.slice A1 ps.length c1, .slice A2 ls.length c2, .slice A3 L.length c3, ps, ls, L⟩ a b pp w) := by
  obtain ⟨w1, hw1⟩ : ∃ w1, w1 = w.alloc (.cells #[.slice A1 ps.length c1, .slice A2 ls.length c2, .slice A3 L.length c3] 28) := ⟨_, rfl⟩
  have D1 : At w1 w.heap.size #[.slice A1 ps.length c1, .slice A2 ls.length c2, .slice A3 L.length c3] 28 := by rw [hw1]; exact At.new w _ _
  have b1 : Below w.heap.size w w1 := by rw [hw1]; exact (Below.refl _ w).alloc (Nat.le_refl _) _
  have hM : ps.length ≤ 9223372036854775807 := by
    obtain ⟨A, c, e, h1, h2, _⟩ := h.1.1
    exact Nat.le_trans h1 h2
  have HB1 := Lib.hid b1
  have HP := Lib.hid hp
  have HW := Lib.hid hW
  have HN := Lib.hid h
  have x0 : w1.cell? ⟨w.heap.size, 0, none⟩ = some (.slice A1 ps.length c1) := (D1.cell 0).trans rfl
  have x1 : w1.cell? ⟨w.heap.size, 1, none⟩ = some (.slice A2 ls.length c2) := (D1.cell 1).trans rfl
  have x2 : w1.cell? ⟨w.heap.size, 2, none⟩ = some (.slice A3 L.length c3) := (D1.cell 2).trans rfl
  clear hp hW h b1 D1
  unfold BtwOut
  by_cases hb : 0 ≤ b
  · by_cases hbl : b < (ps.length : Int)
    · have hib : inD ps b := ⟨hb, hbl⟩
      have HIB := Lib.hid hib
      clear hib
      obtain ⟨w2, hw2⟩ : ∃ w2, w2 = w1.alloc (.cells #[.slice A1 ps.length c1, .slice A2 ls.length c2, .slice A3 L.length c3] 28) := ⟨_, rfl⟩
      have N2 : At w2 w1.heap.size #[.slice A1 ps.length c1, .slice A2 ls.length c2, .slice A3 L.length c3] 28 := by rw [hw2]; exact At.new w1 _ _
      have b2 : Below w1.heap.size w1 w2 := by rw [hw2]; exact (Below.refl _ w1).alloc (Nat.le_refl _) _
      have HB2 := Lib.hid (HB1.out.trans (b2.mono HB1.out.size))
      have kT := traced_any [⟨.slice A1 ps.length c1, .slice A2 ls.length c2, .slice A3 L.length c3, ps, ls, L⟩] a w2 (by simp) (fun n hn => by simp at hn; subst hn; exact HW.out) (ns_one (n := ⟨_, _, _, ps, ls, L⟩) N2 (HN.out.belows HB2.out))
      rw [hw2] at kT
      by_cases hia : inD ps a
      · have kT' := kT.mono fun e w' h => (h.resolve_right fun h => h.1 ((inAll_one _ _).2 hia)).2
        have HIA := Lib.hid hia
        rw [← hw2] at kT'
        rw [hw2] at kT'
        clear kT hia N2 b2
        go_enter Tryz.func37, Tryz.ntmps37
        go_upto_region 1 with (fail)
        rw [← hw1]
        clear hw1
        go_upto_region 4 with (go_at_call 30; refine kT'.mono ?_; rw [← hw2]; rintro e w5 ⟨v5, L5, rfl, hps, hmap, hpr, b5⟩)
        have hv5 : ∃ A m c, v5 = .slice A m c := by
          obtain ⟨A, c, e, _⟩ := hps.1
          exact ⟨A, _, c, e⟩
        have HB5 := Lib.hid (HB2.out.trans (b5.mono HB2.out.size))
        have kZ := zoneOf_any g lb eg L5 (fun q => pp q.f) w5 (prsRt_of (fun n hn => by simp at hn; subst hn; exact HW.out.rules) hmap) (fun q hq W hW => HP.out W (HB5.out.trans (hW.mono HB5.out.size)) q.v q.X q.f ((hps.2 q hq).belows hW) (by have := hpr q hq; simpa using this)) hps
        rw [pkd_cut hmap pp] at kZ
        obtain ⟨A5, m5, c5, rfl⟩ := hv5
        clear hps hmap hpr b5 hw2
        go_wp2_with (go_at_call 31; refine kZ.mono ?_; rintro e w6 ⟨v6, rfl, z6, b6⟩)
        go_ret2
        exact .inl ⟨⟨HIA.out, HIB.out⟩, _, rfl, z6, HB5.out.trans (b6.mono HB5.out.size)⟩
      · have kT' := kT.mono fun e w' h => (h.resolve_left fun h => hia ((inAll_one _ _).1 h.1)).2
        have HIA := Lib.hid hia
        rw [← hw2] at kT'
        rw [hw2] at kT'
        clear kT hia N2 b2
        go_enter Tryz.func37, Tryz.ntmps37
        go_upto_region 1 with (fail)
        rw [← hw1]
        clear hw1
        go_wp2_with (go_at_call 30; refine kT'.mono ?_; rw [← hw2]; rintro e w5 ⟨rfl, b5⟩)
        go_ret2
        exact .inr ⟨fun h => HIA.out h.1, rfl, HB2.out.trans (b5.mono HB2.out.size)⟩
    · have hib : ¬ inD ps b := fun h => hbl h.2
      have HIB := Lib.hid hib
      clear hib
      go_enter Tryz.func37, Tryz.ntmps37
      go_upto_region 1 with (fail)
      rw [← hw1]
      clear hw1
      go_wp2
      go_ret2
      exact .inr ⟨by first | exact fun h => HIB.out h.2 | exact fun _ h => HIB.out h, rfl, HB1.out⟩
  · have hib : ¬ inD ps b := fun h => hb h.1
    have HIB := Lib.hid hib
    clear hib
    go_enter Tryz.func37, Tryz.ntmps37
    go_upto_region 1 with (fail)
    rw [← hw1]
    clear hw1
    go_wp2
    go_ret2
    exact .inr ⟨by first | exact fun h => HIB.out h.2 | exact fun _ h => HIB.out h, rfl, HB1.out⟩
set_option maxRecDepth 100000 in
set_option maxHeartbeats 2000000 in
theorem visits11_out {vp vl vr : Value} (ps : List Int) (ls : List Lk) (L : List Ru) (a b : Int) (w : World) (hW : NW ps ls L) (h : IsN w vp vl vr ps ls L) :
    Calls Tryz.prog 13 #[.agg #[vp, vl, vr], .int .i64 a, .int .i64 b] w (BtwOut ⟨vp, vl, vr, ps, ls, L⟩ a b (fun f => decide (b ∈ (trcA ps ls L f a).ds)) w) := by
  have HN := Lib.hid h
  obtain ⟨⟨⟨A1, c1, rfl, _⟩, ⟨A2, c2, rfl, _⟩⟩, ⟨A3, c3, rfl, _⟩⟩ := h
  obtain ⟨w1, hw1⟩ : ∃ w1, w1 = (w.alloc (.cells #[.slice A1 ps.length c1, .slice A2 ls.length c2, .slice A3 L.length c3] 28)).alloc (.cells #[.int .i64 b] 3) := ⟨_, rfl⟩
  have D1 : At w1 w.heap.size #[.slice A1 ps.length c1, .slice A2 ls.length c2, .slice A3 L.length c3] 28 := by rw [hw1]; exact (At.new w _ _).alloc _
  have E1 : At w1 (w.heap.size + 1) #[.int .i64 b] 3 := by rw [hw1]; exact At.new1 w _ _ _
  have b1 : Below w.heap.size w w1 := by rw [hw1]; exact ((Below.refl _ w).alloc (Nat.le_refl _) _).alloc (by simp) _
  have x0 : w1.cell? ⟨w.heap.size, 0, none⟩ = some (.slice A1 ps.length c1) := (D1.cell 0).trans rfl
  have x1 : w1.cell? ⟨w.heap.size, 1, none⟩ = some (.slice A2 ls.length c2) := (D1.cell 1).trans rfl
  have x2 : w1.cell? ⟨w.heap.size, 2, none⟩ = some (.slice A3 L.length c3) := (D1.cell 2).trans rfl
  have y0 : w1.cell? ⟨w.heap.size + 1, 0, none⟩ = some (.int .i64 b) := (E1.cell 0).trans rfl
  have HE1 := Lib.hid E1
  have kB := between_any 38 #[.pointer (some ⟨w.heap.size + 1, 0, none⟩)] (enters_of Tryz.func38 (by kernel_rfl) rfl) ps ls L a b (fun f => decide (b ∈ (trcA ps ls L f a).ds)) w1 hW (fun W hW' v X f hts hx => vis1_any (trcA ps ls L f a) [] (w.heap.size + 1) b W hx (HE1.out.belows hW') hts) (HN.out.belows b1)
  generalize (fun f => decide (b ∈ (trcA ps ls L f a).ds)) = pp at kB ⊢
  have HB1 := Lib.hid b1
  clear D1 E1 b1 hW
  unfold BtwOut at kB ⊢
  go_enter Tryz.func13, Tryz.ntmps13
  go_upto_region 1 with (fail)
  rw [← hw1]
  clear hw1
  by_cases hin : inD ps a ∧ inD ps b
  · have kB' := kB.mono fun e w' h => (h.resolve_right fun h => h.1 hin).2
    have HIN := Lib.hid hin
    clear kB hin
    go_wp2_with (go_at_call 37; refine kB'.mono ?_; rintro e w6 ⟨v6, rfl, z6, b6⟩)
    go_ret2
    exact .inl ⟨HIN.out, _, rfl, z6, HB1.out.trans (b6.mono HB1.out.size)⟩
  · have kB' := kB.mono fun e w' h => (h.resolve_left fun h => hin h.1).2
    have HIN := Lib.hid hin
    clear kB hin
    go_wp2_with (go_at_call 37; refine kB'.mono ?_; rintro e w6 ⟨rfl, b6⟩)
    go_ret2
    exact .inr ⟨by first | exact HIN.out | exact fun h h2 => HIN.out ⟨h, h2⟩, rfl, HB1.out.trans (b6.mono HB1.out.size)⟩
end Go.Proofs.YteboadppighplaaGreat
/- Contracts of package flow: Delivers, Differs. -/
namespace Go.Proofs.YteboadppighplaaGreat
open Go.RowKit Go.Shelf

set_option maxRecDepth 100000 in
set_option maxHeartbeats 2000000 in
theorem delivers11_out {vp vl vr : Value} (ps : List Int) (ls : List Lk) (L : List Ru) (a b : Int) (w : World) (hW : NW ps ls L) (h : IsN w vp vl vr ps ls L) :
    Calls Tryz.prog 15 #[.agg #[vp, vl, vr], .int .i64 a, .int .i64 b] w (BtwOut ⟨vp, vl, vr, ps, ls, L⟩ a b (fun f => decide ((trcA ps ls L f a).ft = 3) && decide ((trcA ps ls L f a).out.d = b)) w) := by
  have HN := Lib.hid h
  obtain ⟨⟨⟨A1, c1, rfl, _⟩, ⟨A2, c2, rfl, _⟩⟩, ⟨A3, c3, rfl, _⟩⟩ := h
  obtain ⟨w1, hw1⟩ : ∃ w1, w1 = (w.alloc (.cells #[.slice A1 ps.length c1, .slice A2 ls.length c2, .slice A3 L.length c3] 28)).alloc (.cells #[.int .i64 b] 3) := ⟨_, rfl⟩
  have D1 : At w1 w.heap.size #[.slice A1 ps.length c1, .slice A2 ls.length c2, .slice A3 L.length c3] 28 := by rw [hw1]; exact (At.new w _ _).alloc _
  have E1 : At w1 (w.heap.size + 1) #[.int .i64 b] 3 := by rw [hw1]; exact At.new1 w _ _ _
  have b1 : Below w.heap.size w w1 := by rw [hw1]; exact ((Below.refl _ w).alloc (Nat.le_refl _) _).alloc (by simp) _
  have x0 : w1.cell? ⟨w.heap.size, 0, none⟩ = some (.slice A1 ps.length c1) := (D1.cell 0).trans rfl
  have x1 : w1.cell? ⟨w.heap.size, 1, none⟩ = some (.slice A2 ls.length c2) := (D1.cell 1).trans rfl
  have x2 : w1.cell? ⟨w.heap.size, 2, none⟩ = some (.slice A3 L.length c3) := (D1.cell 2).trans rfl
  have y0 : w1.cell? ⟨w.heap.size + 1, 0, none⟩ = some (.int .i64 b) := (E1.cell 0).trans rfl
  have HE1 := Lib.hid E1
  have kB := between_any 41 #[.pointer (some ⟨w.heap.size + 1, 0, none⟩)] (enters_of Tryz.func41 (by kernel_rfl) rfl) ps ls L a b (fun f => decide ((trcA ps ls L f a).ft = 3) && decide ((trcA ps ls L f a).out.d = b)) w1 hW (fun W hW' v X f hts hx => del1_any (trcA ps ls L f a) [] (w.heap.size + 1) b W hx (HE1.out.belows hW') hts) (HN.out.belows b1)
  generalize (fun f => decide ((trcA ps ls L f a).ft = 3) && decide ((trcA ps ls L f a).out.d = b)) = pp at kB ⊢
  have HB1 := Lib.hid b1
  clear D1 E1 b1 hW
  unfold BtwOut at kB ⊢
  go_enter Tryz.func15, Tryz.ntmps15
  go_upto_region 1 with (fail)
  rw [← hw1]
  clear hw1
  by_cases hin : inD ps a ∧ inD ps b
  · have kB' := kB.mono fun e w' h => (h.resolve_right fun h => h.1 hin).2
    have HIN := Lib.hid hin
    clear kB hin
    go_wp2_with (go_at_call 37; refine kB'.mono ?_; rintro e w6 ⟨v6, rfl, z6, b6⟩)
    go_ret2
    exact .inl ⟨HIN.out, _, rfl, z6, HB1.out.trans (b6.mono HB1.out.size)⟩
  · have kB' := kB.mono fun e w' h => (h.resolve_left fun h => hin h.1).2
    have HIN := Lib.hid hin
    clear kB hin
    go_wp2_with (go_at_call 37; refine kB'.mono ?_; rintro e w6 ⟨rfl, b6⟩)
    go_ret2
    exact .inr ⟨by first | exact HIN.out | exact fun h h2 => HIN.out ⟨h, h2⟩, rfl, HB1.out.trans (b6.mono HB1.out.size)⟩
/-- What Differs answers. -/
def DifOut (n m : Nt) (d : Int) (pp : Nat → Bool) (w : World) (e : Ending) (w' : World) : Prop :=
  ((inD n.ps d ∧ inD m.ps d) ∧ ∃ v, e = .returned (.tuple #[v, .int .i64 0]) ∧ Tr.IsZ w' v (Zo.docOf ((cutA [n, m]).filter fun r => pp r.1)) ∧ Below w.heap.size w w') ∨
  (¬ (inD n.ps d ∧ inD m.ps d) ∧ e = .returned (.tuple #[.slice none 0 0, .int .i64 91]) ∧ Below w.heap.size w w')
theorem ns_two11 {w : World} {B : Nat} {n m : Nt} {T : TypeId} (hA : At w B #[n.vp, n.vl, n.vr, m.vp, m.vl, m.vr] T) (hn : IsN w n.vp n.vl n.vr n.ps n.ls n.L) (hm : IsN w m.vp m.vl m.vr m.ps m.ls m.L) : Ns w (.slice (some ⟨B, 0, none⟩) 2 2) [n, m] :=
  ⟨isF_of_at ntA_size (L := [n, m]) (c := 2) hA (by simp [fcs, ntA]) (by simp) (by decide), fun k hk => by
    rcases List.mem_cons.1 hk with e | hk
    · subst e; exact hn
    · simp at hk; subst hk; exact hm⟩
set_option maxRecDepth 100000 in
set_option maxHeartbeats 2000000 in
theorem differs11_out {vp vl vr up ul ur : Value} (ps : List Int) (ls : List Lk) (L : List Ru) (qs : List Int) (ms : List Lk) (M : List Ru) (d : Int) (w : World) (hW : NW ps ls L) (hW2 : NW qs ms M) (h : IsN w vp vl vr ps ls L) (h2 : IsN w up ul ur qs ms M) :
    Calls Tryz.prog 17 #[.agg #[vp, vl, vr], .agg #[up, ul, ur], .int .i64 d] w (DifOut ⟨vp, vl, vr, ps, ls, L⟩ ⟨up, ul, ur, qs, ms, M⟩ d (fun f => !decide (trcA ps ls L f d = trcA qs ms M f d)) w) := by
  have HN := Lib.hid h
  have HM := Lib.hid h2
  have HW := Lib.hid hW
  have HW2 := Lib.hid hW2
  obtain ⟨⟨⟨A1, c1, rfl, _⟩, ⟨A2, c2, rfl, _⟩⟩, ⟨A3, c3, rfl, _⟩⟩ := h
  obtain ⟨⟨⟨B1, e1, rfl, _⟩, ⟨B2, e2, rfl, _⟩⟩, ⟨B3, e3, rfl, _⟩⟩ := h2
  obtain ⟨w1, hw1⟩ : ∃ w1, w1 = (w.alloc (.cells #[.slice A1 ps.length c1, .slice A2 ls.length c2, .slice A3 L.length c3] 28)).alloc (.cells #[.slice B1 qs.length e1, .slice B2 ms.length e2, .slice B3 M.length e3] 28) := ⟨_, rfl⟩
  have D1 : At w1 w.heap.size #[.slice A1 ps.length c1, .slice A2 ls.length c2, .slice A3 L.length c3] 28 := by rw [hw1]; exact (At.new w _ _).alloc _
  have E1 : At w1 (w.heap.size + 1) #[.slice B1 qs.length e1, .slice B2 ms.length e2, .slice B3 M.length e3] 28 := by rw [hw1]; exact At.new1 w _ _ _
  have b1 : Below w.heap.size w w1 := by rw [hw1]; exact ((Below.refl _ w).alloc (Nat.le_refl _) _).alloc (by simp) _
  have x0 : w1.cell? ⟨w.heap.size, 0, none⟩ = some (.slice A1 ps.length c1) := (D1.cell 0).trans rfl
  have x1 : w1.cell? ⟨w.heap.size, 1, none⟩ = some (.slice A2 ls.length c2) := (D1.cell 1).trans rfl
  have x2 : w1.cell? ⟨w.heap.size, 2, none⟩ = some (.slice A3 L.length c3) := (D1.cell 2).trans rfl
  have y0 : w1.cell? ⟨w.heap.size + 1, 0, none⟩ = some (.slice B1 qs.length e1) := (E1.cell 0).trans rfl
  have y1 : w1.cell? ⟨w.heap.size + 1, 1, none⟩ = some (.slice B2 ms.length e2) := (E1.cell 1).trans rfl
  have y2 : w1.cell? ⟨w.heap.size + 1, 2, none⟩ = some (.slice B3 M.length e3) := (E1.cell 2).trans rfl
  have HB1 := Lib.hid b1
  obtain ⟨w2, hw2⟩ : ∃ w2, w2 = w1.alloc (.cells #[.slice A1 ps.length c1, .slice A2 ls.length c2, .slice A3 L.length c3, .slice B1 qs.length e1, .slice B2 ms.length e2, .slice B3 M.length e3] 28) := ⟨_, rfl⟩
  have N2 : At w2 w1.heap.size #[.slice A1 ps.length c1, .slice A2 ls.length c2, .slice A3 L.length c3, .slice B1 qs.length e1, .slice B2 ms.length e2, .slice B3 M.length e3] 28 := by rw [hw2]; exact At.new w1 _ _
  have b2 : Below w1.heap.size w1 w2 := by rw [hw2]; exact (Below.refl _ w1).alloc (Nat.le_refl _) _
  have HB2 := Lib.hid (HB1.out.trans (b2.mono HB1.out.size))
  obtain ⟨n1, hn1⟩ : ∃ n : Nt, n = ⟨.slice A1 ps.length c1, .slice A2 ls.length c2, .slice A3 L.length c3, ps, ls, L⟩ := ⟨_, rfl⟩
  obtain ⟨n2, hn2⟩ : ∃ n : Nt, n = ⟨.slice B1 qs.length e1, .slice B2 ms.length e2, .slice B3 M.length e3, qs, ms, M⟩ := ⟨_, rfl⟩
  have HW3 : Hid (∀ n ∈ [n1, n2], NW n.ps n.ls n.L) := Lib.hid fun n hn => by
    rcases List.mem_cons.1 hn with e | hn
    · subst e; subst hn1; exact HW.out
    · simp at hn; subst hn; subst hn2; exact HW2.out
  have kT := traced_any [n1, n2] d w2 (by simp) HW3.out (ns_two11 (B := w1.heap.size) (T := 28) (by subst hn1 hn2; exact N2) (by subst hn1; exact HN.out.belows HB2.out) (by subst hn2; exact HM.out.belows HB2.out))
  have HPP : Hid (∀ f, trN d f n1 = trcA ps ls L f d ∧ trN d f n2 = trcA qs ms M f d) := Lib.hid fun f => by subst hn1 hn2; exact ⟨rfl, rfl⟩
  have HPS : Hid (n1.ps = ps ∧ n2.ps = qs) := Lib.hid (by subst hn1 hn2; exact ⟨rfl, rfl⟩)
  rw [← hn1, ← hn2]
  obtain ⟨pp, hpp⟩ : ∃ pp : Nat → Bool, pp = (fun f => !decide (trcA ps ls L f d = trcA qs ms M f d)) := ⟨_, rfl⟩
  have HPPX : Hid (∀ f, pp f = !decide (trN d f n1 = trN d f n2)) := Lib.hid fun f => by rw [hpp, (HPP.out f).1, (HPP.out f).2]
  rw [← hpp]
  rw [hw2] at kT
  unfold DifOut
  clear D1 E1 b1 hW hW2 hn1 hn2 N2 b2 hpp
  by_cases hin : inD n1.ps d ∧ inD n2.ps d
  · have kT' := kT.mono fun e w' h => (h.resolve_right fun h => h.1 ((inAll_two _ _ _).2 hin)).2
    have HIN := Lib.hid hin
    rw [← hw2] at kT'
    rw [hw2] at kT'
    clear kT hin
    go_enter Tryz.func17, Tryz.ntmps17
    go_upto_region 1 with (fail)
    rw [← hw1]
    clear hw1
    go_upto_region 4 with (go_at_call 30; refine kT'.mono ?_; rw [← hw2]; rintro e w5 ⟨v5, L5, rfl, hps, hmap, hpr, b5⟩)
    have hv5 : ∃ A m c, v5 = .slice A m c := by
      obtain ⟨A, c, e, _⟩ := hps.1
      exact ⟨A, _, c, e⟩
    have HB5 := Lib.hid (HB2.out.trans (b5.mono HB2.out.size))
    have kZ := zoneOf_any 42 #[] (enters_of Tryz.func42 (by kernel_rfl) rfl) L5 (fun q => pp q.f) w5 (prsRt_of (fun n hn => (HW3.out n hn).rules) hmap) (fun q hq W hW => by
      have h1 := hpr q hq
      have k := dif1_any (trN d q.f n1) (trN d q.f n2) W (by simpa using h1) ((hps.2 q hq).belows hW)
      dsimp only
      rw [HPPX.out q.f]
      exact k) hps
    rw [pkd_cut hmap pp] at kZ
    obtain ⟨A5, m5, c5, rfl⟩ := hv5
    clear hps hmap hpr b5 hw2
    go_wp2_with (go_at_call 31; refine kZ.mono ?_; rintro e w6 ⟨v6, rfl, z6, b6⟩)
    go_ret2
    exact .inl ⟨HIN.out, _, rfl, z6, HB5.out.trans (b6.mono HB5.out.size)⟩
  · have kT' := kT.mono fun e w' h => (h.resolve_left fun h => hin ((inAll_two _ _ _).1 h.1)).2
    have HIN := Lib.hid hin
    rw [← hw2] at kT'
    rw [hw2] at kT'
    clear kT hin
    go_enter Tryz.func17, Tryz.ntmps17
    go_upto_region 1 with (fail)
    rw [← hw1]
    clear hw1
    go_wp2_with (go_at_call 30; refine kT'.mono ?_; rw [← hw2]; rintro e w5 ⟨rfl, b5⟩)
    go_ret2
    exact .inr ⟨by first | exact HIN.out | exact fun h h2 => HIN.out ⟨h, h2⟩, rfl, HB2.out.trans (b5.mono HB2.out.size)⟩
end Go.Proofs.YteboadppighplaaGreat
