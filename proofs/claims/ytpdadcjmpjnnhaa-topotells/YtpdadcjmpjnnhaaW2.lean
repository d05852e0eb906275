/- TopoTells, walked over the program's calls. -/
import Derived.Test.YtpdadcjmpjnnhaaW1
import Derived.Deep.RegionHeld3
namespace Go.Proofs.Ytpdadcjmpjnnhaa
open Go.RowKit Go.Shelf

/-- A pair of a port and a bool, as a call hands it back. -/
theorem nextV_mk (o : Option Pt) : ∃ (d p : Int) (b : Bool), nextV o = .tuple #[.agg #[.int .i64 d, .int .i64 p], .bool b] := ⟨_, _, _, rfl⟩
set_option maxRecDepth 100000 in
set_option maxHeartbeats 4000000 in
theorem tells_walk (O : Own) {vp vl up ul : Value} (ps qs : List Int) (ls ms : List Lk) (p : Pt) (w : World) (h : IsT w vp vl ps ls) (h' : IsT w up ul qs ms) (hw : TW ps ls) (hw' : TW qs ms) (hp : isPt p) : Calls Try.prog 3 #[.agg #[vp, vl], .agg #[up, ul], .agg (ptA p)] w fun e w' => e = .returned (.bool true) ∧ Below w.heap.size w w' := by
  have HT : Hid (∀ u, Below w.heap.size w u → IsT u vp vl ps ls) := Lib.hid fun u hu => h.belows hu
  have HU : Hid (∀ u, Below w.heap.size w u → IsT u up ul qs ms) := Lib.hid fun u hu => h'.belows hu
  obtain ⟨⟨A1, c1, rfl, _⟩, ⟨A2, c2, rfl, _⟩⟩ := h
  obtain ⟨⟨A3, c3, rfl, _⟩, ⟨A4, c4, rfl, _⟩⟩ := h'
  have kS : ∀ u, Below w.heap.size w u → Calls Try.prog 11 #[.agg #[.slice A1 ps.length c1, .slice A2 ls.length c2], .agg #[.slice A3 qs.length c3, .slice A4 ms.length c4]] u fun e w' => e = .returned (.bool (decide (ps = qs ∧ ls = ms))) ∧ Below u.heap.size u w' := fun u hu => O.same ps qs ls ms u hw hw' (HT.out u hu) (HU.out u hu)
  have kS' : ∀ u, Below w.heap.size w u → Calls Try.prog 12 #[.agg #[.slice A1 ps.length c1, .slice A2 ls.length c2], .agg #[.slice A3 qs.length c3, .slice A4 ms.length c4]] u fun e w' => e = .returned (.bool (decide (ps = qs ∧ ls = ms))) ∧ Below u.heap.size u w' := fun u hu => rsameT_any ps qs ls ms u (HT.out u hu) (HU.out u hu)
  have kL : ∀ u, Below w.heap.size w u → Calls Try.prog 7 #[.agg #[.slice A1 ps.length c1, .slice A2 ls.length c2]] u fun e w' => e = .returned (.bool (decide (ps.length ≤ 30) && decide (ls.length ≤ 30))) ∧ Below u.heap.size u w' := fun u hu => lfits_any ps ls u (HT.out u hu)
  have kM : ∀ u, Below w.heap.size w u → Calls Try.prog 7 #[.agg #[.slice A3 qs.length c3, .slice A4 ms.length c4]] u fun e w' => e = .returned (.bool (decide (qs.length ≤ 30) && decide (ms.length ≤ 30))) ∧ Below u.heap.size u w' := fun u hu => lfits_any qs ms u (HU.out u hu)
  have kR : ∀ u, Below w.heap.size w u → Calls Try.prog 10 #[.agg #[.slice A1 ps.length c1, .slice A2 ls.length c2]] u fun e w' => e = .returned (.bool (rightT ps ls)) ∧ Below u.heap.size u w' := fun u hu => O.right ps ls u hw (HT.out u hu)
  have kR' : ∀ u, Below w.heap.size w u → Calls Try.prog 9 #[.agg #[.slice A1 ps.length c1, .slice A2 ls.length c2]] u fun e w' => e = .returned (.bool (rightT ps ls)) ∧ Below u.heap.size u w' := fun u hu => rrightT_any ps ls u (HT.out u hu)
  have kA := alive_any O
  have HW := Lib.hid hw
  have HP := Lib.hid hp
  generalize decide (ps = qs ∧ ls = ms) = q1 at kS kS'
  generalize (decide (ps.length ≤ 30) && decide (ls.length ≤ 30)) = f1 at kL
  generalize (decide (qs.length ≤ 30) && decide (ms.length ≤ 30)) = f2 at kM
  obtain ⟨V, hV⟩ : ∃ V, V = rightT ps ls := ⟨_, rfl⟩
  rw [← hV] at kR kR'
  have HV := Lib.hid hV
  have O' := Lib.hid O
  clear O hV HU hw hw' hp
  obtain ⟨pd, pp⟩ := p
  have D0 := ((At.new w #[.slice A1 ps.length c1, .slice A2 ls.length c2] 25).alloc (.cells #[.slice A3 qs.length c3, .slice A4 ms.length c4] 25)).alloc (.cells #[.int .i64 pd, .int .i64 pp] 27)
  have D1 := (At.new1 w (.cells #[.slice A1 ps.length c1, .slice A2 ls.length c2] 25) #[.slice A3 qs.length c3, .slice A4 ms.length c4] 25).alloc (.cells #[.int .i64 pd, .int .i64 pp] 27)
  have D2 := At.new2 w (.cells #[.slice A1 ps.length c1, .slice A2 ls.length c2] 25) (.cells #[.slice A3 qs.length c3, .slice A4 ms.length c4] 25) #[.int .i64 pd, .int .i64 pp] 27
  have b0 : Below w.heap.size w (((w.alloc (.cells #[.slice A1 ps.length c1, .slice A2 ls.length c2] 25)).alloc (.cells #[.slice A3 qs.length c3, .slice A4 ms.length c4] 25)).alloc (.cells #[.int .i64 pd, .int .i64 pp] 27)) := (((Below.refl _ _).alloc (Nat.le_refl _) _).alloc (by simp) _).alloc (by simp; omega) _
  simp only [ptA]
  go_enter Try.func3, Try.ntmps3
  obtain ⟨w0, hw0⟩ : ∃ w0, w0 = (((w.alloc (.cells #[.slice A1 ps.length c1, .slice A2 ls.length c2] 25)).alloc (.cells #[.slice A3 qs.length c3, .slice A4 ms.length c4] 25)).alloc (.cells #[.int .i64 pd, .int .i64 pp] 27)) := ⟨_, rfl⟩
  rw [← hw0] at D0 D1 D2 b0
  have x0 := (D0.cell 0).trans rfl; have x1 := (D0.cell 1).trans rfl
  go_upto_region 1 with (fail)
  rw [← hw0]
  clear hw0
  go_wp2_with fail
  refine (kL _ b0).mono ?_
  rintro e w1 ⟨rfl, b1⟩
  have bb1 := b0.trans (b1.mono b0.size)
  have E1 := D1.belows b1
  have y0 := (E1.cell 0).trans rfl; have y1 := (E1.cell 1).trans rfl
  clear x0 x1
  go_wp2_with fail
  refine (kM _ bb1).mono ?_
  rintro e w2 ⟨rfl, b2⟩
  have bb2 := bb1.trans (b2.mono bb1.size)
  have F0 := (D0.belows b1).belows b2
  have F1 := E1.belows b2
  have F2 := (D2.belows b1).belows b2
  clear y0 y1 b1 b2 bb1 b0 D0 D1 D2 E1 kL kM
  by_cases hf : f1 = true ∧ f2 = true
  case neg =>
    have hn : (f1 = false) ∨ (f1 = true ∧ f2 = false) := by cases f1 <;> cases f2 <;> simp_all
    rcases hn with rfl | ⟨rfl, rfl⟩
    all_goals
      go_wp2_with fail
      refine (kA _).mono ?_
      rintro e w3 ⟨rfl, b3⟩
      go_wp2
      go_ret
      exact ⟨rfl, bb2.trans (b3.mono bb2.size)⟩
  obtain ⟨rfl, rfl⟩ := hf
  have x0 := (F0.cell 0).trans rfl; have x1 := (F0.cell 1).trans rfl
  go_wp2_with fail
  refine (kR' _ bb2).mono ?_
  rintro e w3 ⟨rfl, b3⟩
  have bb3 := bb2.trans (b3.mono bb2.size)
  have G0 := F0.belows b3
  have G1 := F1.belows b3
  have G2 := F2.belows b3
  clear x0 x1 F0 F1 F2 b3 bb2 kR'
  have s0 : ∀ x : Sub w3, x.u.cell? ⟨w.heap.size, 0, none⟩ = some (.slice A1 ps.length c1) := fun x => ((G0.belows x.h).cell 0).trans rfl
  have s1 : ∀ x : Sub w3, x.u.cell? ⟨w.heap.size, 1, none⟩ = some (.slice A2 ls.length c2) := fun x => ((G0.belows x.h).cell 1).trans rfl
  have s2 : ∀ x : Sub w3, x.u.cell? ⟨w.heap.size + 1, 0, none⟩ = some (.slice A3 qs.length c3) := fun x => ((G1.belows x.h).cell 0).trans rfl
  have s3 : ∀ x : Sub w3, x.u.cell? ⟨w.heap.size + 1, 1, none⟩ = some (.slice A4 ms.length c4) := fun x => ((G1.belows x.h).cell 1).trans rfl
  have k1 := fun x : Sub w3 => kR x.u (bb3.trans (x.h.mono bb3.size))
  have k2 := fun x : Sub w3 => kS x.u (bb3.trans (x.h.mono bb3.size))
  have k3 := fun x : Sub w3 => kS' x.u (bb3.trans (x.h.mono bb3.size))
  have n1 : (V != V) = false := by simp
  have n2 : (q1 != q1) = false := by simp
  clear kR kS kS'
  go_upto_region 6 with (fail)
  refine wp_region_cls (by kernel_rfl) (by kernel_rfl) ?_
  repeat (go_big_quiet_step ((first | (go_at_call 10; exact Calls.cls_of (k1 _)) | (go_at_call 11; exact Calls.cls_of (k2 _)) | (go_at_call 12; exact Calls.cls_of (k3 _)))))
  refine wpQuiet_nil ?_
  rintro w4 ⟨x4, hx⟩
  have b4 := x4.h
  rw [← hx] at b4
  clear hx x4 s0 s1 s2 s3 k1 k2 k3 n1 n2
  have bb4 := bb3.trans (b4.mono bb3.size)
  have H0 := G0.belows b4
  have H2 := G2.belows b4
  clear G0 G1 G2 b4 bb3
  cases V with
  | false =>
    go_wp2_with fail
    refine (kA _).mono ?_
    rintro e w5 ⟨rfl, b5⟩
    go_wp2
    go_ret
    exact ⟨rfl, bb4.trans (b5.mono bb4.size)⟩
  | true =>
    have hR : RT ps ls := (rightT_iff _ _).1 HV.out.symm
    have kN : ∀ u, Below w.heap.size w u → Calls Try.prog 13 #[.agg #[.slice A1 ps.length c1, .slice A2 ls.length c2], .agg #[.int .i64 pd, .int .i64 pp]] u fun e w' => e = .returned (nextV (nextT ls ⟨pd, pp⟩)) ∧ Below u.heap.size u w' := fun u hu => O'.out.next ps ls ⟨pd, pp⟩ u hR HW.out HP.out (HT.out u hu)
    have kN' : ∀ u, Below w.heap.size w u → Calls Try.prog 14 #[.agg #[.slice A1 ps.length c1, .slice A2 ls.length c2], .agg #[.int .i64 pd, .int .i64 pp]] u fun e w' => e = .returned (nextV (nextT ls ⟨pd, pp⟩)) ∧ Below u.heap.size u w' := fun u hu => rnext_any ps ls ⟨pd, pp⟩ u (HT.out u hu)
    have kH : ∀ u, Below w.heap.size w u → Calls Try.prog 15 #[.agg #[.slice A1 ps.length c1, .slice A2 ls.length c2], .agg #[.int .i64 pd, .int .i64 pp]] u fun e w' => e = .returned (.bool (hasT ps ⟨pd, pp⟩)) ∧ Below u.heap.size u w' := fun u hu => O'.out.has ps ls ⟨pd, pp⟩ u hR HW.out HP.out (HT.out u hu)
    have kH' : ∀ u, Below w.heap.size w u → Calls Try.prog 16 #[.agg #[.slice A1 ps.length c1, .slice A2 ls.length c2], .agg #[.int .i64 pd, .int .i64 pp]] u fun e w' => e = .returned (.bool (hasT ps ⟨pd, pp⟩)) ∧ Below u.heap.size u w' := fun u hu => rhas_any ps ls ⟨pd, pp⟩ u (HT.out u hu)
    have kE : ∀ u, Below w.heap.size w u → Calls Try.prog 18 #[.agg #[.slice A1 ps.length c1, .slice A2 ls.length c2]] u (EdgOut (edgesT ps ls) u) := fun u hu => O'.out.edges ps ls u hR HW.out (HT.out u hu)
    have kE' : ∀ u, Below w.heap.size w u → Calls Try.prog 19 #[.agg #[.slice A1 ps.length c1, .slice A2 ls.length c2]] u (EdgOut (edgesT ps ls) u) := fun u hu => redges_any ps ls u hR (HT.out u hu)
    obtain ⟨nd, np, nb, hn⟩ := nextV_mk (nextT ls ⟨pd, pp⟩)
    rw [hn] at kN kN'
    clear hn
    generalize hasT ps ⟨pd, pp⟩ = hb at kH kH'
    generalize edgesT ps ls = E at kE kE'
    clear hR HV HT O' HW HP
    have x0 := (H0.cell 0).trans rfl; have x1 := (H0.cell 1).trans rfl
    have p0 := (H2.cell 0).trans rfl; have p1 := (H2.cell 1).trans rfl
    go_wp2_with fail
    refine (kN _ bb4).mono ?_
    rintro e w5 ⟨rfl, b5⟩
    have bb5 := bb4.trans (b5.mono bb4.size)
    have hs5 : w.heap.size + 1 + 1 < w5.heap.size := (H2.belows b5).lt
    have I0 := (H0.belows b5).alloc (.cells #[.int .i64 nd, .int .i64 np] 27)
    have I2 := (H2.belows b5).alloc (.cells #[.int .i64 nd, .int .i64 np] 27)
    have I3 := At.new w5 #[.int .i64 nd, .int .i64 np] 27
    have bb5a := bb5.alloc bb5.size (.cells #[.int .i64 nd, .int .i64 np] 27)
    clear x0 x1 p0 p1 H0 H2 b5 bb4 kN
    have x0 := (I0.cell 0).trans rfl; have x1 := (I0.cell 1).trans rfl
    have p0 := (I2.cell 0).trans rfl; have p1 := (I2.cell 1).trans rfl
    go_wp2_with fail
    refine (kN' _ bb5a).mono ?_
    rintro e w6 ⟨rfl, b6⟩
    have bb6 := bb5a.trans (b6.mono bb5a.size)
    have hs6 : w5.heap.size < w6.heap.size := (I3.belows b6).lt
    have J0 := (I0.belows b6).alloc (.cells #[.int .i64 nd, .int .i64 np] 27)
    have J2 := (I2.belows b6).alloc (.cells #[.int .i64 nd, .int .i64 np] 27)
    have J3 := (I3.belows b6).alloc (.cells #[.int .i64 nd, .int .i64 np] 27)
    have J4 := At.new w6 #[.int .i64 nd, .int .i64 np] 27
    have bb6a := bb6.alloc bb6.size (.cells #[.int .i64 nd, .int .i64 np] 27)
    clear x0 x1 p0 p1 I0 I2 I3 b6 bb5 bb5a bb6 kN'
    go_upto_region 12 with (fail)
    generalize w6.alloc (.cells #[.int .i64 nd, .int .i64 np] 27) = w7 at J0 J2 J3 J4 bb6a ⊢
    have hq : ∀ u : World, (binOp .eql 27 (.agg #[.int .i64 nd, .int .i64 np]) (.agg #[.int .i64 nd, .int .i64 np])).run Try.prog u = .ok (.bool true) u := fun u => by have := eql_pt ⟨nd, np⟩ ⟨nd, np⟩ u; simpa [ptA] using this
    have m1 : (hb == hb) = true := by simp
    have m2 : (nb == nb) = true := by simp
    have KS : Hid (∀ u, Below w7.heap.size w7 u → (u.cell? ⟨w.heap.size, 0, none⟩ = some (.slice A1 ps.length c1) ∧ u.cell? ⟨w.heap.size, 1, none⟩ = some (.slice A2 ls.length c2) ∧ u.cell? ⟨w.heap.size + 1 + 1, 0, none⟩ = some (.int .i64 pd) ∧ u.cell? ⟨w.heap.size + 1 + 1, 1, none⟩ = some (.int .i64 pp) ∧ u.cell? ⟨w5.heap.size, 0, none⟩ = some (.int .i64 nd) ∧ u.cell? ⟨w5.heap.size, 1, none⟩ = some (.int .i64 np) ∧ u.cell? ⟨w6.heap.size, 0, none⟩ = some (.int .i64 nd) ∧ u.cell? ⟨w6.heap.size, 1, none⟩ = some (.int .i64 np))) := Lib.hid fun u hu =>
      ⟨((J0.belows hu).cell 0).trans rfl, ((J0.belows hu).cell 1).trans rfl, ((J2.belows hu).cell 0).trans rfl, ((J2.belows hu).cell 1).trans rfl, ((J3.belows hu).cell 0).trans rfl, ((J3.belows hu).cell 1).trans rfl, ((J4.belows hu).cell 0).trans rfl, ((J4.belows hu).cell 1).trans rfl⟩
    have hbd : Below w7.heap.size w7 w7.drew := (Below.refl _ _).drew
    have hbr : Below w7.heap.size w7 w7 := Below.refl _ _
    have BB := Lib.hid bb6a
    have KH := Lib.hid kH; have KH' := Lib.hid kH'; have KE := Lib.hid kE; have KE' := Lib.hid kE'
    clear J0 J2 J3 J4 bb6a kH kH' kE kE' hs5 hs6
    go_region_held3 (fun u => u.cell? ⟨w.heap.size, 0, none⟩ = some (.slice A1 ps.length c1) ∧ u.cell? ⟨w.heap.size, 1, none⟩ = some (.slice A2 ls.length c2) ∧ u.cell? ⟨w.heap.size + 1 + 1, 0, none⟩ = some (.int .i64 pd) ∧ u.cell? ⟨w.heap.size + 1 + 1, 1, none⟩ = some (.int .i64 pp) ∧ u.cell? ⟨w5.heap.size, 0, none⟩ = some (.int .i64 nd) ∧ u.cell? ⟨w5.heap.size, 1, none⟩ = some (.int .i64 np) ∧ u.cell? ⟨w6.heap.size, 0, none⟩ = some (.int .i64 nd) ∧ u.cell? ⟨w6.heap.size, 1, none⟩ = some (.int .i64 np))
      (first | exact KS.out _ cF | exact KS.out _ cE | exact KS.out _ cD | exact KS.out _ cC | exact KS.out _ cB | exact KS.out _ cA | exact KS.out _ hbd | exact KS.out _ hbr)
      (first
      | (go_at_call 8; refine (kA _).mono ?_; rintro e wA ⟨rfl, bA⟩; have cA := hbd.trans bA)
      | (go_at_call 15; refine (KH.out _ (BB.out.trans (cA.mono BB.out.size))).mono ?_; rintro e wB ⟨rfl, bB⟩; have cB := cA.trans (bB.mono cA.size))
      | (go_at_call 16; refine (KH'.out _ (BB.out.trans (cB.mono BB.out.size))).mono ?_; rintro e wC ⟨rfl, bC⟩; have cC := cB.trans (bC.mono cB.size))
      | (go_at_call 18; refine (KE.out _ (BB.out.trans (cC.mono BB.out.size))).mono ?_; rintro e wD ⟨v1, rfl, hv1, bD⟩; have cD := cC.trans (bD.mono cC.size))
      | (go_at_call 19; refine (KE'.out _ (BB.out.trans (cD.mono BB.out.size))).mono ?_; rintro e wE ⟨v2, rfl, hv2, bE⟩; have cE := cD.trans (bE.mono cD.size))
      | (go_at_call 17; refine (samePorts_any E E _ (hv1.belows bE) hv2).mono ?_; rintro e wF ⟨rfl, bF⟩; have cF := cE.trans (bF.mono cE.size)))
    all_goals
      go_wp2
      go_ret
      exact ⟨by simp, BB.out.trans (cF.mono BB.out.size)⟩
end Go.Proofs.Ytpdadcjmpjnnhaa
