/- TopoBoth, walked over the program's calls. -/
import Derived.Test.YtpdadcjmpjnnhaaW1
namespace Go.Proofs.Ytpdadcjmpjnnhaa
open Go.RowKit Go.Shelf

/-- How many ports the first devices have. -/
def sumK (ps : List Int) (k : Nat) : Nat := ((List.range k).flatMap (portsOf ps)).length
theorem sumK_zero (ps : List Int) : sumK ps 0 = 0 := rfl
theorem sumK_succ (ps : List Int) (k : Nat) (hk : k < ps.length) (h : 0 ≤ ps[k]) : (sumK ps (k + 1) : Int) = (sumK ps k : Int) + ps[k] := by
  unfold sumK
  rw [List.range_succ, List.flatMap_append, List.length_append]
  simp only [List.flatMap_cons, List.flatMap_nil, List.append_nil, portsOf, List.length_map, List.length_range, List.getElem?_eq_getElem hk, Option.getD_some]
  omega
theorem sumK_le (ps : List Int) (hp : ∀ x ∈ ps, 1 ≤ x ∧ x ≤ 4) (k : Nat) (hk : k ≤ ps.length) : sumK ps k ≤ 4 * k := by
  induction k with
  | zero => simp [sumK_zero]
  | succ k ih =>
    have h1 := ih (by omega)
    have h2 := hp ps[k] (List.getElem_mem (by omega))
    have h3 := sumK_succ ps k (by omega) (by omega)
    omega
theorem sumK_all {ps : List Int} {ls : List Lk} (h : RT ps ls) : sumK ps ps.length = (edgesT ps ls).length + 2 * ls.length := edges_count h
theorem take_mem (E : List Pt) (p : Pt) (k : Nat) (hk : k < E.length) : decide (p ∈ E.take (k + 1)) = (decide (p ∈ E.take k) || decide (E[k] = p)) := by
  rw [Bool.eq_iff_iff, List.take_succ_eq_append_getElem hk]
  simp only [List.mem_append, List.mem_singleton, Bool.or_eq_true, decide_eq_true_eq]
  exact ⟨fun h => h.elim .inl fun h => .inr h.symm, fun h => h.elim .inl fun h => .inr h.symm⟩
set_option maxRecDepth 100000 in
set_option maxHeartbeats 6000000 in
theorem both_walk (O : Own) {vp vl : Value} (ps : List Int) (ls : List Lk) (p : Pt) (w : World) (h : IsT w vp vl ps ls) (hw : TW ps ls) (hp : isPt p) : Calls Try.prog 5 #[.agg #[vp, vl], .agg (ptA p)] w fun e w' => e = .returned (.bool true) ∧ Below w.heap.size w w' := by
  have HT : Hid (∀ u, Below w.heap.size w u → IsT u vp vl ps ls) := Lib.hid fun u hu => h.belows hu
  obtain ⟨⟨A1, c1, rfl, n1, m1, z1⟩, ⟨A2, c2, rfl, n2, m2, z2⟩⟩ := h
  have hM : ps.length ≤ 9223372036854775807 := Nat.le_trans n1 m1
  have hL : ls.length ≤ 9223372036854775807 := Nat.le_trans n2 m2
  have Z1 : Hid (∀ u, Below w.heap.size w u → Fs 1 intA u A1 ps) := Lib.hid fun u hu => z1.belows hu
  have kL : ∀ u, Below w.heap.size w u → Calls Try.prog 7 #[.agg #[.slice A1 ps.length c1, .slice A2 ls.length c2]] u fun e w' => e = .returned (.bool (decide (ps.length ≤ 30) && decide (ls.length ≤ 30))) ∧ Below u.heap.size u w' := fun u hu => lfits_any ps ls u (HT.out u hu)
  have kR : ∀ u, Below w.heap.size w u → Calls Try.prog 10 #[.agg #[.slice A1 ps.length c1, .slice A2 ls.length c2]] u fun e w' => e = .returned (.bool (rightT ps ls)) ∧ Below u.heap.size u w' := fun u hu => O.right ps ls u hw (HT.out u hu)
  have kA := alive_any O
  generalize (decide (ps.length ≤ 30) && decide (ls.length ≤ 30)) = f1 at kL
  obtain ⟨V, hV⟩ : ∃ V, V = rightT ps ls := ⟨_, rfl⟩
  rw [← hV] at kR
  have HV := Lib.hid hV
  have O' := Lib.hid O
  have HW := Lib.hid hw
  have HPT := Lib.hid hp
  clear O hV z1 z2 n1 m1 n2 m2 hw hp
  obtain ⟨pd, pp⟩ := p
  have D0 := (At.new w #[.slice A1 ps.length c1, .slice A2 ls.length c2] 25).alloc (.cells #[.int .i64 pd, .int .i64 pp] 27)
  have D1 := At.new1 w (.cells #[.slice A1 ps.length c1, .slice A2 ls.length c2] 25) #[.int .i64 pd, .int .i64 pp] 27
  have b0 : Below w.heap.size w ((w.alloc (.cells #[.slice A1 ps.length c1, .slice A2 ls.length c2] 25)).alloc (.cells #[.int .i64 pd, .int .i64 pp] 27)) := ((Below.refl _ _).alloc (Nat.le_refl _) _).alloc (by simp) _
  simp only [ptA]
  go_enter Try.func5, Try.ntmps5
  obtain ⟨w0, hw0⟩ : ∃ w0, w0 = ((w.alloc (.cells #[.slice A1 ps.length c1, .slice A2 ls.length c2] 25)).alloc (.cells #[.int .i64 pd, .int .i64 pp] 27)) := ⟨_, rfl⟩
  rw [← hw0] at D0 D1 b0
  have x0 := (D0.cell 0).trans rfl; have x1 := (D0.cell 1).trans rfl
  go_upto_region 1 with (fail)
  rw [← hw0]
  clear hw0
  go_wp2_with fail
  refine (kL _ b0).mono ?_
  rintro e w1 ⟨rfl, b1⟩
  have bb1 := b0.trans (b1.mono b0.size)
  have E0 := D0.belows b1
  have E1 := D1.belows b1
  clear x0 x1 D0 D1 b1 b0 kL
  cases f1 with
  | false =>
    go_wp2_with fail
    refine (kA _).mono ?_
    rintro e w3 ⟨rfl, b3⟩
    go_wp2
    go_ret
    exact ⟨rfl, bb1.trans (b3.mono bb1.size)⟩
  | true =>
    have x0 := (E0.cell 0).trans rfl; have x1 := (E0.cell 1).trans rfl
    go_wp2_with fail
    refine (kR _ bb1).mono ?_
    rintro e w2 ⟨rfl, b2⟩
    have bb2 := bb1.trans (b2.mono bb1.size)
    have F0 := E0.belows b2
    have F1 := E1.belows b2
    clear x0 x1 E0 E1 b2 bb1 kR
    cases V with
    | false =>
      go_wp2_with fail
      refine (kA _).mono ?_
      rintro e w3 ⟨rfl, b3⟩
      go_wp2
      go_ret
      exact ⟨rfl, bb2.trans (b3.mono bb2.size)⟩
    | true =>
      have hR : RT ps ls := (rightT_iff _ _).1 HV.out.symm
      have kN : ∀ x : Pt, isPt x → ∀ u, Below w.heap.size w u → Calls Try.prog 13 #[.agg #[.slice A1 ps.length c1, .slice A2 ls.length c2], .agg (ptA x)] u fun e w' => e = .returned (nextV (nextT ls x)) ∧ Below u.heap.size u w' := fun x hx u hu => O'.out.next ps ls x u hR HW.out hx (HT.out u hu)
      have kH : ∀ x : Pt, isPt x → ∀ u, Below w.heap.size w u → Calls Try.prog 15 #[.agg #[.slice A1 ps.length c1, .slice A2 ls.length c2], .agg (ptA x)] u fun e w' => e = .returned (.bool (hasT ps x)) ∧ Below u.heap.size u w' := fun x hx u hu => O'.out.has ps ls x u hR HW.out hx (HT.out u hu)
      have kE : ∀ u, Below w.heap.size w u → Calls Try.prog 18 #[.agg #[.slice A1 ps.length c1, .slice A2 ls.length c2]] u (EdgOut (edgesT ps ls) u) := fun u hu => O'.out.edges ps ls u hR HW.out (HT.out u hu)
      have hN0 := kN ⟨pd, pp⟩ HPT.out _ bb2
      have KN := Lib.hid kN; have KH := Lib.hid kH; have KE := Lib.hid kE
      have HRR := Lib.hid hR
      clear kN kH kE hR HV HT O'
      have x0 := (F0.cell 0).trans rfl; have x1 := (F0.cell 1).trans rfl
      have y0 := (F1.cell 0).trans rfl; have y1 := (F1.cell 1).trans rfl
      cases ho : nextT ls ⟨pd, pp⟩ with
      | some q =>
        obtain ⟨e1, e2, e3, e4⟩ := nextT_both HRR.out.nodup ho
        have g1 := HRR.out.has _ e3
        have g2 := HRR.out.has _ e4
        rw [ho] at hN0
        have HE1 := Lib.hid e1
        have HQT := Lib.hid (HW.out.pt e4)
        have HG1 := Lib.hid g1
        have HG2 := Lib.hid g2
        obtain ⟨qd, qp⟩ := q
        have hq2 : ∀ u : World, (binOp .neq 27 (.agg #[.int .i64 qd, .int .i64 qp]) (.agg #[.int .i64 pd, .int .i64 pp])).run Try.prog u = .ok (.bool true) u := fun u => by
          have := neq_pt ⟨qd, qp⟩ ⟨pd, pp⟩ u
          rw [decide_eq_false e2] at this
          simpa [ptA] using this
        have hq1 : ∀ u : World, (binOp .eql 27 (.agg #[.int .i64 pd, .int .i64 pp]) (.agg #[.int .i64 pd, .int .i64 pp])).run Try.prog u = .ok (.bool true) u := fun u => by have := eql_pt ⟨pd, pp⟩ ⟨pd, pp⟩ u; simpa [ptA] using this
        have hN1 : Calls Try.prog 13 #[.agg #[.slice A1 ps.length c1, .slice A2 ls.length c2], .agg #[.int .i64 pd, .int .i64 pp]] w2 fun e w' => e = .returned (.tuple #[.agg #[.int .i64 qd, .int .i64 qp], .bool true]) ∧ Below w2.heap.size w2 w' := hN0
        clear hN0 ho e1 e2 e3 e4 g1 g2
        go_wp2_with fail
        refine hN1.mono ?_
        rintro e w3 ⟨rfl, b3⟩
        have bb3 := bb2.trans (b3.mono bb2.size)
        have G0 := (F0.belows b3).alloc (.cells #[.int .i64 qd, .int .i64 qp] 27)
        have G1 := (F1.belows b3).alloc (.cells #[.int .i64 qd, .int .i64 qp] 27)
        have G2 := At.new w3 #[.int .i64 qd, .int .i64 qp] 27
        have bb3a := bb3.alloc bb3.size (.cells #[.int .i64 qd, .int .i64 qp] 27)
        have hs3 : w.heap.size + 1 < w3.heap.size := (F1.belows b3).lt
        clear x0 x1 y0 y1 F0 F1 b3 bb2 bb3 hN1
        have x0 := (G0.cell 0).trans rfl; have x1 := (G0.cell 1).trans rfl
        have y0 := (G2.cell 0).trans rfl; have y1 := (G2.cell 1).trans rfl
        have hN2 := KN.out ⟨qd, qp⟩ HQT.out _ bb3a
        rw [HE1.out] at hN2
        have hN3 : Calls Try.prog 13 #[.agg #[.slice A1 ps.length c1, .slice A2 ls.length c2], .agg #[.int .i64 qd, .int .i64 qp]] (w3.alloc (.cells #[.int .i64 qd, .int .i64 qp] 27)) fun e w' => e = .returned (.tuple #[.agg #[.int .i64 pd, .int .i64 pp], .bool true]) ∧ Below (w3.alloc (.cells #[.int .i64 qd, .int .i64 qp] 27)).heap.size (w3.alloc (.cells #[.int .i64 qd, .int .i64 qp] 27)) w' := hN2
        clear hN2 HE1
        go_wp2_with fail
        refine hN3.mono ?_
        rintro e w4 ⟨rfl, b4⟩
        have bb4 := bb3a.trans (b4.mono bb3a.size)
        have hs4 : w3.heap.size < w4.heap.size := (G2.belows b4).lt
        have H0 := (G0.belows b4).alloc (.cells #[.int .i64 pd, .int .i64 pp] 27)
        have H1 := (G1.belows b4).alloc (.cells #[.int .i64 pd, .int .i64 pp] 27)
        have H2 := (G2.belows b4).alloc (.cells #[.int .i64 pd, .int .i64 pp] 27)
        have H3 := At.new w4 #[.int .i64 pd, .int .i64 pp] 27
        have bb4a := bb4.alloc bb4.size (.cells #[.int .i64 pd, .int .i64 pp] 27)
        clear x0 x1 y0 y1 G0 G1 G2 b4 bb3a bb4 hN3
        go_wp2_with fail
        refine (kA _).mono ?_
        rintro e w5 ⟨rfl, b5⟩
        have bb5 := bb4a.trans (b5.mono bb4a.size)
        have I0 := H0.belows b5; have I1 := H1.belows b5; have I2 := H2.belows b5; have I3 := H3.belows b5
        clear H0 H1 H2 H3 b5 bb4a
        have x0 := (I0.cell 0).trans rfl; have x1 := (I0.cell 1).trans rfl
        have y0 := (I1.cell 0).trans rfl; have y1 := (I1.cell 1).trans rfl
        have z0 := (I2.cell 0).trans rfl; have z1 := (I2.cell 1).trans rfl
        have t0 := (I3.cell 0).trans rfl; have t1 := (I3.cell 1).trans rfl
        have hH := KH.out ⟨pd, pp⟩ HPT.out _ bb5
        rw [HG1.out] at hH
        have hH1 : Calls Try.prog 15 #[.agg #[.slice A1 ps.length c1, .slice A2 ls.length c2], .agg #[.int .i64 pd, .int .i64 pp]] w5 fun e w' => e = .returned (.bool true) ∧ Below w5.heap.size w5 w' := hH
        clear hH
        go_wp2_with fail
        refine hH1.mono ?_
        rintro e w6 ⟨rfl, b6⟩
        have bb6 := bb5.trans (b6.mono bb5.size)
        have J0 := I0.belows b6; have J2 := I2.belows b6
        clear x0 x1 y0 y1 z0 z1 t0 t1 I0 I1 I2 I3 b6 bb5 hH1
        have x0 := (J0.cell 0).trans rfl; have x1 := (J0.cell 1).trans rfl
        have z0 := (J2.cell 0).trans rfl; have z1 := (J2.cell 1).trans rfl
        have hH := KH.out ⟨qd, qp⟩ HQT.out _ bb6
        rw [HG2.out] at hH
        have hH1 : Calls Try.prog 15 #[.agg #[.slice A1 ps.length c1, .slice A2 ls.length c2], .agg #[.int .i64 qd, .int .i64 qp]] w6 fun e w' => e = .returned (.bool true) ∧ Below w6.heap.size w6 w' := hH
        clear hH
        go_wp2_with fail
        refine hH1.mono ?_
        rintro e w7 ⟨rfl, b7⟩
        go_wp2
        go_ret
        exact ⟨rfl, bb6.trans (b7.mono bb6.size)⟩
      | none =>
        rw [ho] at hN0
        have HM : Hid (decide ((⟨pd, pp⟩ : Pt) ∈ edgesT ps ls) = hasT ps ⟨pd, pp⟩) := Lib.hid (by
          rw [Bool.eq_iff_iff, decide_eq_true_eq, mem_edges]
          exact ⟨fun e => e.1, fun e => ⟨e, ho⟩⟩)
        have hN1 : Calls Try.prog 13 #[.agg #[.slice A1 ps.length c1, .slice A2 ls.length c2], .agg #[.int .i64 pd, .int .i64 pp]] w2 fun e w' => e = .returned (.tuple #[.agg #[.int .i64 0, .int .i64 0], .bool false]) ∧ Below w2.heap.size w2 w' := hN0
        clear hN0 ho
        go_wp2_with fail
        refine hN1.mono ?_
        rintro e w3 ⟨rfl, b3⟩
        have bb3 := bb2.trans (b3.mono bb2.size)
        have G0 := (F0.belows b3).alloc (.cells #[.int .i64 0, .int .i64 0] 27)
        have G1 := (F1.belows b3).alloc (.cells #[.int .i64 0, .int .i64 0] 27)
        have bb3a := bb3.alloc bb3.size (.cells #[.int .i64 0, .int .i64 0] 27)
        have hs3 : w.heap.size + 1 < w3.heap.size := (F1.belows b3).lt
        clear x0 x1 y0 y1 F0 F1 b3 bb2 bb3 hN1
        have x0 := (G0.cell 0).trans rfl; have x1 := (G0.cell 1).trans rfl
        go_wp2_with fail
        refine (KE.out _ bb3a).mono ?_
        rintro e w4 ⟨v4, rfl, ⟨A4, c4, rfl, n4, m4, z4⟩, b4⟩
        have bb4 := bb3a.trans (b4.mono bb3a.size)
        have H0 := G0.belows b4
        have H1 := G1.belows b4
        have Z4 : Hid (∀ u, Below w4.heap.size w4 u → Fs 2 ptA u A4 (edgesT ps ls)) := Lib.hid fun u hu => z4.belows hu
        have hcnt := sumK_all HRR.out
        have HP := Lib.hid HRR.out.ports
        have h8 := HRR.out.n8
        have h16 := HRR.out.l16
        have hsl := sumK_le ps HP.out ps.length (Nat.le_refl _)
        generalize edgesT ps ls = E at hcnt HM n4 Z4 ⊢
        have hE32 : E.length ≤ 32 := by omega
        have HC := Lib.hid hcnt
        clear x0 x1 G0 G1 b4 bb3a KE KN n4 m4 z4 hsl hcnt HRR
        go_wp2
        go_loopw [11, 12] (fun inn i wr => ∃ k : Nat, inn = .bool (decide ((⟨pd, pp⟩ : Pt) ∈ E.take k)) ∧ i = .int .i64 k ∧ k ≤ E.length ∧ ∃ n, wr = w4.drewN n) (fun _ i => fun _ => E.length - (intOf i).toNat)
        case atStart => exact ⟨0, by simp, rfl, by omega, 0, rfl⟩
        case round =>
          obtain ⟨k, rfl, rfl, hk, nd, rfl⟩ := hrel
          by_cases hlt : k < E.length
          · obtain ⟨g, o, f1, hg, r⟩ := (Z4.out w4 (Below.refl _ _)).at k hlt
            subst f1
            have r0 := r 0 (by decide); have r1 := r 1 (by decide)
            have HTK := Lib.hid (take_mem E ⟨pd, pp⟩ k hlt)
            clear r
            have hq := eql_pt E[k] ⟨pd, pp⟩
            generalize E[k] = x at r0 r1 HTK hq
            generalize decide (x = (⟨pd, pp⟩ : Pt)) = q at hq HTK
            obtain ⟨xd, xp⟩ := x
            simp only [ptA, Nat.add_zero] at r0 r1 hq
            generalize decide ((⟨pd, pp⟩ : Pt) ∈ E.take k) = bb at HTK ⊢
            have i0 : (0 : Int) ≤ (k : Int) := by omega
            have i1 : (k : Int) < (E.length : Int) := by omega
            have y0 := (H1.cell 0).trans rfl; have y1 := (H1.cell 1).trans rfl
            cases bb with
            | true =>
              go_wp2_with fail
              go_quiet (fail)
              go_wp2
              go_roundw
              case rel => exact ⟨k + 1, by rw [HTK.out]; rfl, by go_num, by omega, nd + nq, rfl⟩
              case measure => simp [intOf]; omega
            | false =>
              go_wp2_with fail
              go_quiet (fail)
              go_wp2
              go_roundw
              case rel => exact ⟨k + 1, by rw [HTK.out, Bool.false_or], by go_num, by omega, nd + nq, rfl⟩
              case measure => simp [intOf]; omega
          · have hki : ¬ (k : Int) < (E.length : Int) := by omega
            obtain rfl : k = E.length := by omega
            rw [List.take_length, HM.out]
            have bb5 := bdrewN bb4 nd
            have I0 := H0.drewN nd
            have I1 := H1.drewN nd
            generalize w4.drewN nd = w5 at bb5 I0 I1 ⊢
            clear H0 H1 bb4 Z4 HM
            have x0 := (I0.cell 0).trans rfl; have x1 := (I0.cell 1).trans rfl
            go_wp2
            go_loopw [13, 14] (fun s i wr => ∃ k : Nat, s = .int .i64 (sumK ps k) ∧ i = .int .i64 k ∧ k ≤ ps.length ∧ wr = w5) (fun _ i => fun _ => ps.length - (intOf i).toNat)
            case atStart => exact ⟨0, rfl, rfl, by omega, rfl⟩
            case round =>
              obtain ⟨k, rfl, rfl, hk, rfl⟩ := hrel
              by_cases hlt : k < ps.length
              · obtain ⟨g, o, f1, hg, r⟩ := (Z1.out wr bb5).at k hlt
                subst f1
                have r0 : wr.cell? ⟨g, o + k, none⟩ = some (.int .i64 ps[k]) := by have := r 0 (by decide); simpa [intA] using this
                have hx := HP.out ps[k] (List.getElem_mem hlt)
                have hs := sumK_succ ps k hlt (by omega)
                have hsl := sumK_le ps HP.out k (by omega)
                have HSS := Lib.hid hs
                clear r hs
                generalize ps[k] = x at r0 hx HSS
                generalize hsk : sumK ps k = s at hsl HSS ⊢
                have i0 : (0 : Int) ≤ (k : Int) := by omega
                have i1 : (k : Int) < (ps.length : Int) := by omega
                go_wp2
                go_roundw
                case rel => exact ⟨k + 1, by rw [HSS.out], by go_num, by omega, (by first | rfl | trivial)⟩
                case measure => simp [intOf]; omega
              · have hki : ¬ (k : Int) < (ps.length : Int) := by omega
                obtain rfl : k = ps.length := by omega
                rw [HC.out]
                obtain ⟨w6, rfl⟩ : ∃ w6, w6 = wr := ⟨_, rfl⟩
                clear Z1 HP
                go_wp2_with fail
                refine (kA _).mono ?_
                rintro e w7 ⟨rfl, b7⟩
                clear x0 x1
                have bb7 := bb5.trans (b7.mono bb5.size)
                have J0 := I0.belows b7
                have J1 := I1.belows b7
                clear I0 I1 b7 bb5
                have x0 := (J0.cell 0).trans rfl; have x1 := (J0.cell 1).trans rfl
                have y0 := (J1.cell 0).trans rfl; have y1 := (J1.cell 1).trans rfl
                have hH1 : Calls Try.prog 15 #[.agg #[.slice A1 ps.length c1, .slice A2 ls.length c2], .agg #[.int .i64 pd, .int .i64 pp]] w7 fun e w' => e = .returned (.bool (hasT ps ⟨pd, pp⟩)) ∧ Below w7.heap.size w7 w' := KH.out ⟨pd, pp⟩ HPT.out _ bb7
                generalize hasT ps ⟨pd, pp⟩ = q at hH1 ⊢
                have d1 : (q == q) = true := by simp
                go_wp2_with fail
                refine hH1.mono ?_
                rintro e w8 ⟨rfl, b8⟩
                have bb8 := bb7.trans (b8.mono bb7.size)
                have K0 := J0.belows b8
                clear x0 x1 y0 y1 J0 J1 b8 bb7 hH1
                have x0 := (K0.cell 0).trans rfl; have x1 := (K0.cell 1).trans rfl
                go_wp2
                go_ret
                exact ⟨by simp, bb8⟩
end Go.Proofs.Ytpdadcjmpjnnhaa
