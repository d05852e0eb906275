/- TopoOn, walked over the program's calls. -/
import Derived.Test.YtpdadcjmpjnnhaaW1
namespace Go.Proofs.Ytpdadcjmpjnnhaa
open Go.RowKit Go.Shelf

theorem reach_iff {ps : List Int} {ls : List Lk} (h : RT ps ls) (a b : Int) : reachT ps ls a b = true ↔ (0 ≤ a ∧ a < (ps.length : Int)) ∧ (0 ≤ b ∧ b < (ps.length : Int)) ∧ Rch ls a b := by
  simp only [reachT, Bool.and_eq_true, decide_eq_true_eq]
  constructor
  · rintro ⟨h1, h2, h3, h4, h5⟩
    exact ⟨⟨h1, h2⟩, ⟨h3, h4⟩, (rnds_reach h.inN ⟨h1, h2⟩).1 h5⟩
  · rintro ⟨⟨h1, h2⟩, ⟨h3, h4⟩, h5⟩
    exact ⟨h1, h2, h3, h4, (rnds_reach h.inN ⟨h1, h2⟩).2 h5⟩
theorem reach_back {ps : List Int} {ls : List Lk} (h : RT ps ls) (a b : Int) : reachT ps ls a b = reachT ps ls b a := by
  have hh : ∀ a b, reachT ps ls a b = true → reachT ps ls b a = true := fun a b e => by
    rw [reach_iff h] at e ⊢
    exact ⟨e.2.1, e.1, e.2.2.symm⟩
  cases h1 : reachT ps ls a b with
  | true => rw [hh _ _ h1]
  | false => cases h2 : reachT ps ls b a with
    | false => rfl
    | true => rw [hh _ _ h2] at h1; cases h1
theorem reach_on {ps : List Int} {ls : List Lk} (h : RT ps ls) {a b c : Int} (h1 : reachT ps ls a b = true) (h2 : reachT ps ls b c = true) : reachT ps ls a c = true := by
  rw [reach_iff h] at h1 h2 ⊢
  exact ⟨h1.1, h2.2.1, h1.2.2.trans h2.2.2⟩
theorem reach_self {ps : List Int} {ls : List Lk} (h : RT ps ls) (a : Int) : reachT ps ls a a = (decide (0 ≤ a) && decide (a < (ps.length : Int))) := by
  rw [Bool.eq_iff_iff, reach_iff h]
  simp only [Bool.and_eq_true, decide_eq_true_eq]
  exact ⟨fun e => e.1, fun e => ⟨e, e, .refl⟩⟩
theorem reach_link {ps : List Int} {ls : List Lk} (h : RT ps ls) {l : Lk} (hl : l ∈ ls) : reachT ps ls l.a.d l.b.d = true := by
  rw [reach_iff h]
  obtain ⟨h1, h2⟩ := h.inN l hl
  exact ⟨h1, h2, Rch.refl.step ⟨l, hl, .inl ⟨rfl, rfl⟩⟩⟩
set_option maxRecDepth 100000 in
set_option maxHeartbeats 6000000 in
theorem on_walk (O : Own) {vp vl : Value} (ps : List Int) (ls : List Lk) (a b c : Int) (w : World) (h : IsT w vp vl ps ls) (hw : TW ps ls) (ha : isI a) (hb : isI b) (hc : isI c) : Calls Try.prog 6 #[.agg #[vp, vl], .agg #[.int .i64 a, .int .i64 b, .int .i64 c]] w fun e w' => e = .returned (.bool true) ∧ Below w.heap.size w w' := by
  have HT : Hid (∀ u, Below w.heap.size w u → IsT u vp vl ps ls) := Lib.hid fun u hu => h.belows hu
  obtain ⟨⟨A1, c1, rfl, n1, m1, _⟩, ⟨A2, c2, rfl, n2, m2, z2⟩⟩ := h
  have hM : ps.length ≤ 9223372036854775807 := Nat.le_trans n1 m1
  have hL : ls.length ≤ 9223372036854775807 := Nat.le_trans n2 m2
  have Z2 : Hid (∀ u, Below w.heap.size w u → Fs 4 lkA u A2 ls) := Lib.hid fun u hu => z2.belows hu
  have kL : ∀ u, Below w.heap.size w u → Calls Try.prog 7 #[.agg #[.slice A1 ps.length c1, .slice A2 ls.length c2]] u fun e w' => e = .returned (.bool (decide (ps.length ≤ 30) && decide (ls.length ≤ 30))) ∧ Below u.heap.size u w' := fun u hu => lfits_any ps ls u (HT.out u hu)
  have kR : ∀ u, Below w.heap.size w u → Calls Try.prog 10 #[.agg #[.slice A1 ps.length c1, .slice A2 ls.length c2]] u fun e w' => e = .returned (.bool (rightT ps ls)) ∧ Below u.heap.size u w' := fun u hu => O.right ps ls u hw (HT.out u hu)
  have kA := alive_any O
  generalize (decide (ps.length ≤ 30) && decide (ls.length ≤ 30)) = f1 at kL
  obtain ⟨V, hV⟩ : ∃ V, V = rightT ps ls := ⟨_, rfl⟩
  rw [← hV] at kR
  have HV := Lib.hid hV
  have O' := Lib.hid O
  have HW := Lib.hid hw
  have HA := Lib.hid ha
  have HB := Lib.hid hb
  have HC := Lib.hid hc
  clear O hV z2 n1 m1 n2 m2 hw ha hb hc
  have D0 := (At.new w #[.slice A1 ps.length c1, .slice A2 ls.length c2] 25).alloc (.cells #[.int .i64 a, .int .i64 b, .int .i64 c] 44)
  have D1 := At.new1 w (.cells #[.slice A1 ps.length c1, .slice A2 ls.length c2] 25) #[.int .i64 a, .int .i64 b, .int .i64 c] 44
  have b0 : Below w.heap.size w ((w.alloc (.cells #[.slice A1 ps.length c1, .slice A2 ls.length c2] 25)).alloc (.cells #[.int .i64 a, .int .i64 b, .int .i64 c] 44)) := ((Below.refl _ _).alloc (Nat.le_refl _) _).alloc (by simp) _
  go_enter Try.func6, Try.ntmps6
  obtain ⟨w0, hw0⟩ : ∃ w0, w0 = ((w.alloc (.cells #[.slice A1 ps.length c1, .slice A2 ls.length c2] 25)).alloc (.cells #[.int .i64 a, .int .i64 b, .int .i64 c] 44)) := ⟨_, rfl⟩
  rw [← hw0] at D0 D1 b0
  have x0 := (D0.cell 0).trans rfl; have x1 := (D0.cell 1).trans rfl
  go_upto_region 1 with (fail)
  rw [← hw0]
  clear hw0
  go_wp2_with fail
  refine (kL _ b0).mono ?_
  rintro e w1 ⟨rfl, b1⟩
  have bb1 := b0.trans (b1.mono b0.size)
  have E0 := D0.belows b1
  have E1 := D1.belows b1
  clear x0 x1 D0 D1 b1 b0 kL
  cases f1 with
  | false =>
    go_wp2_with fail
    refine (kA _).mono ?_
    rintro e w3 ⟨rfl, b3⟩
    go_wp2
    go_ret
    exact ⟨rfl, bb1.trans (b3.mono bb1.size)⟩
  | true =>
    have x0 := (E0.cell 0).trans rfl; have x1 := (E0.cell 1).trans rfl
    go_wp2_with fail
    refine (kR _ bb1).mono ?_
    rintro e w2 ⟨rfl, b2⟩
    have bb2 := bb1.trans (b2.mono bb1.size)
    have F0 := E0.belows b2
    have F1 := E1.belows b2
    clear x0 x1 E0 E1 b2 bb1 kR
    cases V with
    | false =>
      go_wp2_with fail
      refine (kA _).mono ?_
      rintro e w3 ⟨rfl, b3⟩
      go_wp2
      go_ret
      exact ⟨rfl, bb2.trans (b3.mono bb2.size)⟩
    | true =>
      have hR : RT ps ls := (rightT_iff _ _).1 HV.out.symm
      have kC : ∀ x y : Int, isI x → isI y → ∀ u, Below w.heap.size w u → Calls Try.prog 21 #[.agg #[.slice A1 ps.length c1, .slice A2 ls.length c2], .int .i64 x, .int .i64 y] u fun e w' => e = .returned (.bool (reachT ps ls x y)) ∧ Below u.heap.size u w' := fun x y hx hy u hu => O'.out.reaches ps ls x y u hR HW.out hx hy (HT.out u hu)
      have KC := Lib.hid kC
      have HRR := Lib.hid hR
      clear kC hR HV HT O'
      go_wp2
      go_loopw [6] (fun i wr => ∃ k : Nat, i = .int .i64 k ∧ k ≤ ls.length ∧ Below w2.heap.size w2 wr) (fun i _ => ls.length - (intOf i).toNat)
      case atStart => exact ⟨0, rfl, by omega, Below.refl _ _⟩
      case round =>
        obtain ⟨k, rfl, hk, hb⟩ := hrel
        have bbr := bb2.trans (hb.mono bb2.size)
        have G0 := F0.belows hb
        have G1 := F1.belows hb
        by_cases hlt : k < ls.length
        · obtain ⟨g, o, f1, hg, r⟩ := (Z2.out wr bbr).at k hlt
          subst f1
          have r0 := r 0 (by decide); have r1 := r 1 (by decide); have r2 := r 2 (by decide); have r3 := r 3 (by decide)
          have hl := reach_link HRR.out (List.getElem_mem hlt)
          have kk := fun x : Sub wr => KC.out ls[k].a.d ls[k].b.d (HW.out.links _ (List.getElem_mem hlt)).1.1 (HW.out.links _ (List.getElem_mem hlt)).2.1 x.u (bbr.trans (x.h.mono bbr.size))
          rw [hl] at kk
          clear hl r
          generalize ls[k] = l at r0 r1 r2 r3 kk
          obtain ⟨⟨la, lb⟩, ⟨lc, ld⟩⟩ := l
          simp only [lkA, Nat.add_zero] at r0 r1 r2 r3
          dsimp only at kk
          have s0 : ∀ x : Sub wr, x.u.cell? ⟨g, o + k * 4, none⟩ = some (.int .i64 la) := fun x => (x.h.cell (p := ⟨g, _, none⟩) hg).trans r0
          have s1 : ∀ x : Sub wr, x.u.cell? ⟨g, o + k * 4 + 2, none⟩ = some (.int .i64 lc) := fun x => (x.h.cell (p := ⟨g, _, none⟩) hg).trans r2
          have v0 : ∀ x : Sub wr, x.u.cell? ⟨w.heap.size, 0, none⟩ = some (.slice A1 ps.length c1) := fun x => ((G0.belows x.h).cell 0).trans rfl
          have v1 : ∀ x : Sub wr, x.u.cell? ⟨w.heap.size, 1, none⟩ = some (.slice (some ⟨g, o, none⟩) ls.length c2) := fun x => ((G0.belows x.h).cell 1).trans rfl
          have y0 := (G0.cell 0).trans rfl; have y1 := (G0.cell 1).trans rfl
          have i0 : (0 : Int) ≤ (k : Int) := by omega
          have i1 : (k : Int) < (ls.length : Int) := by omega
          clear r0 r1 r2 r3
          go_upto_region 7 with (fail)
          clear y0 y1
          refine wp_region_cls (by kernel_rfl) (by kernel_rfl) ?_
          repeat (go_big_quiet_step ((go_at_call 21; exact Calls.cls_of (kk _))))
          refine wpQuiet_nil ?_
          rintro w7 ⟨x7, hx⟩
          have b7 := x7.h
          rw [← hx] at b7
          clear hx x7 s0 s1 v0 v1 kk
          go_wp2
          go_roundw
          case rel => exact ⟨k + 1, by go_num, by omega, hb.trans (b7.mono hb.size)⟩
          case measure => simp [intOf]; omega
        · have hki : ¬ (k : Int) < (ls.length : Int) := by omega
          have x0 := (G0.cell 0).trans rfl; have x1 := (G0.cell 1).trans rfl
          have y0 := (G1.cell 0).trans rfl; have y1 := (G1.cell 1).trans rfl; have y2 := (G1.cell 2).trans rfl
          clear hb F0 F1 bb2
          go_wp2_with fail
          refine (KC.out a b HA.out HB.out _ bbr).mono ?_
          rintro e w3 ⟨rfl, b3⟩
          have bb3 := bbr.trans (b3.mono bbr.size)
          have H0 := G0.belows b3
          have H1 := G1.belows b3
          clear x0 x1 y0 y1 y2 G0 G1 b3 bbr
          have x0 := (H0.cell 0).trans rfl; have x1 := (H0.cell 1).trans rfl
          have y0 := (H1.cell 0).trans rfl; have y1 := (H1.cell 1).trans rfl; have y2 := (H1.cell 2).trans rfl
          go_wp2_with fail
          refine (KC.out b c HB.out HC.out _ bb3).mono ?_
          rintro e w4 ⟨rfl, b4⟩
          have bb4 := bb3.trans (b4.mono bb3.size)
          have I0 := H0.belows b4
          have I1 := H1.belows b4
          clear x0 x1 y0 y1 y2 H0 H1 b4 bb3
          have x0 := (I0.cell 0).trans rfl; have x1 := (I0.cell 1).trans rfl
          have y0 := (I1.cell 0).trans rfl; have y1 := (I1.cell 1).trans rfl; have y2 := (I1.cell 2).trans rfl
          go_wp2_with fail
          refine (KC.out a a HA.out HA.out _ bb4).mono ?_
          rintro e w5 ⟨rfl, b5⟩
          have bb5 := bb4.trans (b5.mono bb4.size)
          have J0 := I0.belows b5
          have J1 := I1.belows b5
          clear x0 x1 y0 y1 y2 I0 I1 b5 bb4
          go_wp2_with fail
          refine (kA _).mono ?_
          rintro e w6 ⟨rfl, b6⟩
          have bb6 := bb5.trans (b6.mono bb5.size)
          have K0 := J0.belows b6
          have K1 := J1.belows b6
          clear J0 J1 b6 bb5
          have x0 := (K0.cell 0).trans rfl; have x1 := (K0.cell 1).trans rfl
          have y0 := (K1.cell 0).trans rfl; have y1 := (K1.cell 1).trans rfl; have y2 := (K1.cell 2).trans rfl
          have hk7 := KC.out b a HB.out HA.out _ bb6
          rw [← reach_back HRR.out a b] at hk7
          have hk8 := KC.out a c HA.out HC.out
          have hon : reachT ps ls a b = true → reachT ps ls b c = true → reachT ps ls a c = true := fun h1 h2 => reach_on HRR.out h1 h2
          rw [reach_self HRR.out a]
          generalize reachT ps ls a b = q1 at hk7 hon ⊢
          generalize reachT ps ls b c = q2 at hon ⊢
          generalize reachT ps ls a c = q3 at hk8 hon
          have d1 : (q1 == q1) = true := by simp
          have HON := Lib.hid hon
          have HK8 := Lib.hid hk8
          clear hon hk8
          go_wp2_with fail
          refine hk7.mono ?_
          rintro e w7 ⟨rfl, b7⟩
          have bb7 := bb6.trans (b7.mono bb6.size)
          have L0 := K0.belows b7
          have L1 := K1.belows b7
          clear x0 x1 y0 y1 y2 K0 K1 b7 bb6 hk7
          have x0 := (L0.cell 0).trans rfl; have x1 := (L0.cell 1).trans rfl
          have y0 := (L1.cell 0).trans rfl; have y1 := (L1.cell 1).trans rfl; have y2 := (L1.cell 2).trans rfl
          have ha3 : (∃ _ : a < 0, True) ∨ (∃ _ : 0 ≤ a ∧ a < (ps.length : Int), True) ∨ (∃ _ : 0 ≤ a ∧ (ps.length : Int) ≤ a, True) := by
            rcases Int.lt_or_le a 0 with h | h
            · exact .inl ⟨h, trivial⟩
            · rcases Int.lt_or_le a ps.length with h' | h'
              · exact .inr (.inl ⟨⟨h, h'⟩, trivial⟩)
              · exact .inr (.inr ⟨⟨h, h'⟩, trivial⟩)
          by_cases hqq : q1 = true ∧ q2 = true
          · obtain ⟨rfl, rfl⟩ := hqq
            have h3 := HON.out rfl rfl
            subst h3
            go_wp2_with fail
            refine (HK8.out _ bb7).mono ?_
            rintro e w8 ⟨rfl, b8⟩
            have bb8 := bb7.trans (b8.mono bb7.size)
            have M0 := L0.belows b8
            have M1 := L1.belows b8
            clear x0 x1 y0 y1 y2 L0 L1 b8 bb7 HK8 HON
            have x0 := (M0.cell 0).trans rfl; have x1 := (M0.cell 1).trans rfl
            have y0 := (M1.cell 0).trans rfl
            rcases ha3 with ⟨h, _⟩ | ⟨h, _⟩ | ⟨h, _⟩
            all_goals
              first
              | (have e1 : decide (0 ≤ a) = false := decide_eq_false (by omega)
                 have e1' : decide (a ≥ 0) = false := decide_eq_false (by omega)
                 rw [e1]
                 go_wp2
                 go_ret
                 exact ⟨rfl, bb8⟩)
              | (have e1 : decide (0 ≤ a) = true := decide_eq_true (by omega)
                 have e1' : decide (a ≥ 0) = true := decide_eq_true (by omega)
                 have e2 : decide (a < (ps.length : Int)) = true := decide_eq_true (by omega)
                 rw [e1, e2]
                 go_wp2
                 go_ret
                 exact ⟨rfl, bb8⟩)
              | (have e1 : decide (0 ≤ a) = true := decide_eq_true (by omega)
                 have e1' : decide (a ≥ 0) = true := decide_eq_true (by omega)
                 have e2 : decide (a < (ps.length : Int)) = false := decide_eq_false (by omega)
                 rw [e1, e2]
                 go_wp2
                 go_ret
                 exact ⟨rfl, bb8⟩)
          · have hn : (q1 = false) ∨ (q1 = true ∧ q2 = false) := by cases q1 <;> cases q2 <;> simp_all
            clear hqq HON HK8
            rcases hn with rfl | ⟨rfl, rfl⟩
            all_goals
              rcases ha3 with ⟨h, _⟩ | ⟨h, _⟩ | ⟨h, _⟩
              all_goals
                first
                | (have e1 : decide (0 ≤ a) = false := decide_eq_false (by omega)
                   have e1' : decide (a ≥ 0) = false := decide_eq_false (by omega)
                   rw [e1]
                   go_wp2
                   go_ret
                   exact ⟨rfl, bb7⟩)
                | (have e1 : decide (0 ≤ a) = true := decide_eq_true (by omega)
                   have e1' : decide (a ≥ 0) = true := decide_eq_true (by omega)
                   have e2 : decide (a < (ps.length : Int)) = true := decide_eq_true (by omega)
                   rw [e1, e2]
                   go_wp2
                   go_ret
                   exact ⟨rfl, bb7⟩)
                | (have e1 : decide (0 ≤ a) = true := decide_eq_true (by omega)
                   have e1' : decide (a ≥ 0) = true := decide_eq_true (by omega)
                   have e2 : decide (a < (ps.length : Int)) = false := decide_eq_false (by omega)
                   rw [e1, e2]
                   go_wp2
                   go_ret
                   exact ⟨rfl, bb7⟩)
end Go.Proofs.Ytpdadcjmpjnnhaa
