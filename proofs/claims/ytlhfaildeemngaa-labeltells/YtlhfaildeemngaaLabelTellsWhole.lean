/- LabelTells: for any network, device and atom the law returns true, and the arguments read as before. No condition. -/
import Derived.Test.YtlhfaildeemngaaZ2
import Derived.Test.YtlhfaildeemngaaZ4
/- LabelTells, over the program's calls. -/
namespace Go.Proofs.Ytlhfaildeemngaa
open Go.RowKit Go.Shelf

theorem labV_is {ps : List Int} {ls : List Lk} {L : List Ru} {d i : Int} {e : Ending} (h : labV ps ls L d i e) : ∃ x : Int, e = .returned (.tuple #[.int .i64 x, .bool (decide (0 ≤ d) && (decide (d < (ps.length : Int)) && (decide (0 ≤ i) && decide (i < ((atmL L).length : Int)))))]) := by
  rcases h with ⟨hd, hi, hk, e⟩ | ⟨hno, x, e⟩
  · refine ⟨labN ls L d (atmL L)[i.toNat].1, e.trans ?_⟩
    rw [decide_eq_true hd.1, decide_eq_true hd.2, decide_eq_true hi, decide_eq_true (by omega)]; rfl
  · refine ⟨x, e.trans ?_⟩
    have : (decide (0 ≤ d) && (decide (d < (ps.length : Int)) && (decide (0 ≤ i) && decide (i < ((atmL L).length : Int))))) = false := by
      rw [← Bool.not_eq_true]
      simp only [Bool.and_eq_true, decide_eq_true_eq]
      rintro ⟨h1, h2, h3, h4⟩
      exact hno ⟨⟨h1, h2⟩, h3, by omega⟩
    rw [this]
set_option maxRecDepth 100000 in
set_option maxHeartbeats 4000000 in
theorem tells10_walk (O : Own10) {vp vl vr : Value} (ps : List Int) (ls : List Lk) (L : List Ru) (d i : Int) (w : World) (h : IsN w vp vl vr ps ls L) (hW : NW ps ls L) (hd : isI d) (hi : isI i) :
    Calls Try.prog 3 #[.agg #[vp, vl, vr], .agg #[.int .i64 d, .int .i64 i]] w fun e w' => e = .returned (.bool true) ∧ Below w.heap.size w w' := by
  have HN : Hid (∀ u, Below w.heap.size w u → IsN u vp vl vr ps ls L) := Lib.hid fun u hu => h.belows hu
  have HW := Lib.hid hW
  have HD := Lib.hid hd
  have HI := Lib.hid hi
  have hrm := hW.room
  obtain ⟨⟨⟨A1, c1, rfl, n1, m1, _⟩, ⟨A2, c2, rfl, n2, m2, _⟩⟩, ⟨A3, c3, rfl, n3, m3, _⟩⟩ := h
  have hM1 : ps.length ≤ 9223372036854775807 := Nat.le_trans n1 m1
  have hM2 : ls.length ≤ 9223372036854775807 := Nat.le_trans n2 m2
  have hM3 : L.length ≤ 9223372036854775807 := Nat.le_trans n3 m3
  have b0 : Below w.heap.size w ((w.alloc (.cells #[.slice A1 ps.length c1, .slice A2 ls.length c2, .slice A3 L.length c3] 28)).alloc (.cells #[.int .i64 d, .int .i64 i] 29)) := ((Below.refl _ w).alloc (Nat.le_refl _) _).alloc (by simp) _
  have D0 := (At.new w #[.slice A1 ps.length c1, .slice A2 ls.length c2, .slice A3 L.length c3] 28).alloc (.cells #[.int .i64 d, .int .i64 i] 29)
  have Q0 := At.new1 w (.cells #[.slice A1 ps.length c1, .slice A2 ls.length c2, .slice A3 L.length c3] 28) #[.int .i64 d, .int .i64 i] 29
  clear hW hd hi
  go_enter Try.func3, Try.ntmps3
  go_upto_region 1 with (fail)
  obtain ⟨w0, hw0⟩ : ∃ w0, w0 = ((w.alloc (.cells #[.slice A1 ps.length c1, .slice A2 ls.length c2, .slice A3 L.length c3] 28)).alloc (.cells #[.int .i64 d, .int .i64 i] 29)) := ⟨_, rfl⟩
  rw [← hw0] at b0 D0 Q0 ⊢
  clear hw0
  have x0 := (D0.cell 0).trans rfl; have x1 := (D0.cell 1).trans rfl; have x2 := (D0.cell 2).trans rfl
  have ka := alive10_any O w0
  by_cases h1 : 20 < ps.length
  · have e1 : decide ((20 : Int) < (ps.length : Int)) = true := decide_eq_true (by omega)
    clear h1
    go_wp2_with (go_at_call 6; refine ka.mono ?_; rintro e u ⟨rfl, bu⟩)
    go_ret
    exact ⟨rfl, b0.trans (bu.mono b0.size)⟩
  have e1 : decide ((20 : Int) < (ps.length : Int)) = false := decide_eq_false (by omega)
  by_cases h2 : 40 < ls.length
  · have e2 : decide ((40 : Int) < (ls.length : Int)) = true := decide_eq_true (by omega)
    clear h2
    go_wp2_with (go_at_call 6; refine ka.mono ?_; rintro e u ⟨rfl, bu⟩)
    go_ret
    exact ⟨rfl, b0.trans (bu.mono b0.size)⟩
  have e2 : decide ((40 : Int) < (ls.length : Int)) = false := decide_eq_false (by omega)
  by_cases h3 : 60 < L.length
  · have e3 : decide ((60 : Int) < (L.length : Int)) = true := decide_eq_true (by omega)
    clear h3
    go_wp2_with (go_at_call 6; refine ka.mono ?_; rintro e u ⟨rfl, bu⟩)
    go_ret
    exact ⟨rfl, b0.trans (bu.mono b0.size)⟩
  have e3 : decide ((60 : Int) < (L.length : Int)) = false := decide_eq_false (by omega)
  clear h1 h2 h3 ka
  have k1 := lfits9_any ps ls L w0 HW.out (HN.out w0 b0)
  go_upto_region 4 with (go_at_call 7; refine k1.mono ?_; rintro e w1 ⟨rfl, b1⟩)
  have bw1 := b0.trans (b1.mono b0.size)
  have D1 := D0.belows b1
  have Q1 := Q0.belows b1
  clear x0 x1 x2 k1 b1 D0 Q0
  have x0 := (D1.cell 0).trans rfl; have x1 := (D1.cell 1).trans rfl; have x2 := (D1.cell 2).trans rfl
  have k2 := O.of noH ps ls L w1 (noH_lt _) HW.out (HN.out w1 bw1).no
  cases hrt : rightN ps ls L with
  | false =>
    have hno : ¬ RN ps ls L := fun h => by rw [(rightN_iff ps ls L).2 h] at hrt; cases hrt
    clear hrt
    go_upto_region 6 with (go_at_call 8; refine k2.mono ?_; rintro e w2 ⟨h2, b2⟩; obtain rfl := (h2.resolve_left fun h => hno h.1).2)
    have ka := alive10_any O w2
    go_wp2_with (go_at_call 6; refine ka.mono ?_; rintro e u ⟨rfl, bu⟩)
    go_ret
    exact ⟨rfl, (bw1.trans (b2.mono bw1.size)).trans (bu.mono (Nat.le_trans bw1.size b2.size))⟩
  | true =>
    have hR := (rightN_iff ps ls L).1 hrt
    have HR := Lib.hid hR
    clear hrt k2
    have k2 := of_right O noH ps ls L w1 (noH_lt _) hR HW.out (HN.out w1 bw1).no
    clear hR
    go_upto_region 7 with (go_at_call 8; refine k2.mono ?_; rintro e w2 ⟨p, rfl, hl, b2⟩; obtain ⟨bp, rfl⟩ := O.ptr hl)
    have bw2 := bw1.trans (b2.mono bw1.size)
    have D2 := D1.belows b2
    have Q2 := Q1.belows b2
    have k3 := same10_any O ps ls L w2 HR.out HW.out hl (HN.out w2 bw2)
    clear x0 x1 x2 k2 b2 D1 Q1 bw1
    have x0 := (D2.cell 0).trans rfl; have x1 := (D2.cell 1).trans rfl; have x2 := (D2.cell 2).trans rfl
    go_upto_region 8 with (go_at_call 9; refine k3.mono ?_; rintro e w3 ⟨rfl, b3⟩)
    have bw3 := bw2.trans (b3.mono bw2.size)
    have D3 := D2.belows b3
    have Q3 := Q2.belows b3
    have HL3 := Lib.hid (O.keep hl (exc_of b3 noH))
    have k4 := O.at' noH ps ls L d i w3 HR.out HW.out HD.out HI.out HL3.out
    clear x0 x1 x2 k3 b3 D2 Q2 bw2 hl
    have q0 := (Q3.cell 0).trans rfl; have q1 := (Q3.cell 1).trans rfl
    go_upto_region 9 with (go_at_call 10; refine k4.mono ?_; rintro e w4 ⟨h4, b4⟩; obtain ⟨lx, rfl⟩ := labV_is h4)
    have bw4 := bw3.trans (b4.mono bw3.size)
    have D4 := D3.belows b4
    have Q4 := Q3.belows b4
    have HL4 := Lib.hid (O.keep HL3.out (exc_of b4 noH))
    clear k4 b4 D3 Q3 bw3 q0 q1 h4
    obtain ⟨N, hN⟩ : ∃ N, N = (atmL L).length := ⟨_, rfl⟩
    rw [← hN]
    have HX : Hid (∀ u, Below w4.heap.size w4 u → Calls Try.prog 11 #[.pointer (some bp)] u fun e w' => e = .returned (.int .i64 N) ∧ Below u.heap.size u w') := Lib.hid fun u hu => by rw [hN]; exact O.atoms noH ps ls L u HR.out HW.out (O.keep HL4.out (exc_of hu noH))
    have HKA : Hid (∀ u, Calls Try.prog 6 #[] u fun e w' => e = .returned (.bool true) ∧ Below u.heap.size u w') := Lib.hid fun u => alive10_any O u
    have s0 : ∀ x : Sub w4, x.u.cell? ⟨w.heap.size, 0, none⟩ = some (.slice A1 ps.length c1) := fun x => ((D4.belows x.h).cell 0).trans rfl
    have s1 : ∀ x : Sub w4, x.u.cell? ⟨w.heap.size + 1, 0, none⟩ = some (.int .i64 d) := fun x => ((Q4.belows x.h).cell 0).trans rfl
    have s2 : ∀ x : Sub w4, x.u.cell? ⟨w.heap.size + 1, 1, none⟩ = some (.int .i64 i) := fun x => ((Q4.belows x.h).cell 1).trans rfl
    have k0 := fun x : Sub w4 => HKA.out x.u
    have k1 := fun x : Sub w4 => HX.out x.u x.h
    have HBW := Lib.hid bw4
    have HNN := Lib.hid hN
    clear hN D4 Q4 bw4
    by_cases a1 : 0 ≤ d
    · have da1 : decide (0 ≤ d) = true := decide_eq_true a1
      rw [da1]
      clear a1
      by_cases a2 : d < (ps.length : Int)
      · have da2 : decide (d < (ps.length : Int)) = true := decide_eq_true a2
        rw [da2]
        clear a2
        by_cases a3 : 0 ≤ i
        · have da3 : decide (0 ≤ i) = true := decide_eq_true a3
          rw [da3]
          clear a3
          by_cases a4 : i < (N : Int)
          · have da4 : decide (i < (N : Int)) = true := decide_eq_true a4
            rw [da4]
            clear a4
            refine wp_region_cls (by kernel_rfl) (by kernel_rfl) ?_
            repeat (go_big_quiet_step ((first | (go_at_call 6; exact Calls.cls_of (k0 _)) | (go_at_call 11; exact Calls.cls_of (k1 _)))))
            refine wpQuiet_nil ?_
            rintro w5 ⟨x5, hx⟩
            have b5 := x5.h
            rw [← hx] at b5
            clear hx x5 s0 s1 s2 k0 k1
            go_wp2
            go_ret
            exact ⟨rfl, HBW.out.trans (b5.mono HBW.out.size)⟩
          · have da4 : decide (i < (N : Int)) = false := decide_eq_false a4
            rw [da4]
            clear a4
            refine wp_region_cls (by kernel_rfl) (by kernel_rfl) ?_
            repeat (go_big_quiet_step ((first | (go_at_call 6; exact Calls.cls_of (k0 _)) | (go_at_call 11; exact Calls.cls_of (k1 _)))))
            refine wpQuiet_nil ?_
            rintro w5 ⟨x5, hx⟩
            have b5 := x5.h
            rw [← hx] at b5
            clear hx x5 s0 s1 s2 k0 k1
            go_wp2
            go_ret
            exact ⟨rfl, HBW.out.trans (b5.mono HBW.out.size)⟩
        · have da3 : decide (0 ≤ i) = false := decide_eq_false a3
          rw [da3]
          clear a3
          refine wp_region_cls (by kernel_rfl) (by kernel_rfl) ?_
          repeat (go_big_quiet_step ((first | (go_at_call 6; exact Calls.cls_of (k0 _)) | (go_at_call 11; exact Calls.cls_of (k1 _)))))
          refine wpQuiet_nil ?_
          rintro w5 ⟨x5, hx⟩
          have b5 := x5.h
          rw [← hx] at b5
          clear hx x5 s0 s1 s2 k0 k1
          go_wp2
          go_ret
          exact ⟨rfl, HBW.out.trans (b5.mono HBW.out.size)⟩
      · have da2 : decide (d < (ps.length : Int)) = false := decide_eq_false a2
        rw [da2]
        clear a2
        refine wp_region_cls (by kernel_rfl) (by kernel_rfl) ?_
        repeat (go_big_quiet_step ((first | (go_at_call 6; exact Calls.cls_of (k0 _)) | (go_at_call 11; exact Calls.cls_of (k1 _)))))
        refine wpQuiet_nil ?_
        rintro w5 ⟨x5, hx⟩
        have b5 := x5.h
        rw [← hx] at b5
        clear hx x5 s0 s1 s2 k0 k1
        go_wp2
        go_ret
        exact ⟨rfl, HBW.out.trans (b5.mono HBW.out.size)⟩
    · have da1 : decide (0 ≤ d) = false := decide_eq_false a1
      rw [da1]
      clear a1
      refine wp_region_cls (by kernel_rfl) (by kernel_rfl) ?_
      repeat (go_big_quiet_step ((first | (go_at_call 6; exact Calls.cls_of (k0 _)) | (go_at_call 11; exact Calls.cls_of (k1 _)))))
      refine wpQuiet_nil ?_
      rintro w5 ⟨x5, hx⟩
      have b5 := x5.h
      rw [← hx] at b5
      clear hx x5 s0 s1 s2 k0 k1
      go_wp2
      go_ret
      exact ⟨rfl, HBW.out.trans (b5.mono HBW.out.size)⟩
end Go.Proofs.Ytlhfaildeemngaa
namespace Go.Proofs.Ytlhfaildeemngaa.labelTells
open Go.ChangeShapes Go.WideShapes Go.ChangeAt Go.RowKit
open Go.ChangeMaps (open_string shut_string)
set_option linter.unusedVariables false

theorem own : ownKnob Try.prog.godebug = none := by kernel_rfl
theorem laidOut : laidOutB Try.prog = true := by kernel_rfl
theorem readable : (Try.f3.params.toList.all fun t => Try.prog.readableRec t && decide (t < Try.prog.types.size)) = true := by kernel_rfl

set_option maxRecDepth 100000 in
theorem lifted (os : Os) (started : os.Started) (H : Type) (enc : TypeId × Value → H) :
    ReturnsInHanded {} Try.checked os 3 .any (Rows.labelTellsSpec.pre6 enc Try.prog Try.f3 Rows.labelTellsRow.domain false) (Rows.labelTellsSpec.post enc Try.prog Try.f3 false true false false) := by
  refine returnsInHanded_of_change_sized (C := Try.checked) own started (by kernel_rfl) Try.func3
    (ChangeSpec.witness6 (enc := enc) (C := Try.checked) false ⟨#[], #[.agg #[.slice none 0 0, .slice none 0 0, .slice none 0 0], .agg #[.int .i64 0, .int .i64 0]], []⟩ 8 (by kernel_rfl) (by kernel_rfl) (by kernel_rfl) (by kernel_rfl)) ?_
  intro W base args ds gs before hval0 hW hcnd hsz0 _
  have hsz : (DataW.weightsEach Try.prog (Try.f3.params.toList ++ Rows.labelTellsSpec.plain.varTypes Try.prog) (ds ++ gs)).all (· ≤ reachBytes) = true := hsz0
  have hval : ∀ (j : Nat) t v, Try.f3.params[j]? = some t → args[j]? = some v → Value.okWide Try.prog W .any base t v := hval0
  have hW' := hW
  obtain ⟨p, q, hA0, hV, rfl, hfz, hnd⟩ := hW
  have hA : DataW.TrodAll enc Try.prog W 0 (fun _ => true) true Try.f3.params.toList args.toList ds p := hA0
  rw [Try.params3] at hA hval hsz
  obtain ⟨v0, vs0, d0, ds0, p0, q0, hargs, rfl, rfl, h0, r0⟩ := trodAll_cons hA
  obtain ⟨v1, vs1, d1, ds1, p1, q1, rfl, rfl, rfl, h1, r1⟩ := trodAll_cons r0
  obtain ⟨rfl, rfl, rfl⟩ := trodAll_nil r1
  obtain rfl : args = #[v0, v1] := by cases args; simp_all
  obtain ⟨rfl, rfl⟩ := trodVars_none hV
  have fin : ∀ (e : Ending) (W' : World), e = .returned (.bool true) ∧ Below W.heap.size W W' → ∃ v, e = .returned v ∧ Rows.labelTellsSpec.post enc Try.prog Try.f3 false true false false W #[v0, v1] v W' := by
    rintro e W' ⟨rfl, bel⟩
    exact ⟨_, rfl, post_law (tb := 4) laidOut readable (by kernel_rfl) Try.underlying4 rfl hW' rfl bel⟩
  clear hW' hA0 hval0 hcnd hfz hnd hsz0
  obtain ⟨va0, vb0, vc0, ps0, ls0, l0, rfl, hh0, ww0⟩ := open_net (hval 0 28 v0 rfl rfl) h0 (net_room hsz)
  obtain ⟨a1, e1, rfl, wa1, we1⟩ := open_arr2 (hval 1 29 v1 rfl rfl) h1
  exact (tells10_walk ownCalls10 ps0 ls0 l0 a1 e1 W hh0 ww0 wa1 we1).mono fun e W' h => fin e W' h

theorem over : Rows.labelTellsRow.holds Try.pinned (OpenSpec.ofChange Rows.labelTellsSpec) :=
  OpenClaim.holds_of_wide 3 Try.f3 rfl rfl rfl rfl rfl rfl rfl ⟨rfl, rfl, rfl, rfl, rfl⟩ rfl rfl rfl rfl rfl (by kernel_rfl) Try.func3 (by kernel_rfl)
    (of_decide_eq_true (by kernel_rfl)) (by unfold Func.isWrapper; first | (rw [if_pos (by decide +kernel)]; kernel_rfl) | (rw [if_neg (by decide +kernel)]; exact ⟨rfl, rfl⟩))
    (fun os started H enc _ => lifted os started H enc)

theorem proved : Rows.LabelTellsSaid := over
#print axioms proved
end Go.Proofs.Ytlhfaildeemngaa.labelTells
