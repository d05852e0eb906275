/- Contracts: the program's Next. -/
import Derived.Test.YtmndgbpfophniaaW0
import Derived.Test.YtmndgbpfophniaaT2
namespace Go.Proofs.Ytmndgbpfophniaa
open Go.RowKit Go.Shelf

set_option maxRecDepth 100000 in
set_option maxHeartbeats 2000000 in
/-- Next, of any topology. -/
theorem next_any {vp vl : Value} (ps : List Int) (ls : List Lk) (p : Pt) (w : World) (h : IsT w vp vl ps ls) : Calls Try.prog 32 #[.agg #[vp, vl], .agg (ptA p)] w fun e w' => e = .returned (nextV (nextT ls p)) ∧ Below w.heap.size w w' := by
  obtain ⟨⟨A1, c1, rfl, n1, m1, _⟩, ⟨A2, c2, rfl, n2, m2, z2⟩⟩ := h
  have hL : ls.length ≤ 9223372036854775807 := Nat.le_trans n2 m2
  have hM : ps.length ≤ 9223372036854775807 := Nat.le_trans n1 m1
  obtain ⟨V, hV⟩ : ∃ V, V = nextT ls p := ⟨_, rfl⟩
  rw [← hV]
  have HV := Lib.hid hV
  clear hV
  have D0 := ((At.new w #[.slice A1 ps.length c1, .slice A2 ls.length c2] 25).alloc (.cells (ptA p) 34)).alloc (.cells (ptA ⟨0, 0⟩) 34)
  have P0 := (At.new1 w (.cells #[.slice A1 ps.length c1, .slice A2 ls.length c2] 25) (ptA p) 34).alloc (.cells (ptA ⟨0, 0⟩) 34)
  have R0 := At.new2 w (.cells #[.slice A1 ps.length c1, .slice A2 ls.length c2] 25) (.cells (ptA p) 34) (ptA ⟨0, 0⟩) 34
  have b0 : Below w.heap.size w (((w.alloc (.cells #[.slice A1 ps.length c1, .slice A2 ls.length c2] 25)).alloc (.cells (ptA p) 34)).alloc (.cells (ptA ⟨0, 0⟩) 34)) := (((Below.refl _ w).alloc (Nat.le_refl _) _).alloc (by simp) _).alloc (by simp; omega) _
  have HZ := Lib.hid (z2.belows b0)
  clear z2
  obtain ⟨d, q⟩ := p
  obtain ⟨w0, hw0⟩ : ∃ w0, w0 = (((w.alloc (.cells #[.slice A1 ps.length c1, .slice A2 ls.length c2] 25)).alloc (.cells #[.int .i64 d, .int .i64 q] 34)).alloc (.cells #[.int .i64 0, .int .i64 0] 34)) := ⟨_, rfl⟩
  rw [show ptA ⟨d, q⟩ = #[.int .i64 d, .int .i64 q] from rfl, show ptA ⟨0, 0⟩ = #[.int .i64 0, .int .i64 0] from rfl] at D0 P0 R0 b0 HZ
  rw [← hw0] at D0 P0 R0 b0 HZ
  unfold ptA
  dsimp only
  go_enter Try.func32, Try.ntmps32
  go_upto_region 1 with (fail)
  rw [← hw0]
  have hs0 : w.heap.size + 1 + 1 < w0.heap.size := by rw [hw0]; simp
  clear hw0
  have x1 := (D0.cell 1).trans rfl
  go_wp2
  go_loopw [11] (fun i wr => ∃ k : Nat, i = .int .i64 k ∧ k ≤ ls.length ∧ Hid (V = nextT (ls.drop k) ⟨d, q⟩) ∧ Below w0.heap.size w0 wr) (fun i _ => ls.length - (intOf i).toNat)
  case atStart => exact ⟨0, rfl, by omega, HV, Below.refl _ _⟩
  case round =>
    obtain ⟨k, rfl, hk, HK, hb⟩ := hrel
    have P1 := P0.belows hb
    have R1 := R0.belows hb
    have p0 := (P1.cell 0).trans rfl
    have p1 := (P1.cell 1).trans rfl
    have hsz := hb.size
    by_cases hlt : k < ls.length
    · obtain ⟨g, o, e, hg, hc⟩ := HZ.out.at k hlt
      subst e
      have r0 := (hb.cell (p := ⟨g, _, none⟩) hg).trans (hc 0 (by decide)); have r1 := (hb.cell (p := ⟨g, _, none⟩) hg).trans (hc 1 (by decide)); have r2 := (hb.cell (p := ⟨g, _, none⟩) hg).trans (hc 2 (by decide)); have r3 := (hb.cell (p := ⟨g, _, none⟩) hg).trans (hc 3 (by decide))
      have HD : Hid (ls.drop k = ls[k] :: ls.drop (k + 1)) := Lib.hid (List.drop_eq_getElem_cons hlt)
      have q1 := eql_pt ⟨d, q⟩ ls[k].a
      have q2 := eql_pt ⟨d, q⟩ ls[k].b
      have HA : Hid (ls[k].a = ⟨d, q⟩ → V = some ls[k].b) := Lib.hid fun e => by rw [HK.out, HD.out]; unfold nextT; rw [if_pos e]
      have HB : Hid (ls[k].a ≠ ⟨d, q⟩ → ls[k].b = ⟨d, q⟩ → V = some ls[k].a) := Lib.hid fun e e' => by rw [HK.out, HD.out]; unfold nextT; rw [if_neg e, if_pos e']
      have HC : Hid (ls[k].a ≠ ⟨d, q⟩ → ls[k].b ≠ ⟨d, q⟩ → V = nextT (ls.drop (k + 1)) ⟨d, q⟩) := Lib.hid fun e e' => by rw [HK.out, HD.out]; show (if _ then _ else if _ then _ else _) = _; rw [if_neg e, if_neg e']
      clear HD hc
      generalize ls[k] = l at r0 r1 r2 r3 q1 q2 HA HB HC
      obtain ⟨⟨ad, ap⟩, ⟨bd, bp⟩⟩ := l
      simp only [lkA, Nat.add_zero] at r0 r1 r2 r3
      dsimp only at q1 q2 HA HB HC
      have i0 : (0 : Int) ≤ (k : Int) := by omega
      have i1 : (k : Int) < (ls.length : Int) := by omega
      have hb2 : Below w0.heap.size w0 (wr.alloc (.cells #[.int .i64 ad, .int .i64 ap, .int .i64 bd, .int .i64 bp] 67)) := hb.alloc hb.size _
      have bw1 := b0.trans (hb.mono b0.size)
      have P2 := P1.alloc (.cells #[.int .i64 ad, .int .i64 ap, .int .i64 bd, .int .i64 bp] 67)
      have R2 := R1.alloc (.cells #[.int .i64 ad, .int .i64 ap, .int .i64 bd, .int .i64 bp] 67)
      have hlt2 : w.heap.size + 1 < wr.heap.size := by omega
      have hlt3 : w.heap.size + 1 + 1 < wr.heap.size := by omega
      have hlt4 : w.heap.size + 1 + 1 ≠ wr.heap.size := by omega
      by_cases h1 : (⟨ad, ap⟩ : Pt) = ⟨d, q⟩
      · have HV2 := Lib.hid (HA.out h1)
        rw [decide_eq_true h1.symm] at q1
        unfold ptA at q1
        dsimp only at q1
        clear HA HB HC h1 q2 HK
        have y0 := (R1.cell 0).trans rfl; have y1 := (R1.cell 1).trans rfl; have z0 := R1.frozen 0; have z1 := R1.frozen 1
        go_wp2
        have Z := ((R1.set0 0 (.int .i64 bd)).set0 1 (.int .i64 bp)).alloc (.cells #[.int .i64 ad, .int .i64 ap, .int .i64 bd, .int .i64 bp] 67)
        have Y0 := Z.cell 0
        have Y1 := Z.cell 1
        refine bodyPost_ret (v := .tuple #[.agg #[.int .i64 bd, .int .i64 bp], .bool true]) ?_ rfl ⟨by rw [HV2.out]; rfl, ((bw1.setCell (p := ⟨w.heap.size + 1 + 1, 0, none⟩) (by show w.heap.size ≤ w.heap.size + 1 + 1; omega) _).setCell (p := ⟨w.heap.size + 1 + 1, 1, none⟩) (by show w.heap.size ≤ w.heap.size + 1 + 1; omega) _).alloc (by simp; omega) _⟩
        simp at Y0 Y1
        simp [results, Try.results32, go_sem, Y0, Y1]
      · rw [decide_eq_false (fun e => h1 e.symm)] at q1
        unfold ptA at q1 
        dsimp only at q1
        by_cases h2 : (⟨bd, bp⟩ : Pt) = ⟨d, q⟩
        · have HV2 := Lib.hid (HB.out h1 h2)
          rw [decide_eq_true h2.symm] at q2
          unfold ptA at q2
          dsimp only at q2
          clear HA HB HC h1 h2 HK
          have y0 := (R1.cell 0).trans rfl; have y1 := (R1.cell 1).trans rfl; have z0 := R1.frozen 0; have z1 := R1.frozen 1
          go_wp2
          have Z := ((R1.set0 0 (.int .i64 ad)).set0 1 (.int .i64 ap)).alloc (.cells #[.int .i64 ad, .int .i64 ap, .int .i64 bd, .int .i64 bp] 67)
          have Y0 := Z.cell 0
          have Y1 := Z.cell 1
          refine bodyPost_ret (v := .tuple #[.agg #[.int .i64 ad, .int .i64 ap], .bool true]) ?_ rfl ⟨by rw [HV2.out]; rfl, ((bw1.setCell (p := ⟨w.heap.size + 1 + 1, 0, none⟩) (by show w.heap.size ≤ w.heap.size + 1 + 1; omega) _).setCell (p := ⟨w.heap.size + 1 + 1, 1, none⟩) (by show w.heap.size ≤ w.heap.size + 1 + 1; omega) _).alloc (by simp; omega) _⟩
          simp at Y0 Y1
          simp [results, Try.results32, go_sem, Y0, Y1]
        · have HV2 := Lib.hid (HC.out h1 h2)
          rw [decide_eq_false (fun e => h2 e.symm)] at q2
          unfold ptA at q2
          dsimp only at q2
          clear HA HB HC h1 h2 HK
          go_wp2
          go_roundw
          case rel => exact ⟨k + 1, by go_num, by omega, HV2, hb2⟩
          case measure => simp [intOf]; omega
    · have HV2 : Hid (V = none) := Lib.hid (by rw [HK.out, List.drop_eq_nil_of_le (by omega)]; rfl)
      have hki : ¬ (k : Int) < (ls.length : Int) := by omega
      clear HK
      have bw1 := b0.trans (hb.mono b0.size)
      have y0 := (R1.cell 0).trans rfl; have y1 := (R1.cell 1).trans rfl; have z0 := R1.frozen 0; have z1 := R1.frozen 1
      go_wp2
      have Z := (R1.set0 0 (.int .i64 0)).set0 1 (.int .i64 0)
      have Y0 := Z.cell 0
      have Y1 := Z.cell 1
      refine bodyPost_ret (v := .tuple #[.agg #[.int .i64 0, .int .i64 0], .bool false]) ?_ rfl ⟨by rw [HV2.out]; rfl, (bw1.setCell (p := ⟨w.heap.size + 1 + 1, 0, none⟩) (by show w.heap.size ≤ w.heap.size + 1 + 1; omega) _).setCell (p := ⟨w.heap.size + 1 + 1, 1, none⟩) (by show w.heap.size ≤ w.heap.size + 1 + 1; omega) _⟩
      simp at Y0 Y1
      simp [results, Try.results32, go_sem, Y0, Y1]
end Go.Proofs.Ytmndgbpfophniaa
