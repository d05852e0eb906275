/- Contracts: the document's Next. -/
import Derived.Test.YtmndgbpfophniaaT1
namespace Go.Proofs.Ytmndgbpfophniaa
open Go.RowKit Go.Shelf

/-- What Next answers. -/
def nextV (o : Option Pt) : Value := .tuple #[.agg (ptA (o.getD ⟨0, 0⟩)), .bool o.isSome]
set_option maxRecDepth 100000 in
set_option maxHeartbeats 2000000 in
/-- The document's Next. -/
theorem rnext_any {vp vl : Value} (ps : List Int) (ls : List Lk) (p : Pt) (w : World) (h : IsT w vp vl ps ls) : Calls Try.prog 18 #[.agg #[vp, vl], .agg (ptA p)] w fun e w' => e = .returned (nextV (nextT ls p)) ∧ Below w.heap.size w w' := by
  obtain ⟨⟨A1, c1, rfl, n1, m1, _⟩, ⟨A2, c2, rfl, n2, m2, z2⟩⟩ := h
  have hL : ls.length ≤ 9223372036854775807 := Nat.le_trans n2 m2
  have hM : ps.length ≤ 9223372036854775807 := Nat.le_trans n1 m1
  obtain ⟨V, hV⟩ : ∃ V, V = nextT ls p := ⟨_, rfl⟩
  rw [← hV]
  have HV := Lib.hid hV
  clear hV
  have hpA : ptA p = #[.int .i64 p.d, .int .i64 p.p] := rfl
  have D0 := ((At.new w #[.slice A1 ps.length c1, .slice A2 ls.length c2] 25).alloc (.cells (ptA p) 34)).alloc (.cells (ptA ⟨0, 0⟩) 34)
  have P0 := (At.new1 w (.cells #[.slice A1 ps.length c1, .slice A2 ls.length c2] 25) (ptA p) 34).alloc (.cells (ptA ⟨0, 0⟩) 34)
  have R0 := At.new2 w (.cells #[.slice A1 ps.length c1, .slice A2 ls.length c2] 25) (.cells (ptA p) 34) (ptA ⟨0, 0⟩) 34
  have b0 : Below w.heap.size w (((w.alloc (.cells #[.slice A1 ps.length c1, .slice A2 ls.length c2] 25)).alloc (.cells (ptA p) 34)).alloc (.cells (ptA ⟨0, 0⟩) 34)) := (((Below.refl _ w).alloc (Nat.le_refl _) _).alloc (by simp) _).alloc (by simp; omega) _
  have HZ := Lib.hid (z2.belows b0)
  clear z2
  obtain ⟨d, q⟩ := p
  obtain ⟨w0, hw0⟩ : ∃ w0, w0 = (((w.alloc (.cells #[.slice A1 ps.length c1, .slice A2 ls.length c2] 25)).alloc (.cells #[.int .i64 d, .int .i64 q] 34)).alloc (.cells #[.int .i64 0, .int .i64 0] 34)) := ⟨_, rfl⟩
  rw [show ptA ⟨d, q⟩ = #[.int .i64 d, .int .i64 q] from rfl, show ptA ⟨0, 0⟩ = #[.int .i64 0, .int .i64 0] from rfl] at D0 P0 R0 b0 HZ
  rw [← hw0] at D0 P0 R0 b0 HZ
  unfold ptA
  dsimp only
  clear hpA
  go_enter Try.func18, Try.ntmps18
  go_wp2
  rw [← hw0]
  clear hw0
  have x0 := (D0.cell 0).trans rfl
  have x1 := (D0.cell 1).trans rfl
  have p0 := (P0.cell 0).trans rfl
  have p1 := (P0.cell 1).trans rfl
  go_loopw [6] (fun i wr => ∃ k : Nat, i = .int .i64 k ∧ k ≤ ls.length ∧ Hid (V = nextT (ls.drop k) ⟨d, q⟩) ∧ ∃ n, wr = w0.drewN n) (fun i _ => ls.length - (intOf i).toNat)
  case atStart => exact ⟨0, rfl, by omega, HV, 0, rfl⟩
  case round =>
    obtain ⟨k, rfl, hk, HK, nd, rfl⟩ := hrel
    by_cases hlt : k < ls.length
    · obtain ⟨g, o, e, hg, hc⟩ := HZ.out.at k hlt
      subst e
      have r0 := hc 0 (by decide); have r1 := hc 1 (by decide); have r2 := hc 2 (by decide); have r3 := hc 3 (by decide)
      have HD : Hid (ls.drop k = ls[k] :: ls.drop (k + 1)) := Lib.hid (List.drop_eq_getElem_cons hlt)
      have q1 := eql_pt ls[k].a ⟨d, q⟩
      have q2 := eql_pt ls[k].b ⟨d, q⟩
      have HA : Hid (ls[k].a = ⟨d, q⟩ → V = some ls[k].b) := Lib.hid fun e => by rw [HK.out, HD.out]; unfold nextT; rw [if_pos e]
      have HB : Hid (ls[k].a ≠ ⟨d, q⟩ → ls[k].b = ⟨d, q⟩ → V = some ls[k].a) := Lib.hid fun e e' => by rw [HK.out, HD.out]; unfold nextT; rw [if_neg e, if_pos e']
      have HC : Hid (ls[k].a ≠ ⟨d, q⟩ → ls[k].b ≠ ⟨d, q⟩ → V = nextT (ls.drop (k + 1)) ⟨d, q⟩) := Lib.hid fun e e' => by rw [HK.out, HD.out]; show (if _ then _ else if _ then _ else _) = _; rw [if_neg e, if_neg e']
      clear HD hc
      generalize ls[k] = l at r0 r1 r2 r3 q1 q2 HA HB HC
      obtain ⟨⟨ad, ap⟩, ⟨bd, bp⟩⟩ := l
      simp only [lkA, Nat.add_zero] at r0 r1 r2 r3
      dsimp only at q1 q2 HA HB HC
      have i0 : (0 : Int) ≤ (k : Int) := by omega
      have i1 : (k : Int) < (ls.length : Int) := by omega
      by_cases h1 : (⟨ad, ap⟩ : Pt) = ⟨d, q⟩
      · have HV2 := Lib.hid (HA.out h1)
        rw [decide_eq_true h1] at q1
        unfold ptA at q1
        dsimp only at q1
        clear HA HB HC h1 q2 HK
        go_wp2_with fail
        go_quiet (fail)
        have y0 := (R0.cell 0).trans rfl; have y1 := (R0.cell 1).trans rfl; have z0 := R0.frozen 0; have z1 := R0.frozen 1
        go_wp2
        have Z := fun n : Nat => ((R0.drewN n).set0 0 (.int .i64 bd)).set0 1 (.int .i64 bp)
        have Y0 := fun n : Nat => (Z n).cell 0
        have Y1 := fun n : Nat => (Z n).cell 1
        refine bodyPost_ret (v := .tuple #[.agg #[.int .i64 bd, .int .i64 bp], .bool true]) ?_ rfl ⟨by rw [HV2.out]; rfl, ((bdrewN b0 _).setCell (p := ⟨w.heap.size + 1 + 1, 0, none⟩) (by show w.heap.size ≤ w.heap.size + 1 + 1; omega) _).setCell (p := ⟨w.heap.size + 1 + 1, 1, none⟩) (by show w.heap.size ≤ w.heap.size + 1 + 1; omega) _⟩
        simp at Y0 Y1
        simp [results, Try.results18, go_sem, Y0, Y1]
      · rw [decide_eq_false h1] at q1
        unfold ptA at q1 
        dsimp only at q1
        by_cases h2 : (⟨bd, bp⟩ : Pt) = ⟨d, q⟩
        · have HV2 := Lib.hid (HB.out h1 h2)
          rw [decide_eq_true h2] at q2
          unfold ptA at q2
          dsimp only at q2
          clear HA HB HC h1 h2 HK
          go_wp2_with fail
          go_quiet (fail)
          go_wp2_with fail
          go_quiet (fail)
          have y0 := (R0.cell 0).trans rfl; have y1 := (R0.cell 1).trans rfl; have z0 := R0.frozen 0; have z1 := R0.frozen 1
          go_wp2
          have Z := fun n : Nat => ((R0.drewN n).set0 0 (.int .i64 ad)).set0 1 (.int .i64 ap)
          have Y0 := fun n : Nat => (Z n).cell 0
          have Y1 := fun n : Nat => (Z n).cell 1
          refine bodyPost_ret (v := .tuple #[.agg #[.int .i64 ad, .int .i64 ap], .bool true]) ?_ rfl ⟨by rw [HV2.out]; rfl, ((bdrewN b0 _).setCell (p := ⟨w.heap.size + 1 + 1, 0, none⟩) (by show w.heap.size ≤ w.heap.size + 1 + 1; omega) _).setCell (p := ⟨w.heap.size + 1 + 1, 1, none⟩) (by show w.heap.size ≤ w.heap.size + 1 + 1; omega) _⟩
          simp at Y0 Y1
          simp [results, Try.results18, go_sem, Y0, Y1]
        · have HV2 := Lib.hid (HC.out h1 h2)
          rw [decide_eq_false h2] at q2
          unfold ptA at q2
          dsimp only at q2
          clear HA HB HC h1 h2 HK
          go_wp2_with fail
          go_quiet (fail)
          go_wp2_with fail
          go_quiet (fail)
          go_wp2
          go_roundw
          case rel => exact ⟨k + 1, by go_num, by omega, HV2, _, rfl⟩
          case measure => simp [intOf]; omega
    · have HV2 : Hid (V = none) := Lib.hid (by rw [HK.out, List.drop_eq_nil_of_le (by omega)]; rfl)
      have hki : ¬ (k : Int) < (ls.length : Int) := by omega
      clear HK
      have y0 := (R0.cell 0).trans rfl; have y1 := (R0.cell 1).trans rfl; have z0 := R0.frozen 0; have z1 := R0.frozen 1
      go_wp2
      have Z := fun n : Nat => ((R0.drewN n).set0 0 (.int .i64 0)).set0 1 (.int .i64 0)
      have Y0 := fun n : Nat => (Z n).cell 0
      have Y1 := fun n : Nat => (Z n).cell 1
      refine bodyPost_ret (v := .tuple #[.agg #[.int .i64 0, .int .i64 0], .bool false]) ?_ rfl ⟨by rw [HV2.out]; rfl, ((bdrewN b0 _).setCell (p := ⟨w.heap.size + 1 + 1, 0, none⟩) (by show w.heap.size ≤ w.heap.size + 1 + 1; omega) _).setCell (p := ⟨w.heap.size + 1 + 1, 1, none⟩) (by show w.heap.size ≤ w.heap.size + 1 + 1; omega) _⟩
      simp at Y0 Y1
      simp [results, Try.results18, go_sem, Y0, Y1]
end Go.Proofs.Ytmndgbpfophniaa
