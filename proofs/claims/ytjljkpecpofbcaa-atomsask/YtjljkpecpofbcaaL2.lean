/- AtomsAsk, walked. -/
import Derived.Test.YtjljkpecpofbcaaS2
namespace Go.Proofs.Ytjljkpecpofbcaa
open Go.RowKit Go.Shelf

/-- What Within answers: of a range, whether it is there. -/
theorem within_pack (L : List (Nat × Nat)) (f t : Nat) (hf : f < 4294967296) (ht : t < 4294967296) : ∃ (x y : Int) (b : Bool), b = decide (0 < L.count (f, t)) ∧ (b = false → x = 0 ∧ y = 0) ∧ (b = true → x = (ofL (bnds L) f : Int) ∧ y = (ofL (bnds L) t : Int) + 1) ∧
    ∀ (v : Value) (W : World), IsTab0 W v L → Calls Try.prog 21 #[v, .agg #[.int .u32 f, .int .u32 t]] W fun e w' => e = .returned (.tuple #[.int .i64 x, .int .i64 y, .bool b]) ∧ Below W.heap.size W w' := by
  by_cases h : (f, t) ∈ L
  · exact ⟨_, _, true, by simp [List.count_pos_iff, h], fun e => (by cases e), fun _ => ⟨rfl, rfl⟩, fun v W hv => within_ok L f t W hv h⟩
  · exact ⟨0, 0, false, by simp [List.count_eq_zero_of_not_mem h], fun _ => ⟨rfl, rfl⟩, fun e => (by cases e), fun v W hv => within_no L f t W hf ht hv h⟩
/-- What Atom answers: whether there is one. -/
theorem atom_pack (L : List (Nat × Nat)) (i : Int) : ∃ (x y : Int), ∀ (v : Value) (W : World), IsTab0 W v L → Calls Try.prog 22 #[v, .int .i64 i] W fun e w' => e = .returned (.tuple #[.agg #[.int .u32 x, .int .u32 y], .bool (decide (0 ≤ i) && decide (i < ((bnds L).length : Int)))]) ∧ Below W.heap.size W w' := by
  by_cases h : 0 ≤ i ∧ i < (bnds L).length
  · refine ⟨(frm (bnds L) i.toNat : Nat), (too (bnds L) i.toNat : Nat), fun v W hv => ?_⟩
    rw [show (decide (0 ≤ i) && decide (i < ((bnds L).length : Int))) = true by simp; exact h]
    have := atom_ok L i.toNat W hv (by omega)
    rw [show ((i.toNat : Nat) : Int) = i by omega] at this
    exact this
  · refine ⟨0, 0, fun v W hv => ?_⟩
    rw [show (decide (0 ≤ i) && decide (i < ((bnds L).length : Int))) = false by rw [Bool.and_eq_false_iff]; simp; omega]
    exact atom_no L i W hv h
set_option maxRecDepth 100000 in
set_option maxHeartbeats 4000000 in
theorem atomsAsk_walk {v : Value} (S : List ActT) (a : Nat) (i : Int) (w : World) (ha : a < 4294967296) (hs : IsS w v S) : Calls Try.prog 4 #[v, .int .u32 a, .int .i64 i] w fun e w' => e = .returned (.bool true) ∧ Below w.heap.size w w' := by
  obtain ⟨A, c, rfl, n1, m1, z1⟩ := hs
  simp only [maxLen] at m1
  have HS : Hid (∀ W, Below w.heap.size w W → Ss W A S) := Lib.hid fun W hW => z1.belows hW
  clear z1
  go_enter Try.func4, Try.ntmps4
  go_wp2_with fail
  refine (new_any w).mono ?_
  rintro e w1 ⟨v1, rfl, t1, b1⟩
  obtain ⟨B1, rfl⟩ := t1.ptr
  have HD0 := Lib.hid (hd_new t1)
  have HB0 := Lib.hid (b1.alloc b1.size (.cells #[.pointer (some ⟨B1, 0, none⟩), .slice none 0 0] 28))
  have hbs := b1.size
  clear t1 b1
  go_upto_block 0 with (fail)
  go_cut [8] (fun _ wc => Hid (∃ L, L.length ≤ 60 ∧ Hd wc w1.heap.size L ∧ Below w.heap.size w wc))
  case first =>
    go_wp2_with fail
    go_loopw [8] (fun i wr => ∃ j : Nat, i = .int .i64 j ∧ j ≤ S.length ∧ j ≤ 60 ∧ Hid (∃ L, L.length ≤ j ∧ Hd wr w1.heap.size L ∧ Below w.heap.size w wr)) (fun i _ => 60 - (intOf i).toNat)
    case atStart => exact ⟨0, rfl, by omega, by omega, Lib.hid ⟨[], by simp, HD0.out, HB0.out⟩⟩
    case round =>
      obtain ⟨j, rfl, hj, hj2, HI⟩ := hrel
      obtain ⟨L, hLj, hd, hb⟩ := HI.out
      have HB := Lib.hid hb
      clear HI HD0 HB0
      by_cases hlt : j < S.length ∧ j < 60
      · obtain ⟨hl, h60⟩ := hlt
        obtain ⟨g, o, eA, hg, hc⟩ := HS.out _ HB.out (by omega)
        subst eA
        obtain ⟨⟨q0, q1, q2⟩, hu1, hu2⟩ := hc j hl
        clear hc hg hb
        generalize S[j] = a at q0 q1 q2 hu1 hu2
        obtain ⟨d, f, t⟩ := a
        simp only at q0 q1 q2 hu1 hu2
        have i1 : (j : Int) < (S.length : Int) := by omega
        go_wp2_with fail
        refine (do_any w1.heap.size d f t L wr hu1 hu2 hd).mono ?_
        rintro e w2 ⟨rfl, h2, g2⟩
        have HB2 := Lib.hid (below_grown HB.out g2 hbs)
        have hL2 := actL_len L d (f, t)
        have HH2 := Lib.hid h2
        clear q0 q1 q2 hd g2 HB h2
        go_wp2
        go_roundw
        case rel => exact ⟨j + 1, by go_num, by omega, by omega, Lib.hid ⟨_, by omega, HH2.out, HB2.out⟩⟩
        case measure => simp [intOf]; omega
      · have hways : (decide ((j : Int) < (S.length : Int)) = true ∧ decide (j < S.length) = true ∧ decide ((j : Int) < 60) = false) ∨ (decide ((j : Int) < (S.length : Int)) = false ∧ decide (j < S.length) = false ∧ decide ((j : Int) < 60) = decide ((j : Int) < 60)) := by
          by_cases hl : j < S.length
          · left; have : ¬ j < 60 := fun e => hlt ⟨hl, e⟩; simp; omega
          · right; simp; omega
        have HF := Lib.hid (And.intro hd hb)
        clear hlt hb hd
        rcases hways with ⟨dl, dl', d60⟩ | ⟨dl, dl', d60⟩
        all_goals (
          go_wp2_with fail
          go_meet
          exact Lib.hid ⟨L, by omega, HF.out.1, HF.out.2⟩)
  case rest =>
    obtain ⟨L, hL60, hd, hb⟩ := hcut.out
    have HB := Lib.hid hb
    clear hcut HD0 HB0 hb
    have hRL := hd.rl
    obtain ⟨B2, A2, n2, c2, hA2, ht2, hz2, hy2⟩ := hd
    obtain ⟨w2, ew⟩ : ∃ w2, wc = w2 := ⟨_, rfl⟩
    rw [ew] at HB hA2 ht2 hz2 hy2 ⊢
    clear ew
    have HT : Hid (∀ W, Below w2.heap.size w2 W → IsTab W (.pointer (some ⟨B2, 0, none⟩)) L) := Lib.hid fun W hW => ht2.belows hW
    have HP : Hid (∀ W, Below w2.heap.size w2 W → IsZ W (.slice A2 n2 c2) L) := Lib.hid fun W hW => hz2.belows hW
    have KS : Hid (∀ W, Below w2.heap.size w2 W → W.cell? ⟨w1.heap.size, 0, none⟩ = some (.pointer (some ⟨B2, 0, none⟩)) ∧ W.cell? ⟨w1.heap.size, 1, none⟩ = some (.slice A2 n2 c2)) := Lib.hid fun W hW => ⟨((hA2.belows hW).cell 0).trans rfl, ((hA2.belows hW).cell 1).trans rfl⟩
    have HRL := Lib.hid hRL
    clear hA2 ht2 hz2 hy2 hRL
    obtain ⟨q0, q1⟩ := KS.out w2 (Below.refl _ _)
    have hat := ratoms_any L w2 HRL.out (HP.out w2 (Below.refl _ _))
    have hlen : (bnds L).length ≤ 4294967296 := by
      rcases rising_len (bnds_rise L) with h | h
      · omega
      · rw [h]; simp
    go_wp2_with fail
    refine hat.mono ?_
    rintro e w3 ⟨v3, rfl, hz3, b3⟩
    clear hat q0 q1
    have hof : ∀ x : Nat, x < 4294967296 → ∀ W, Below w3.heap.size w3 W → Calls Try.prog 19 #[.pointer (some ⟨B2, 0, none⟩), .int .u32 x] W fun e w' => e = .returned (.int .i64 (ofL (bnds L) x : Int)) ∧ Below W.heap.size W w' := fun x hx W hW => of_any L x W hx (HT.out W (b3.trans (hW.mono b3.size))).any
    have hrof : ∀ x : Nat, x < 4294967296 → ∀ W, Below w3.heap.size w3 W → Calls Try.prog 20 #[v3, .int .u32 x] W fun e w' => e = .returned (.int .i64 (ofL (bnds L) x : Int)) ∧ Below W.heap.size W w' := fun x hx W hW => by
      have := rof_any (atomsL (bnds L)) x W (hz3.belows hW)
      rwa [ofDoc_atoms (bd_of L) hx] at this
    have hlo : ∀ x, ofL (bnds L) x < (bnds L).length := fun x => (bd_of L).of_le x
    have HWI : Hid (∀ f t : Nat, f < 4294967296 → t < 4294967296 → ∃ (x y : Int) (b : Bool), b = decide (0 < L.count (f, t)) ∧ (b = false → x = 0 ∧ y = 0) ∧ (b = true → x = (ofL (bnds L) f : Int) ∧ y = (ofL (bnds L) t : Int) + 1) ∧
      ∀ (W : World), Below w3.heap.size w3 W → Calls Try.prog 21 #[.pointer (some ⟨B2, 0, none⟩), .agg #[.int .u32 f, .int .u32 t]] W fun e w' => e = .returned (.tuple #[.int .i64 x, .int .i64 y, .bool b]) ∧ Below W.heap.size W w') := Lib.hid fun f t hf ht => by
      obtain ⟨x, y, b, h1, h2, h3, h4⟩ := within_pack L f t hf ht
      exact ⟨x, y, b, h1, h2, h3, fun W hW => h4 _ W (HT.out W (b3.trans (hW.mono b3.size))).any⟩
    obtain ⟨ax, ay, hap⟩ := atom_pack L i
    have hap' : ∀ W, Below w3.heap.size w3 W → Calls Try.prog 22 #[.pointer (some ⟨B2, 0, none⟩), .int .i64 i] W fun e w' => e = .returned (.tuple #[.agg #[.int .u32 ax, .int .u32 ay], .bool (decide (0 ≤ i) && decide (i < ((bnds L).length : Int)))]) ∧ Below W.heap.size W w' := fun W hW => hap _ W (HT.out W (b3.trans (hW.mono b3.size))).any
    have hlm := atomsL_len (bnds L)
    obtain ⟨A3, c3, rfl, n3, m3, z3⟩ := hz3
    rw [hlm] at hrof ⊢
    generalize bnds L = C at *
    generalize ofL C = o at *
    have HOF := Lib.hid hof
    have HROF := Lib.hid hrof
    have HAP := Lib.hid hap'
    have HLO := Lib.hid hlo
    have HB3 := Lib.hid b3
    have KS3 : Hid (∀ W, Below w3.heap.size w3 W → W.cell? ⟨w1.heap.size, 0, none⟩ = some (.pointer (some ⟨B2, 0, none⟩)) ∧ W.cell? ⟨w1.heap.size, 1, none⟩ = some (.slice A2 n2 c2)) := Lib.hid fun W hW => KS.out W (b3.trans (hW.mono b3.size))
    have HBS : Hid (Below w.heap.size w w3) := Lib.hid (HB.out.trans (b3.mono HB.out.size))
    have HRC : Hid (∀ f t : Nat, ∀ W, Below w3.heap.size w3 W → Calls Try.prog 13 #[.slice A2 n2 c2, .agg #[.int .u32 f, .int .u32 t]] W fun e w' => e = .returned (.int .i64 (L.count (f, t) : Int)) ∧ Below W.heap.size W w') := Lib.hid fun f t W hW => rcount_any L f t W (HP.out W (b3.trans (hW.mono b3.size)))
    clear hof hrof hap hap' hlo hlm b3 z3 n3 m3
    obtain ⟨q0, q1⟩ := KS3.out w3 (Below.refl _ _)
    go_wp2_with fail
    refine (HOF.out a ha w3 (Below.refl _ _)).mono ?_
    rintro e w4 ⟨rfl, b4⟩
    go_wp2_with fail
    refine (HROF.out a ha w4 b4).mono ?_
    rintro e w5 ⟨rfl, b5⟩
    have b35 := b4.trans (b5.mono b4.size)
    have HB35 := Lib.hid b35
    have dn : ∀ n : Nat, ((n : Int) != (n : Int)) = false := fun n => by simp
    clear q0 q1 b4 b5 b35
    go_upto_block 2 with (fail)
    go_cut [10] (fun _ wc => Hid (Below w3.heap.size w3 wc))
    case first =>
      go_wp2_with fail
      go_loopw [10] (fun k wr => ∃ j : Nat, k = .int .i64 j ∧ j ≤ S.length ∧ j ≤ 60 ∧ Hid (Below w3.heap.size w3 wr)) (fun k _ => 60 - (intOf k).toNat)
      case atStart => exact ⟨0, rfl, by omega, by omega, HB35⟩
      case round =>
        obtain ⟨j, rfl, hj, hj2, HI⟩ := hrel
        by_cases hlt : j < S.length ∧ j < 60
        · obtain ⟨hl, h60⟩ := hlt
          obtain ⟨g, oo, eA, hg, hc⟩ := HS.out _ (HBS.out.trans (HI.out.mono HBS.out.size)) (by omega)
          subst eA
          obtain ⟨⟨_, q1, q2⟩, hu1, hu2⟩ := hc j hl
          clear hc hg
          generalize S[j] = act at q1 q2 hu1 hu2
          obtain ⟨d, f, t⟩ := act
          simp only at q1 q2 hu1 hu2
          have i1 : (j : Int) < (S.length : Int) := by omega
          have i0 : (0 : Int) ≤ (j : Int) := by omega
          obtain ⟨wx, wy, bv, hbv, hb0, hb1, hwi⟩ := HWI.out f t hu1 hu2
          have HWC := Lib.hid hwi
          have hlf := HLO.out f
          have hlt' := HLO.out t
          have hof1 := HROF.out f hu1
          have hof2 := HROF.out t hu2
          have hrc := HRC.out f t
          clear hwi
          have HRCC := Lib.hid hrc
          have HO1 := Lib.hid hof1
          have HO2 := Lib.hid hof2
          clear hrc hof1 hof2
          go_wp2_with fail
          obtain ⟨W4, hW4⟩ : ∃ W4, wr.alloc (.cells #[.int .u32 f, .int .u32 t] 32) = W4 := ⟨_, rfl⟩
          have A4 : At W4 wr.heap.size #[.int .u32 f, .int .u32 t] 32 := hW4 ▸ At.new wr _ _
          have b34 : Below w3.heap.size w3 W4 := hW4 ▸ HI.out.alloc HI.out.size _
          rw [hW4]
          have KS4 : Hid (∀ W, Below W4.heap.size W4 W → W.cell? ⟨w1.heap.size, 0, none⟩ = some (.pointer (some ⟨B2, 0, none⟩)) ∧ W.cell? ⟨w1.heap.size, 1, none⟩ = some (.slice A2 n2 c2) ∧ W.cell? ⟨wr.heap.size, 0, none⟩ = some (.int .u32 f) ∧ W.cell? ⟨wr.heap.size, 1, none⟩ = some (.int .u32 t)) := Lib.hid fun W hW => by
            obtain ⟨x0, x1⟩ := KS3.out W (b34.trans (hW.mono b34.size))
            exact ⟨x0, x1, ((A4.belows hW).cell 0).trans rfl, ((A4.belows hW).cell 1).trans rfl⟩
          clear hW4 A4 q1 q2
          cases bv with
          | true =>
            obtain ⟨rfl, rfl⟩ := hb1 rfl
            have hpos : 0 < L.count (f, t) := of_decide_eq_true hbv.symm
            have dg : decide ((0 : Int) < ((L.count (f, t) : Nat) : Int)) = true := decide_eq_true (by omega)
            have dg' : decide (0 < L.count (f, t)) = true := decide_eq_true hpos
            clear hb0 hb1 hbv
            generalize L.count (f, t) = n at *
            obtain ⟨p0, p1, p2, p3⟩ := KS4.out W4 (Below.refl _ _)
            have hb1 := Below.refl W4.heap.size W4
            go_region_held3 (fun W => W.cell? ⟨w1.heap.size, 0, none⟩ = some (.pointer (some ⟨B2, 0, none⟩)) ∧ W.cell? ⟨w1.heap.size, 1, none⟩ = some (.slice A2 n2 c2) ∧ W.cell? ⟨wr.heap.size, 0, none⟩ = some (.int .u32 f) ∧ W.cell? ⟨wr.heap.size, 1, none⟩ = some (.int .u32 t)) (first | exact KS4.out _ bb5 | exact KS4.out _ hb1.drew | exact KS4.out _ hb1) (first
              | (go_at_call 21; refine (HWC.out _ (b34.trans ((show Below W4.heap.size W4 _ by first | exact hb1.drew | exact hb1).mono b34.size))).mono ?_; rintro e w5 ⟨rfl, b5⟩; have bb5 : Below W4.heap.size W4 w5 := (by first | exact b5 | exact hb1.drew.trans (b5.mono hb1.size))))
            rename_i hHeld
            clear hHeld p0 p1 p2 p3 hb1 b5
            have HB5 := Lib.hid bb5
            have kr : ∀ x : Sub w5, Calls Try.prog 13 #[.slice A2 n2 c2, .agg #[.int .u32 f, .int .u32 t]] x.u fun e w' => e = .returned (.int .i64 ((n : Int))) ∧ Below x.u.heap.size x.u w' := fun x => HRCC.out x.u (b34.trans ((bb5.trans (x.h.mono bb5.size)).mono b34.size))
            have s1 : ∀ x : Sub w5, x.u.cell? ⟨w1.heap.size, 1, none⟩ = some (.slice A2 n2 c2) := fun x => (KS4.out x.u (bb5.trans (x.h.mono bb5.size))).2.1
            have s2 : ∀ x : Sub w5, x.u.cell? ⟨wr.heap.size, 0, none⟩ = some (.int .u32 f) := fun x => (KS4.out x.u (bb5.trans (x.h.mono bb5.size))).2.2.1
            have s3 : ∀ x : Sub w5, x.u.cell? ⟨wr.heap.size, 1, none⟩ = some (.int .u32 t) := fun x => (KS4.out x.u (bb5.trans (x.h.mono bb5.size))).2.2.2
            clear bb5
            go_wp2_with fail
            refine wp_region_cls (by kernel_rfl) (by kernel_rfl) ?_
            repeat (go_big_quiet_step ((go_at_call 13; exact Calls.cls_of (kr _))))
            refine wpQuiet_nil ?_
            rintro w6 ⟨x6, hx⟩
            have b6 := x6.h
            rw [← hx] at b6
            clear hx x6 kr s1 s2 s3
            have b46 := HB5.out.trans (b6.mono HB5.out.size)
            have b36 := b34.trans (b46.mono b34.size)
            obtain ⟨_, _, p2, p3⟩ := KS4.out w6 b46
            go_wp2_with fail
            refine (HO1.out w6 b36).mono ?_
            rintro e w7 ⟨rfl, b7⟩
            have b47 := b46.trans (b7.mono b46.size)
            have b37 := b36.trans (b7.mono b36.size)
            obtain ⟨_, _, p2, p3⟩ := KS4.out w7 b47
            clear b36 b46 b6 b7
            go_wp2_with fail
            refine (HO2.out w7 b37).mono ?_
            rintro e w8 ⟨rfl, b8⟩
            have b38 := b37.trans (b8.mono b37.size)
            have j1 : IntKind.i64.wrap ((o t : Int) + 1) = (o t : Int) + 1 := IntWalk.i64_in _ (by omega)
            have dn1 := dn (o f)
            have dn2 : (((o t : Nat) : Int) + 1 != ((o t : Nat) : Int) + 1) = false := by simp
            go_wp2
            go_roundw
            case rel => exact ⟨j + 1, by go_num, by omega, by omega, Lib.hid b38⟩
            case measure => simp [intOf]; omega
          | false =>
            obtain ⟨rfl, rfl⟩ := hb0 rfl
            have hzero : L.count (f, t) = 0 := by have := of_decide_eq_false hbv.symm; omega
            rw [hzero] at HRCC
            clear hb0 hb1 hbv
            obtain ⟨p0, p1, p2, p3⟩ := KS4.out W4 (Below.refl _ _)
            have hb1 := Below.refl W4.heap.size W4
            go_region_held3 (fun W => W.cell? ⟨w1.heap.size, 0, none⟩ = some (.pointer (some ⟨B2, 0, none⟩)) ∧ W.cell? ⟨w1.heap.size, 1, none⟩ = some (.slice A2 n2 c2) ∧ W.cell? ⟨wr.heap.size, 0, none⟩ = some (.int .u32 f) ∧ W.cell? ⟨wr.heap.size, 1, none⟩ = some (.int .u32 t)) (first | exact KS4.out _ bb5 | exact KS4.out _ hb1.drew | exact KS4.out _ hb1) (first
              | (go_at_call 21; refine (HWC.out _ (b34.trans ((show Below W4.heap.size W4 _ by first | exact hb1.drew | exact hb1).mono b34.size))).mono ?_; rintro e w5 ⟨rfl, b5⟩; have bb5 : Below W4.heap.size W4 w5 := (by first | exact b5 | exact hb1.drew.trans (b5.mono hb1.size))))
            rename_i hHeld
            clear hHeld p0 p1 p2 p3 hb1 b5
            have HB5 := Lib.hid bb5
            have kr : ∀ x : Sub w5, Calls Try.prog 13 #[.slice A2 n2 c2, .agg #[.int .u32 f, .int .u32 t]] x.u fun e w' => e = .returned (.int .i64 (0)) ∧ Below x.u.heap.size x.u w' := fun x => HRCC.out x.u (b34.trans ((bb5.trans (x.h.mono bb5.size)).mono b34.size))
            have s1 : ∀ x : Sub w5, x.u.cell? ⟨w1.heap.size, 1, none⟩ = some (.slice A2 n2 c2) := fun x => (KS4.out x.u (bb5.trans (x.h.mono bb5.size))).2.1
            have s2 : ∀ x : Sub w5, x.u.cell? ⟨wr.heap.size, 0, none⟩ = some (.int .u32 f) := fun x => (KS4.out x.u (bb5.trans (x.h.mono bb5.size))).2.2.1
            have s3 : ∀ x : Sub w5, x.u.cell? ⟨wr.heap.size, 1, none⟩ = some (.int .u32 t) := fun x => (KS4.out x.u (bb5.trans (x.h.mono bb5.size))).2.2.2
            clear bb5
            go_wp2_with fail
            refine wp_region_cls (by kernel_rfl) (by kernel_rfl) ?_
            repeat (go_big_quiet_step ((go_at_call 13; exact Calls.cls_of (kr _))))
            refine wpQuiet_nil ?_
            rintro w6 ⟨x6, hx⟩
            have b6 := x6.h
            rw [← hx] at b6
            clear hx x6 kr s1 s2 s3
            have b46 := HB5.out.trans (b6.mono HB5.out.size)
            have b36 := b34.trans (b46.mono b34.size)
            obtain ⟨_, _, p2, p3⟩ := KS4.out w6 b46
            go_wp2
            go_roundw
            case rel => exact ⟨j + 1, by go_num, by omega, by omega, Lib.hid b36⟩
            case measure => simp [intOf]; omega
        · have hways : (decide ((j : Int) < (S.length : Int)) = true ∧ decide (j < S.length) = true ∧ decide ((j : Int) < 60) = false) ∨ (decide ((j : Int) < (S.length : Int)) = false ∧ decide (j < S.length) = false ∧ decide ((j : Int) < 60) = decide ((j : Int) < 60)) := by
            by_cases hl : j < S.length
            · left; have : ¬ j < 60 := fun e => hlt ⟨hl, e⟩; simp; omega
            · right; simp; omega
          clear hlt
          rcases hways with ⟨dl, dl', d60⟩ | ⟨dl, dl', d60⟩
          all_goals (
            go_wp2_with fail
            go_meet
            exact HI)
    case rest =>
      obtain ⟨w6, ew⟩ : ∃ w6, wc = w6 := ⟨_, rfl⟩
      rw [ew] at hcut ⊢
      clear ew
      obtain ⟨q0, q1⟩ := KS3.out w6 hcut.out
      go_wp2_with fail
      refine (HAP.out w6 hcut.out).mono ?_
      rintro e w7 ⟨rfl, b7⟩
      have b37 := hcut.out.trans (b7.mono hcut.out.size)
      clear q0 q1 b7
      have b37' := b37.alloc b37.size (.cells #[.int .u32 ax, .int .u32 ay] 32)
      have HBF := Lib.hid (HBS.out.trans (b37'.mono HBS.out.size))
      clear b37 b37'
      by_cases h0 : 0 ≤ i
      · have d0 : decide (0 ≤ i) = true := decide_eq_true h0
        by_cases h1 : i < (C.length : Int)
        · have d1 : decide (i < (C.length : Int)) = true := decide_eq_true h1
          rw [d0, d1]
          clear h0 h1
          go_wp2_with (go_at_call 17; refine (alive_any _).mono ?_; rintro e w8 ⟨rfl, b8⟩)
          go_ret
          exact ⟨rfl, HBF.out.trans (b8.mono HBF.out.size)⟩
        · have d1 : decide (i < (C.length : Int)) = false := decide_eq_false h1
          rw [d0, d1]
          clear h0 h1
          go_wp2_with (go_at_call 17; refine (alive_any _).mono ?_; rintro e w8 ⟨rfl, b8⟩)
          go_ret
          exact ⟨rfl, HBF.out.trans (b8.mono HBF.out.size)⟩
      · have d0 : decide (0 ≤ i) = false := decide_eq_false h0
        rw [d0, Bool.false_and]
        clear h0
        go_wp2_with (go_at_call 17; refine (alive_any _).mono ?_; rintro e w8 ⟨rfl, b8⟩)
        go_ret
        exact ⟨rfl, HBF.out.trans (b8.mono HBF.out.size)⟩
end Go.Proofs.Ytjljkpecpofbcaa
