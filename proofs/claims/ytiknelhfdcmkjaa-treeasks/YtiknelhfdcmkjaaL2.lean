/- TreeAsks, walked. -/
import Derived.Test.YtiknelhfdcmkjaaL1
import Derived.Test.YtiknelhfdcmkjaaQ1
import Derived.Deep.CutBlock
namespace Go.Proofs.Ytiknelhfdcmkjaa
open Go.RowKit

/-- A pair at a place of the document's list, read. -/
theorem isP_read {W : World} {A : Option Addr} {c : Nat} {L : List (Int × Int)} (h : IsP W (.slice A L.length c) L) {f : Nat} (hf : f < L.length) {x y : Int} (e : L[f] = (x, y)) : ∃ g o, A = some ⟨g, o, none⟩ ∧ W.cell? ⟨g, o + f * 2, none⟩ = some (.int .u64 x) ∧ W.cell? ⟨g, o + f * 2 + 1, none⟩ = some (.int .i64 y) := by
  obtain ⟨A', c', e', _, _, z⟩ := h
  injection e' with e1 e2 e3
  subst e1
  obtain ⟨g, o, ea, _, hc⟩ := z (by omega)
  have := hc f hf
  rw [e] at this
  exact ⟨g, o, ea, this.1, this.2⟩
/-- The operations of a region, found by its number. -/
def regOf (n : Nat) : Code → Option (Array Oper)
  | .region m ops _ => if m == n then some ops else none
  | .seq a b => match regOf n a with
    | some x => some x
    | none => regOf n b
  | .cond _ a b => match regOf n a with
    | some x => some x
    | none => regOf n b
  | .block _ a => regOf n a
  | .loop a => regOf n a
  | .scope a => regOf n a
  | _ => none
theorem lex_of {x : Option (Array Oper)} {o : Array Oper} (h : (x.map fun o => Region.lexB .any o) = some true) (e : x = some o) : Region.lexB .any o = true := by
  subst e
  simpa using h
theorem lex17 : ((Try.f4.body.bind (regOf 17)).map fun o => Region.lexB .any o) = some true := by kernel_rfl
set_option maxRecDepth 100000 in
set_option maxHeartbeats 16000000 in
theorem treeAsks_walk {v : Value} (S : List ActT) (k i : Int) (w : World) (hs : IsS w v S) (hi1 : -9223372036854775808 ≤ i) (hi2 : i ≤ 9223372036854775807) : Calls Try.prog 4 #[v, .int .u64 k, .int .i64 i] w fun e w' => e = .returned (.bool true) ∧ Below w.heap.size w w' := by
  obtain ⟨A, c, rfl, n1, m1, z1⟩ := hs
  simp only [maxLen] at m1
  have HS : Hid (∀ W, Below w.heap.size w W → Ss W A S) := Lib.hid fun W hW => z1.belows hW
  clear z1
  go_enter Try.func4, Try.ntmps4
  go_wp2_with fail
  refine (new_any w).mono ?_
  rintro e w1 ⟨v1, rfl, t1, b1⟩
  obtain ⟨B1, rfl⟩ := t1.ptr
  have HD0 := Lib.hid (hd_new t1)
  have HB0 := Lib.hid (b1.alloc b1.size (.cells #[.pointer (some ⟨B1, 0, none⟩), .slice none 0 0] 28))
  have hbs := b1.size
  clear t1 b1
  go_upto_block 0 with (fail)
  go_cut [8] (fun _ wc => Hid (∃ L, Hd wc w1.heap.size L ∧ Below w.heap.size w wc))
  case first =>
    go_wp2_with fail
    go_loopw [8] (fun i wr => ∃ j : Nat, i = .int .i64 j ∧ j ≤ S.length ∧ j ≤ 120 ∧ Hid (∃ L, Hd wr w1.heap.size L ∧ Below w.heap.size w wr)) (fun i _ => 120 - (intOf i).toNat)
    case atStart => exact ⟨0, rfl, by omega, by omega, Lib.hid ⟨[], HD0.out, HB0.out⟩⟩
    case round =>
      obtain ⟨j, rfl, hj, hj2, HI⟩ := hrel
      obtain ⟨L, hd, hb⟩ := HI.out
      have HB := Lib.hid hb
      clear HI HD0 HB0
      by_cases hlt : j < S.length ∧ j < 120
      · obtain ⟨hl, h120⟩ := hlt
        obtain ⟨g, o, eA, hg, hc⟩ := HS.out _ HB.out (by omega)
        subst eA
        obtain ⟨q0, q1, q2, q3⟩ := hc j hl
        clear hc hg hb
        generalize S[j] = a at q0 q1 q2 q3
        have i1 : (j : Int) < (S.length : Int) := by omega
        go_wp2_with fail
        refine (do_any w1.heap.size a.1 a.2.1 a.2.2.1 a.2.2.2 L wr hd).mono ?_
        rintro e w2 ⟨rfl, L2, h2, g2⟩
        have HB2 := Lib.hid (below_grown HB.out g2 hbs)
        have HH2 := Lib.hid h2
        clear q0 q1 q2 q3 hd g2 HB h2
        go_wp2
        go_roundw
        case rel => exact ⟨j + 1, by go_num, by omega, by omega, Lib.hid ⟨L2, HH2.out, HB2.out⟩⟩
        case measure => simp [intOf]; omega
      · have hways : (decide ((j : Int) < (S.length : Int)) = true ∧ decide (j < S.length) = true ∧ decide ((j : Int) < 120) = false) ∨ (decide ((j : Int) < (S.length : Int)) = false ∧ decide (j < S.length) = false ∧ decide ((j : Int) < 120) = decide ((j : Int) < 120)) := by
          by_cases hl : j < S.length
          · left; have : ¬ j < 120 := fun e => hlt ⟨hl, e⟩; simp; omega
          · right; simp; omega
        have HF := Lib.hid (And.intro hd hb)
        clear hlt hb hd
        rcases hways with ⟨dl, dl', d120⟩ | ⟨dl, dl', d120⟩
        all_goals (
          go_wp2_with fail
          go_meet
          exact Lib.hid ⟨L, HF.out.1, HF.out.2⟩)
  case rest =>
      obtain ⟨L, hd, hb⟩ := hcut.out
      have HB := Lib.hid hb
      clear hcut HD0 HB0 hb
      obtain ⟨B2, A2, n2, c2, hA2, ht2, hp2⟩ := hd
      obtain rfl := hp2.len
      have hup := Lib.hid ht2.any.up
      obtain ⟨w2, ew⟩ : ∃ w2, wc = w2 := ⟨_, rfl⟩
      rw [ew] at HB hA2 ht2 hp2 ⊢
      clear ew
      have HP : Hid (∀ W, Below w2.heap.size w2 W → IsP W (.slice A2 L.length c2) L) := Lib.hid fun W hW => hp2.belows hW
      have HA : Hid (∀ W, Below w2.heap.size w2 W → At W w1.heap.size #[.pointer (some ⟨B2, 0, none⟩), .slice A2 L.length c2] 28) := Lib.hid fun W hW => hA2.belows hW
      obtain ⟨gx, gb, hget⟩ := get_pack (getL L k)
      obtain ⟨fk, fv, fa, pf, dfa, hfa⟩ := pack_of (floor_spec (k := k) hup.out.1)
      obtain ⟨ck, cv, ca, pc, dca, hca⟩ := pack_of (ceil_spec (k := k) hup.out.1)
      obtain ⟨rk, rv, ra, pr, dra, dra', hra⟩ := at_pack L i
      have HG : Hid (∀ W, Below w2.heap.size w2 W → Calls Try.prog 15 #[.pointer (some ⟨B2, 0, none⟩), .int .u64 k] W fun e w' => e = .returned (.tuple #[.int .i64 gx, .bool gb]) ∧ Below W.heap.size W w') := Lib.hid fun W hW => by rw [← hget]; exact get_any L k W (ht2.belows hW).any
      have HG2 : Hid (∀ W, Below w2.heap.size w2 W → Calls Try.prog 16 #[.slice A2 L.length c2, .int .u64 k] W fun e w' => e = .returned (.tuple #[.int .i64 gx, .bool gb]) ∧ Below W.heap.size W w') := Lib.hid fun W hW => by rw [← hget]; exact rget_any L k W hup.out.1 (hp2.belows hW)
      have HF : Hid (∀ W, Below w2.heap.size w2 W → Calls Try.prog 17 #[.pointer (some ⟨B2, 0, none⟩), .int .u64 k] W fun e w' => e = .returned (.tuple #[.agg #[.int .u64 fk, .int .i64 fv], .bool fa]) ∧ Below W.heap.size W w') := Lib.hid fun W hW => by rw [← pf]; exact Floor_any L k W (ht2.belows hW).any
      have HC : Hid (∀ W, Below w2.heap.size w2 W → Calls Try.prog 18 #[.pointer (some ⟨B2, 0, none⟩), .int .u64 k] W fun e w' => e = .returned (.tuple #[.agg #[.int .u64 ck, .int .i64 cv], .bool ca]) ∧ Below W.heap.size W w') := Lib.hid fun W hW => by rw [← pc]; exact Ceil_any L k W (ht2.belows hW).any
      have HR : Hid (∀ W, Below w2.heap.size w2 W → Calls Try.prog 19 #[.pointer (some ⟨B2, 0, none⟩), .int .i64 i] W fun e w' => e = .returned (.tuple #[.agg #[.int .u64 rk, .int .i64 rv], .bool ra]) ∧ Below W.heap.size W w') := Lib.hid fun W hW => by rw [← pr]; exact At_any L i W (ht2.belows hW).any hi1 hi2
      have HF2 : Hid (∀ W, Below w2.heap.size w2 W → Calls Try.prog 20 #[.slice A2 L.length c2, .int .u64 k] W fun e w' => e = .returned (.int .i64 (floorI L k)) ∧ Below W.heap.size W w') := Lib.hid fun W hW => rfloor_any L k W hup.out.1 (hp2.belows hW)
      have HC2 : Hid (∀ W, Below w2.heap.size w2 W → Calls Try.prog 21 #[.slice A2 L.length c2, .int .u64 k] W fun e w' => e = .returned (.int .i64 (ceilI L k)) ∧ Below W.heap.size W w') := Lib.hid fun W hW => rceil_any L k W hup.out.1 (hp2.belows hW)
      clear hget pf pc pr ht2 hp2 hA2
      generalize floorI L k = fi at HF2 dfa hfa
      generalize ceilI L k = ci at HC2 dca hca
      have hlen := hup.out.2
      have hb2 := Below.refl w2.heap.size w2
      have q0 := ((HA.out _ hb2).cell 0).trans rfl
      have dg : (gx != gx) = false := by simp
      have dg2 : (gb != gb) = false := by cases gb <;> rfl
      all_goals (
        go_wp2_with fail
        refine (HG.out _ hb2).mono ?_
        rintro e w3 ⟨rfl, b3⟩
        clear q0
        have bb3 := hb2.trans (b3.mono hb2.size)
        have q1 := ((HA.out _ bb3).cell 1).trans rfl
        clear hb2 b3
        go_wp2_with fail
        refine (HG2.out _ bb3).mono ?_
        rintro e w4 ⟨rfl, b4⟩
        have bb4 := bb3.trans (b4.mono bb3.size)
        have q0 := ((HA.out _ bb4).cell 0).trans rfl
        clear q1 b4 bb3
        go_wp2_with fail
        refine (HF.out _ bb4).mono ?_
        rintro e w5 ⟨rfl, b5⟩
        have bb5 := (bb4.trans (b5.mono bb4.size)).alloc (bb4.trans (b5.mono bb4.size)).size (.cells #[.int .u64 fk, .int .i64 fv] 42)
        have A5 := At.new w5 #[.int .u64 fk, .int .i64 fv] 42
        have q6 := ((HA.out _ bb5).cell 0).trans rfl
        clear q0 b5 bb4 dg dg2
        go_wp2_with fail
        generalize w5.alloc (.cells #[.int .u64 fk, .int .i64 fv] 42) = w6 at bb5 A5 q6 ⊢
        refine (HC.out _ bb5).mono ?_
        rintro e w7 ⟨rfl, b7⟩
        have b7' : Below w6.heap.size w6 (w7.alloc (.cells #[.int .u64 ck, .int .i64 cv] 42)) := b7.alloc b7.size _
        have bb7 := bb5.trans (b7'.mono bb5.size)
        have A7 := At.new w7 #[.int .u64 ck, .int .i64 cv] 42
        have A5 := A5.belows b7'
        have q0 := ((HA.out _ bb7).cell 0).trans rfl
        clear q6 b7 b7' bb5
        go_wp2_with fail
        generalize w7.alloc (.cells #[.int .u64 ck, .int .i64 cv] 42) = w8 at bb7 A5 A7 q0 ⊢
        refine (HR.out _ bb7).mono ?_
        rintro e w9 ⟨rfl, b9⟩
        have b9' : Below w8.heap.size w8 (w9.alloc (.cells #[.int .u64 rk, .int .i64 rv] 42)) := b9.alloc b9.size _
        have bb9 := bb7.trans (b9'.mono bb7.size)
        have A9 := At.new w9 #[.int .u64 rk, .int .i64 rv] 42
        have A5 := A5.belows b9'
        have A7 := A7.belows b9'
        have q1 := ((HA.out _ bb9).cell 1).trans rfl
        clear q0 b9 b9' bb7
        go_wp2_with fail
        generalize w9.alloc (.cells #[.int .u64 rk, .int .i64 rv] 42) = w10 at bb9 A5 A7 A9 q1 ⊢
        refine (HF2.out _ bb9).mono ?_
        rintro e w11 ⟨rfl, b11⟩
        have bb11 := bb9.trans (b11.mono bb9.size)
        have A5 := A5.belows b11
        have A7 := A7.belows b11
        have A9 := A9.belows b11
        have q2 := ((HA.out _ bb11).cell 1).trans rfl
        clear q1 b11 bb9
        go_wp2_with fail
        refine (HC2.out _ bb11).mono ?_
        rintro e w12 ⟨rfl, b12⟩
        have bb12 := bb11.trans (b12.mono bb11.size)
        have A5 := A5.belows b12
        have A7 := A7.belows b12
        have A9 := A9.belows b12
        have q1 := ((HA.out _ bb12).cell 1).trans rfl
        have k0 := (A5.cell 0).trans rfl
        have k1 := (A5.cell 1).trans rfl
        have k2 := (A7.cell 0).trans rfl
        have k3 := (A7.cell 1).trans rfl
        have k4 := (A9.cell 0).trans rfl
        have k5 := (A9.cell 1).trans rfl
        have HPP := HP.out _ bb12
        have HBB := Lib.hid bb12
        have hdf : (fa != fa) = false := by cases fa <;> rfl
        have hdc : (ca != ca) = false := by cases ca <;> rfl
        have hdr : (ra != ra) = false := by cases ra <;> rfl
        have HAL : Hid (∀ W, Below w2.heap.size w2 W → Calls Try.prog 14 #[] W fun e w' => e = .returned (.bool true) ∧ Below w.heap.size w w') := Lib.hid fun W hW => (alive_any W).mono fun e w' h => ⟨h.1, (HB.out.trans (hW.mono HB.out.size)).trans (h.2.mono (HB.out.trans (hW.mono HB.out.size)).size)⟩
        clear q2 b12 bb11 bb12 A5 A7 A9 HA HP HG HG2 HF HC HR HF2 HC2 HB
        go_upto_region 15 with (fail)
        go_cut [129] (fun r wc => r = .bool false ∧ w12 = wc)
        case first =>
          rcases (show (0 ≤ i) ∨ (ra = false ∧ ¬ 0 ≤ i) by by_cases h : 0 ≤ i; exact .inl h; exact .inr ⟨dra' (by omega), h⟩) with hpos | ⟨rfl, hneg⟩
          · have dpos : decide (0 ≤ i) = true := by simpa using hpos
            have dlt := dra hpos
            clear hra dra dra' hpos hfa hca HPP
            go_wp2_with fail
            go_meet
            exact ⟨rfl, rfl⟩
          · have dneg : decide (0 ≤ i) = false := by simpa using hneg
            clear hra dra dra' hneg hfa hca HPP
            go_wp2_with fail
            go_meet
            exact ⟨rfl, rfl⟩
        case rest =>
          obtain ⟨rfl, rfl⟩ := hcut
          clear dra dra' hdf hdc hdr
          go_wp2_with fail
          dsimp only [List.append]
          refine wp_region_quiet_lit (by kernel_rfl) (lex_of lex17 (by kernel_rfl)) ?_
          rcases Bool.eq_false_or_eq_true ra with rfl | rfl <;> rcases Bool.eq_false_or_eq_true fa with rfl | rfl <;> rcases Bool.eq_false_or_eq_true ca with rfl | rfl
          · have HPQ := HPP
            obtain ⟨fr, rfl, hfr, efr⟩ := hra rfl
            obtain ⟨gfr, ofr, eAfr, y4, y5⟩ := isP_read HPQ hfr efr
            subst eAfr
            have ifr : (fr : Int) < (L.length : Int) := by omega
            have zfr0 : (rk != rk) = false := by simp
            have zfr1 : (rv != rv) = false := by simp
            obtain ⟨f0, rfl, hf0, ef0⟩ := hfa rfl
            obtain ⟨gf0, of0, eAf0, y0, y1⟩ := isP_read HPQ hf0 ef0
            obtain ⟨rfl, rfl⟩ : gfr = gf0 ∧ ofr = of0 := by injection eAf0 with e1; injection e1 with e1 e2; exact ⟨e1, e2⟩
            clear eAf0
            have if0 : (f0 : Int) < (L.length : Int) := by omega
            have zf00 : (fk != fk) = false := by simp
            have zf01 : (fv != fv) = false := by simp
            obtain ⟨f1, rfl, hf1, ef1⟩ := hca rfl
            obtain ⟨gf1, of1, eAf1, y2, y3⟩ := isP_read HPQ hf1 ef1
            obtain ⟨rfl, rfl⟩ : gfr = gf1 ∧ ofr = of1 := by injection eAf1 with e1; injection e1 with e1 e2; exact ⟨e1, e2⟩
            clear eAf1
            have if1 : (f1 : Int) < (L.length : Int) := by omega
            have zf10 : (ck != ck) = false := by simp
            have zf11 : (cv != cv) = false := by simp
            clear HPQ HPP
            repeat (go_big_quiet_step (fail))
            refine wpQuiet_nil ?_
            intro _ hw'
            obtain ⟨nq, hw''⟩ := hw'
            subst hw''
            go_wp2_with (go_at_call 14; refine (HAL.out _ (bdrewN HBB.out _)).mono ?_; rintro e w13 ⟨rfl, b13⟩)
            go_ret
            exact ⟨rfl, b13⟩
          · have HPQ := HPP
            obtain ⟨fr, rfl, hfr, efr⟩ := hra rfl
            obtain ⟨gfr, ofr, eAfr, y4, y5⟩ := isP_read HPQ hfr efr
            subst eAfr
            have ifr : (fr : Int) < (L.length : Int) := by omega
            have zfr0 : (rk != rk) = false := by simp
            have zfr1 : (rv != rv) = false := by simp
            obtain ⟨f0, rfl, hf0, ef0⟩ := hfa rfl
            obtain ⟨gf0, of0, eAf0, y0, y1⟩ := isP_read HPQ hf0 ef0
            obtain ⟨rfl, rfl⟩ : gfr = gf0 ∧ ofr = of0 := by injection eAf0 with e1; injection e1 with e1 e2; exact ⟨e1, e2⟩
            clear eAf0
            have if0 : (f0 : Int) < (L.length : Int) := by omega
            have zf00 : (fk != fk) = false := by simp
            have zf01 : (fv != fv) = false := by simp
            clear hca
            clear HPQ HPP
            repeat (go_big_quiet_step (fail))
            refine wpQuiet_nil ?_
            intro _ hw'
            obtain ⟨nq, hw''⟩ := hw'
            subst hw''
            go_wp2_with (go_at_call 14; refine (HAL.out _ (bdrewN HBB.out _)).mono ?_; rintro e w13 ⟨rfl, b13⟩)
            go_ret
            exact ⟨rfl, b13⟩
          · have HPQ := HPP
            obtain ⟨fr, rfl, hfr, efr⟩ := hra rfl
            obtain ⟨gfr, ofr, eAfr, y4, y5⟩ := isP_read HPQ hfr efr
            subst eAfr
            have ifr : (fr : Int) < (L.length : Int) := by omega
            have zfr0 : (rk != rk) = false := by simp
            have zfr1 : (rv != rv) = false := by simp
            clear hfa
            obtain ⟨f1, rfl, hf1, ef1⟩ := hca rfl
            obtain ⟨gf1, of1, eAf1, y2, y3⟩ := isP_read HPQ hf1 ef1
            obtain ⟨rfl, rfl⟩ : gfr = gf1 ∧ ofr = of1 := by injection eAf1 with e1; injection e1 with e1 e2; exact ⟨e1, e2⟩
            clear eAf1
            have if1 : (f1 : Int) < (L.length : Int) := by omega
            have zf10 : (ck != ck) = false := by simp
            have zf11 : (cv != cv) = false := by simp
            clear HPQ HPP
            repeat (go_big_quiet_step (fail))
            refine wpQuiet_nil ?_
            intro _ hw'
            obtain ⟨nq, hw''⟩ := hw'
            subst hw''
            go_wp2_with (go_at_call 14; refine (HAL.out _ (bdrewN HBB.out _)).mono ?_; rintro e w13 ⟨rfl, b13⟩)
            go_ret
            exact ⟨rfl, b13⟩
          · have HPQ := HPP
            obtain ⟨fr, rfl, hfr, efr⟩ := hra rfl
            obtain ⟨gfr, ofr, eAfr, y4, y5⟩ := isP_read HPQ hfr efr
            subst eAfr
            have ifr : (fr : Int) < (L.length : Int) := by omega
            have zfr0 : (rk != rk) = false := by simp
            have zfr1 : (rv != rv) = false := by simp
            clear hfa
            clear hca
            clear HPQ HPP
            repeat (go_big_quiet_step (fail))
            refine wpQuiet_nil ?_
            intro _ hw'
            obtain ⟨nq, hw''⟩ := hw'
            subst hw''
            go_wp2_with (go_at_call 14; refine (HAL.out _ (bdrewN HBB.out _)).mono ?_; rintro e w13 ⟨rfl, b13⟩)
            go_ret
            exact ⟨rfl, b13⟩
          · have HPQ := HPP
            clear hra
            obtain ⟨f0, rfl, hf0, ef0⟩ := hfa rfl
            obtain ⟨gf0, of0, eAf0, y0, y1⟩ := isP_read HPQ hf0 ef0
            subst eAf0
            have if0 : (f0 : Int) < (L.length : Int) := by omega
            have zf00 : (fk != fk) = false := by simp
            have zf01 : (fv != fv) = false := by simp
            obtain ⟨f1, rfl, hf1, ef1⟩ := hca rfl
            obtain ⟨gf1, of1, eAf1, y2, y3⟩ := isP_read HPQ hf1 ef1
            obtain ⟨rfl, rfl⟩ : gf0 = gf1 ∧ of0 = of1 := by injection eAf1 with e1; injection e1 with e1 e2; exact ⟨e1, e2⟩
            clear eAf1
            have if1 : (f1 : Int) < (L.length : Int) := by omega
            have zf10 : (ck != ck) = false := by simp
            have zf11 : (cv != cv) = false := by simp
            clear HPQ HPP
            repeat (go_big_quiet_step (fail))
            refine wpQuiet_nil ?_
            intro _ hw'
            obtain ⟨nq, hw''⟩ := hw'
            subst hw''
            go_wp2_with (go_at_call 14; refine (HAL.out _ (bdrewN HBB.out _)).mono ?_; rintro e w13 ⟨rfl, b13⟩)
            go_ret
            exact ⟨rfl, b13⟩
          · have HPQ := HPP
            clear hra
            obtain ⟨f0, rfl, hf0, ef0⟩ := hfa rfl
            obtain ⟨gf0, of0, eAf0, y0, y1⟩ := isP_read HPQ hf0 ef0
            subst eAf0
            have if0 : (f0 : Int) < (L.length : Int) := by omega
            have zf00 : (fk != fk) = false := by simp
            have zf01 : (fv != fv) = false := by simp
            clear hca
            clear HPQ HPP
            repeat (go_big_quiet_step (fail))
            refine wpQuiet_nil ?_
            intro _ hw'
            obtain ⟨nq, hw''⟩ := hw'
            subst hw''
            go_wp2_with (go_at_call 14; refine (HAL.out _ (bdrewN HBB.out _)).mono ?_; rintro e w13 ⟨rfl, b13⟩)
            go_ret
            exact ⟨rfl, b13⟩
          · have HPQ := HPP
            clear hra
            clear hfa
            obtain ⟨f1, rfl, hf1, ef1⟩ := hca rfl
            obtain ⟨gf1, of1, eAf1, y2, y3⟩ := isP_read HPQ hf1 ef1
            subst eAf1
            have if1 : (f1 : Int) < (L.length : Int) := by omega
            have zf10 : (ck != ck) = false := by simp
            have zf11 : (cv != cv) = false := by simp
            clear HPQ HPP
            repeat (go_big_quiet_step (fail))
            refine wpQuiet_nil ?_
            intro _ hw'
            obtain ⟨nq, hw''⟩ := hw'
            subst hw''
            go_wp2_with (go_at_call 14; refine (HAL.out _ (bdrewN HBB.out _)).mono ?_; rintro e w13 ⟨rfl, b13⟩)
            go_ret
            exact ⟨rfl, b13⟩
          · have HPQ := HPP
            clear hra
            clear hfa
            clear hca
            clear HPQ HPP
            repeat (go_big_quiet_step (fail))
            refine wpQuiet_nil ?_
            intro _ hw'
            obtain ⟨nq, hw''⟩ := hw'
            subst hw''
            go_wp2_with (go_at_call 14; refine (HAL.out _ (bdrewN HBB.out _)).mono ?_; rintro e w13 ⟨rfl, b13⟩)
            go_ret
            exact ⟨rfl, b13⟩)
end Go.Proofs.Ytiknelhfdcmkjaa
