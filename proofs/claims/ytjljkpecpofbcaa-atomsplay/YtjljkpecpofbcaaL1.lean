/- AtomsPlay, walked. -/
import Derived.Test.YtjljkpecpofbcaaS1
namespace Go.Proofs.Ytjljkpecpofbcaa
open Go.RowKit Go.Shelf

set_option maxRecDepth 100000 in
set_option maxHeartbeats 4000000 in
theorem atomsPlay_walk {v : Value} (S : List ActT) (w : World) (hs : IsS w v S) : Calls Try.prog 3 #[v] w fun e w' => e = .returned (.bool true) ∧ Below w.heap.size w w' := by
  obtain ⟨A, c, rfl, n1, m1, z1⟩ := hs
  simp only [maxLen] at m1
  have HS : Hid (∀ W, Below w.heap.size w W → Ss W A S) := Lib.hid fun W hW => z1.belows hW
  clear z1
  go_enter Try.func3, Try.ntmps3
  go_wp2_with fail
  refine (new_any w).mono ?_
  rintro e w1 ⟨v1, rfl, t1, b1⟩
  obtain ⟨B1, rfl⟩ := t1.ptr
  have HD0 := Lib.hid (hd_new t1)
  have HB0 := Lib.hid (b1.alloc b1.size (.cells #[.pointer (some ⟨B1, 0, none⟩), .slice none 0 0] 28))
  have hbs := b1.size
  clear t1 b1
  go_upto_block 0 with (fail)
  go_cut [4] (fun _ wc => Hid (∃ L, Hd wc w1.heap.size L ∧ Below w.heap.size w wc))
  case first =>
    go_wp2_with fail
    go_loopw [4] (fun i wr => ∃ j : Nat, i = .int .i64 j ∧ j ≤ S.length ∧ j ≤ 60 ∧ Hid (∃ L, Hd wr w1.heap.size L ∧ Below w.heap.size w wr)) (fun i _ => 60 - (intOf i).toNat)
    case atStart => exact ⟨0, rfl, by omega, by omega, Lib.hid ⟨[], HD0.out, HB0.out⟩⟩
    case round =>
      obtain ⟨j, rfl, hj, hj2, HI⟩ := hrel
      obtain ⟨L, hd, hb⟩ := HI.out
      have HB := Lib.hid hb
      clear HI HD0 HB0
      by_cases hlt : j < S.length ∧ j < 60
      · obtain ⟨hl, h60⟩ := hlt
        obtain ⟨g, o, eA, hg, hc⟩ := HS.out w (Below.refl _ _) (by omega)
        subst eA
        have HK : Hid (∀ W, Below w.heap.size w W → W.cell? ⟨g, o + j * 3, none⟩ = some (.bool S[j].1) ∧ W.cell? ⟨g, o + j * 3 + 1, none⟩ = some (.int .u32 S[j].2.1) ∧ W.cell? ⟨g, o + j * 3 + 2, none⟩ = some (.int .u32 S[j].2.2)) := Lib.hid fun W hW => by
          obtain ⟨h0, h1, h2⟩ := (hc j hl).1
          exact ⟨(hW.cell (p := ⟨g, _, none⟩) hg).trans h0, (hW.cell (p := ⟨g, _, none⟩) hg).trans h1, (hW.cell (p := ⟨g, _, none⟩) hg).trans h2⟩
        obtain ⟨hu1, hu2⟩ := (hc j hl).2
        clear hc hg hb
        generalize S[j] = a at HK hu1 hu2
        obtain ⟨d, f, t⟩ := a
        simp only at HK hu1 hu2
        obtain ⟨q0, q1, q2⟩ := HK.out _ HB.out
        have i1 : (j : Int) < (S.length : Int) := by omega
        go_wp2_with fail
        refine (do_any w1.heap.size d f t L wr hu1 hu2 hd).mono ?_
        rintro e w2 ⟨rfl, h2, g2⟩
        have HB2 := Lib.hid (below_grown HB.out g2 hbs)
        clear q0 q1 q2 hd g2 HB
        generalize actL L d (f, t) = L2 at h2
        have hRL := h2.rl
        obtain ⟨B2, A2, n2, c2, hA2, ht2, hz2, hy2⟩ := h2
        have HT : Hid (∀ W, Below w2.heap.size w2 W → IsTab W (.pointer (some ⟨B2, 0, none⟩)) L2) := Lib.hid fun W hW => ht2.belows hW
        have HP : Hid (∀ W, Below w2.heap.size w2 W → IsZ W (.slice A2 n2 c2) L2 ∧ Ty W (.slice A2 n2 c2)) := Lib.hid fun W hW => ⟨hz2.belows hW, hy2.belows hW⟩
        have HA : Hid (∀ W, Below w2.heap.size w2 W → At W w1.heap.size #[.pointer (some ⟨B2, 0, none⟩), .slice A2 n2 c2] 28) := Lib.hid fun W hW => hA2.belows hW
        have KS : Hid (∀ W, Below w2.heap.size w2 W → W.cell? ⟨w1.heap.size, 0, none⟩ = some (.pointer (some ⟨B2, 0, none⟩)) ∧ W.cell? ⟨w1.heap.size, 1, none⟩ = some (.slice A2 n2 c2)) := Lib.hid fun W hW => ⟨((hA2.belows hW).cell 0).trans rfl, ((hA2.belows hW).cell 1).trans rfl⟩
        have HRL := Lib.hid hRL
        clear hA2 ht2 hz2 hy2 hRL
        have hb1 := Below.refl w2.heap.size w2
        obtain ⟨q0, q1⟩ := KS.out w2 hb1
        go_wp2_with fail
        go_region_held3 (fun W => W.cell? ⟨w1.heap.size, 0, none⟩ = some (.pointer (some ⟨B2, 0, none⟩)) ∧ W.cell? ⟨w1.heap.size, 1, none⟩ = some (.slice A2 n2 c2)) (first | exact KS.out _ bb3 | exact KS.out _ hb1.drew | exact KS.out _ hb1) (first
          | (go_at_call 11; refine (same5_any L2 L2 _ rfl HRL.out (HT.out _ (by first | exact hb1.drew | exact hb1)).any (HP.out _ (by first | exact hb1.drew | exact hb1)).1).mono ?_; rintro e w3 ⟨rfl, b3⟩; have bb3 : Below w2.heap.size w2 w3 := (by first | exact hb1.drew.trans (b3.mono hb1.size))))
        rename_i hHeld
        clear hHeld q0 q1 hb1 b3
        have kc : ∀ x : Sub w3, Calls Try.prog 12 #[.pointer (some ⟨B2, 0, none⟩), .agg #[.int .u32 f, .int .u32 t]] x.u fun e w' => e = .returned (.int .i64 (L2.count (f, t) : Int)) ∧ Below x.u.heap.size x.u w' := fun x => count_any5 L2 f t x.u hu1 hu2 (HT.out x.u (bb3.trans (x.h.mono bb3.size))).any
        have kr : ∀ x : Sub w3, Calls Try.prog 13 #[.slice A2 n2 c2, .agg #[.int .u32 f, .int .u32 t]] x.u fun e w' => e = .returned (.int .i64 (L2.count (f, t) : Int)) ∧ Below x.u.heap.size x.u w' := fun x => rcount_any L2 f t x.u (HP.out x.u (bb3.trans (x.h.mono bb3.size))).1
        generalize L2.count (f, t) = n at kc kr
        have s0 : ∀ x : Sub w3, x.u.cell? ⟨w1.heap.size, 0, none⟩ = some (.pointer (some ⟨B2, 0, none⟩)) := fun x => (KS.out x.u (bb3.trans (x.h.mono bb3.size))).1
        have s1 : ∀ x : Sub w3, x.u.cell? ⟨w1.heap.size, 1, none⟩ = some (.slice A2 n2 c2) := fun x => (KS.out x.u (bb3.trans (x.h.mono bb3.size))).2
        have s2 : ∀ x : Sub w3, x.u.cell? ⟨g, o + j * 3 + 1, none⟩ = some (.int .u32 f) := fun x => (HK.out x.u (HB2.out.trans ((bb3.trans (x.h.mono bb3.size)).mono HB2.out.size))).2.1
        have s3 : ∀ x : Sub w3, x.u.cell? ⟨g, o + j * 3 + 2, none⟩ = some (.int .u32 t) := fun x => (HK.out x.u (HB2.out.trans ((bb3.trans (x.h.mono bb3.size)).mono HB2.out.size))).2.2
        have i0 : (0 : Int) ≤ (j : Int) := by omega
        have dn : ((n : Int) != (n : Int)) = false := by simp
        have HBB := Lib.hid bb3
        clear bb3
        go_wp2_with fail
        refine wp_region_cls (by kernel_rfl) (by kernel_rfl) ?_
        repeat (go_big_quiet_step ((first | (go_at_call 12; exact Calls.cls_of (kc _)) | (go_at_call 13; exact Calls.cls_of (kr _)))))
        refine wpQuiet_nil ?_
        rintro w4 ⟨x4, hx⟩
        have b4 := x4.h
        rw [← hx] at b4
        clear hx x4
        clear kc kr s0 s1 s2 s3
        go_wp2
        go_roundw
        case rel =>
          have b24 := HBB.out.trans (b4.mono HBB.out.size)
          exact ⟨j + 1, by go_num, by omega, by omega, Lib.hid ⟨L2, ⟨B2, A2, n2, c2, HA.out _ b24, HT.out _ b24, (HP.out _ b24).1, (HP.out _ b24).2⟩, HB2.out.trans (b24.mono HB2.out.size)⟩⟩
        case measure => simp [intOf]; omega
      · have hways : (decide ((j : Int) < (S.length : Int)) = true ∧ decide (j < S.length) = true ∧ decide ((j : Int) < 60) = false) ∨ (decide ((j : Int) < (S.length : Int)) = false ∧ decide (j < S.length) = false ∧ decide ((j : Int) < 60) = decide ((j : Int) < 60)) := by
          by_cases hl : j < S.length
          · left; have : ¬ j < 60 := fun e => hlt ⟨hl, e⟩; simp; omega
          · right; simp; omega
        have HF := Lib.hid (And.intro hd hb)
        clear hlt hb hd
        rcases hways with ⟨dl, dl', d60⟩ | ⟨dl, dl', d60⟩
        all_goals (
          go_wp2_with fail
          go_meet
          exact Lib.hid ⟨L, HF.out.1, HF.out.2⟩)
  case rest =>
    obtain ⟨L, hd, hb⟩ := hcut.out
    have HB := Lib.hid hb
    clear hcut HD0 HB0 hb
    have hRL := hd.rl
    obtain ⟨B2, A2, n2, c2, hA2, ht2, hz2, hy2⟩ := hd
    obtain ⟨w2, ew⟩ : ∃ w2, wc = w2 := ⟨_, rfl⟩
    rw [ew] at HB hA2 ht2 hz2 hy2 ⊢
    clear ew
    have HT : Hid (∀ W, Below w2.heap.size w2 W → IsTab W (.pointer (some ⟨B2, 0, none⟩)) L) := Lib.hid fun W hW => ht2.belows hW
    have HP : Hid (∀ W, Below w2.heap.size w2 W → IsZ W (.slice A2 n2 c2) L) := Lib.hid fun W hW => hz2.belows hW
    have KS : Hid (∀ W, Below w2.heap.size w2 W → W.cell? ⟨w1.heap.size, 0, none⟩ = some (.pointer (some ⟨B2, 0, none⟩)) ∧ W.cell? ⟨w1.heap.size, 1, none⟩ = some (.slice A2 n2 c2)) := Lib.hid fun W hW => ⟨((hA2.belows hW).cell 0).trans rfl, ((hA2.belows hW).cell 1).trans rfl⟩
    have HRL := Lib.hid hRL
    clear hA2 ht2 hz2 hy2 hRL
    have hb1 := Below.refl w2.heap.size w2
    obtain ⟨q0, q1⟩ := KS.out w2 hb1
    go_wp2_with fail
    go_region_held3 (fun W => W.cell? ⟨w1.heap.size, 0, none⟩ = some (.pointer (some ⟨B2, 0, none⟩)) ∧ W.cell? ⟨w1.heap.size, 1, none⟩ = some (.slice A2 n2 c2)) (first | exact KS.out _ bb5 | exact KS.out _ bb4 | exact KS.out _ bb4.drew | exact KS.out _ bb3 | exact KS.out _ bb3.drew | exact KS.out _ hb1.drew | exact KS.out _ hb1) (first
      | (go_at_call 15; refine (ranges_any L _ (HT.out _ (by first | exact hb1.drew | exact hb1)).any).mono ?_; rintro e w3 ⟨v3, l3, rfl, r3, z3, b3⟩; have bb3 : Below w2.heap.size w2 w3 := (by first | exact hb1.drew.trans (b3.mono hb1.size)); obtain ⟨A3, c3, rfl, q3⟩ := z3)
      | (go_at_call 16; refine (rranges_any L _ HRL.out (HP.out _ (by first | exact bb3.drew | exact bb3))).mono ?_; rintro e w4 ⟨v4, l4, rfl, r4, z4, b4⟩; have bb4 : Below w2.heap.size w2 w4 := (by first | exact bb3.trans (b4.mono bb3.size) | exact bb3.drew.trans (b4.mono bb3.size)); obtain rfl := r4.eq HRL.out r3; obtain ⟨A4, c4, rfl, q4⟩ := z4)
      | (go_at_call 14; refine (rsame_any l4 _ (show IsZ _ (.slice A3 l4.length c3) l4 from (show IsZ w3 _ _ from ⟨A3, c3, rfl, q3⟩).belows (by first | exact b4 | exact (Below.refl _ w3).drew.trans b4)) ⟨A4, c4, rfl, q4⟩).mono ?_; rintro e w5 ⟨rfl, b5⟩; have bb5 : Below w2.heap.size w2 w5 := (by first | exact bb4.trans (b5.mono bb4.size) | exact bb4.drew.trans (b5.mono bb4.size))))
    rename_i hHeld
    clear hHeld q0 q1 hb1
    have HBF := Lib.hid (HB.out.trans (bb5.mono HB.out.size))
    go_wp2_with (go_at_call 17; refine (alive_any _).mono ?_; rintro e w6 ⟨rfl, b6⟩)
    go_ret
    exact ⟨rfl, HBF.out.trans (b6.mono HBF.out.size)⟩
end Go.Proofs.Ytjljkpecpofbcaa
