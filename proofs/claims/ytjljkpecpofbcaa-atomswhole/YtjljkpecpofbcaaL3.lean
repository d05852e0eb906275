/- AtomsWhole, walked. -/
import Derived.Test.YtjljkpecpofbcaaS2
namespace Go.Proofs.Ytjljkpecpofbcaa
open Go.RowKit Go.Shelf

/-- Where the next atom begins. -/
def atN (C : List Nat) (j : Nat) : Nat := if j < C.length then frm C j else 4294967296
theorem atN_in {C : List Nat} {j : Nat} (h : j < C.length) : atN C j = frm C j := if_pos h
theorem atN_next {C : List Nat} (hb : Bd C) {j : Nat} (h : j < C.length) : atN C (j + 1) = too C j + 1 := by
  unfold atN
  by_cases h1 : j + 1 < C.length
  · rw [if_pos h1, hb.next h1]
  · rw [if_neg h1, hb.last (by omega)]
theorem atN_zero {C : List Nat} (hb : Bd C) : atN C 0 = 0 := by
  rw [atN_in hb.pos, frm_in hb.pos]; exact hb.zero
theorem atN_end (C : List Nat) : atN C C.length = 4294967296 := if_neg (by omega)
set_option maxRecDepth 100000 in
set_option maxHeartbeats 4000000 in
theorem atomsWhole_walk {v : Value} (S : List ActT) (w : World) (hs : IsS w v S) : Calls Try.prog 5 #[v] w fun e w' => e = .returned (.bool true) ∧ Below w.heap.size w w' := by
  obtain ⟨A, c, rfl, n1, m1, z1⟩ := hs
  simp only [maxLen] at m1
  have HS : Hid (∀ W, Below w.heap.size w W → Ss W A S) := Lib.hid fun W hW => z1.belows hW
  clear z1
  go_enter Try.func5, Try.ntmps5
  go_wp2_with fail
  refine (new_any w).mono ?_
  rintro e w1 ⟨v1, rfl, t1, b1⟩
  obtain ⟨B1, rfl⟩ := t1.ptr
  have HD0 := Lib.hid (hd_new t1)
  have HB0 := Lib.hid (b1.alloc b1.size (.cells #[.pointer (some ⟨B1, 0, none⟩), .slice none 0 0] 28))
  have hbs := b1.size
  clear t1 b1
  go_upto_block 0 with (fail)
  go_cut [4] (fun _ wc => Hid (∃ L, L.length ≤ 60 ∧ Hd wc w1.heap.size L ∧ Below w.heap.size w wc))
  case first =>
    go_wp2_with fail
    go_loopw [4] (fun i wr => ∃ j : Nat, i = .int .i64 j ∧ j ≤ S.length ∧ j ≤ 60 ∧ Hid (∃ L, L.length ≤ j ∧ Hd wr w1.heap.size L ∧ Below w.heap.size w wr)) (fun i _ => 60 - (intOf i).toNat)
    case atStart => exact ⟨0, rfl, by omega, by omega, Lib.hid ⟨[], by simp, HD0.out, HB0.out⟩⟩
    case round =>
      obtain ⟨j, rfl, hj, hj2, HI⟩ := hrel
      obtain ⟨L, hLj, hd, hb⟩ := HI.out
      have HB := Lib.hid hb
      clear HI HD0 HB0
      by_cases hlt : j < S.length ∧ j < 60
      · obtain ⟨hl, h60⟩ := hlt
        obtain ⟨g, o, eA, hg, hc⟩ := HS.out _ HB.out (by omega)
        subst eA
        obtain ⟨⟨q0, q1, q2⟩, hu1, hu2⟩ := hc j hl
        clear hc hg hb
        generalize S[j] = a at q0 q1 q2 hu1 hu2
        obtain ⟨d, f, t⟩ := a
        simp only at q0 q1 q2 hu1 hu2
        have i1 : (j : Int) < (S.length : Int) := by omega
        go_wp2_with fail
        refine (do_any w1.heap.size d f t L wr hu1 hu2 hd).mono ?_
        rintro e w2 ⟨rfl, h2, g2⟩
        have HB2 := Lib.hid (below_grown HB.out g2 hbs)
        have hL2 := actL_len L d (f, t)
        have HH2 := Lib.hid h2
        clear q0 q1 q2 hd g2 HB h2
        go_wp2
        go_roundw
        case rel => exact ⟨j + 1, by go_num, by omega, by omega, Lib.hid ⟨_, by omega, HH2.out, HB2.out⟩⟩
        case measure => simp [intOf]; omega
      · have hways : (decide ((j : Int) < (S.length : Int)) = true ∧ decide (j < S.length) = true ∧ decide ((j : Int) < 60) = false) ∨ (decide ((j : Int) < (S.length : Int)) = false ∧ decide (j < S.length) = false ∧ decide ((j : Int) < 60) = decide ((j : Int) < 60)) := by
          by_cases hl : j < S.length
          · left; have : ¬ j < 60 := fun e => hlt ⟨hl, e⟩; simp; omega
          · right; simp; omega
        have HF := Lib.hid (And.intro hd hb)
        clear hlt hb hd
        rcases hways with ⟨dl, dl', d60⟩ | ⟨dl, dl', d60⟩
        all_goals (
          go_wp2_with fail
          go_meet
          exact Lib.hid ⟨L, by omega, HF.out.1, HF.out.2⟩)
  case rest =>
    obtain ⟨L, hL60, hd, hb⟩ := hcut.out
    have HB := Lib.hid hb
    clear hcut HD0 HB0 hb
    have hRL := hd.rl
    obtain ⟨B2, A2, n2, c2, hA2, ht2, hz2, hy2⟩ := hd
    obtain ⟨w2, ew⟩ : ∃ w2, wc = w2 := ⟨_, rfl⟩
    rw [ew] at HB hA2 ht2 hz2 hy2 ⊢
    clear ew
    have HT : Hid (∀ W, Below w2.heap.size w2 W → IsTab W (.pointer (some ⟨B2, 0, none⟩)) L) := Lib.hid fun W hW => ht2.belows hW
    have HP : Hid (∀ W, Below w2.heap.size w2 W → IsZ W (.slice A2 n2 c2) L) := Lib.hid fun W hW => hz2.belows hW
    have KS : Hid (∀ W, Below w2.heap.size w2 W → W.cell? ⟨w1.heap.size, 0, none⟩ = some (.pointer (some ⟨B2, 0, none⟩)) ∧ W.cell? ⟨w1.heap.size, 1, none⟩ = some (.slice A2 n2 c2)) := Lib.hid fun W hW => ⟨((hA2.belows hW).cell 0).trans rfl, ((hA2.belows hW).cell 1).trans rfl⟩
    have HRL := Lib.hid hRL
    clear hA2 ht2 hz2 hy2 hRL
    have hbd := bd_of L
    have hlen : (bnds L).length ≤ 4294967296 := by
      rcases rising_len (bnds_rise L) with h | h
      · omega
      · rw [h]; simp
    have HLEN : Hid (∀ W, Below w2.heap.size w2 W → Calls Try.prog 23 #[.pointer (some ⟨B2, 0, none⟩)] W fun e w' => e = .returned (.int .i64 ((bnds L).length : Int)) ∧ Below W.heap.size W w') := Lib.hid fun W hW => len5_any L W (HT.out W hW).any
    have HATM : Hid (∀ k, k < (bnds L).length → ∀ W, Below w2.heap.size w2 W → Calls Try.prog 22 #[.pointer (some ⟨B2, 0, none⟩), .int .i64 (k : Int)] W fun e w' => e = .returned (.tuple #[.agg #[.int .u32 (frm (bnds L) k : Nat), .int .u32 (too (bnds L) k : Nat)], .bool true]) ∧ Below W.heap.size W w') := Lib.hid fun k hk W hW => atom_ok L k W (HT.out W hW).any hk
    have HOF : Hid (∀ x : Nat, x < 4294967296 → ∀ W, Below w2.heap.size w2 W → Calls Try.prog 19 #[.pointer (some ⟨B2, 0, none⟩), .int .u32 x] W fun e w' => e = .returned (.int .i64 (ofL (bnds L) x : Int)) ∧ Below W.heap.size W w') := Lib.hid fun x hx W hW => of_any L x W hx (HT.out W hW).any
    have HWI : Hid (∀ f t, (f, t) ∈ L → ∀ W, Below w2.heap.size w2 W → Calls Try.prog 21 #[.pointer (some ⟨B2, 0, none⟩), .agg #[.int .u32 f, .int .u32 t]] W fun e w' => e = .returned (.tuple #[.int .i64 (ofL (bnds L) f : Nat), .int .i64 ((ofL (bnds L) t : Nat) + 1 : Int), .bool true]) ∧ Below W.heap.size W w') := Lib.hid fun f t h W hW => within_ok L f t W (HT.out W hW).any h
    have HMEM : Hid (∀ f t, (f, t) ∈ L → f < 4294967296 ∧ t < 4294967296 ∧ ofL (bnds L) f < (bnds L).length ∧ ofL (bnds L) t < (bnds L).length ∧ frm (bnds L) (ofL (bnds L) f) = f ∧ too (bnds L) (ofL (bnds L) t) = t) := Lib.hid fun f t h => by
      have h1 := HRL.out.1 _ h
      have h2 := mem_bnds HRL.out h
      exact ⟨by simp at h1; omega, h1.2, hbd.of_le f, hbd.of_le t, hbd.frm_of h2.1, hbd.too_of h1.2 h2.2⟩
    have HRG : Hid (∀ W, Below w2.heap.size w2 W → Calls Try.prog 15 #[.pointer (some ⟨B2, 0, none⟩)] W (RngOut W L)) := Lib.hid fun W hW => ranges_any L W (HT.out W hW).any
    generalize bnds L = C at *
    have HBD := Lib.hid hbd
    clear hbd
    go_wp2_with fail
    go_loopw [5, 6] (fun av k wr => ∃ j : Nat, k = .int .i64 j ∧ av = .int .i64 (atN C j : Nat) ∧ j ≤ C.length ∧ Hid (Below w2.heap.size w2 wr)) (fun _ k _ => C.length - (intOf k).toNat)
    case atStart => exact ⟨0, rfl, by rw [atN_zero HBD.out]; rfl, by omega, Lib.hid (Below.refl _ _)⟩
    case round =>
      obtain ⟨j, rfl, rfl, hj, HI⟩ := hrel
      obtain ⟨q0, _⟩ := KS.out wr HI.out
      by_cases hlt : j < C.length
      · have hfl := HBD.out.frm_le hlt
        have hof1 := HBD.out.of_eq hlt (Nat.le_refl _) hfl.1
        have hof2 := HBD.out.of_eq hlt hfl.1 (Nat.le_refl _)
        have hnx := atN_next HBD.out hlt
        have HNX := Lib.hid hnx
        have hat := HATM.out j hlt
        have hof : ∀ a : Nat, (a = frm C j ∨ a = too C j) → ∀ W, Below w2.heap.size w2 W → Calls Try.prog 19 #[.pointer (some ⟨B2, 0, none⟩), .int .u32 a] W fun e w' => e = .returned (.int .i64 (j : Int)) ∧ Below W.heap.size W w' := fun a ha W hW => by
          have h1 : ofL C a = j := by rcases ha with rfl | rfl <;> assumption
          have := HOF.out a (by rcases ha with rfl | rfl <;> omega) W hW
          rwa [h1] at this
        rw [atN_in hlt]
        clear hnx hof1 hof2
        generalize frm C j = x at *
        generalize too C j = y at *
        have HAT := Lib.hid hat
        have HOO := Lib.hid hof
        clear hat hof
        have i1 : (j : Int) < (C.length : Int) := by omega
        go_wp2_with fail
        refine (HLEN.out wr HI.out).mono ?_
        rintro e w3 ⟨rfl, b3⟩
        have b23 := HI.out.trans (b3.mono HI.out.size)
        obtain ⟨q0, _⟩ := KS.out w3 b23
        clear b3
        go_wp2_with fail
        refine (HAT.out w3 b23).mono ?_
        rintro e w4 ⟨rfl, b4⟩
        have b24 := b23.trans (b4.mono b23.size)
        have b24' := b24.alloc b24.size (.cells #[.int .u32 x, .int .u32 y] 32)
        have A4 := At.new w4 #[.int .u32 x, .int .u32 y] 32
        obtain ⟨w5, hw5⟩ : ∃ w5, w4.alloc (.cells #[.int .u32 x, .int .u32 y] 32) = w5 := ⟨_, rfl⟩
        rw [hw5] at A4 b24'
        clear b23 b4 b24 q0
        have s0 : ∀ z : Sub w5, z.u.cell? ⟨w1.heap.size, 0, none⟩ = some (.pointer (some ⟨B2, 0, none⟩)) := fun z => (KS.out z.u (b24'.trans (z.h.mono b24'.size))).1
        have s2 : ∀ z : Sub w5, z.u.cell? ⟨w4.heap.size, 0, none⟩ = some (.int .u32 x) := fun z => ((A4.belows z.h).cell 0).trans rfl
        have s3 : ∀ z : Sub w5, z.u.cell? ⟨w4.heap.size, 1, none⟩ = some (.int .u32 y) := fun z => ((A4.belows z.h).cell 1).trans rfl
        have ko : ∀ a : Nat, (a = x ∨ a = y) → ∀ z : Sub w5, Calls Try.prog 19 #[.pointer (some ⟨B2, 0, none⟩), .int .u32 a] z.u fun e w' => e = .returned (.int .i64 (j : Int)) ∧ Below z.u.heap.size z.u w' := fun a ha z => HOO.out a ha z.u (b24'.trans (z.h.mono b24'.size))
        have j1 : IntKind.i64.wrap (x : Int) = (x : Int) := IntWalk.i64_in _ (by omega)
        have j2 : IntKind.i64.wrap (y : Int) = (y : Int) := IntWalk.i64_in _ (by omega)
        have d1 : ((x : Int) != (x : Int)) = false := by simp
        have d2 : decide ((y : Int) < (x : Int)) = false := decide_eq_false (by omega)
        have d2' : decide (y < x) = false := decide_eq_false (by omega)
        have d3 : ((j : Int) != (j : Int)) = false := by simp
        have HA4 := Lib.hid A4
        have HB5 := Lib.hid b24'
        clear A4 b24'
        go_wp2_with fail
        clear hw5
        refine wp_region_cls (by kernel_rfl) (by kernel_rfl) ?_
        repeat (go_big_quiet_step ((go_at_call 19; exact Calls.cls_of (ko _ (by first | exact .inl rfl | exact .inr rfl) _))))
        refine wpQuiet_nil ?_
        rintro w6 ⟨x6, hx⟩
        have b6 := x6.h
        rw [← hx] at b6
        clear hx x6 ko s0 s2 s3
        have b26 := HB5.out.trans (b6.mono HB5.out.size)
        have k1 := ((HA4.out.belows b6).cell 1).trans rfl
        have j3 : IntKind.i64.wrap ((y : Int) + 1) = (y : Int) + 1 := IntWalk.i64_in _ (by omega)
        clear b6
        go_wp2
        go_roundw
        case rel => exact ⟨j + 1, by go_num, by rw [HNX.out]; go_num, by omega, Lib.hid b26⟩
        case measure => simp [intOf]; omega
      · obtain rfl : j = C.length := by omega
        rw [atN_end]
        obtain ⟨w0, rfl⟩ : ∃ w0, w0 = wr := ⟨_, rfl⟩
        go_wp2_with fail
        refine (HLEN.out w0 HI.out).mono ?_
        rintro e w3 ⟨rfl, b3⟩
        have b23 := HI.out.trans (b3.mono HI.out.size)
        obtain ⟨q0, _⟩ := KS.out w3 b23
        clear b3
        go_wp2_with fail
        refine (HRG.out w3 b23).mono ?_
        rintro e w4 ⟨v4, l4, rfl, hrs, ⟨A4, c4, rfl, n4, m4, z4⟩, b4⟩
        have b24 := b23.trans (b4.mono b23.size)
        have HZ4 : Hid (∀ W, Below w4.heap.size w4 W → Zs W A4 l4) := Lib.hid fun W hW => z4.belows hW
        have HRS := Lib.hid hrs
        have hm4 : c4 ≤ 9223372036854775807 := m4
        have HB4 := Lib.hid b24
        clear b23 b4 b24 z4 hrs q0
        go_wp2_with fail
        go_loopw [10] (fun k wr => ∃ j : Nat, k = .int .i64 j ∧ j ≤ l4.length ∧ Hid (Below w4.heap.size w4 wr)) (fun k _ => l4.length - (intOf k).toNat)
        case atStart => exact ⟨0, rfl, by omega, Lib.hid (Below.refl _ _)⟩
        case round =>
          obtain ⟨j, rfl, hj4, HJ⟩ := hrel
          by_cases hlt4 : j < l4.length
          · obtain ⟨g, o, rfl, hg, hc⟩ := HZ4.out w4 (Below.refl _ _) (by omega)
            obtain ⟨e0, e1⟩ := hc j hlt4
            have hmem := (HRS.out.2 l4[j]).1 (List.getElem_mem hlt4)
            generalize l4[j] = r at e0 e1 hmem
            obtain ⟨f, t⟩ := r
            simp only at e0 e1
            obtain ⟨hu1, hu2, hl1, hl2, hf1, ht2⟩ := HMEM.out f t hmem
            have hwi := HWI.out f t hmem
            have ha1 := HATM.out _ hl1
            have ha2 := HATM.out _ hl2
            rw [hf1] at ha1
            rw [ht2] at ha2
            generalize too C (ofL C f) = y1 at ha1
            generalize frm C (ofL C t) = x2 at ha2
            generalize ofL C f = k1 at *
            generalize ofL C t = k2 at *
            have HW1 := Lib.hid hwi
            have HA1 := Lib.hid ha1
            have HA2 := Lib.hid ha2
            have HCL : Hid (∀ W, Below w4.heap.size w4 W → W.cell? ⟨g, o + j * 2, none⟩ = some (.int .u32 f) ∧ W.cell? ⟨g, o + j * 2 + 1, none⟩ = some (.int .u32 t)) := Lib.hid fun W hW => ⟨(hW.cell (p := ⟨g, _, none⟩) hg).trans e0, (hW.cell (p := ⟨g, _, none⟩) hg).trans e1⟩
            clear hwi ha1 ha2 hc e0 e1 hf1 ht2
            obtain ⟨wq, rfl⟩ : ∃ wq, wq = wr := ⟨_, rfl⟩
            have b2q := HB4.out.trans (HJ.out.mono HB4.out.size)
            have KQ : Hid (∀ W, Below wq.heap.size wq W → W.cell? ⟨w1.heap.size, 0, none⟩ = some (.pointer (some ⟨B2, 0, none⟩)) ∧ W.cell? ⟨g, o + j * 2, none⟩ = some (.int .u32 f) ∧ W.cell? ⟨g, o + j * 2 + 1, none⟩ = some (.int .u32 t)) := Lib.hid fun W hW => by
              obtain ⟨x0, _⟩ := KS.out W (b2q.trans (hW.mono b2q.size))
              obtain ⟨x1, x2⟩ := HCL.out W (HJ.out.trans (hW.mono HJ.out.size))
              exact ⟨x0, x1, x2⟩
            have hb1 := Below.refl wq.heap.size wq
            obtain ⟨p0, p1, p2⟩ := KQ.out wq hb1
            have i0 : (0 : Int) ≤ (j : Int) := by omega
            have i1 : (j : Int) < (l4.length : Int) := by omega
            go_wp2_with fail
            go_region_held3 (fun W => W.cell? ⟨w1.heap.size, 0, none⟩ = some (.pointer (some ⟨B2, 0, none⟩)) ∧ W.cell? ⟨g, o + j * 2, none⟩ = some (.int .u32 f) ∧ W.cell? ⟨g, o + j * 2 + 1, none⟩ = some (.int .u32 t)) (first | exact KQ.out _ bb5 | exact KQ.out _ hb1.drew | exact KQ.out _ hb1) (first
              | (go_at_call 21; refine (HW1.out _ (b2q.trans ((show Below wq.heap.size wq _ by first | exact hb1.drew | exact hb1).mono b2q.size))).mono ?_; rintro e w5 ⟨rfl, b5⟩; have bb5 : Below wq.heap.size wq w5 := (by first | exact b5 | exact hb1.drew.trans (b5.mono hb1.size))))
            rename_i hHeld
            clear hHeld p0 p1 p2 hb1 b5
            have b25 := b2q.trans (bb5.mono b2q.size)
            obtain ⟨p0, _⟩ := KS.out w5 b25
            go_wp2_with fail
            refine (HA1.out w5 b25).mono ?_
            rintro e w6 ⟨rfl, b6⟩
            have b6' := b6.alloc b6.size (.cells #[.int .u32 f, .int .u32 y1] 32)
            have A6 := At.new w6 #[.int .u32 f, .int .u32 y1] 32
            have b26 := b25.trans (b6'.mono b25.size)
            have bb6 := bb5.trans (b6'.mono bb5.size)
            obtain ⟨p0, _⟩ := KS.out _ b26
            clear b6 b6' b25 bb5
            go_wp2_with fail
            obtain ⟨w7, hw7⟩ : ∃ w7, w6.alloc (.cells #[.int .u32 f, .int .u32 y1] 32) = w7 := ⟨_, rfl⟩
            rw [hw7] at A6 b26 bb6 ⊢
            clear p0 hw7
            have hA2 := HA2.out w7 b26
            refine hA2.mono ?_
            rintro e w8 ⟨rfl, b8⟩
            have b8' := b8.alloc b8.size (.cells #[.int .u32 x2, .int .u32 t] 32)
            have A8 := At.new w8 #[.int .u32 x2, .int .u32 t] 32
            have A6' := A6.belows b8'
            have bb8 := bb6.trans (b8'.mono bb6.size)
            obtain ⟨_, p1, p2⟩ := KQ.out _ bb8
            have z0 := (A6'.cell 0).trans rfl
            have z1 := (A8.cell 1).trans rfl
            have d1 : ((f : Int) != (f : Int)) = false := by simp
            have d2 : ((t : Int) != (t : Int)) = false := by simp
            have HB8 := Lib.hid (HJ.out.trans (bb8.mono HJ.out.size))
            clear b8 b8' A6 A6' A8 bb6 b26 hA2
            go_wp2_with fail
            go_quiet (fail)
            go_wp2
            go_roundw
            case rel => exact ⟨j + 1, by go_num, by omega, Lib.hid (bdrewN HB8.out _)⟩
            case measure => simp [intOf]; omega
          · obtain rfl : j = l4.length := by omega
            have HBF := Lib.hid (HB.out.trans ((HB4.out.trans (HJ.out.mono HB4.out.size)).mono HB.out.size))
            go_wp2_with (go_at_call 17; refine (alive_any _).mono ?_; rintro e w8 ⟨rfl, b8⟩)
            go_ret
            exact ⟨rfl, HBF.out.trans (b8.mono HBF.out.size)⟩
end Go.Proofs.Ytjljkpecpofbcaa
