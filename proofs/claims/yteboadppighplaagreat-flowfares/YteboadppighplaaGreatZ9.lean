/- Texts of this seat, put together: FF11b. -/
import Derived.Test.YteboadppighplaaGreatZ7
/- Law: FlowFares (stage 11), over the program's calls: way 2. -/
namespace Go.Proofs.YteboadppighplaaGreat
open Go.RowKit Go.Shelf

set_option maxRecDepth 100000 in
set_option maxHeartbeats 10000000 in
theorem fares11_b (O : Own11) {vp vl vr up ul ur : Value} (ps : List Int) (ls : List Lk) (L : List Ru) (qs : List Int) (ms : List Lk) (M : List Ru) (a b : Int) (x : Nat) (w : World) (h : IsN w vp vl vr ps ls L) (hW : NW ps ls L) (h2 : IsN w up ul ur qs ms M) (hW2 : NW qs ms M) (ia : isI a) (ib : isI b) (hx : x < 4294967296) (hsel : sel11 (trcN ps ls L x a) b = 2) :
    Calls Tryz.prog 6 #[.agg #[vp, vl, vr, up, ul, ur], .agg #[.int .i64 a, .int .i64 b], .int .u32 x] w fun e w' => e = .returned (.bool true) ∧ Below w.heap.size w w' := by
  have HO := Lib.hid O
  have HSEL := Lib.hid hsel
  clear hsel
  have KA : Hid (∀ u : World, Calls Tryz.prog 9 #[] u fun e w' => e = .returned (.bool true) ∧ Below u.heap.size u w') := Lib.hid fun u => alive11_any O u
  obtain ⟨w1, hw1⟩ : ∃ w1, w1 = (w.alloc (.cells #[vp, vl, vr, up, ul, ur] 40)).alloc (.cells #[.int .i64 a, .int .i64 b] 53) := ⟨_, rfl⟩
  have b1 : Below w.heap.size w w1 := by rw [hw1]; exact ((Below.refl _ w).alloc (Nat.le_refl _) _).alloc (by simp) _
  have N1 : At w1 w.heap.size #[vp, vl, vr, up, ul, ur] 40 := by rw [hw1]; exact (At.new w _ _).alloc _
  have R1 : At w1 (w.heap.size + 1) #[.int .i64 a, .int .i64 b] 53 := by rw [hw1]; exact At.new1 w _ _ _
  have HN1 := Lib.hid (h.belows b1)
  have HM1 := Lib.hid (h2.belows b1)
  have HNB := Lib.hid N1
  have HRB := Lib.hid R1
  have HB1 := Lib.hid b1
  have HW := Lib.hid hW
  have HW2 := Lib.hid hW2
  have HIA := Lib.hid ia
  have HIB := Lib.hid ib
  have KF := lfits9_any ps ls L w1 hW HN1.out
  have KG : Hid (∀ u, Below w1.heap.size w1 u → Calls Tryz.prog 8 #[.agg #[up, ul, ur]] u fun e w' => e = .returned (.bool (rightN qs ms M)) ∧ Below u.heap.size u w') := Lib.hid fun u hu => lfits9_any qs ms M u HW2.out (HM1.out.belows hu)
  have KT : Hid (∀ u, Below w1.heap.size w1 u → Calls Tryz.prog 25 #[.agg #[vp, vl, vr], .int .i64 a, .int .u32 x] u (TrY (rightN ps ls L) (trQ ps ls L a x) (erQ ps a) u)) := Lib.hid fun u hu => ftraceY ps ls L a x u HW.out (HN1.out.belows hu)
  have KU : Hid (∀ u, Below w1.heap.size w1 u → Calls Tryz.prog 25 #[.agg #[up, ul, ur], .int .i64 a, .int .u32 x] u (TrY (rightN qs ms M) (trQ qs ms M a x) (erQ qs a) u)) := Lib.hid fun u hu => ftraceY qs ms M a x u HW2.out (HM1.out.belows hu)
  have KH : Hid (∀ (v : Value) (L : List (Nat × Nat)) (u : World), Tr.IsZ u v L → Calls Tryz.prog 26 #[v, .int .u32 x] u fun e w' => e = .returned (.bool (Zo.has L x)) ∧ w' = u) := Lib.hid fun v L u h => Zo.rhas_any L x u h
  obtain ⟨⟨⟨A1, c1, rfl, _, _, _⟩, ⟨A2, c2, rfl, _, _, _⟩⟩, ⟨A3, c3, rfl, _, _, _⟩⟩ := h
  obtain ⟨⟨⟨B1, e1, rfl, _, _, _⟩, ⟨B2, e2, rfl, _, _, _⟩⟩, ⟨B3, e3, rfl, _, _, _⟩⟩ := h2
  have SX : Hid (∀ u, Below w1.heap.size w1 u → (u.cell? ⟨w.heap.size, 0, none⟩ = some (.slice A1 ps.length c1) ∧ u.cell? ⟨w.heap.size, 1, none⟩ = some (.slice A2 ls.length c2) ∧ u.cell? ⟨w.heap.size, 2, none⟩ = some (.slice A3 L.length c3)) ∧ (u.cell? ⟨w.heap.size, 3, none⟩ = some (.slice B1 qs.length e1) ∧ u.cell? ⟨w.heap.size, 4, none⟩ = some (.slice B2 ms.length e2) ∧ u.cell? ⟨w.heap.size, 5, none⟩ = some (.slice B3 M.length e3)) ∧ u.cell? ⟨w.heap.size + 1, 0, none⟩ = some (.int .i64 a) ∧ u.cell? ⟨w.heap.size + 1, 1, none⟩ = some (.int .i64 b)) := Lib.hid fun u hu => ⟨⟨((HNB.out.belows hu).cell 0).trans rfl, ((HNB.out.belows hu).cell 1).trans rfl, ((HNB.out.belows hu).cell 2).trans rfl⟩, ⟨((HNB.out.belows hu).cell 3).trans rfl, ((HNB.out.belows hu).cell 4).trans rfl, ((HNB.out.belows hu).cell 5).trans rfl⟩, ((HRB.out.belows hu).cell 0).trans rfl, ((HRB.out.belows hu).cell 1).trans rfl⟩
  obtain ⟨⟨x0, x1, x2⟩, ⟨x3, x4, x5⟩, o0, o1⟩ := SX.out w1 (Below.refl _ _)
  clear N1 R1 b1 hW hW2 O ia ib
  obtain ⟨p, hp⟩ : ∃ p, p = rightN ps ls L := ⟨_, rfl⟩
  obtain ⟨q, hq⟩ : ∃ q, q = rightN qs ms M := ⟨_, rfl⟩
  rw [← hp] at KF KT
  rw [← hq] at KG KU
  have HPP := Lib.hid hp
  have HQQ := Lib.hid hq
  clear hp hq
  go_enter Tryz.func6, Tryz.ntmps6
  go_upto_region 1 with (fail)
  rw [← hw1]
  clear hw1
  go_upto_region 2 with (go_at_call 8; refine KF.mono ?_; rintro e w2 ⟨rfl, b2⟩)
  obtain ⟨⟨x0, x1, x2⟩, ⟨x3, x4, x5⟩, o0, o1⟩ := SX.out w2 b2
  have KG2 := KG.out w2 b2
  go_upto_region 3 with (go_at_call 8; refine KG2.mono ?_; rintro e w3 ⟨rfl, b3⟩)
  have H3 := Lib.hid (b2.trans (b3.mono b2.size))
  obtain ⟨⟨x0, x1, x2⟩, ⟨x3, x4, x5⟩, o0, o1⟩ := SX.out w3 H3.out
  have kt := KT.out w3 H3.out
  clear KF KG KG2 b2 b3
  go_upto_region 4 with (go_at_call 25; refine kt.mono ?_; rintro e w4 ⟨xa, Aa, ca, ea, rfl, fa, pa, b4⟩)
  obtain ⟨w5, hw5⟩ : ∃ w5, w5 = w4.alloc (.cells #[.slice Aa xa.ds.length ca, .int .i64 xa.ft, .int .i64 xa.out.d, .int .i64 xa.out.p] 57) := ⟨_, rfl⟩
  have b45 : Below w4.heap.size w4 w5 := by rw [hw5]; exact (Below.refl _ _).alloc (Nat.le_refl _) _
  have T5 : BoxT xa w5 w4.heap.size := by rw [hw5]; exact boxT_new fa.out
  obtain ⟨TA, hTA⟩ : ∃ TA, TA = w4.heap.size := ⟨_, rfl⟩
  rw [← hTA] at T5 ⊢
  rw [← hw5]
  have H5 := Lib.hid (H3.out.trans ((b4.trans (b45.mono b4.size)).mono H3.out.size))
  have HT5 := Lib.hid T5
  obtain ⟨⟨x0, x1, x2⟩, ⟨x3, x4, x5⟩, o0, o1⟩ := SX.out w5 H5.out
  have ku := KU.out w5 H5.out
  clear hw5 hTA T5 b4 b45 kt fa
  go_upto_region 5 with (go_at_call 25; refine ku.mono ?_; rintro e w6 ⟨xb, Ab, cb, eb, rfl, fb, pb, b6⟩)
  obtain ⟨w7, hw7⟩ : ∃ w7, w7 = w6.alloc (.cells #[.slice Ab xb.ds.length cb, .int .i64 xb.ft, .int .i64 xb.out.d, .int .i64 xb.out.p] 57) := ⟨_, rfl⟩
  have b67 : Below w6.heap.size w6 w7 := by rw [hw7]; exact (Below.refl _ _).alloc (Nat.le_refl _) _
  have T7 : BoxT xb w7 w6.heap.size := by rw [hw7]; exact boxT_new fb.out
  obtain ⟨TB, hTB⟩ : ∃ TB, TB = w6.heap.size := ⟨_, rfl⟩
  rw [← hTB] at T7 ⊢
  rw [← hw7]
  have b57 := b6.trans (b67.mono b6.size)
  have H7 := Lib.hid (H5.out.trans (b57.mono H5.out.size))
  have HTA := Lib.hid (HT5.out.belows b57)
  have HTB := Lib.hid T7
  clear hw7 hTB T7 b6 b67 b57 ku fb x0 x1 x2 x3 x4 x5 o0 o1 HT5 KT KU
  by_cases hok : p = true ∧ q = true
  case neg =>
    cases p <;> cases q
    case true.true => exact absurd ⟨rfl, rfl⟩ hok
    all_goals
      clear hok
      go_wp2_with (go_at_call 9; refine (KA.out _).mono ?_; rintro e w8 ⟨rfl, b8⟩)
      go_ret
      exact ⟨rfl, HB1.out.trans ((H7.out.trans (b8.mono H7.out.size)).mono HB1.out.size)⟩
  case pos =>
    obtain ⟨rfl, rfl⟩ := hok
    obtain ⟨hxa, hea⟩ := pa.out rfl
    obtain ⟨hxb, heb⟩ := pb.out rfl
    have HR := Lib.hid ((rightN_iff _ _ _).1 HPP.out.symm)
    have HR2 := Lib.hid ((rightN_iff _ _ _).1 HQQ.out.symm)
    clear pa pb HPP HQQ
    by_cases hin : inD ps a ∧ inD qs a
    case neg =>
      by_cases h1 : inD ps a
      · have h2 : ¬ inD qs a := fun h2 => hin ⟨h1, h2⟩
        have e1 : ea = 0 := by rw [hea]; exact if_pos h1
        have e2 : eb = 91 := by rw [heb]; exact if_neg h2
        clear hea heb hxa hxb hin h1 h2
        subst e1 e2
        go_wp2_with (go_at_call 9; refine (KA.out _).mono ?_; rintro e w8 ⟨rfl, b8⟩)
        go_ret
        exact ⟨rfl, HB1.out.trans ((H7.out.trans (b8.mono H7.out.size)).mono HB1.out.size)⟩
      · have e1 : ea = 91 := by rw [hea]; exact if_neg h1
        clear hea heb hxa hxb hin h1
        subst e1
        go_wp2_with (go_at_call 9; refine (KA.out _).mono ?_; rintro e w8 ⟨rfl, b8⟩)
        go_ret
        exact ⟨rfl, HB1.out.trans ((H7.out.trans (b8.mono H7.out.size)).mono HB1.out.size)⟩
    case pos =>
      obtain ⟨i1, i2⟩ := hin
      have e1 : ea = 0 := by rw [hea]; exact if_pos i1
      have e2 : eb = 0 := by rw [heb]; exact if_pos i2
      subst e1 e2
      have HXA : Hid (xa = trcN ps ls L x a) := Lib.hid (hxa.trans (if_pos i1))
      have HXB : Hid (xb = trcN qs ms M x a) := Lib.hid (hxb.trans (if_pos i2))
      have HI1 := Lib.hid i1
      have HI2 := Lib.hid i2
      obtain ⟨⟨x0, x1, x2⟩, ⟨x3, x4, x5⟩, o0, o1⟩ := SX.out w7 H7.out
      have k1 := HO.out.fates ps ls L a w7 HR.out HW.out HIA.out (HN1.out.belows H7.out)
      obtain ⟨Z, hZ⟩ : ∃ Z : Nat → List (Nat × Nat), Z = fun k => fatZ ps ls L a (k : Nat) := ⟨_, rfl⟩
      rw [← hZ] at k1
      have HZH : Hid (∀ k : Nat, Zo.has (Z k) x = decide (xa.ft = (k : Int))) := Lib.hid fun k => by rw [hZ, HXA.out]; exact has_fat HI1.out hx
      clear hea heb hxa hxb i1 i2 hZ
      go_upto_region 8 with (go_at_call 10; refine k1.mono ?_; rintro e w8 h8; obtain ⟨y0, n0, d0, y1, n1, d1, y2, n2, d2, y3, n3, d3, y4, n4, d4, rfl, hz8, b8⟩ := fatOut_slices h8; clear h8)
      have X9 := five5_new hz8.out
      obtain ⟨w9, hw9⟩ : ∃ w9, w9 = w8.alloc (.cells #[.slice y0 n0 d0, .slice y1 n1 d1, .slice y2 n2 d2, .slice y3 n3 d3, .slice y4 n4 d4] 32) := ⟨_, rfl⟩
      have b89 : Below w8.heap.size w8 w9 := by rw [hw9]; exact (Below.refl _ _).alloc (Nat.le_refl _) _
      obtain ⟨ZB, hZB⟩ : ∃ ZB, ZB = w8.heap.size := ⟨_, rfl⟩
      rw [← hw9, ← hZB] at X9
      rw [← hZB]
      rw [← hw9]
      have b79 := b8.trans (b89.mono b8.size)
      have HX9 := Lib.hid X9
      have H9 := Lib.hid (H7.out.trans (b79.mono H7.out.size))
      have HTA9 := Lib.hid (HTA.out.belows b79)
      have HTB9 := Lib.hid (HTB.out.belows b79)
      clear hw9 hZB X9 hz8 k1 b8 b89 b79 x0 x1 x2 x3 x4 x5 o0 o1 HTA HTB
      go_wp2
      go_loopw [15] (fun i wr => ∃ k : Nat, i = .int .i64 k ∧ k ≤ 5 ∧ Below w9.heap.size w9 wr) (fun i _ => 5 - (intOf i).toNat)
      case atStart => exact ⟨0, rfl, by omega, Below.refl _ _⟩
      case round =>
        obtain ⟨k, rfl, hk, BN⟩ := hrel
        have HBN := Lib.hid BN
        by_cases hlt : k < 5
        · obtain ⟨AX, cX, p0, pz⟩ := (HX9.out.belows BN).at hlt
          obtain ⟨AA, cA, a0, a1, a2, a3, fA⟩ := (HTA9.out.belows BN).cells
          have kh := fun nq : Nat => KH.out _ _ (wr.drewN nq) (pz.belows (bdrewN (Below.refl _ _) nq))
          rw [HZH.out] at kh
          have i0 : (0 : Int) ≤ (k : Int) := by omega
          have i1 : (k : Int) < 5 := by omega
          clear pz a0 a2 a3 BN
          by_cases hft : xa.ft = (k : Int)
          · have g1 : (xa.ft == (k : Int)) = true := by simp [hft]
            rw [decide_eq_true hft] at kh
            clear hft
            go_wp2_with fail
            go_quiet (exact Calls.quiet_of_same (kh _))
            go_wp2
            go_roundw
            case rel => exact ⟨k + 1, by go_num, by omega, bdrewN HBN.out nq⟩
            case measure => simp [intOf]; omega
          · have g1 : (xa.ft == (k : Int)) = false := by simp [hft]
            rw [decide_eq_false hft] at kh
            clear hft
            go_wp2_with fail
            go_quiet (exact Calls.quiet_of_same (kh _))
            go_wp2
            go_roundw
            case rel => exact ⟨k + 1, by go_num, by omega, bdrewN HBN.out nq⟩
            case measure => simp [intOf]; omega
        · obtain rfl : k = 5 := by omega
          clear hk
          have Hr := Lib.hid (H9.out.trans (HBN.out.mono H9.out.size))
          have HTAr := Lib.hid (HTA9.out.belows HBN.out)
          have HTBr := Lib.hid (HTB9.out.belows HBN.out)
          obtain ⟨⟨x0, x1, x2⟩, ⟨x3, x4, x5⟩, o0, o1⟩ := SX.out wr Hr.out
          have k2 := HO.out.differs ps ls L qs ms M a wr HR.out HW.out HR2.out HW2.out HIA.out (HN1.out.belows Hr.out) (HM1.out.belows Hr.out)
          rw [show errIn (inD ps a ∧ inD qs a) = 0 from if_pos ⟨HI1.out, HI2.out⟩] at k2
          obtain ⟨D, hD⟩ : ∃ D, D = difZ ps ls L qs ms M a := ⟨_, rfl⟩
          rw [← hD] at k2
          have HDH : Hid (Zo.has D x = !decide (xa = xb)) := Lib.hid (by rw [hD, HXA.out, HXB.out]; exact has_dif HI1.out HI2.out hx)
          clear hD BN
          go_upto_region 14 with (go_at_call 17; refine k2.mono ?_; rintro e wd h4; obtain ⟨zd, nd, dd, rfl, zvd, bd⟩ := znOut_slices h4; clear h4)
          have Hd := Lib.hid (Hr.out.trans (bd.mono Hr.out.size))
          have HTAd := Lib.hid (HTAr.out.belows bd)
          have HTBd := Lib.hid (HTBr.out.belows bd)
          obtain ⟨AA, cA, a0, a1, a2, a3, fA⟩ := HTAd.out.cells
          obtain ⟨AB, cB, b0, b1, b2, b3, fB⟩ := HTBd.out.cells
          have SD : Hid (∀ u, Below wd.heap.size wd u → u.cell? ⟨TA, 0, none⟩ = some (.slice AA xa.ds.length cA) ∧ u.cell? ⟨TA, 1, none⟩ = some (.int .i64 xa.ft) ∧ u.cell? ⟨TA, 2, none⟩ = some (.int .i64 xa.out.d) ∧ u.cell? ⟨TA, 3, none⟩ = some (.int .i64 xa.out.p) ∧ u.cell? ⟨TB, 0, none⟩ = some (.slice AB xb.ds.length cB) ∧ u.cell? ⟨TB, 1, none⟩ = some (.int .i64 xb.ft) ∧ u.cell? ⟨TB, 2, none⟩ = some (.int .i64 xb.out.d) ∧ u.cell? ⟨TB, 3, none⟩ = some (.int .i64 xb.out.p)) := Lib.hid fun u hu => by
            have o : ∀ {B i : Nat} {v : Value}, wd.cell? ⟨B, i, none⟩ = some v → u.cell? ⟨B, i, none⟩ = some v := fun {B i v} h => (hu.cell (p := ⟨B, i, none⟩) (World.block_lt_of_cell? wd ⟨B, i, none⟩ h)).trans h
            exact ⟨o a0, o a1, o a2, o a3, o b0, o b1, o b2, o b3⟩
          obtain ⟨sv, hsv⟩ : ∃ sv, sv = decide (xa = xb) := ⟨_, rfl⟩
          have KD : Hid (∀ u, Below wd.heap.size wd u → Calls Tryz.prog 26 #[.slice zd nd dd, .int .u32 x] u fun e w' => e = .returned (.bool (!sv)) ∧ w' = u) := Lib.hid fun u hu => by
            have := KH.out _ _ u (zvd.out.belows hu)
            rwa [HDH.out, ← hsv] at this
          have KE : Hid (∀ u, Below wd.heap.size wd u → Calls Tryz.prog 27 #[.agg #[.slice AA xa.ds.length cA, .int .i64 xa.ft, .int .i64 xa.out.d, .int .i64 xa.out.p], .agg #[.slice AB xb.ds.length cB, .int .i64 xb.ft, .int .i64 xb.out.d, .int .i64 xb.out.p]] u fun e w' => e = .returned (.bool sv) ∧ Below u.heap.size u w') := Lib.hid fun u hu => by
            rw [hsv]
            exact fsameX xa xb u (fA.out.belows hu) (fB.out.belows hu)
          clear hsv bd k2 a0 a1 a2 a3 b0 b1 b2 b3
          go_cut [105] (fun c wc => c = .bool false ∧ Hid (Below wd.heap.size wd wc))
          case first =>
            cases sv
            all_goals
              go_region_held3 (fun W => W.cell? ⟨TA, 0, none⟩ = some (.slice AA xa.ds.length cA) ∧ W.cell? ⟨TA, 1, none⟩ = some (.int .i64 xa.ft) ∧ W.cell? ⟨TA, 2, none⟩ = some (.int .i64 xa.out.d) ∧ W.cell? ⟨TA, 3, none⟩ = some (.int .i64 xa.out.p) ∧ W.cell? ⟨TB, 0, none⟩ = some (.slice AB xb.ds.length cB) ∧ W.cell? ⟨TB, 1, none⟩ = some (.int .i64 xb.ft) ∧ W.cell? ⟨TB, 2, none⟩ = some (.int .i64 xb.out.d) ∧ W.cell? ⟨TB, 3, none⟩ = some (.int .i64 xb.out.p))
                (first | exact SD.out _ b6 | exact SD.out _ (bdrewN (Below.refl _ _) 1))
                (first
                  | (go_at_call 26; first | (refine (KD.out _ (bdrewN (Below.refl _ _) 1)).mono ?_; rintro e w5 ⟨rfl, rfl⟩) | (refine (KD.out _ b6).mono ?_; rintro e w5 ⟨rfl, rfl⟩))
                  | (go_at_call 27; refine (KE.out _ (bdrewN (Below.refl _ _) 1)).mono ?_; rintro e w6 ⟨rfl, b6x⟩; have b6 : Below wd.heap.size wd w6 := (bdrewN (Below.refl _ _) 1).trans b6x))
              all_goals (go_wp2_with fail; go_meet; exact ⟨rfl, Lib.hid b6⟩)
          case rest =>
            obtain ⟨rfl, hbc⟩ := hcut
            obtain ⟨w10, rfl⟩ : ∃ w10, w10 = wc := ⟨_, rfl⟩
            have H10 := Lib.hid (Hd.out.trans (hbc.out.mono Hd.out.size))
            have HTA10 := Lib.hid (HTAd.out.belows hbc.out)
            obtain ⟨⟨x0, x1, x2⟩, ⟨x3, x4, x5⟩, o0, o1⟩ := SX.out w10 H10.out
            have KV := HO.out.visits ps ls L a b w10 HR.out HW.out HIA.out HIB.out (HN1.out.belows H10.out)
            have KW : Hid (∀ u, Below w1.heap.size w1 u → Calls Tryz.prog 15 #[.agg #[.slice A1 ps.length c1, .slice A2 ls.length c2, .slice A3 L.length c3], .int .i64 a, .int .i64 b] u (ZnOut (delZ ps ls L a b) (errIn (inD ps a ∧ inD ps b)) u)) := Lib.hid fun u hu => HO.out.delivers ps ls L a b u HR.out HW.out HIA.out HIB.out (HN1.out.belows hu)
            obtain ⟨ev, hev⟩ : ∃ ev, ev = errIn (inD ps a ∧ inD ps b) := ⟨_, rfl⟩
            obtain ⟨V, hV⟩ : ∃ V, V = visZ ps ls L a b := ⟨_, rfl⟩
            obtain ⟨DV, hDV⟩ : ∃ DV, DV = delZ ps ls L a b := ⟨_, rfl⟩
            rw [← hev, ← hV] at KV
            rw [← hev, ← hDV] at KW
            have HEV := Lib.hid hev
            have HV := Lib.hid hV
            have HDV := Lib.hid hDV
            clear hev hV hDV hbc KD KE SD zvd
            go_upto_region 17 with (go_at_call 13; refine KV.mono ?_; rintro e w11 h11; obtain ⟨zv, nv, dv, rfl, zvv, b11⟩ := znOut_slices h11; clear h11)
            have H11 := Lib.hid (H10.out.trans (b11.mono H10.out.size))
            have HTA11 := Lib.hid (HTA10.out.belows b11)
            obtain ⟨⟨x0, x1, x2⟩, ⟨x3, x4, x5⟩, o0, o1⟩ := SX.out w11 H11.out
            have kw := KW.out w11 H11.out
            clear b11 KV KW
            go_upto_region 18 with (go_at_call 15; refine kw.mono ?_; rintro e w12 h12; obtain ⟨zw, nw, dw, rfl, zww, b12⟩ := znOut_slices h12; clear h12)
            have H12 := Lib.hid (H11.out.trans (b12.mono H11.out.size))
            have HTA12 := Lib.hid (HTA11.out.belows b12)
            have ZV12 := Lib.hid (zvv.out.belows b12)
            clear b12 kw zvv x0 x1 x2 x3 x4 x5 o0 o1
            by_cases hib : inD ps b
            case neg =>
              have e1 : ev = 91 := by rw [HEV.out]; exact if_neg (fun h => hib h.2)
              subst e1
              clear hib
              go_wp2_with (go_at_call 9; refine (KA.out _).mono ?_; rintro e w13 ⟨rfl, b13⟩)
              go_ret
              exact ⟨rfl, HB1.out.trans ((H12.out.trans (b13.mono H12.out.size)).mono HB1.out.size)⟩
            case pos =>
              have e1 : ev = 0 := by rw [HEV.out]; exact if_pos ⟨HI1.out, hib⟩
              have HVH : Hid (Zo.has V x = decide (b ∈ xa.ds)) := Lib.hid (by rw [HV.out, HXA.out]; exact has_vis HI1.out hib hx)
              have HWH : Hid (Zo.has DV x = (decide (xa.ft = 3) && decide (xa.out.d = b))) := Lib.hid (by rw [HDV.out, HXA.out]; exact has_del HI1.out hib hx)
              subst e1
              clear hib
              obtain ⟨AA, cA, a0, a1, a2, a3, fA⟩ := HTA12.out.cells
              obtain ⟨_, _, eA, nA, mA, zA⟩ := fA.out
              cases eA
              have hds : xa.ds.length ≤ 9223372036854775807 := Nat.le_trans nA mA
              have HZA := Lib.hid zA
              have SE : Hid (∀ u, Below w12.heap.size w12 u → u.cell? ⟨TA, 0, none⟩ = some (.slice AA xa.ds.length cA) ∧ u.cell? ⟨TA, 1, none⟩ = some (.int .i64 xa.ft) ∧ u.cell? ⟨TA, 2, none⟩ = some (.int .i64 xa.out.d) ∧ u.cell? ⟨w.heap.size + 1, 1, none⟩ = some (.int .i64 b)) := Lib.hid fun u hu => by
                have o : ∀ {B i : Nat} {v : Value}, w12.cell? ⟨B, i, none⟩ = some v → u.cell? ⟨B, i, none⟩ = some v := fun {B i v} h => (hu.cell (p := ⟨B, i, none⟩) (World.block_lt_of_cell? w12 ⟨B, i, none⟩ h)).trans h
                exact ⟨o a0, o a1, o a2, (SX.out u (H12.out.trans (hu.mono H12.out.size))).2.2.2⟩
              clear zA nA mA a1 a2 a3 fA
              go_wp2
              go_loopw [22, 23] (fun c i wr => ∃ (k : Nat) (cb : Bool), i = .int .i64 k ∧ c = .bool cb ∧ k ≤ xa.ds.length ∧ Hid (cb = decide (b ∈ xa.ds.take k)) ∧ Below w12.heap.size w12 wr) (fun _ i _ => xa.ds.length - (intOf i).toNat)
              case atStart => exact ⟨0, false, rfl, rfl, by omega, Lib.hid (by simp), Below.refl _ _⟩
              case round =>
                obtain ⟨k, cb, rfl, rfl, hk, HC, hbr⟩ := hrel
                have HBr := Lib.hid hbr
                obtain ⟨s0, s1, s2, s3⟩ := SE.out wr hbr
                by_cases hlt : k < xa.ds.length
                · obtain ⟨g, o, eA, hg, hc⟩ := HZA.out (by omega)
                  cases eA
                  have hcell := (hbr.cell (p := ⟨g, o + k * 1 + 0, none⟩) hg).trans (hc k hlt 0 (by omega))
                  rw [Nat.mul_one, Nat.add_zero] at hcell
                  have HT := Lib.hid (show decide (b ∈ xa.ds.take (k + 1)) = (decide (b ∈ xa.ds.take k) || decide (b = xa.ds[k])) from by
                    have e : (b ∈ xa.ds.take (k + 1)) ↔ (b ∈ xa.ds.take k ∨ b = xa.ds[k]) := by rw [List.take_succ_eq_append_getElem hlt]; simp only [List.mem_append, List.mem_singleton]
                    rw [decide_eq_decide.2 e]; exact Bool.decide_or _ _)
                  have hce : (intA xa.ds[k])[0]? = some (.int .i64 xa.ds[k]) := rfl
                  rw [hce] at hcell
                  generalize xa.ds[k] = y at hcell HT
                  have i0 : (0 : Int) ≤ (k : Int) := by omega
                  have i1 : (k : Int) < (xa.ds.length : Int) := by omega
                  clear hc hg hbr hce
                  cases cb with
                  | true =>
                    have HX := Lib.hid (show true = decide (b ∈ xa.ds.take (k + 1)) from by rw [HT.out, ← HC.out]; rfl)
                    clear HT HC
                    go_wp2_with fail
                    go_quiet (fail)
                    go_wp2
                    go_roundw
                    case rel => exact ⟨k + 1, true, by go_num, rfl, by omega, HX, bdrewN HBr.out nq⟩
                    case measure => simp [intOf]; omega
                  | false =>
                    by_cases hy : y = b
                    · have g1 : (y == b) = true := by simp [hy]
                      have HX := Lib.hid (show true = decide (b ∈ xa.ds.take (k + 1)) from by rw [HT.out, hy]; simp)
                      clear HT HC hy
                      go_wp2_with fail
                      go_quiet (fail)
                      go_wp2
                      go_roundw
                      case rel => exact ⟨k + 1, true, by go_num, rfl, by omega, HX, bdrewN HBr.out nq⟩
                      case measure => simp [intOf]; omega
                    · have g1 : (y == b) = false := by simp [hy]
                      have hy' : ¬ (b = y) := fun e => hy e.symm
                      have HX := Lib.hid (show false = decide (b ∈ xa.ds.take (k + 1)) from by rw [HT.out, ← HC.out]; simp [hy'])
                      clear HT HC hy hy'
                      go_wp2_with fail
                      go_quiet (fail)
                      go_wp2
                      go_roundw
                      case rel => exact ⟨k + 1, false, by go_num, rfl, by omega, HX, bdrewN HBr.out nq⟩
                      case measure => simp [intOf]; omega
                · obtain rfl : k = xa.ds.length := by omega
                  have hcb := HC.out
                  rw [List.take_length] at hcb
                  obtain ⟨hw, hhw⟩ : ∃ hw, hw = (decide (xa.ft = 3) && decide (xa.out.d = b)) := ⟨_, rfl⟩
                  have KVW : Hid (∀ u, Below wr.heap.size wr u → ∀ y n d hv, ((y = zv ∧ n = nv ∧ d = dv ∧ hv = cb) ∨ (y = zw ∧ n = nw ∧ d = dw ∧ hv = hw)) → Calls Tryz.prog 26 #[.slice y n d, .int .u32 x] u fun e w' => e = .returned (.bool hv) ∧ w' = u) := Lib.hid fun u hu y n d hv hp => by
                    rcases hp with ⟨rfl, rfl, rfl, rfl⟩ | ⟨rfl, rfl, rfl, rfl⟩
                    · have := KH.out _ _ u (ZV12.out.belows (HBr.out.trans (hu.mono HBr.out.size)))
                      rwa [HVH.out, ← hcb] at this
                    · have := KH.out _ _ u (zww.out.belows (HBr.out.trans (hu.mono HBr.out.size)))
                      rwa [HWH.out, ← hhw] at this
                  have SF : Hid (∀ u, Below wr.heap.size wr u → u.cell? ⟨TA, 1, none⟩ = some (.int .i64 xa.ft) ∧ u.cell? ⟨TA, 2, none⟩ = some (.int .i64 xa.out.d) ∧ u.cell? ⟨w.heap.size + 1, 1, none⟩ = some (.int .i64 b)) := Lib.hid fun u hu => (SE.out u (HBr.out.trans (hu.mono HBr.out.size))).2
                  have HCB := Lib.hid hcb
                  clear hcb HC s1 s2 s3 hk
                  cases cb
                  case false =>
                    by_cases h3 : xa.ft = 3
                    · have g3 : (xa.ft == 3) = true := by simp [h3]
                      by_cases hd : xa.out.d = b
                      · have g4 : (xa.out.d == b) = true := by simp [hd]
                        have hwt : hw = true := by rw [hhw]; simp [h3, hd]
                        rw [hwt] at KVW
                        have hse := HSEL.out
                        rw [← HXA.out] at hse
                        exact absurd (hse.symm.trans (sel_ft h3)) (by decide)
                      · have g4 : (xa.out.d == b) = false := by simp [hd]
                        have hwt : hw = false := by rw [hhw]; simp [h3, hd]
                        rw [hwt] at KVW
                        have hse := HSEL.out
                        rw [← HXA.out] at hse
                        exact absurd (hse.symm.trans (sel_ft h3)) (by decide)
                    · have g3 : (xa.ft == 3) = false := by simp [h3]
                      by_cases hd : xa.out.d = b
                      · have g4 : (xa.out.d == b) = true := by simp [hd]
                        have hwt : hw = false := by rw [hhw]; simp [h3]
                        rw [hwt] at KVW
                        clear hwt hhw h3 hd
                        have k1 : ∀ (X : Sub wr) y n d hv, ((y = zv ∧ n = nv ∧ d = dv ∧ hv = false) ∨ (y = zw ∧ n = nw ∧ d = dw ∧ hv = false)) → Calls Tryz.prog 26 #[.slice y n d, .int .u32 x] X.u fun e w' => e = .returned (.bool hv) ∧ Below X.u.heap.size X.u w' := fun X y n d hv hp => (KVW.out X.u X.h y n d hv hp).mono fun e w' h => ⟨h.1, by rw [h.2]; exact Below.refl _ _⟩
                        have k0 := fun x : Sub wr => KA.out x.u
                        have s0 : ∀ x : Sub wr, x.u.cell? ⟨TA, 1, none⟩ = some (.int .i64 xa.ft) := fun x => (SF.out x.u x.h).1
                        have s1 : ∀ x : Sub wr, x.u.cell? ⟨TA, 2, none⟩ = some (.int .i64 xa.out.d) := fun x => (SF.out x.u x.h).2.1
                        have s2 : ∀ x : Sub wr, x.u.cell? ⟨w.heap.size + 1, 1, none⟩ = some (.int .i64 b) := fun x => (SF.out x.u x.h).2.2
                        go_wp2_with fail
                        refine wp_region_cls (by kernel_rfl) (by kernel_rfl) ?_
                        repeat (go_big_quiet_step ((first | (go_at_call 9; exact Calls.cls_of (k0 _)) | (go_at_call 26; exact Calls.cls_of (k1 _ _ _ _ _ (by first | exact .inl ⟨rfl, rfl, rfl, rfl⟩ | exact .inr ⟨rfl, rfl, rfl, rfl⟩))))))
                        refine wpQuiet_nil ?_
                        rintro w6 ⟨x6, hx⟩
                        have b6 := x6.h
                        rw [← hx] at b6
                        clear hx x6 s0 s1 s2 k0 k1
                        all_goals (go_wp2_with fail; go_ret; exact ⟨rfl, HB1.out.trans ((H12.out.trans ((HBr.out.trans (b6.mono HBr.out.size)).mono H12.out.size)).mono HB1.out.size)⟩)
                      · have g4 : (xa.out.d == b) = false := by simp [hd]
                        have hwt : hw = false := by rw [hhw]; simp [h3]
                        rw [hwt] at KVW
                        have hse := HSEL.out
                        rw [← HXA.out] at hse
                        exact absurd (hse.symm.trans (sel_far' h3 hd HCB.out)) (by decide)
                  case true =>
                    by_cases h3 : xa.ft = 3
                    · have g3 : (xa.ft == 3) = true := by simp [h3]
                      by_cases hd : xa.out.d = b
                      · have g4 : (xa.out.d == b) = true := by simp [hd]
                        have hwt : hw = true := by rw [hhw]; simp [h3, hd]
                        rw [hwt] at KVW
                        have hse := HSEL.out
                        rw [← HXA.out] at hse
                        exact absurd (hse.symm.trans (sel_ft h3)) (by decide)
                      · have g4 : (xa.out.d == b) = false := by simp [hd]
                        have hwt : hw = false := by rw [hhw]; simp [h3, hd]
                        rw [hwt] at KVW
                        have hse := HSEL.out
                        rw [← HXA.out] at hse
                        exact absurd (hse.symm.trans (sel_ft h3)) (by decide)
                    · have g3 : (xa.ft == 3) = false := by simp [h3]
                      by_cases hd : xa.out.d = b
                      · have g4 : (xa.out.d == b) = true := by simp [hd]
                        have hwt : hw = false := by rw [hhw]; simp [h3]
                        rw [hwt] at KVW
                        have hse := HSEL.out
                        rw [← HXA.out] at hse
                        exact absurd (hse.symm.trans (sel_at h3 hd HCB.out)) (by decide)
                      · have g4 : (xa.out.d == b) = false := by simp [hd]
                        have hwt : hw = false := by rw [hhw]; simp [h3]
                        rw [hwt] at KVW
                        have hse := HSEL.out
                        rw [← HXA.out] at hse
                        exact absurd (hse.symm.trans (sel_far h3 hd HCB.out)) (by decide)
end Go.Proofs.YteboadppighplaaGreat
