/- FlowCut: for any two networks, range and device the law returns true, and the arguments read as before. No condition. -/
import Derived.Test.YteboadppighplaaGreatZ6
/- Law: FlowCut (stage 11), over the program's calls. -/
namespace Go.Proofs.YteboadppighplaaGreat
open Go.RowKit Go.Shelf

theorem trQ_near {L : List Ru} {R : List (Nat × Nat)} (hs : ∀ r ∈ rgL L, r ∈ R) {c y : Nat} (hca : c ≤ y) (h : Near R c y) {ps : List Int} {ls : List Lk} {d : Int} : trQ ps ls L d y = trQ ps ls L d c := by
  unfold trQ
  rw [trcN_near hs hca h]
theorem Chn.drop {t : Nat} : ∀ {C : List (Nat × Nat)} {a k : Nat}, Chn t a (C.drop k) → (hk : k < C.length) → C[k].1 = a ∧ C[k].1 ≤ C[k].2 ∧ Chn t (C[k].2 + 1) (C.drop (k + 1)) := fun {C a k} h hk => by
  rw [List.drop_eq_getElem_cons hk] at h
  exact h
theorem Chn.start {t : Nat} : ∀ {C : List (Nat × Nat)} {a : Nat}, Chn t a C → a ≤ t + 1
  | [], _, h => Nat.le_of_eq h
  | x :: z, a, h => by
    obtain ⟨h1, h2, h3⟩ := h
    have := Chn.start h3
    omega
/-- What Cut answers of any two networks, and of right ones. -/
def CutX (p q : Bool) (R : List (Nat × Nat)) (f t : Nat) (w : World) (e : Ending) (w' : World) : Prop := ∃ y n d er, e = .returned (.tuple #[.slice y n d, .int .i64 er]) ∧ Hid (p = true → q = true → er = (if f ≤ t then 0 else 31) ∧ Tr.IsZ w' (.slice y n d) (if f ≤ t then cutZ R f t else [])) ∧ Below w.heap.size w w'
set_option maxRecDepth 100000 in
set_option maxHeartbeats 40000000 in
theorem cut11_walk (O : Own11) {vp vl vr up ul ur : Value} (ps : List Int) (ls : List Lk) (L : List Ru) (qs : List Int) (ms : List Lk) (M : List Ru) (a : Int) (f t : Nat) (w : World) (h : IsN w vp vl vr ps ls L) (hW : NW ps ls L) (h2 : IsN w up ul ur qs ms M) (hW2 : NW qs ms M) (hf : f < 4294967296) (ht : t < 4294967296) :
    Calls Tryz.prog 7 #[.agg #[vp, vl, vr, up, ul, ur], .agg #[.int .u32 f, .int .u32 t], .int .i64 a] w fun e w' => e = .returned (.bool true) ∧ Below w.heap.size w w' := by
  have HO := Lib.hid O
  have KA : Hid (∀ u : World, Calls Tryz.prog 9 #[] u fun e w' => e = .returned (.bool true) ∧ Below u.heap.size u w') := Lib.hid fun u => alive11_any O u
  obtain ⟨w1, hw1⟩ : ∃ w1, w1 = (w.alloc (.cells #[vp, vl, vr, up, ul, ur] 40)).alloc (.cells #[.int .u32 f, .int .u32 t] 43) := ⟨_, rfl⟩
  have b1 : Below w.heap.size w w1 := by rw [hw1]; exact ((Below.refl _ w).alloc (Nat.le_refl _) _).alloc (by simp) _
  have N1 : At w1 w.heap.size #[vp, vl, vr, up, ul, ur] 40 := by rw [hw1]; exact (At.new w _ _).alloc _
  have R1 : At w1 (w.heap.size + 1) #[.int .u32 f, .int .u32 t] 43 := by rw [hw1]; exact At.new1 w _ _ _
  have HN1 := Lib.hid (h.belows b1)
  have HM1 := Lib.hid (h2.belows b1)
  have HNB := Lib.hid N1
  have HRB := Lib.hid R1
  have HB1 := Lib.hid b1
  have HW := Lib.hid hW
  have HW2 := Lib.hid hW2
  have HNS : Hid (∀ u, Below w1.heap.size w1 u → Ns u (.slice (some ⟨w.heap.size, 0, none⟩) 2 2) [⟨vp, vl, vr, ps, ls, L⟩, ⟨up, ul, ur, qs, ms, M⟩]) := Lib.hid fun u hu => ns_two' (n := ⟨vp, vl, vr, ps, ls, L⟩) (m := ⟨up, ul, ur, qs, ms, M⟩) (HNB.out.belows hu) (HN1.out.belows hu) (HM1.out.belows hu)
  have KF := lfits9_any ps ls L w1 hW HN1.out
  have KG : Hid (∀ u, Below w1.heap.size w1 u → Calls Tryz.prog 8 #[.agg #[up, ul, ur]] u fun e w' => e = .returned (.bool (rightN qs ms M)) ∧ Below u.heap.size u w') := Lib.hid fun u hu => lfits9_any qs ms M u HW2.out (HM1.out.belows hu)
  obtain ⟨R, hRg⟩ : ∃ R, R = rgN [⟨vp, vl, vr, ps, ls, L⟩, ⟨up, ul, ur, qs, ms, M⟩] := ⟨_, rfl⟩
  have hin0 : ∀ r ∈ rgL L, r ∈ R := fun r hr => by rw [hRg]; simp [rgN, hr]
  have hin1 : ∀ r ∈ rgL M, r ∈ R := fun r hr => by rw [hRg]; simp [rgN, hr]
  have KC : Hid (∀ u, Below w1.heap.size w1 u → Calls Tryz.prog 19 #[.slice (some ⟨w.heap.size, 0, none⟩) 2 2, .agg #[.int .u32 f, .int .u32 t]] u (CutX (rightN ps ls L) (rightN qs ms M) R f t u)) := Lib.hid fun u hu => by
    by_cases hr : rightN ps ls L = true ∧ rightN qs ms M = true
    · refine (HO.out.cut ⟨vp, vl, vr, ps, ls, L⟩ ⟨up, ul, ur, qs, ms, M⟩ f t u ((rightN_iff _ _ _).1 hr.1) HW.out ((rightN_iff _ _ _).1 hr.2) HW2.out hf ht (HNS.out u hu)).mono fun e w' h => ?_
      obtain ⟨y, n, d, rfl, hz, hb⟩ := cutOut_slices h
      rw [← hRg] at hz
      exact ⟨y, n, d, _, rfl, Lib.hid fun _ _ => ⟨rfl, hz.out⟩, hb⟩
    · refine (HO.out.cutAny ⟨vp, vl, vr, ps, ls, L⟩ ⟨up, ul, ur, qs, ms, M⟩ f t u HW.out HW2.out hf ht (HNS.out u hu)).mono fun e w' h => ?_
      obtain ⟨v, er, rfl, ⟨y, n, d, rfl⟩, hb⟩ := h
      exact ⟨y, n, d, er, rfl, Lib.hid fun h1 h2 => absurd ⟨h1, h2⟩ hr, hb⟩
  have hnear0 := Lib.hid fun (x : Nat × Nat) (hx : x ∈ cutZ R f t) (y : Nat) (h1 : x.1 ≤ y) (h2 : y ≤ x.2) => cutZ_near (R := R) ht hx (Nat.le_refl _) h1 h2
  have hchn0 := Lib.hid fun (hft : f ≤ t) => cutZ_chn R hft ht
  obtain ⟨⟨⟨A1, c1, rfl, _, _, _⟩, ⟨A2, c2, rfl, _, _, _⟩⟩, ⟨A3, c3, rfl, _, _, _⟩⟩ := h
  obtain ⟨⟨⟨B1, e1, rfl, _, _, _⟩, ⟨B2, e2, rfl, _, _, _⟩⟩, ⟨B3, e3, rfl, _, _, _⟩⟩ := h2
  have SX : Hid (∀ u, Below w1.heap.size w1 u → (u.cell? ⟨w.heap.size, 0, none⟩ = some (.slice A1 ps.length c1) ∧ u.cell? ⟨w.heap.size, 1, none⟩ = some (.slice A2 ls.length c2) ∧ u.cell? ⟨w.heap.size, 2, none⟩ = some (.slice A3 L.length c3)) ∧ (u.cell? ⟨w.heap.size, 3, none⟩ = some (.slice B1 qs.length e1) ∧ u.cell? ⟨w.heap.size, 4, none⟩ = some (.slice B2 ms.length e2) ∧ u.cell? ⟨w.heap.size, 5, none⟩ = some (.slice B3 M.length e3)) ∧ u.cell? ⟨w.heap.size + 1, 0, none⟩ = some (.int .u32 f) ∧ u.cell? ⟨w.heap.size + 1, 1, none⟩ = some (.int .u32 t)) := Lib.hid fun u hu => ⟨⟨((HNB.out.belows hu).cell 0).trans rfl, ((HNB.out.belows hu).cell 1).trans rfl, ((HNB.out.belows hu).cell 2).trans rfl⟩, ⟨((HNB.out.belows hu).cell 3).trans rfl, ((HNB.out.belows hu).cell 4).trans rfl, ((HNB.out.belows hu).cell 5).trans rfl⟩, ((HRB.out.belows hu).cell 0).trans rfl, ((HRB.out.belows hu).cell 1).trans rfl⟩
  obtain ⟨⟨x0, x1, x2⟩, ⟨x3, x4, x5⟩, _⟩ := SX.out w1 (Below.refl _ _)
  clear N1 R1 b1 hW hW2 O hRg
  obtain ⟨p, hp⟩ : ∃ p, p = rightN ps ls L := ⟨_, rfl⟩
  obtain ⟨q, hq⟩ : ∃ q, q = rightN qs ms M := ⟨_, rfl⟩
  rw [← hp] at KF KC
  rw [← hq] at KG KC
  have HPP := Lib.hid hp
  have HQQ := Lib.hid hq
  clear hp hq
  go_enter Tryz.func7, Tryz.ntmps7
  go_upto_region 1 with (fail)
  rw [← hw1]
  clear hw1
  go_upto_region 2 with (go_at_call 8; refine KF.mono ?_; rintro e w2 ⟨rfl, b2⟩)
  obtain ⟨⟨x0, x1, x2⟩, ⟨x3, x4, x5⟩, _⟩ := SX.out w2 b2
  have KG2 := KG.out w2 b2
  go_upto_region 3 with (go_at_call 8; refine KG2.mono ?_; rintro e w3 ⟨rfl, b3⟩)
  have HB3 := Lib.hid (b2.trans (b3.mono b2.size))
  have SR : Hid (∀ u, Below w1.heap.size w1 u → u.cell? ⟨w.heap.size + 1, 0, none⟩ = some (.int .u32 f) ∧ u.cell? ⟨w.heap.size + 1, 1, none⟩ = some (.int .u32 t)) := Lib.hid fun u hu => (SX.out u hu).2.2
  obtain ⟨r0, r1⟩ := SR.out w3 HB3.out
  clear KF KG KG2 b2 b3
  go_cut [9, 10] (fun v er' wc => ∃ y n d er, v = .slice y n d ∧ er' = .int .i64 er ∧ Hid (p = true → q = true → er = (if f ≤ t then 0 else 31) ∧ Tr.IsZ wc (.slice y n d) (if f ≤ t then cutZ R f t else [])) ∧ Hid (Below w3.heap.size w3 wc))
  case first =>
    go_region_held3 (fun W => W.cell? ⟨w.heap.size + 1, 0, none⟩ = some (.int .u32 f) ∧ W.cell? ⟨w.heap.size + 1, 1, none⟩ = some (.int .u32 t))
      (first | exact SR.out _ (HB3.out.trans (b6.mono HB3.out.size)) | exact SR.out _ (bdrewN HB3.out 1))
      (first | (go_at_call 19; refine (KC.out _ (bdrewN HB3.out 1)).mono ?_; rintro e w6 ⟨y, n, d, er, rfl, zc, b6x⟩; have b6 : Below w3.heap.size w3 w6 := (bdrewN (Below.refl _ _) 1).trans b6x))
    all_goals (go_wp2_with fail; go_meet; exact ⟨y, n, d, er, rfl, rfl, zc, Lib.hid b6⟩)
  case rest =>
    obtain ⟨y, n, d, er, rfl, rfl, zc, hb6⟩ := hcut
    obtain ⟨w6, rfl⟩ : ∃ w6, w6 = wc := ⟨_, rfl⟩
    have B6 := Lib.hid (HB3.out.trans (hb6.out.mono HB3.out.size))
    obtain ⟨r0, r1⟩ := SR.out w6 B6.out
    clear hb6 KC
    by_cases hpq : p = true ∧ q = true
    case neg =>
      cases p <;> cases q
      case true.true => exact absurd ⟨rfl, rfl⟩ hpq
      all_goals
        clear hpq
        go_wp2_with (go_at_call 9; refine (KA.out _).mono ?_; rintro e w7 ⟨rfl, b7⟩; obtain ⟨r0, r1⟩ := SR.out w7 (B6.out.trans (b7.mono B6.out.size)))
        go_ret
        exact ⟨rfl, HB1.out.trans ((B6.out.trans (b7.mono B6.out.size)).mono HB1.out.size)⟩
    case pos =>
      obtain ⟨rfl, rfl⟩ := hpq
      have HR := Lib.hid ((rightN_iff _ _ _).1 HPP.out.symm)
      have HR2 := Lib.hid ((rightN_iff _ _ _).1 HQQ.out.symm)
      obtain ⟨her, hz⟩ := zc.out rfl rfl
      clear zc
      by_cases hft : f ≤ t
      case neg =>
        rw [if_neg hft] at her
        subst her
        clear hz
        have g1 : t < f := by omega
        go_wp2_with (go_at_call 9; refine (KA.out _).mono ?_; rintro e w7 ⟨rfl, b7⟩; obtain ⟨r0, r1⟩ := SR.out w7 (B6.out.trans (b7.mono B6.out.size)))
        go_ret
        exact ⟨rfl, HB1.out.trans ((B6.out.trans (b7.mono B6.out.size)).mono HB1.out.size)⟩
      case pos =>
        rw [if_pos hft] at her hz
        subst her
        have hch := hchn0.out hft
        have hnr := hnear0
        generalize cutZ R f t = C at hz hch hnr
        clear hnear0 hchn0
        obtain ⟨Ac, cc, ecut, nc, mc, zc⟩ := hz
        obtain ⟨rfl, rfl, rfl⟩ : y = Ac ∧ n = C.length ∧ d = cc := by cases ecut; exact ⟨rfl, rfl, rfl⟩
        have HZC := Lib.hid zc
        have HCH := Lib.hid hch
        have hC63 : C.length ≤ 9223372036854775807 := Nat.le_trans nc mc
        have jf : IntKind.i64.wrap (f : Int) = (f : Int) := IntWalk.i64_in _ (by omega)
        have jt : IntKind.i64.wrap (t : Int) = (t : Int) := IntWalk.i64_in _ (by omega)
        clear zc hch ecut mc
        go_wp2
        go_loopw [11, 12] (fun at' i wr => ∃ k s : Nat, i = .int .i64 k ∧ at' = .int .i64 (s : Nat) ∧ k ≤ C.length ∧ s ≤ 4294967296 ∧ Hid (Chn t s (C.drop k)) ∧ Below w6.heap.size w6 wr) (fun _ i _ => C.length - (intOf i).toNat)
        case atStart => exact ⟨0, f, rfl, rfl, by omega, by omega, HCH, Below.refl _ _⟩
        case round =>
          obtain ⟨k, s, rfl, rfl, hk, hs, HK, hbr⟩ := hrel
          have HBr := Lib.hid hbr
          by_cases hlt : k < C.length
          · obtain ⟨g, o, rfl, hg, hc⟩ := (HZC.out.belows hbr) (by omega)
            obtain ⟨z0, z1⟩ := hc k hlt
            obtain ⟨h1, h2, h3⟩ := HK.out.drop hlt
            have hmem : C[k] ∈ C := List.getElem_mem hlt
            have hnear := Lib.hid (hnr.out C[k] hmem)
            have hp2 : C[k].2 ≤ t := by have := Chn.start h3; omega
            generalize C[k] = x at z0 z1 h1 h2 h3 hnear hp2
            obtain ⟨p1, p2⟩ := x
            dsimp only at z0 z1 h1 h2 h3 hnear hp2
            subst h1
            have HK2 := Lib.hid h3
            have hp12 := h2
            have i0 : (0 : Int) ≤ (k : Int) := by omega
            have i1 : (k : Int) < (C.length : Int) := by omega
            clear hc h2 h3 hmem hbr HK
            have j1 : IntKind.i64.wrap (p1 : Int) = (p1 : Int) := IntWalk.i64_in _ (by omega)
            have j2 : IntKind.i64.wrap (p2 : Int) = (p2 : Int) := IntWalk.i64_in _ (by omega)
            have j3 : IntKind.i64.wrap ((p2 : Int) + 1) = (p2 : Int) + 1 := IntWalk.i64_in _ (by omega)
            have d1 : decide (p2 < p1) = false := decide_eq_false (by omega)
            have d2 : decide ((p2 : Int) < (p1 : Int)) = false := decide_eq_false (by omega)
            go_upto_region 11 with (fail)
            obtain ⟨w3p, hw3p⟩ : ∃ w3p, w3p = wr.alloc (.cells #[.int .u32 p1, .int .u32 p2] 43) := ⟨_, rfl⟩
            have P3 : At w3p wr.heap.size #[.int .u32 p1, .int .u32 p2] 43 := by rw [hw3p]; exact At.new wr _ _
            have b3p : Below wr.heap.size wr w3p := by rw [hw3p]; exact (Below.refl _ _).alloc (Nat.le_refl _) _
            obtain ⟨PB, hPB⟩ : ∃ PB, PB = wr.heap.size := ⟨_, rfl⟩
            rw [← hPB] at P3 ⊢
            rw [← hw3p]
            have HPB := Lib.hid (B6.out.trans ((HBr.out.trans (b3p.mono HBr.out.size)).mono B6.out.size))
            have HP6 := Lib.hid (HBr.out.trans (b3p.mono HBr.out.size))
            have SN : Hid (∀ u, Below w3p.heap.size w3p u → (u.cell? ⟨w.heap.size, 0, none⟩ = some (.slice A1 ps.length c1) ∧ u.cell? ⟨w.heap.size, 1, none⟩ = some (.slice A2 ls.length c2) ∧ u.cell? ⟨w.heap.size, 2, none⟩ = some (.slice A3 L.length c3)) ∧ (u.cell? ⟨w.heap.size, 3, none⟩ = some (.slice B1 qs.length e1) ∧ u.cell? ⟨w.heap.size, 4, none⟩ = some (.slice B2 ms.length e2) ∧ u.cell? ⟨w.heap.size, 5, none⟩ = some (.slice B3 M.length e3)) ∧ u.cell? ⟨PB, 0, none⟩ = some (.int .u32 p1) ∧ u.cell? ⟨PB, 1, none⟩ = some (.int .u32 p2)) := Lib.hid fun u hu => by
              obtain ⟨q1, q2, _⟩ := SX.out u (HPB.out.trans (hu.mono HPB.out.size))
              exact ⟨q1, q2, ((P3.belows hu).cell 0).trans rfl, ((P3.belows hu).cell 1).trans rfl⟩
            have u0 := (P3.cell 0).trans rfl
            have u1 := (P3.cell 1).trans rfl
            obtain ⟨pm, hpm⟩ : ∃ pm, pm = p1 + (p2 - p1) / 2 := ⟨_, rfl⟩
            have hpm1 : p1 ≤ pm := by omega
            have hpm2 : pm ≤ p2 := by omega
            have HPM := Lib.hid hpm
            have jm1 : IntKind.u32.wrap ((p2 : Int) - (p1 : Int)) = (p2 : Int) - (p1 : Int) := IntWalk.u32_in _ (by omega)
            have jm2 : IntKind.u32.wrap (((p2 : Int) - (p1 : Int)) / 2) = ((p2 : Int) - (p1 : Int)) / 2 := IntWalk.u32_in _ (by omega)
            have jm4 : ((p2 : Int) - (p1 : Int)).tdiv 2 = ((p2 : Int) - (p1 : Int)) / 2 := Int.tdiv_eq_ediv_of_nonneg (by omega)
            have jm3 : IntKind.u32.wrap ((p1 : Int) + ((p2 : Int) - (p1 : Int)) / 2) = (pm : Int) := by rw [IntWalk.u32_in _ (by omega)]; omega
            clear hw3p hPB b3p hpm z0 z1 hg P3
            go_wp2
            go_loopw [14] (fun i wq => ∃ j : Nat, i = .int .i64 j ∧ j ≤ 2 ∧ Below w3p.heap.size w3p wq) (fun i _ => 2 - (intOf i).toNat)
            case atStart => exact ⟨0, rfl, by omega, Below.refl _ _⟩
            case round =>
              obtain ⟨j, rfl, hj, hbq⟩ := hrel
              obtain ⟨wq, rfl⟩ : ∃ wq, wq = wr := ⟨_, rfl⟩
              have Hwq := Lib.hid hbq
              clear hbq
              by_cases hj0 : j = 0
              · subst hj0
                have KT : Hid (∀ (y : Nat), trQ ps ls L a y = trQ ps ls L a p1 → ∀ u, Below w3p.heap.size w3p u → Calls Tryz.prog 25 #[.agg #[.slice A1 ps.length c1, .slice A2 ls.length c2, .slice A3 L.length c3], .int .i64 a, .int .u32 (y : Nat)] u (TrQ (trQ ps ls L a p1) (erQ ps a) u)) := Lib.hid fun y hy u hu => by
                  rw [← hy]
                  exact ftraceX ps ls L a y u HR.out HW.out (HN1.out.belows (HPB.out.trans (hu.mono HPB.out.size)))
                have eq2 := trQ_near (ps := ps) (ls := ls) (d := a) (fun r hr => hin0 r hr) (Nat.le_trans (Nat.le_refl _) hp12) (hnear.out p2 hp12 (Nat.le_refl _))
                have eqm := trQ_near (ps := ps) (ls := ls) (d := a) (fun r hr => hin0 r hr) hpm1 (hnear.out pm hpm1 hpm2)
                obtain ⟨x, hx⟩ : ∃ x, x = trQ ps ls L a p1 := ⟨_, rfl⟩
                obtain ⟨ex, hex⟩ : ∃ ex, ex = erQ ps a := ⟨_, rfl⟩
                have KT1 : Hid (∀ u, Below w3p.heap.size w3p u → Calls Tryz.prog 25 #[.agg #[.slice A1 ps.length c1, .slice A2 ls.length c2, .slice A3 L.length c3], .int .i64 a, .int .u32 p1] u (TrQ x ex u)) := Lib.hid (by rw [hx, hex]; exact KT.out p1 rfl)
                have KT2 : Hid (∀ u, Below w3p.heap.size w3p u → Calls Tryz.prog 25 #[.agg #[.slice A1 ps.length c1, .slice A2 ls.length c2, .slice A3 L.length c3], .int .i64 a, .int .u32 p2] u (TrQ x ex u)) := Lib.hid (by rw [hx, hex]; exact KT.out p2 eq2)
                have KT3 : Hid (∀ u, Below w3p.heap.size w3p u → Calls Tryz.prog 25 #[.agg #[.slice A1 ps.length c1, .slice A2 ls.length c2, .slice A3 L.length c3], .int .i64 a, .int .u32 pm] u (TrQ x ex u)) := Lib.hid (by rw [hx, hex]; exact KT.out pm eqm)
                clear KT eq2 eqm hx hex
                go_upto_region 17 with (fail)
                go_cut [15, 16] (fun p er wc => er = .int .i64 ex ∧ ∃ UB : Nat, p = .pointer (some ⟨UB, 0, none⟩) ∧ Hid (BoxT x wc UB ∧ Below wq.heap.size wq wc))
                case first =>
                  have SQ : Hid (∀ u, Below wq.heap.size wq u → u.cell? ⟨w.heap.size, 0, none⟩ = some (.slice A1 ps.length c1) ∧ u.cell? ⟨w.heap.size, 1, none⟩ = some (.slice A2 ls.length c2) ∧ u.cell? ⟨w.heap.size, 2, none⟩ = some (.slice A3 L.length c3) ∧ u.cell? ⟨PB, 0, none⟩ = some (.int .u32 p1) ∧ u.cell? ⟨PB, 1, none⟩ = some (.int .u32 p2)) := Lib.hid fun u hu => by
                    obtain ⟨q0, q1, q2⟩ := SN.out u (Hwq.out.trans (hu.mono Hwq.out.size))
                    exact ⟨q0.1, q0.2.1, q0.2.2, q2⟩
                  go_region_held3 (fun W => W.cell? ⟨w.heap.size, 0, none⟩ = some (.slice A1 ps.length c1) ∧ W.cell? ⟨w.heap.size, 1, none⟩ = some (.slice A2 ls.length c2) ∧ W.cell? ⟨w.heap.size, 2, none⟩ = some (.slice A3 L.length c3) ∧ W.cell? ⟨PB, 0, none⟩ = some (.int .u32 p1) ∧ W.cell? ⟨PB, 1, none⟩ = some (.int .u32 p2))
                    (first | exact SQ.out _ b5w | exact SQ.out _ (b5w.alloc b5w.size _) | exact SQ.out _ ((((b5w.setCell (p := ⟨wq.heap.size, 0, none⟩) (Nat.le_refl _) _).setCell (p := ⟨wq.heap.size, 1, none⟩) (Nat.le_refl _) _).setCell (p := ⟨wq.heap.size, 2, none⟩) (Nat.le_refl _) _).setCell (p := ⟨wq.heap.size, 3, none⟩) (Nat.le_refl _) _) | exact SQ.out _ ((Below.refl _ wq).alloc (Nat.le_refl _) _).drew | exact SQ.out _ (bdrewN (Below.refl _ _) 1))
                    ((go_at_call 25; refine (KT1.out _ (by first | exact (Hwq.out.alloc Hwq.out.size _).drew | exact bdrewN Hwq.out 1)).mono ?_; rintro e w5 ⟨Au, cu, rfl, zu, hfr, b5⟩; have b5w : Below wq.heap.size wq w5 := (by first | exact Below.trans (((Below.refl _ wq).alloc (Nat.le_refl _) _).drew) (b5.mono (by simp)) | exact (bdrewN (Below.refl _ _) 1).trans b5); first | (have U5 : At w5 wq.heap.size #[.slice none 0 0, .int .i64 0, .int .i64 0, .int .i64 0] 57 := (show At (wq.alloc (.cells #[.slice none 0 0, .int .i64 0, .int .i64 0, .int .i64 0] 57)).drew wq.heap.size #[.slice none 0 0, .int .i64 0, .int .i64 0, .int .i64 0] 57 from At.new wq _ _).belows b5; have y0 := (U5.cell 0).trans rfl; have y1 := (U5.cell 1).trans rfl; have y2 := (U5.cell 2).trans rfl; have y3 := (U5.cell 3).trans rfl; have f0 := U5.frozen 0; have f1 := U5.frozen 1; have f2 := U5.frozen 2; have f3 := U5.frozen 3) | skip))
                  all_goals (go_wp2_with fail; go_meet)
                  · exact ⟨rfl, w5.heap.size, rfl, Lib.hid ⟨boxT_new zu.out, b5w.alloc b5w.size _⟩⟩
                  · exact ⟨rfl, wq.heap.size, rfl, Lib.hid ⟨boxT_set U5 zu.out (fun hn g' o' e => by have := hfr.out hn g' o' e; exact Nat.lt_of_lt_of_le (by simp) this), (((b5w.setCell (p := ⟨wq.heap.size, 0, none⟩) (Nat.le_refl _) _).setCell (p := ⟨wq.heap.size, 1, none⟩) (Nat.le_refl _) _).setCell (p := ⟨wq.heap.size, 2, none⟩) (Nat.le_refl _) _).setCell (p := ⟨wq.heap.size, 3, none⟩) (Nat.le_refl _) _⟩⟩
                case rest =>
                  obtain ⟨rfl, UA, rfl, hwx⟩ := hcut
                  obtain ⟨wx, rfl⟩ : ∃ wx, wx = wc := ⟨_, rfl⟩
                  have Hwx := Lib.hid (Hwq.out.trans (hwx.out.2.mono Hwq.out.size))
                  go_upto_region 18 with (fail)
                  go_cut [17, 18] (fun p er wc => er = .int .i64 ex ∧ ∃ UB : Nat, p = .pointer (some ⟨UB, 0, none⟩) ∧ Hid (BoxT x wc UB ∧ Below wx.heap.size wx wc))
                  case first =>
                    have SQ : Hid (∀ u, Below wx.heap.size wx u → u.cell? ⟨w.heap.size, 0, none⟩ = some (.slice A1 ps.length c1) ∧ u.cell? ⟨w.heap.size, 1, none⟩ = some (.slice A2 ls.length c2) ∧ u.cell? ⟨w.heap.size, 2, none⟩ = some (.slice A3 L.length c3) ∧ u.cell? ⟨PB, 0, none⟩ = some (.int .u32 p1) ∧ u.cell? ⟨PB, 1, none⟩ = some (.int .u32 p2)) := Lib.hid fun u hu => by
                      obtain ⟨q0, q1, q2⟩ := SN.out u (Hwx.out.trans (hu.mono Hwx.out.size))
                      exact ⟨q0.1, q0.2.1, q0.2.2, q2⟩
                    go_region_held3 (fun W => W.cell? ⟨w.heap.size, 0, none⟩ = some (.slice A1 ps.length c1) ∧ W.cell? ⟨w.heap.size, 1, none⟩ = some (.slice A2 ls.length c2) ∧ W.cell? ⟨w.heap.size, 2, none⟩ = some (.slice A3 L.length c3) ∧ W.cell? ⟨PB, 0, none⟩ = some (.int .u32 p1) ∧ W.cell? ⟨PB, 1, none⟩ = some (.int .u32 p2))
                      (first | exact SQ.out _ b5w | exact SQ.out _ (b5w.alloc b5w.size _) | exact SQ.out _ ((((b5w.setCell (p := ⟨wx.heap.size, 0, none⟩) (Nat.le_refl _) _).setCell (p := ⟨wx.heap.size, 1, none⟩) (Nat.le_refl _) _).setCell (p := ⟨wx.heap.size, 2, none⟩) (Nat.le_refl _) _).setCell (p := ⟨wx.heap.size, 3, none⟩) (Nat.le_refl _) _) | exact SQ.out _ ((Below.refl _ wx).alloc (Nat.le_refl _) _).drew | exact SQ.out _ (bdrewN (Below.refl _ _) 1))
                      ((go_at_call 25; refine (KT2.out _ (by first | exact (Hwx.out.alloc Hwx.out.size _).drew | exact bdrewN Hwx.out 1)).mono ?_; rintro e w5 ⟨Au, cu, rfl, zu, hfr, b5⟩; have b5w : Below wx.heap.size wx w5 := (by first | exact Below.trans (((Below.refl _ wx).alloc (Nat.le_refl _) _).drew) (b5.mono (by simp)) | exact (bdrewN (Below.refl _ _) 1).trans b5); first | (have U5 : At w5 wx.heap.size #[.slice none 0 0, .int .i64 0, .int .i64 0, .int .i64 0] 57 := (show At (wx.alloc (.cells #[.slice none 0 0, .int .i64 0, .int .i64 0, .int .i64 0] 57)).drew wx.heap.size #[.slice none 0 0, .int .i64 0, .int .i64 0, .int .i64 0] 57 from At.new wx _ _).belows b5; have y0 := (U5.cell 0).trans rfl; have y1 := (U5.cell 1).trans rfl; have y2 := (U5.cell 2).trans rfl; have y3 := (U5.cell 3).trans rfl; have f0 := U5.frozen 0; have f1 := U5.frozen 1; have f2 := U5.frozen 2; have f3 := U5.frozen 3) | skip))
                    all_goals (go_wp2_with fail; go_meet)
                    · exact ⟨rfl, w5.heap.size, rfl, Lib.hid ⟨boxT_new zu.out, b5w.alloc b5w.size _⟩⟩
                    · exact ⟨rfl, wx.heap.size, rfl, Lib.hid ⟨boxT_set U5 zu.out (fun hn g' o' e => by have := hfr.out hn g' o' e; exact Nat.lt_of_lt_of_le (by simp) this), (((b5w.setCell (p := ⟨wx.heap.size, 0, none⟩) (Nat.le_refl _) _).setCell (p := ⟨wx.heap.size, 1, none⟩) (Nat.le_refl _) _).setCell (p := ⟨wx.heap.size, 2, none⟩) (Nat.le_refl _) _).setCell (p := ⟨wx.heap.size, 3, none⟩) (Nat.le_refl _) _⟩⟩
                  case rest =>
                    obtain ⟨rfl, UB, rfl, hwy⟩ := hcut
                    obtain ⟨wy, rfl⟩ : ∃ wy, wy = wc := ⟨_, rfl⟩
                    have Hwy := Lib.hid (Hwx.out.trans (hwy.out.2.mono Hwx.out.size))
                    go_upto_region 19 with (fail)
                    go_cut [19, 20] (fun p er wc => er = .int .i64 ex ∧ ∃ UB : Nat, p = .pointer (some ⟨UB, 0, none⟩) ∧ Hid (BoxT x wc UB ∧ Below wy.heap.size wy wc))
                    case first =>
                      have SQ : Hid (∀ u, Below wy.heap.size wy u → u.cell? ⟨w.heap.size, 0, none⟩ = some (.slice A1 ps.length c1) ∧ u.cell? ⟨w.heap.size, 1, none⟩ = some (.slice A2 ls.length c2) ∧ u.cell? ⟨w.heap.size, 2, none⟩ = some (.slice A3 L.length c3) ∧ u.cell? ⟨PB, 0, none⟩ = some (.int .u32 p1) ∧ u.cell? ⟨PB, 1, none⟩ = some (.int .u32 p2)) := Lib.hid fun u hu => by
                        obtain ⟨q0, q1, q2⟩ := SN.out u (Hwy.out.trans (hu.mono Hwy.out.size))
                        exact ⟨q0.1, q0.2.1, q0.2.2, q2⟩
                      go_region_held3 (fun W => W.cell? ⟨w.heap.size, 0, none⟩ = some (.slice A1 ps.length c1) ∧ W.cell? ⟨w.heap.size, 1, none⟩ = some (.slice A2 ls.length c2) ∧ W.cell? ⟨w.heap.size, 2, none⟩ = some (.slice A3 L.length c3) ∧ W.cell? ⟨PB, 0, none⟩ = some (.int .u32 p1) ∧ W.cell? ⟨PB, 1, none⟩ = some (.int .u32 p2))
                        (first | exact SQ.out _ b5w | exact SQ.out _ (b5w.alloc b5w.size _) | exact SQ.out _ ((((b5w.setCell (p := ⟨wy.heap.size, 0, none⟩) (Nat.le_refl _) _).setCell (p := ⟨wy.heap.size, 1, none⟩) (Nat.le_refl _) _).setCell (p := ⟨wy.heap.size, 2, none⟩) (Nat.le_refl _) _).setCell (p := ⟨wy.heap.size, 3, none⟩) (Nat.le_refl _) _) | exact SQ.out _ ((Below.refl _ wy).alloc (Nat.le_refl _) _).drew | exact SQ.out _ (bdrewN (Below.refl _ _) 1))
                        ((go_at_call 25; refine (KT3.out _ (by first | exact (Hwy.out.alloc Hwy.out.size _).drew | exact bdrewN Hwy.out 1)).mono ?_; rintro e w5 ⟨Au, cu, rfl, zu, hfr, b5⟩; have b5w : Below wy.heap.size wy w5 := (by first | exact Below.trans (((Below.refl _ wy).alloc (Nat.le_refl _) _).drew) (b5.mono (by simp)) | exact (bdrewN (Below.refl _ _) 1).trans b5); first | (have U5 : At w5 wy.heap.size #[.slice none 0 0, .int .i64 0, .int .i64 0, .int .i64 0] 57 := (show At (wy.alloc (.cells #[.slice none 0 0, .int .i64 0, .int .i64 0, .int .i64 0] 57)).drew wy.heap.size #[.slice none 0 0, .int .i64 0, .int .i64 0, .int .i64 0] 57 from At.new wy _ _).belows b5; have y0 := (U5.cell 0).trans rfl; have y1 := (U5.cell 1).trans rfl; have y2 := (U5.cell 2).trans rfl; have y3 := (U5.cell 3).trans rfl; have f0 := U5.frozen 0; have f1 := U5.frozen 1; have f2 := U5.frozen 2; have f3 := U5.frozen 3) | skip))
                      all_goals (go_wp2_with fail; go_meet)
                      · exact ⟨rfl, w5.heap.size, rfl, Lib.hid ⟨boxT_new zu.out, b5w.alloc b5w.size _⟩⟩
                      · exact ⟨rfl, wy.heap.size, rfl, Lib.hid ⟨boxT_set U5 zu.out (fun hn g' o' e => by have := hfr.out hn g' o' e; exact Nat.lt_of_lt_of_le (by simp) this), (((b5w.setCell (p := ⟨wy.heap.size, 0, none⟩) (Nat.le_refl _) _).setCell (p := ⟨wy.heap.size, 1, none⟩) (Nat.le_refl _) _).setCell (p := ⟨wy.heap.size, 2, none⟩) (Nat.le_refl _) _).setCell (p := ⟨wy.heap.size, 3, none⟩) (Nat.le_refl _) _⟩⟩
                    case rest =>
                      obtain ⟨rfl, UC, rfl, hwz⟩ := hcut
                      obtain ⟨wz, rfl⟩ : ∃ wz, wz = wc := ⟨_, rfl⟩
                      have Hwz := Lib.hid (Hwy.out.trans (hwz.out.2.mono Hwy.out.size))
                      have TA := Lib.hid ((hwx.out.1.belows hwy.out.2).belows hwz.out.2)
                      have TB' := Lib.hid (hwy.out.1.belows hwz.out.2)
                      have TC := Lib.hid hwz.out.1
                      obtain ⟨AA, cA, a0, a1, a2, a3, fA⟩ := TA.out.cells
                      obtain ⟨AB, cB, b0, b1, b2, b3, fB⟩ := TB'.out.cells
                      obtain ⟨AC, cC, d0, d1, d2, d3, fC⟩ := TC.out.cells
                      have kA : Calls Tryz.prog 27 #[.agg #[.slice AA x.ds.length cA, .int .i64 x.ft, .int .i64 x.out.d, .int .i64 x.out.p], .agg #[.slice AB x.ds.length cB, .int .i64 x.ft, .int .i64 x.out.d, .int .i64 x.out.p]] wz fun e w' => e = .returned (.bool true) ∧ Below wz.heap.size wz w' := by
                        have := fsameX x x wz fA.out fB.out
                        rwa [decide_eq_true rfl] at this
                      clear hwx hwy hwz KT1 KT2 KT3
                      go_wp2_with fail
                      refine kA.mono ?_
                      rintro e wv ⟨rfl, bv⟩
                      have Hwv := Lib.hid (Hwz.out.trans (bv.mono Hwz.out.size))
                      obtain ⟨AA, cA, a0, a1, a2, a3, fA⟩ := (TA.out.belows bv).cells
                      obtain ⟨AC, cC, d0, d1, d2, d3, fC⟩ := (TC.out.belows bv).cells
                      have kB : Calls Tryz.prog 27 #[.agg #[.slice AA x.ds.length cA, .int .i64 x.ft, .int .i64 x.out.d, .int .i64 x.out.p], .agg #[.slice AC x.ds.length cC, .int .i64 x.ft, .int .i64 x.out.d, .int .i64 x.out.p]] wv fun e w' => e = .returned (.bool true) ∧ Below wv.heap.size wv w' := by
                        have := fsameX x x wv fA.out fC.out
                        rwa [decide_eq_true rfl] at this
                      clear kA bv b0 b1 b2 b3
                      go_wp2_with fail
                      refine kB.mono ?_
                      rintro e wt ⟨rfl, bt⟩
                      have Hwt := Lib.hid (Hwv.out.trans (bt.mono Hwv.out.size))
                      clear kB bt a0 a1 a2 a3 d0 d1 d2 d3
                      go_wp2
                      go_roundw
                      case rel => exact ⟨1, by go_num, by omega, Hwt.out⟩
                      case measure => simp [intOf]
              · by_cases hj1 : j = 1
                · subst hj1
                  have KT : Hid (∀ (y : Nat), trQ qs ms M a y = trQ qs ms M a p1 → ∀ u, Below w3p.heap.size w3p u → Calls Tryz.prog 25 #[.agg #[.slice B1 qs.length e1, .slice B2 ms.length e2, .slice B3 M.length e3], .int .i64 a, .int .u32 (y : Nat)] u (TrQ (trQ qs ms M a p1) (erQ qs a) u)) := Lib.hid fun y hy u hu => by
                    rw [← hy]
                    exact ftraceX qs ms M a y u HR2.out HW2.out (HM1.out.belows (HPB.out.trans (hu.mono HPB.out.size)))
                  have eq2 := trQ_near (ps := qs) (ls := ms) (d := a) (fun r hr => hin1 r hr) (Nat.le_trans (Nat.le_refl _) hp12) (hnear.out p2 hp12 (Nat.le_refl _))
                  have eqm := trQ_near (ps := qs) (ls := ms) (d := a) (fun r hr => hin1 r hr) hpm1 (hnear.out pm hpm1 hpm2)
                  obtain ⟨x, hx⟩ : ∃ x, x = trQ qs ms M a p1 := ⟨_, rfl⟩
                  obtain ⟨ex, hex⟩ : ∃ ex, ex = erQ qs a := ⟨_, rfl⟩
                  have KT1 : Hid (∀ u, Below w3p.heap.size w3p u → Calls Tryz.prog 25 #[.agg #[.slice B1 qs.length e1, .slice B2 ms.length e2, .slice B3 M.length e3], .int .i64 a, .int .u32 p1] u (TrQ x ex u)) := Lib.hid (by rw [hx, hex]; exact KT.out p1 rfl)
                  have KT2 : Hid (∀ u, Below w3p.heap.size w3p u → Calls Tryz.prog 25 #[.agg #[.slice B1 qs.length e1, .slice B2 ms.length e2, .slice B3 M.length e3], .int .i64 a, .int .u32 p2] u (TrQ x ex u)) := Lib.hid (by rw [hx, hex]; exact KT.out p2 eq2)
                  have KT3 : Hid (∀ u, Below w3p.heap.size w3p u → Calls Tryz.prog 25 #[.agg #[.slice B1 qs.length e1, .slice B2 ms.length e2, .slice B3 M.length e3], .int .i64 a, .int .u32 pm] u (TrQ x ex u)) := Lib.hid (by rw [hx, hex]; exact KT.out pm eqm)
                  clear KT eq2 eqm hx hex
                  go_upto_region 17 with (fail)
                  go_cut [15, 16] (fun p er wc => er = .int .i64 ex ∧ ∃ UB : Nat, p = .pointer (some ⟨UB, 0, none⟩) ∧ Hid (BoxT x wc UB ∧ Below wq.heap.size wq wc))
                  case first =>
                    have SQ : Hid (∀ u, Below wq.heap.size wq u → u.cell? ⟨w.heap.size, 3, none⟩ = some (.slice B1 qs.length e1) ∧ u.cell? ⟨w.heap.size, 4, none⟩ = some (.slice B2 ms.length e2) ∧ u.cell? ⟨w.heap.size, 5, none⟩ = some (.slice B3 M.length e3) ∧ u.cell? ⟨PB, 0, none⟩ = some (.int .u32 p1) ∧ u.cell? ⟨PB, 1, none⟩ = some (.int .u32 p2)) := Lib.hid fun u hu => by
                      obtain ⟨q0, q1, q2⟩ := SN.out u (Hwq.out.trans (hu.mono Hwq.out.size))
                      exact ⟨q1.1, q1.2.1, q1.2.2, q2⟩
                    go_region_held3 (fun W => W.cell? ⟨w.heap.size, 3, none⟩ = some (.slice B1 qs.length e1) ∧ W.cell? ⟨w.heap.size, 4, none⟩ = some (.slice B2 ms.length e2) ∧ W.cell? ⟨w.heap.size, 5, none⟩ = some (.slice B3 M.length e3) ∧ W.cell? ⟨PB, 0, none⟩ = some (.int .u32 p1) ∧ W.cell? ⟨PB, 1, none⟩ = some (.int .u32 p2))
                      (first | exact SQ.out _ b5w | exact SQ.out _ (b5w.alloc b5w.size _) | exact SQ.out _ ((((b5w.setCell (p := ⟨wq.heap.size, 0, none⟩) (Nat.le_refl _) _).setCell (p := ⟨wq.heap.size, 1, none⟩) (Nat.le_refl _) _).setCell (p := ⟨wq.heap.size, 2, none⟩) (Nat.le_refl _) _).setCell (p := ⟨wq.heap.size, 3, none⟩) (Nat.le_refl _) _) | exact SQ.out _ ((Below.refl _ wq).alloc (Nat.le_refl _) _).drew | exact SQ.out _ (bdrewN (Below.refl _ _) 1))
                      ((go_at_call 25; refine (KT1.out _ (by first | exact (Hwq.out.alloc Hwq.out.size _).drew | exact bdrewN Hwq.out 1)).mono ?_; rintro e w5 ⟨Au, cu, rfl, zu, hfr, b5⟩; have b5w : Below wq.heap.size wq w5 := (by first | exact Below.trans (((Below.refl _ wq).alloc (Nat.le_refl _) _).drew) (b5.mono (by simp)) | exact (bdrewN (Below.refl _ _) 1).trans b5); first | (have U5 : At w5 wq.heap.size #[.slice none 0 0, .int .i64 0, .int .i64 0, .int .i64 0] 57 := (show At (wq.alloc (.cells #[.slice none 0 0, .int .i64 0, .int .i64 0, .int .i64 0] 57)).drew wq.heap.size #[.slice none 0 0, .int .i64 0, .int .i64 0, .int .i64 0] 57 from At.new wq _ _).belows b5; have y0 := (U5.cell 0).trans rfl; have y1 := (U5.cell 1).trans rfl; have y2 := (U5.cell 2).trans rfl; have y3 := (U5.cell 3).trans rfl; have f0 := U5.frozen 0; have f1 := U5.frozen 1; have f2 := U5.frozen 2; have f3 := U5.frozen 3) | skip))
                    all_goals (go_wp2_with fail; go_meet)
                    · exact ⟨rfl, w5.heap.size, rfl, Lib.hid ⟨boxT_new zu.out, b5w.alloc b5w.size _⟩⟩
                    · exact ⟨rfl, wq.heap.size, rfl, Lib.hid ⟨boxT_set U5 zu.out (fun hn g' o' e => by have := hfr.out hn g' o' e; exact Nat.lt_of_lt_of_le (by simp) this), (((b5w.setCell (p := ⟨wq.heap.size, 0, none⟩) (Nat.le_refl _) _).setCell (p := ⟨wq.heap.size, 1, none⟩) (Nat.le_refl _) _).setCell (p := ⟨wq.heap.size, 2, none⟩) (Nat.le_refl _) _).setCell (p := ⟨wq.heap.size, 3, none⟩) (Nat.le_refl _) _⟩⟩
                  case rest =>
                    obtain ⟨rfl, UA, rfl, hwx⟩ := hcut
                    obtain ⟨wx, rfl⟩ : ∃ wx, wx = wc := ⟨_, rfl⟩
                    have Hwx := Lib.hid (Hwq.out.trans (hwx.out.2.mono Hwq.out.size))
                    go_upto_region 18 with (fail)
                    go_cut [17, 18] (fun p er wc => er = .int .i64 ex ∧ ∃ UB : Nat, p = .pointer (some ⟨UB, 0, none⟩) ∧ Hid (BoxT x wc UB ∧ Below wx.heap.size wx wc))
                    case first =>
                      have SQ : Hid (∀ u, Below wx.heap.size wx u → u.cell? ⟨w.heap.size, 3, none⟩ = some (.slice B1 qs.length e1) ∧ u.cell? ⟨w.heap.size, 4, none⟩ = some (.slice B2 ms.length e2) ∧ u.cell? ⟨w.heap.size, 5, none⟩ = some (.slice B3 M.length e3) ∧ u.cell? ⟨PB, 0, none⟩ = some (.int .u32 p1) ∧ u.cell? ⟨PB, 1, none⟩ = some (.int .u32 p2)) := Lib.hid fun u hu => by
                        obtain ⟨q0, q1, q2⟩ := SN.out u (Hwx.out.trans (hu.mono Hwx.out.size))
                        exact ⟨q1.1, q1.2.1, q1.2.2, q2⟩
                      go_region_held3 (fun W => W.cell? ⟨w.heap.size, 3, none⟩ = some (.slice B1 qs.length e1) ∧ W.cell? ⟨w.heap.size, 4, none⟩ = some (.slice B2 ms.length e2) ∧ W.cell? ⟨w.heap.size, 5, none⟩ = some (.slice B3 M.length e3) ∧ W.cell? ⟨PB, 0, none⟩ = some (.int .u32 p1) ∧ W.cell? ⟨PB, 1, none⟩ = some (.int .u32 p2))
                        (first | exact SQ.out _ b5w | exact SQ.out _ (b5w.alloc b5w.size _) | exact SQ.out _ ((((b5w.setCell (p := ⟨wx.heap.size, 0, none⟩) (Nat.le_refl _) _).setCell (p := ⟨wx.heap.size, 1, none⟩) (Nat.le_refl _) _).setCell (p := ⟨wx.heap.size, 2, none⟩) (Nat.le_refl _) _).setCell (p := ⟨wx.heap.size, 3, none⟩) (Nat.le_refl _) _) | exact SQ.out _ ((Below.refl _ wx).alloc (Nat.le_refl _) _).drew | exact SQ.out _ (bdrewN (Below.refl _ _) 1))
                        ((go_at_call 25; refine (KT2.out _ (by first | exact (Hwx.out.alloc Hwx.out.size _).drew | exact bdrewN Hwx.out 1)).mono ?_; rintro e w5 ⟨Au, cu, rfl, zu, hfr, b5⟩; have b5w : Below wx.heap.size wx w5 := (by first | exact Below.trans (((Below.refl _ wx).alloc (Nat.le_refl _) _).drew) (b5.mono (by simp)) | exact (bdrewN (Below.refl _ _) 1).trans b5); first | (have U5 : At w5 wx.heap.size #[.slice none 0 0, .int .i64 0, .int .i64 0, .int .i64 0] 57 := (show At (wx.alloc (.cells #[.slice none 0 0, .int .i64 0, .int .i64 0, .int .i64 0] 57)).drew wx.heap.size #[.slice none 0 0, .int .i64 0, .int .i64 0, .int .i64 0] 57 from At.new wx _ _).belows b5; have y0 := (U5.cell 0).trans rfl; have y1 := (U5.cell 1).trans rfl; have y2 := (U5.cell 2).trans rfl; have y3 := (U5.cell 3).trans rfl; have f0 := U5.frozen 0; have f1 := U5.frozen 1; have f2 := U5.frozen 2; have f3 := U5.frozen 3) | skip))
                      all_goals (go_wp2_with fail; go_meet)
                      · exact ⟨rfl, w5.heap.size, rfl, Lib.hid ⟨boxT_new zu.out, b5w.alloc b5w.size _⟩⟩
                      · exact ⟨rfl, wx.heap.size, rfl, Lib.hid ⟨boxT_set U5 zu.out (fun hn g' o' e => by have := hfr.out hn g' o' e; exact Nat.lt_of_lt_of_le (by simp) this), (((b5w.setCell (p := ⟨wx.heap.size, 0, none⟩) (Nat.le_refl _) _).setCell (p := ⟨wx.heap.size, 1, none⟩) (Nat.le_refl _) _).setCell (p := ⟨wx.heap.size, 2, none⟩) (Nat.le_refl _) _).setCell (p := ⟨wx.heap.size, 3, none⟩) (Nat.le_refl _) _⟩⟩
                    case rest =>
                      obtain ⟨rfl, UB, rfl, hwy⟩ := hcut
                      obtain ⟨wy, rfl⟩ : ∃ wy, wy = wc := ⟨_, rfl⟩
                      have Hwy := Lib.hid (Hwx.out.trans (hwy.out.2.mono Hwx.out.size))
                      go_upto_region 19 with (fail)
                      go_cut [19, 20] (fun p er wc => er = .int .i64 ex ∧ ∃ UB : Nat, p = .pointer (some ⟨UB, 0, none⟩) ∧ Hid (BoxT x wc UB ∧ Below wy.heap.size wy wc))
                      case first =>
                        have SQ : Hid (∀ u, Below wy.heap.size wy u → u.cell? ⟨w.heap.size, 3, none⟩ = some (.slice B1 qs.length e1) ∧ u.cell? ⟨w.heap.size, 4, none⟩ = some (.slice B2 ms.length e2) ∧ u.cell? ⟨w.heap.size, 5, none⟩ = some (.slice B3 M.length e3) ∧ u.cell? ⟨PB, 0, none⟩ = some (.int .u32 p1) ∧ u.cell? ⟨PB, 1, none⟩ = some (.int .u32 p2)) := Lib.hid fun u hu => by
                          obtain ⟨q0, q1, q2⟩ := SN.out u (Hwy.out.trans (hu.mono Hwy.out.size))
                          exact ⟨q1.1, q1.2.1, q1.2.2, q2⟩
                        go_region_held3 (fun W => W.cell? ⟨w.heap.size, 3, none⟩ = some (.slice B1 qs.length e1) ∧ W.cell? ⟨w.heap.size, 4, none⟩ = some (.slice B2 ms.length e2) ∧ W.cell? ⟨w.heap.size, 5, none⟩ = some (.slice B3 M.length e3) ∧ W.cell? ⟨PB, 0, none⟩ = some (.int .u32 p1) ∧ W.cell? ⟨PB, 1, none⟩ = some (.int .u32 p2))
                          (first | exact SQ.out _ b5w | exact SQ.out _ (b5w.alloc b5w.size _) | exact SQ.out _ ((((b5w.setCell (p := ⟨wy.heap.size, 0, none⟩) (Nat.le_refl _) _).setCell (p := ⟨wy.heap.size, 1, none⟩) (Nat.le_refl _) _).setCell (p := ⟨wy.heap.size, 2, none⟩) (Nat.le_refl _) _).setCell (p := ⟨wy.heap.size, 3, none⟩) (Nat.le_refl _) _) | exact SQ.out _ ((Below.refl _ wy).alloc (Nat.le_refl _) _).drew | exact SQ.out _ (bdrewN (Below.refl _ _) 1))
                          ((go_at_call 25; refine (KT3.out _ (by first | exact (Hwy.out.alloc Hwy.out.size _).drew | exact bdrewN Hwy.out 1)).mono ?_; rintro e w5 ⟨Au, cu, rfl, zu, hfr, b5⟩; have b5w : Below wy.heap.size wy w5 := (by first | exact Below.trans (((Below.refl _ wy).alloc (Nat.le_refl _) _).drew) (b5.mono (by simp)) | exact (bdrewN (Below.refl _ _) 1).trans b5); first | (have U5 : At w5 wy.heap.size #[.slice none 0 0, .int .i64 0, .int .i64 0, .int .i64 0] 57 := (show At (wy.alloc (.cells #[.slice none 0 0, .int .i64 0, .int .i64 0, .int .i64 0] 57)).drew wy.heap.size #[.slice none 0 0, .int .i64 0, .int .i64 0, .int .i64 0] 57 from At.new wy _ _).belows b5; have y0 := (U5.cell 0).trans rfl; have y1 := (U5.cell 1).trans rfl; have y2 := (U5.cell 2).trans rfl; have y3 := (U5.cell 3).trans rfl; have f0 := U5.frozen 0; have f1 := U5.frozen 1; have f2 := U5.frozen 2; have f3 := U5.frozen 3) | skip))
                        all_goals (go_wp2_with fail; go_meet)
                        · exact ⟨rfl, w5.heap.size, rfl, Lib.hid ⟨boxT_new zu.out, b5w.alloc b5w.size _⟩⟩
                        · exact ⟨rfl, wy.heap.size, rfl, Lib.hid ⟨boxT_set U5 zu.out (fun hn g' o' e => by have := hfr.out hn g' o' e; exact Nat.lt_of_lt_of_le (by simp) this), (((b5w.setCell (p := ⟨wy.heap.size, 0, none⟩) (Nat.le_refl _) _).setCell (p := ⟨wy.heap.size, 1, none⟩) (Nat.le_refl _) _).setCell (p := ⟨wy.heap.size, 2, none⟩) (Nat.le_refl _) _).setCell (p := ⟨wy.heap.size, 3, none⟩) (Nat.le_refl _) _⟩⟩
                      case rest =>
                        obtain ⟨rfl, UC, rfl, hwz⟩ := hcut
                        obtain ⟨wz, rfl⟩ : ∃ wz, wz = wc := ⟨_, rfl⟩
                        have Hwz := Lib.hid (Hwy.out.trans (hwz.out.2.mono Hwy.out.size))
                        have TA := Lib.hid ((hwx.out.1.belows hwy.out.2).belows hwz.out.2)
                        have TB' := Lib.hid (hwy.out.1.belows hwz.out.2)
                        have TC := Lib.hid hwz.out.1
                        obtain ⟨AA, cA, a0, a1, a2, a3, fA⟩ := TA.out.cells
                        obtain ⟨AB, cB, b0, b1, b2, b3, fB⟩ := TB'.out.cells
                        obtain ⟨AC, cC, d0, d1, d2, d3, fC⟩ := TC.out.cells
                        have kA : Calls Tryz.prog 27 #[.agg #[.slice AA x.ds.length cA, .int .i64 x.ft, .int .i64 x.out.d, .int .i64 x.out.p], .agg #[.slice AB x.ds.length cB, .int .i64 x.ft, .int .i64 x.out.d, .int .i64 x.out.p]] wz fun e w' => e = .returned (.bool true) ∧ Below wz.heap.size wz w' := by
                          have := fsameX x x wz fA.out fB.out
                          rwa [decide_eq_true rfl] at this
                        clear hwx hwy hwz KT1 KT2 KT3
                        go_wp2_with fail
                        refine kA.mono ?_
                        rintro e wv ⟨rfl, bv⟩
                        have Hwv := Lib.hid (Hwz.out.trans (bv.mono Hwz.out.size))
                        obtain ⟨AA, cA, a0, a1, a2, a3, fA⟩ := (TA.out.belows bv).cells
                        obtain ⟨AC, cC, d0, d1, d2, d3, fC⟩ := (TC.out.belows bv).cells
                        have kB : Calls Tryz.prog 27 #[.agg #[.slice AA x.ds.length cA, .int .i64 x.ft, .int .i64 x.out.d, .int .i64 x.out.p], .agg #[.slice AC x.ds.length cC, .int .i64 x.ft, .int .i64 x.out.d, .int .i64 x.out.p]] wv fun e w' => e = .returned (.bool true) ∧ Below wv.heap.size wv w' := by
                          have := fsameX x x wv fA.out fC.out
                          rwa [decide_eq_true rfl] at this
                        clear kA bv b0 b1 b2 b3
                        go_wp2_with fail
                        refine kB.mono ?_
                        rintro e wt ⟨rfl, bt⟩
                        have Hwt := Lib.hid (Hwv.out.trans (bt.mono Hwv.out.size))
                        clear kB bt a0 a1 a2 a3 d0 d1 d2 d3
                        go_wp2
                        go_roundw
                        case rel => exact ⟨2, by go_num, by omega, Hwt.out⟩
                        case measure => simp [intOf]
                · obtain rfl : j = 2 := by omega
                  go_wp2
                  go_roundw
                  case rel => exact ⟨k + 1, p2 + 1, by go_num, by go_num, by omega, by omega, HK2, HP6.out.trans (Hwq.out.mono HP6.out.size)⟩
                  case measure => simp [intOf]; omega
          · obtain rfl : k = C.length := by omega
            have hs9 : s = t + 1 := by
              have := HK.out
              rw [List.drop_length] at this
              exact this
            subst hs9
            have HBF := Lib.hid (B6.out.trans (HBr.out.mono B6.out.size))
            have jt1 : IntKind.i64.wrap ((t : Int) + 1) = (t : Int) + 1 := IntWalk.i64_in _ (by omega)
            clear HK
            go_wp2_with (go_at_call 9; refine (KA.out _).mono ?_; rintro e w7 ⟨rfl, b7⟩; obtain ⟨r0, r1⟩ := SR.out w7 (HBF.out.trans (b7.mono HBF.out.size)))
            go_ret
            exact ⟨rfl, HB1.out.trans ((HBF.out.trans (b7.mono HBF.out.size)).mono HB1.out.size)⟩
end Go.Proofs.YteboadppighplaaGreat
namespace Go.Proofs.YteboadppighplaaGreat.flowCut
open Go.ChangeShapes Go.WideShapes Go.ChangeAt Go.RowKit
open Go.ChangeMaps (open_string shut_string)
set_option linter.unusedVariables false

theorem own : ownKnob Tryz.prog.godebug = none := by kernel_rfl
theorem laidOut : laidOutB Tryz.prog = true := by kernel_rfl
theorem readable : (Tryz.f7.params.toList.all fun t => Tryz.prog.readableRec t && decide (t < Tryz.prog.types.size)) = true := by kernel_rfl

set_option maxRecDepth 100000 in
theorem lifted (os : Os) (started : os.Started) (H : Type) (enc : TypeId × Value → H) :
    ReturnsInHanded {} Tryz.checked os 7 .any (Rows.flowCutSpec.pre6 enc Tryz.prog Tryz.f7 Rows.flowCutRow.domain false) (Rows.flowCutSpec.post enc Tryz.prog Tryz.f7 false true false false) := by
  refine returnsInHanded_of_change_sized (C := Tryz.checked) own started (by kernel_rfl) Tryz.func7
    (ChangeSpec.witness6 (enc := enc) (C := Tryz.checked) false ⟨#[], #[.agg #[.slice none 0 0, .slice none 0 0, .slice none 0 0, .slice none 0 0, .slice none 0 0, .slice none 0 0], .agg #[.int .u32 0, .int .u32 0], .int .i64 0], []⟩ 8 (by kernel_rfl) (by kernel_rfl) (by kernel_rfl) (by kernel_rfl)) ?_
  intro W base args ds gs before hval0 hW hcnd hsz0 _
  have hsz : (DataW.weightsEach Tryz.prog (Tryz.f7.params.toList ++ Rows.flowCutSpec.plain.varTypes Tryz.prog) (ds ++ gs)).all (· ≤ reachBytes) = true := hsz0
  have hval : ∀ (j : Nat) t v, Tryz.f7.params[j]? = some t → args[j]? = some v → Value.okWide Tryz.prog W .any base t v := hval0
  have hW' := hW
  obtain ⟨p, q, hA0, hV, rfl, hfz, hnd⟩ := hW
  have hA : DataW.TrodAll enc Tryz.prog W 0 (fun _ => true) true Tryz.f7.params.toList args.toList ds p := hA0
  rw [Tryz.params7] at hA hval hsz
  obtain ⟨v0, vs0, d0, ds0, p0, q0, hargs, rfl, rfl, h0, r0⟩ := trodAll_cons hA
  obtain ⟨v1, vs1, d1, ds1, p1, q1, rfl, rfl, rfl, h1, r1⟩ := trodAll_cons r0
  obtain ⟨v2, vs2, d2, ds2, p2, q2, rfl, rfl, rfl, h2, r2⟩ := trodAll_cons r1
  obtain ⟨rfl, rfl, rfl⟩ := trodAll_nil r2
  obtain rfl : args = #[v0, v1, v2] := by cases args; simp_all
  obtain ⟨rfl, rfl⟩ := trodVars_none hV
  have fin : ∀ (e : Ending) (W' : World), e = .returned (.bool true) ∧ Below W.heap.size W W' → ∃ v, e = .returned v ∧ Rows.flowCutSpec.post enc Tryz.prog Tryz.f7 false true false false W #[v0, v1, v2] v W' := by
    rintro e W' ⟨rfl, bel⟩
    exact ⟨_, rfl, post_law (tb := 4) laidOut readable (by kernel_rfl) Tryz.underlying4 rfl hW' rfl bel⟩
  clear hW' hA0 hval0 hcnd hfz hnd hsz0
  obtain ⟨va0, vb0, vc0, ua0, ub0, uc0, ps0, ls0, l0, qs0, ms0, m0, rfl, ⟨hh0, ww0⟩, hk0, wk0⟩ := open_nets (hval 0 40 v0 rfl rfl) h0 (nets_room hsz)
  obtain ⟨f1, t1, rfl, wf1, wt1⟩ := open_rng (hval 1 43 v1 rfl rfl) h1
  obtain ⟨a2, rfl, rfl, rfl, w2⟩ := open_int Tryz.underlying3 (hval 2 3 v2 rfl rfl) h2
  have wi2 := i64_wf w2
  exact (cut11_walk ownCalls11 ps0 ls0 l0 qs0 ms0 m0 a2 f1 t1 W hh0 ww0 hk0 wk0 wf1 wt1).mono fun e W' h => fin e W' h

theorem over : Rows.flowCutRow.holds Tryz.pinned (OpenSpec.ofChange Rows.flowCutSpec) :=
  OpenClaim.holds_of_wide 7 Tryz.f7 rfl rfl rfl rfl rfl rfl rfl ⟨rfl, rfl, rfl, rfl, rfl⟩ rfl rfl rfl rfl rfl (by kernel_rfl) Tryz.func7 (by kernel_rfl)
    (of_decide_eq_true (by kernel_rfl)) (by unfold Func.isWrapper; first | (rw [if_pos (by decide +kernel)]; kernel_rfl) | (rw [if_neg (by decide +kernel)]; exact ⟨rfl, rfl⟩))
    (fun os started H enc _ => lifted os started H enc)

theorem proved : Rows.FlowCutSaid := over
#print axioms proved
end Go.Proofs.YteboadppighplaaGreat.flowCut
