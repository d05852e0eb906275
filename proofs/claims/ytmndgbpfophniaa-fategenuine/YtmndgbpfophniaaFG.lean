/- Contracts: fate.Trace where there is no such device; fate.Genuine. -/
import Derived.Test.YtmndgbpfophniaaFT
import Derived.Test.YtmndgbpfophniaaGP
namespace Go.Proofs.Ytmndgbpfophniaa
open Go.RowKit Go.Shelf

theorem cell_at_block {W W' : World} {p : Addr} (h : W'.heap[p.block]? = W.heap[p.block]?) : W'.cell? p = W.cell? p := by unfold World.cell?; rw [h]
set_option maxRecDepth 100000 in
set_option maxHeartbeats 1000000 in
theorem ftrace_no {vp vl vr : Value} (ps : List Int) (ls : List Lk) (L : List Ru) (d : Int) (a : Nat) (w : World) (h : IsN w vp vl vr ps ls L) (hno : ¬ inD ps d) : Calls Try.prog 10 #[.agg #[vp, vl, vr], .int .i64 d, .int .u32 a] w (TrNo w) := by
  obtain ⟨⟨⟨A1, c1, rfl, n1, m1, _⟩, ⟨A2, c2, rfl, _⟩⟩, ⟨A3, c3, rfl, _⟩⟩ := h
  have hM : ps.length ≤ 9223372036854775807 := Nat.le_trans n1 m1
  have D0 := ((At.new w #[.slice A1 ps.length c1, .slice A2 ls.length c2, .slice A3 L.length c3] 28).alloc (.cells #[.slice none 0 0, .int .i64 0, .int .i64 0, .int .i64 0] 36)).alloc (.cells #[.int .i64 0] 37)
  have R0 := (At.new1 w (.cells #[.slice A1 ps.length c1, .slice A2 ls.length c2, .slice A3 L.length c3] 28) #[.slice none 0 0, .int .i64 0, .int .i64 0, .int .i64 0] 36).alloc (.cells #[.int .i64 0] 37)
  have E0 := At.new2 w (.cells #[.slice A1 ps.length c1, .slice A2 ls.length c2, .slice A3 L.length c3] 28) (.cells #[.slice none 0 0, .int .i64 0, .int .i64 0, .int .i64 0] 36) #[.int .i64 0] 37
  have b0 : Below w.heap.size w (((w.alloc (.cells #[.slice A1 ps.length c1, .slice A2 ls.length c2, .slice A3 L.length c3] 28)).alloc (.cells #[.slice none 0 0, .int .i64 0, .int .i64 0, .int .i64 0] 36)).alloc (.cells #[.int .i64 0] 37)) := (((Below.refl _ w).alloc (Nat.le_refl _) _).alloc (by simp) _).alloc (by simp; omega) _
  go_enter Try.func10, Try.ntmps10
  go_upto_region 1 with (fail)
  obtain ⟨w0, hw0⟩ : ∃ w0, w0 = (((w.alloc (.cells #[.slice A1 ps.length c1, .slice A2 ls.length c2, .slice A3 L.length c3] 28)).alloc (.cells #[.slice none 0 0, .int .i64 0, .int .i64 0, .int .i64 0] 36)).alloc (.cells #[.int .i64 0] 37)) := ⟨_, rfl⟩
  rw [← hw0] at D0 R0 E0 b0 ⊢
  clear hw0
  have x0 := (D0.cell 0).trans rfl
  have r0 := (R0.cell 0).trans rfl; have r1 := (R0.cell 1).trans rfl; have r2 := (R0.cell 2).trans rfl; have r3 := (R0.cell 3).trans rfl
  have q0 := R0.frozen 0; have q1 := R0.frozen 1; have q2 := R0.frozen 2; have q3 := R0.frozen 3
  have u0 := (E0.cell 0).trans rfl; have v0 := E0.frozen 0
  have Z := ((((R0.set0 0 (.slice none 0 0)).set0 1 (.int .i64 0)).set0 2 (.int .i64 0)).set0 3 (.int .i64 0)).other (B' := w.heap.size + 1 + 1) (by omega) 0 (.int .i64 91)
  have Y := ((((E0.other (B' := w.heap.size + 1) (by omega) 0 (.slice none 0 0)).other (B' := w.heap.size + 1) (by omega) 1 (.int .i64 0)).other (B' := w.heap.size + 1) (by omega) 2 (.int .i64 0)).other (B' := w.heap.size + 1) (by omega) 3 (.int .i64 0)).set0 0 (.int .i64 91)
  have Z0 := Z.cell 0; have Z1 := Z.cell 1; have Z2 := Z.cell 2; have Z3 := Z.cell 3; have Y0 := Y.cell 0
  simp at Z0 Z1 Z2 Z3 Y0
  have hb : ∀ (U : World) (B j : Nat) (v : Value), w.heap.size ≤ B → Below w.heap.size w U → Below w.heap.size w (U.setCell ⟨B, j, none⟩ v) := fun U B j v hB h => h.setCell (p := ⟨B, j, none⟩) hB v
  have HB := Lib.hid (hb _ _ 0 (.int .i64 91) (by omega : w.heap.size ≤ w.heap.size + 1 + 1) (hb _ _ 3 (.int .i64 0) (by omega : w.heap.size ≤ w.heap.size + 1) (hb _ _ 2 (.int .i64 0) (by omega : w.heap.size ≤ w.heap.size + 1) (hb _ _ 1 (.int .i64 0) (by omega : w.heap.size ≤ w.heap.size + 1) (hb _ _ 0 (.slice none 0 0) (by omega : w.heap.size ≤ w.heap.size + 1) b0)))))
  have e1 : (decide (d < 0) || decide ((ps.length : Int) ≤ d)) = true := by
    unfold inD at hno
    simp only [Bool.or_eq_true, decide_eq_true_eq]
    omega
  clear Z Y hb D0 R0 E0 b0
  by_cases h1 : d < 0
  · have e1 : decide (d < 0) = true := decide_eq_true h1
    clear hno h1
    go_wp2
    refine bodyPost_ret (v := .tuple #[.agg #[.slice none 0 0, .int .i64 0, .int .i64 0, .int .i64 0], .int .i64 91]) ?_ rfl ⟨none, 0, Nat.zero_le _, rfl, HB.out⟩
    simp [results, Try.results10, go_sem, Z0, Z1, Z2, Z3, Y0]
  · have e1 : decide (d < 0) = false := decide_eq_false h1
    have h2 : (ps.length : Int) ≤ d := by unfold inD at hno; omega
    have e2 : decide ((ps.length : Int) ≤ d) = true := decide_eq_true h2
    clear hno h1 h2
    go_wp2
    refine bodyPost_ret (v := .tuple #[.agg #[.slice none 0 0, .int .i64 0, .int .i64 0, .int .i64 0], .int .i64 91]) ?_ rfl ⟨none, 0, Nat.zero_le _, rfl, HB.out⟩
    simp [results, Try.results10, go_sem, Z0, Z1, Z2, Z3, Y0]
/-- Trace, of any network. -/
theorem ftrace_any {vp vl vr : Value} (ps : List Int) (ls : List Lk) (L : List Ru) (d : Int) (a : Nat) (w : World) (hW : NW ps ls L) (h : IsN w vp vl vr ps ls L) : Calls Try.prog 10 #[.agg #[vp, vl, vr], .int .i64 d, .int .u32 a] w fun e w' => (inD ps d ∧ TrOut (trcA ps ls L a d) w e w') ∨ (¬ inD ps d ∧ TrNo w e w') := by
  by_cases hd : inD ps d
  · exact (callsIn_wide.1 (ftrace_in ps ls L d a w hW h hd)).mono fun _ _ h => .inl ⟨hd, h⟩
  · exact (ftrace_no ps ls L d a w h hd).mono fun _ _ h => .inr ⟨hd, h⟩
/-- .. of a right one. -/
theorem ftrace_right {vp vl vr : Value} (ps : List Int) (ls : List Lk) (L : List Ru) (d : Int) (a : Nat) (w : World) (hR : RN ps ls L) (hW : NW ps ls L) (h : IsN w vp vl vr ps ls L) : Calls Try.prog 10 #[.agg #[vp, vl, vr], .int .i64 d, .int .u32 a] w fun e w' => (inD ps d ∧ TrOut (trcN ps ls L a d) w e w') ∨ (¬ inD ps d ∧ TrNo w e w') :=
  (ftrace_any ps ls L d a w hW h).mono fun _ _ h => h.imp (fun h => ⟨h.1, by rw [← trcA_right hR.topo L a h.1]; exact h.2⟩) id
/-- A trace that is held. -/
def OwnT (y : Tc) (W : World) (UB : Nat) (wc : World) : Prop := ∃ A c, At wc UB #[.slice A y.ds.length c, .int .i64 y.ft, .int .i64 y.out.d, .int .i64 y.out.p] 36 ∧ IsF 1 intA wc (.slice A y.ds.length c) y.ds ∧ Below W.heap.size W wc
set_option maxRecDepth 100000 in
set_option maxHeartbeats 4000000 in
/-- Genuine, of a right network. -/
theorem fgenuine_any {vp vl vr v : Value} (ps : List Int) (ls : List Lk) (L : List Ru) (a : Nat) (x : Tc) (w : World) (hR : RN ps ls L) (hW : NW ps ls L) (h : IsN w vp vl vr ps ls L) (hx : IsF 1 intA w v x.ds) : Calls Try.prog 15 #[.agg #[vp, vl, vr], .int .u32 a, tcV v x] w fun e w' => e = .returned (.bool (genT ps ls L a x)) ∧ Below w.heap.size w w' := by
  have HN : Hid (∀ u, Below w.heap.size w u → IsN u vp vl vr ps ls L) := Lib.hid fun u hu => h.belows hu
  have HX : Hid (∀ u, Below w.heap.size w u → IsF 1 intA u v x.ds) := Lib.hid fun u hu => hx.belows hu
  have HR := Lib.hid hR
  have HW := Lib.hid hW
  obtain ⟨⟨⟨A1, c1, rfl, _⟩, ⟨A2, c2, rfl, _⟩⟩, ⟨A3, c3, rfl, _⟩⟩ := h
  obtain ⟨V, hV⟩ : ∃ V, V = genT ps ls L a x := ⟨_, rfl⟩
  rw [← hV]
  obtain ⟨Ax, cx, rfl, nx, mx, zx⟩ := hx
  obtain ⟨D, f, ⟨pd, pp⟩⟩ := x
  dsimp only at HX nx zx
  unfold tcV
  dsimp only
  have HV := Lib.hid hV
  have HZ := Lib.hid zx
  obtain ⟨N, hN⟩ : ∃ N, N = D.length := ⟨_, rfl⟩
  rw [← hN] at nx HX ⊢
  have hM : N ≤ 9223372036854775807 := Nat.le_trans nx mx
  have b0 : Below w.heap.size w ((w.alloc (.cells #[.slice A1 ps.length c1, .slice A2 ls.length c2, .slice A3 L.length c3] 28)).alloc (.cells #[.slice Ax N cx, .int .i64 f, .int .i64 pd, .int .i64 pp] 36)) := ((Below.refl _ w).alloc (Nat.le_refl _) _).alloc (by simp) _
  have D0 := (At.new w #[.slice A1 ps.length c1, .slice A2 ls.length c2, .slice A3 L.length c3] 28).alloc (.cells #[.slice Ax N cx, .int .i64 f, .int .i64 pd, .int .i64 pp] 36)
  have T0 := At.new1 w (.cells #[.slice A1 ps.length c1, .slice A2 ls.length c2, .slice A3 L.length c3] 28) #[.slice Ax N cx, .int .i64 f, .int .i64 pd, .int .i64 pp] 36
  have HNN := Lib.hid hN
  clear hR hW hV zx hN
  go_enter Try.func15, Try.ntmps15
  go_upto_region 1 with (fail)
  obtain ⟨w0, hw0⟩ : ∃ w0, w0 = ((w.alloc (.cells #[.slice A1 ps.length c1, .slice A2 ls.length c2, .slice A3 L.length c3] 28)).alloc (.cells #[.slice Ax N cx, .int .i64 f, .int .i64 pd, .int .i64 pp] 36)) := ⟨_, rfl⟩
  rw [← hw0] at b0 T0 D0 ⊢
  clear hw0
  have t0 := (T0.cell 0).trans rfl
  by_cases h0 : N = 0
  · have hf : V = false := by
      have := HNN.out
      rw [h0] at this
      rw [HV.out, genT, List.eq_nil_of_length_eq_zero this.symm]
    subst hf
    have e1 : ((N : Int) == 0) = true := by simp [h0]
    have e2 : decide ((N : Int) = 0) = true := by simp [h0]
    clear h0
    go_wp2
    go_ret
    exact ⟨rfl, b0⟩
  · have e1 : ((N : Int) == 0) = false := by simp [h0]
    have e2 : decide ((N : Int) = 0) = false := by simp [h0]
    obtain ⟨d, t, hd⟩ : ∃ d t, D = d :: t := by
      cases hD : D with
      | nil => have := HNN.out; rw [hD] at this; exact absurd this h0
      | cons d t => exact ⟨d, t, rfl⟩
    obtain ⟨g, o, e, hg, hc⟩ := HZ.out.at 0 (by rw [hd]; simp)
    subst e
    have hd0 : w.cell? ⟨g, o, none⟩ = some (.int .i64 d) := by
      have := hc 0 (by decide)
      simp only [hd] at this
      simpa [intA] using this
    have i0 : (0 : Int) < (N : Int) := by omega
    have i3 : (0 : Nat) < N := by omega
    have HVD : Hid (V = (decide (inD ps d) && decide (trcN ps ls L a d = ⟨D, f, ⟨pd, pp⟩⟩))) := Lib.hid (by rw [HV.out, genT, hd])
    have SZ : Hid (∀ u, Below w0.heap.size w0 u → u.cell? ⟨w.heap.size, 0, none⟩ = some (.slice A1 ps.length c1) ∧ u.cell? ⟨w.heap.size, 1, none⟩ = some (.slice A2 ls.length c2) ∧ u.cell? ⟨w.heap.size, 2, none⟩ = some (.slice A3 L.length c3) ∧ u.cell? ⟨w.heap.size + 1, 0, none⟩ = some (.slice (some ⟨g, o, none⟩) N cx) ∧ u.cell? ⟨g, o, none⟩ = some (.int .i64 d)) := Lib.hid fun u hu =>
      ⟨((D0.belows hu).cell 0).trans rfl, ((D0.belows hu).cell 1).trans rfl, ((D0.belows hu).cell 2).trans rfl, ((T0.belows hu).cell 0).trans rfl, ((b0.trans (hu.mono b0.size)).cell (p := ⟨g, _, none⟩) hg).trans hd0⟩
    have HD0 := Lib.hid D0
    have HT0 := Lib.hid T0
    have HB0 := Lib.hid b0
    by_cases hin : inD ps d
    · obtain ⟨y, hy⟩ : ∃ y, y = trcN ps ls L a d := ⟨_, rfl⟩
      have KT : Hid (∀ u, Below w.heap.size w u → Calls Try.prog 10 #[.agg #[.slice A1 ps.length c1, .slice A2 ls.length c2, .slice A3 L.length c3], .int .i64 d, .int .u32 a] u (TrOut y u)) := Lib.hid fun u hu => by
        rw [hy]
        exact (ftrace_right ps ls L d a u HR.out HW.out (HN.out u hu)).mono fun e w' h => h.elim (·.2) fun h => absurd hin h.1
      have HY : Hid (V = decide (y = ⟨D, f, ⟨pd, pp⟩⟩)) := Lib.hid (by rw [HVD.out, hy]; simp [hin])
      clear hy hin D0 T0 b0 hd0 hc hd
      obtain ⟨yd, yf, ⟨yo, yp⟩⟩ := y
      go_upto_region 3 with (fail)
      go_cut [7, 8] (fun p er wc => er = .int .i64 0 ∧ ∃ UB : Nat, p = .pointer (some ⟨UB, 0, none⟩) ∧ Hid (OwnT ⟨yd, yf, ⟨yo, yp⟩⟩ w0 UB wc))
      case first =>
        go_region_held3 (fun W => W.cell? ⟨w.heap.size, 0, none⟩ = some (.slice A1 ps.length c1) ∧ W.cell? ⟨w.heap.size, 1, none⟩ = some (.slice A2 ls.length c2) ∧ W.cell? ⟨w.heap.size, 2, none⟩ = some (.slice A3 L.length c3) ∧ W.cell? ⟨w.heap.size + 1, 0, none⟩ = some (.slice (some ⟨g, o, none⟩) N cx) ∧ W.cell? ⟨g, o, none⟩ = some (.int .i64 d))
          (first | exact SZ.out _ b5w | exact SZ.out _ (b5w.alloc b5w.size _) | exact SZ.out _ ((((b5w.setCell (p := ⟨w0.heap.size, 0, none⟩) (Nat.le_refl _) _).setCell (p := ⟨w0.heap.size, 1, none⟩) (Nat.le_refl _) _).setCell (p := ⟨w0.heap.size, 2, none⟩) (Nat.le_refl _) _).setCell (p := ⟨w0.heap.size, 3, none⟩) (Nat.le_refl _) _) | exact SZ.out _ ((Below.refl _ w0).alloc (Nat.le_refl _) _).drew | exact SZ.out _ (bdrewN (Below.refl _ _) 1))
          ((go_at_call 10; refine (KT.out _ (by first | exact (HB0.out.alloc HB0.out.size _).drew | exact bdrewN HB0.out 1)).mono ?_; unfold TrOut tcV; rintro e w5 ⟨vu, rfl, ⟨Au, cu, rfl, nu, mu, zu⟩, hfr, b5⟩; have b5w : Below w0.heap.size w0 w5 := (by first | exact Below.trans (((Below.refl _ w0).alloc (Nat.le_refl _) _).drew) (b5.mono (by simp)) | exact (bdrewN (Below.refl _ _) 1).trans b5); first | (have U5 : At w5 w0.heap.size #[.slice none 0 0, .int .i64 0, .int .i64 0, .int .i64 0] 36 := (show At (w0.alloc (.cells #[.slice none 0 0, .int .i64 0, .int .i64 0, .int .i64 0] 36)).drew w0.heap.size #[.slice none 0 0, .int .i64 0, .int .i64 0, .int .i64 0] 36 from At.new w0 _ _).belows b5; have y0 := (U5.cell 0).trans rfl; have y1 := (U5.cell 1).trans rfl; have y2 := (U5.cell 2).trans rfl; have y3 := (U5.cell 3).trans rfl; have f0 := U5.frozen 0; have f1 := U5.frozen 1; have f2 := U5.frozen 2; have f3 := U5.frozen 3) | skip))
        all_goals (go_wp2_with fail; go_meet)
        · exact ⟨rfl, w5.heap.size, rfl, Lib.hid ⟨Au, cu, At.new w5 _ _, ⟨Au, cu, rfl, nu, mu, zu.belows ((Below.refl _ _).alloc (Nat.le_refl _) _)⟩, b5w.alloc b5w.size _⟩⟩
        · refine ⟨rfl, w0.heap.size, rfl, Lib.hid ⟨Au, cu, (((U5.set0 0 _).set0 1 _).set0 2 _).set0 3 _, ⟨Au, cu, rfl, nu, mu, ?_⟩, (((b5w.setCell (p := ⟨w0.heap.size, 0, none⟩) (Nat.le_refl _) _).setCell (p := ⟨w0.heap.size, 1, none⟩) (Nat.le_refl _) _).setCell (p := ⟨w0.heap.size, 2, none⟩) (Nat.le_refl _) _).setCell (p := ⟨w0.heap.size, 3, none⟩) (Nat.le_refl _) _⟩⟩
          have far : ∀ (W : World) j v, Fs 1 intA W Au yd → Fs 1 intA (W.setCell ⟨w0.heap.size, j, none⟩ v) Au yd := fun W j v hF hn => by
            obtain ⟨g', o', e, hg', hc'⟩ := hF hn
            have hge := hfr g' o' _ _ (by rw [e])
            have hge2 : w0.heap.size < g' := Nat.lt_of_lt_of_le (by simp) hge
            refine ⟨g', o', e, by simpa using hg', fun k hk j' hj' => ?_⟩
            rw [← hc' k hk j' hj']
            exact cell_at_block (Below.heap_setCell W ⟨w0.heap.size, j, none⟩ v (k := g') (by show g' ≠ w0.heap.size; omega))
          exact far _ _ _ (far _ _ _ (far _ _ _ (far _ _ _ zu)))
      case rest =>
        obtain ⟨rfl, UB, rfl, HU⟩ := hcut
        obtain ⟨Au, cu, hU, hF, hb⟩ := HU.out
        have bw := HB0.out.trans (hb.mono HB0.out.size)
        have T1 := HT0.out.belows hb
        have k1 := fsame_any ⟨yd, yf, ⟨yo, yp⟩⟩ ⟨D, f, ⟨pd, pp⟩⟩ wc hF (HX.out wc bw)
        rw [← HY.out] at k1
        unfold tcV at k1
        dsimp only at k1 hU
        have s0 := (hU.cell 0).trans rfl; have s1 := (hU.cell 1).trans rfl; have s2 := (hU.cell 2).trans rfl; have s3 := (hU.cell 3).trans rfl
        have t0 := (T1.cell 0).trans rfl; have t1 := (T1.cell 1).trans rfl; have t2 := (T1.cell 2).trans rfl; have t3 := (T1.cell 3).trans rfl
        have HBW := Lib.hid bw
        clear hU hF hb HU T1 bw
        go_wp2_with fail
        refine k1.mono ?_
        rintro e w7 ⟨rfl, b7⟩
        go_wp2
        go_ret
        exact ⟨rfl, HBW.out.trans (b7.mono HBW.out.size)⟩
    · have KT : Hid (∀ u, Below w.heap.size w u → Calls Try.prog 10 #[.agg #[.slice A1 ps.length c1, .slice A2 ls.length c2, .slice A3 L.length c3], .int .i64 d, .int .u32 a] u (TrNo u)) := Lib.hid fun u hu => ftrace_no ps ls L d a u (HN.out u hu) hin
      have hf : V = false := by rw [HVD.out, decide_eq_false hin]; rfl
      subst hf
      clear hin D0 T0 b0 hd0 hc hd
      go_upto_region 3 with (fail)
      go_cut [7, 8] (fun p er wc => er = .int .i64 91 ∧ Hid (Below w0.heap.size w0 wc))
      case first =>
        go_region_held3 (fun W => W.cell? ⟨w.heap.size, 0, none⟩ = some (.slice A1 ps.length c1) ∧ W.cell? ⟨w.heap.size, 1, none⟩ = some (.slice A2 ls.length c2) ∧ W.cell? ⟨w.heap.size, 2, none⟩ = some (.slice A3 L.length c3) ∧ W.cell? ⟨w.heap.size + 1, 0, none⟩ = some (.slice (some ⟨g, o, none⟩) N cx) ∧ W.cell? ⟨g, o, none⟩ = some (.int .i64 d))
          (first | exact SZ.out _ b5w | exact SZ.out _ (b5w.alloc b5w.size _) | exact SZ.out _ ((((b5w.setCell (p := ⟨w0.heap.size, 0, none⟩) (Nat.le_refl _) _).setCell (p := ⟨w0.heap.size, 1, none⟩) (Nat.le_refl _) _).setCell (p := ⟨w0.heap.size, 2, none⟩) (Nat.le_refl _) _).setCell (p := ⟨w0.heap.size, 3, none⟩) (Nat.le_refl _) _) | exact SZ.out _ ((Below.refl _ w0).alloc (Nat.le_refl _) _).drew | exact SZ.out _ (bdrewN (Below.refl _ _) 1))
          ((go_at_call 10; refine (KT.out _ (by first | exact (HB0.out.alloc HB0.out.size _).drew | exact bdrewN HB0.out 1)).mono ?_; unfold TrNo; rintro e w5 ⟨Au, cu, mu, rfl, b5⟩; have b5w : Below w0.heap.size w0 w5 := (by first | exact Below.trans (((Below.refl _ w0).alloc (Nat.le_refl _) _).drew) (b5.mono (by simp)) | exact (bdrewN (Below.refl _ _) 1).trans b5); first | (have U5 : At w5 w0.heap.size #[.slice none 0 0, .int .i64 0, .int .i64 0, .int .i64 0] 36 := (show At (w0.alloc (.cells #[.slice none 0 0, .int .i64 0, .int .i64 0, .int .i64 0] 36)).drew w0.heap.size #[.slice none 0 0, .int .i64 0, .int .i64 0, .int .i64 0] 36 from At.new w0 _ _).belows b5; have y0 := (U5.cell 0).trans rfl; have y1 := (U5.cell 1).trans rfl; have y2 := (U5.cell 2).trans rfl; have y3 := (U5.cell 3).trans rfl; have f0 := U5.frozen 0; have f1 := U5.frozen 1; have f2 := U5.frozen 2; have f3 := U5.frozen 3) | skip))
        all_goals (go_wp2_with fail; go_meet)
        · exact ⟨rfl, Lib.hid (b5w.alloc b5w.size _)⟩
        · exact ⟨rfl, Lib.hid ((((b5w.setCell (p := ⟨w0.heap.size, 0, none⟩) (Nat.le_refl _) _).setCell (p := ⟨w0.heap.size, 1, none⟩) (Nat.le_refl _) _).setCell (p := ⟨w0.heap.size, 2, none⟩) (Nat.le_refl _) _).setCell (p := ⟨w0.heap.size, 3, none⟩) (Nat.le_refl _) _)⟩
      case rest =>
        obtain ⟨rfl, HU⟩ := hcut
        have HBW := Lib.hid (HB0.out.trans (HU.out.mono HB0.out.size))
        go_wp2
        go_ret
        exact ⟨rfl, HBW.out⟩
end Go.Proofs.Ytmndgbpfophniaa
