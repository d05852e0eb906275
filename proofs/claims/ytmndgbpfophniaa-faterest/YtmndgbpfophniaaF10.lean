/- Contracts: the document's Trace, of a right network. -/
import Derived.Test.YtmndgbpfophniaaF9
namespace Go.Proofs.Ytmndgbpfophniaa
open Go.RowKit Go.Shelf

theorem intA_one (x : Int) : ∀ u ∈ (intA x).toList, u.oneCell' = true := by
  intro u hu; simp [intA] at hu; subst hu; rfl
theorem infoInt : (Try.prog.info? 3).map (fun i => (i.zero, i.size, i.bytes)) = some (some (.int .i64 0), 1, 8) := by kernel_rfl
/-- What Trace answers, of a device that there is. -/
def TrOut (x : Tc) (w : World) (e : Ending) (w' : World) : Prop := ∃ v, e = .returned (.tuple #[tcV v x, .int .i64 0]) ∧ IsF 1 intA w' v x.ds ∧ (∀ g o n c, v = .slice (some ⟨g, o, none⟩) n c → w.heap.size ≤ g) ∧ Below w.heap.size w w'
/-- .. and of one that there is not. -/
def trNo : Value := .tuple #[.agg #[.slice none 0 0, .int .i64 0, .int .i64 0, .int .i64 0], .int .i64 91]
/-- Four stores into the result. -/
def putW (W : World) (R g n cap : Nat) (f pd pp : Int) : World := (((W.setCell ⟨R, 0, none⟩ (.slice (some ⟨g, 0, none⟩) n cap)).setCell ⟨R, 1, none⟩ (.int .i64 f)).setCell ⟨R, 2, none⟩ (.int .i64 pd)).setCell ⟨R, 3, none⟩ (.int .i64 pp)
theorem putW_at {W : World} {R g n cap : Nat} {f pd pp : Int} {v : Value} {x y z : Value} {T : TypeId} (h : At W R #[v, x, y, z] T) : At (putW W R g n cap f pd pp) R #[.slice (some ⟨g, 0, none⟩) n cap, .int .i64 f, .int .i64 pd, .int .i64 pp] T :=
  (((h.set0 0 _).set0 1 _).set0 2 _).set0 3 _
theorem tr_end {V : Tc} {w W : World} {g n cap : Nat} {f pd pp : Int} {D : List Int} (ho : W.ownsRow (w.heap.size + 1 + 1 + 1) 3 1 (.slice (some ⟨g, 0, none⟩) n cap) D.length (fcs intA D)) (hb : Below w.heap.size w W) (hV : V = ⟨D, f, ⟨pd, pp⟩⟩) :
    TrOut V w (.returned (.tuple #[.agg #[.slice (some ⟨g, 0, none⟩) n cap, .int .i64 f, .int .i64 pd, .int .i64 pp], .int .i64 0])) (putW W (w.heap.size + 1) g n cap f pd pp) := by
  subst hV
  have hsz : ∀ j, w.heap.size ≤ (⟨w.heap.size + 1, j, none⟩ : Addr).block := fun j => by show w.heap.size ≤ w.heap.size + 1; omega
  have o1 := row_far ho (grownBy_set W (w.heap.size + 1) 0 (.slice (some ⟨g, 0, none⟩) n cap)) (by omega)
  have o2 := row_far o1 (grownBy_set _ (w.heap.size + 1) 1 (.int .i64 f)) (by omega)
  have o3 := row_far o2 (grownBy_set _ (w.heap.size + 1) 2 (.int .i64 pd)) (by omega)
  have o4 := row_far o3 (grownBy_set _ (w.heap.size + 1) 3 (.int .i64 pp)) (by omega)
  have hge := (ho.lt g rfl).1
  exact ⟨_, rfl, isF_of_row intA_size o4, fun g' o' n' c' e => by cases e; omega, (((hb.setCell (hsz 0) _).setCell (hsz 1) _).setCell (hsz 2) _).setCell (hsz 3) _⟩
/-- Where the loop stands. -/
structure TrI (ps : List Int) (ls : List Lk) (L : List Ru) (a : Nat) (V : Tc) (w : World) (cs : Array Value) (s : List Int) (x : Int) (v : Value) (W : World) : Prop where
  nd : s.Nodup
  dev : ∀ y ∈ s, inD ps y
  at' : inD ps x
  val : V = trc ls L a (ps.length + 1 - s.length) s x
  net : At W w.heap.size cs 28
  res : At W (w.heap.size + 1) #[.slice none 0 0, .int .i64 0, .int .i64 0, .int .i64 0] 36
  tr : At W (w.heap.size + 1 + 1) #[v, .int .i64 0, .int .i64 0, .int .i64 0] 36
  row : W.ownsRow (w.heap.size + 1 + 1 + 1) 3 1 v s.length (fcs intA s)
  bel : Below w.heap.size w W
theorem TrI.room {ps : List Int} {ls : List Lk} {L : List Ru} {a : Nat} {V : Tc} {w W : World} {cs : Array Value} {s : List Int} {x : Int} {v : Value} (h : TrI ps ls L a V w cs s x v W) : s.length ≤ ps.length := nodup_room h.nd h.dev
set_option maxRecDepth 100000 in
set_option maxHeartbeats 1000000 in
theorem rtrace_out {vp vl vr : Value} (ps : List Int) (ls : List Lk) (L : List Ru) (d : Int) (a : Nat) (w : World) (h : IsN w vp vl vr ps ls L) (hno : ¬ inD ps d) : Calls Try.prog 11 #[.agg #[vp, vl, vr], .int .i64 d, .int .u32 a] w fun e w' => e = .returned trNo ∧ Below w.heap.size w w' := by
  obtain ⟨⟨⟨A1, c1, rfl, n1, m1, _⟩, ⟨A2, c2, rfl, _⟩⟩, ⟨A3, c3, rfl, _⟩⟩ := h
  have hM : ps.length ≤ 9223372036854775807 := Nat.le_trans n1 m1
  have R0 := At.new1 w (.cells #[.slice A1 ps.length c1, .slice A2 ls.length c2, .slice A3 L.length c3] 28) #[.slice none 0 0, .int .i64 0, .int .i64 0, .int .i64 0] 36
  have b0 : Below w.heap.size w ((w.alloc (.cells #[.slice A1 ps.length c1, .slice A2 ls.length c2, .slice A3 L.length c3] 28)).alloc (.cells #[.slice none 0 0, .int .i64 0, .int .i64 0, .int .i64 0] 36)) := ((Below.refl _ w).alloc (Nat.le_refl _) _).alloc (by simp) _
  have D0 := (At.new w #[.slice A1 ps.length c1, .slice A2 ls.length c2, .slice A3 L.length c3] 28).alloc (.cells #[.slice none 0 0, .int .i64 0, .int .i64 0, .int .i64 0] 36)
  go_enter Try.func11, Try.ntmps11
  go_upto_region 1 with (fail)
  obtain ⟨w0, hw0⟩ : ∃ w0, w0 = ((w.alloc (.cells #[.slice A1 ps.length c1, .slice A2 ls.length c2, .slice A3 L.length c3] 28)).alloc (.cells #[.slice none 0 0, .int .i64 0, .int .i64 0, .int .i64 0] 36)) := ⟨_, rfl⟩
  rw [← hw0] at R0 b0 D0 ⊢
  clear hw0
  have x0 := (D0.cell 0).trans rfl
  have y0 := (R0.cell 0).trans rfl; have y1 := (R0.cell 1).trans rfl; have y2 := (R0.cell 2).trans rfl; have y3 := (R0.cell 3).trans rfl
  have z0 := R0.frozen 0; have z1 := R0.frozen 1; have z2 := R0.frozen 2; have z3 := R0.frozen 3
  have Z := (((R0.set0 0 (.slice none 0 0)).set0 1 (.int .i64 0)).set0 2 (.int .i64 0)).set0 3 (.int .i64 0)
  have Y0 := Z.cell 0; have Y1 := Z.cell 1; have Y2 := Z.cell 2; have Y3 := Z.cell 3
  simp at Y0 Y1 Y2 Y3
  have hsz : ∀ j, w.heap.size ≤ (⟨w.heap.size + 1, j, none⟩ : Addr).block := fun j => by show w.heap.size ≤ w.heap.size + 1; omega
  have hb := (((b0.setCell (hsz 0) (.slice none 0 0)).setCell (hsz 1) (.int .i64 0)).setCell (hsz 2) (.int .i64 0)).setCell (hsz 3) (.int .i64 0)
  by_cases h1 : d < 0
  · have e1 : decide (d < 0) = true := decide_eq_true h1
    clear hno h1
    go_wp2
    refine bodyPost_ret (v := trNo) ?_ rfl ⟨rfl, hb⟩
    simp [results, Try.results11, go_sem, Y0, Y1, Y2, Y3, trNo]
  · have e1 : decide (d < 0) = false := decide_eq_false h1
    have h2 : (ps.length : Int) ≤ d := by unfold inD at hno; omega
    have e2 : decide ((ps.length : Int) ≤ d) = true := decide_eq_true h2
    clear hno h1 h2
    go_wp2
    refine bodyPost_ret (v := trNo) ?_ rfl ⟨rfl, hb⟩
    simp [results, Try.results11, go_sem, Y0, Y1, Y2, Y3, trNo]
set_option maxRecDepth 100000 in
set_option maxHeartbeats 4000000 in
theorem rtrace_in {vp vl vr : Value} (ps : List Int) (ls : List Lk) (L : List Ru) (d : Int) (a : Nat) (w : World) (hR : RN ps ls L) (h : IsN w vp vl vr ps ls L) (hin : inD ps d) : Calls Try.prog 11 #[.agg #[vp, vl, vr], .int .i64 d, .int .u32 a] w (TrOut (trcN ps ls L a d) w) := by
  have HN : Hid (∀ u, Below w.heap.size w u → IsN u vp vl vr ps ls L) := Lib.hid fun u hu => h.belows hu
  have HR := Lib.hid hR
  have HIN := Lib.hid hin
  obtain ⟨⟨⟨A1, c1, rfl, n1, m1, _⟩, ⟨A2, c2, rfl, _⟩⟩, ⟨A3, c3, rfl, _⟩⟩ := h
  have hM : ps.length ≤ 9223372036854775807 := Nat.le_trans n1 m1
  have hp8 := hR.topo.n8
  obtain ⟨V, hV⟩ : ∃ V, V = trcN ps ls L a d := ⟨_, rfl⟩
  rw [← hV]
  have R0 := At.new1 w (.cells #[.slice A1 ps.length c1, .slice A2 ls.length c2, .slice A3 L.length c3] 28) #[.slice none 0 0, .int .i64 0, .int .i64 0, .int .i64 0] 36
  have b0 : Below w.heap.size w ((w.alloc (.cells #[.slice A1 ps.length c1, .slice A2 ls.length c2, .slice A3 L.length c3] 28)).alloc (.cells #[.slice none 0 0, .int .i64 0, .int .i64 0, .int .i64 0] 36)) := ((Below.refl _ w).alloc (Nat.le_refl _) _).alloc (by simp) _
  have D0 := (At.new w #[.slice A1 ps.length c1, .slice A2 ls.length c2, .slice A3 L.length c3] 28).alloc (.cells #[.slice none 0 0, .int .i64 0, .int .i64 0, .int .i64 0] 36)
  have hs0 : ((w.alloc (.cells #[.slice A1 ps.length c1, .slice A2 ls.length c2, .slice A3 L.length c3] 28)).alloc (.cells #[.slice none 0 0, .int .i64 0, .int .i64 0, .int .i64 0] 36)).heap.size = w.heap.size + 1 + 1 := by simp
  have e1 : decide (d < 0) = false := decide_eq_false (by have := hin.1; omega)
  have e2 : decide ((ps.length : Int) ≤ d) = false := decide_eq_false (by have := hin.2; omega)
  have HV := Lib.hid hV
  clear hV hR hin
  go_enter Try.func11, Try.ntmps11
  go_upto_region 1 with (fail)
  obtain ⟨w0, hw0⟩ : ∃ w0, w0 = ((w.alloc (.cells #[.slice A1 ps.length c1, .slice A2 ls.length c2, .slice A3 L.length c3] 28)).alloc (.cells #[.slice none 0 0, .int .i64 0, .int .i64 0, .int .i64 0] 36)) := ⟨_, rfl⟩
  rw [← hw0] at R0 b0 D0 hs0 ⊢
  clear hw0
  have x0 := (D0.cell 0).trans rfl
  have T0 := At.new w0 #[.slice none 0 0, .int .i64 0, .int .i64 0, .int .i64 0] 36
  rw [hs0] at T0
  have HT0 := Lib.hid T0
  have HS0 := Lib.hid hs0
  clear T0 hs0
  go_wp2_with fail
  rw [HS0.out]
  obtain ⟨w1, hw1⟩ : ∃ w1, w1 = w0.alloc (.cells #[.slice none 0 0, .int .i64 0, .int .i64 0, .int .i64 0] 36) := ⟨_, rfl⟩
  have HI0 : Hid (TrI ps ls L a V w #[.slice A1 ps.length c1, .slice A2 ls.length c2, .slice A3 L.length c3] [] d (.slice none 0 0) w1) := Lib.hid (by
    rw [hw1]
    refine ⟨List.nodup_nil, fun y hy => by simp at hy, HIN.out, HV.out, D0.alloc _, R0.alloc _, HT0.out, ⟨by simp [fcs], .inl ⟨rfl, rfl⟩⟩, b0.alloc b0.size _⟩)
  rw [← hw1]
  clear hw1 x0 D0 R0 b0 HT0 HS0
  go_loopw [9] (fun at' wr => ∃ x : Int, at' = .int .i64 x ∧ Hid (∃ s v, TrI ps ls L a V w #[.slice A1 ps.length c1, .slice A2 ls.length c2, .slice A3 L.length c3] s x v wr)) (fun _ wr => ps.length + 1 - lenAt wr (w.heap.size + 1 + 1))
  case atStart => exact ⟨d, rfl, Lib.hid ⟨_, _, HI0.out⟩⟩
  case round =>
    obtain ⟨x, rfl, HX⟩ := hrel
    obtain ⟨s, v, hI⟩ := HX.out
    clear HX
    have hroom := hI.room
    have hlen : lenAt wr (w.heap.size + 1 + 1) = s.length := by
      have hv := (hI.tr.cell 0).trans rfl
      rcases hI.row.2 with ⟨e, h0⟩ | ⟨g, cap, cur, e, _⟩
      · rw [e] at hv; rw [lenAt_of hv]; exact h0.symm
      · rw [e] at hv; exact lenAt_of hv
    rw [hlen]
    have kh := rhasI_any s x wr (isF_of_row intA_size hI.row)
    have t0 := (hI.tr.cell 0).trans rfl
    have HI := Lib.hid hI
    have hs1 := hI.tr.lt
    -- behind append
    have HAPP : Hid (∀ v' w5, w5.ownsRow (w.heap.size + 1 + 1 + 1) 3 1 v' (s ++ [x]).length (fcs intA (s ++ [x])) → Below (w.heap.size + 1 + 1 + 1) (wr.alloc (.cells #[.int .i64 x] 3)) w5 → ∃ g cap, v' = .slice (some ⟨g, 0, none⟩) (s.length + 1) cap ∧
        At w5 w.heap.size #[.slice A1 ps.length c1, .slice A2 ls.length c2, .slice A3 L.length c3] 28 ∧ At w5 (w.heap.size + 1) #[.slice none 0 0, .int .i64 0, .int .i64 0, .int .i64 0] 36 ∧ At w5 (w.heap.size + 1 + 1) #[v, .int .i64 0, .int .i64 0, .int .i64 0] 36 ∧ Below w.heap.size w w5) := Lib.hid fun v' w5 ho hb => by
      have hw := HI.out
      obtain ⟨g, cap, e, _, _⟩ := row_some ho (by simp)
      refine ⟨g, cap, by rw [e]; simp, (hw.net.alloc _).below hb (by omega), (hw.res.alloc _).below hb (by omega), (hw.tr.alloc _).below hb (by omega), (hw.bel.alloc hw.bel.size _).trans (hb.mono (by omega))⟩
    clear hI
    by_cases hmem : x ∈ s
    · have HF : Hid (V = ⟨s ++ [x], 4, ⟨0, 0⟩⟩) := Lib.hid (by rw [HI.out.val, show ps.length + 1 - s.length = (ps.length - s.length) + 1 by omega]; exact trc_in hmem)
      rw [decide_eq_true hmem] at kh
      clear hmem
      go_upto_region 7 with (first
        | (go_at_call 19; refine kh.mono ?_; rintro e w2 ⟨rfl, e2⟩; rw [e2]; clear e2 w2)
        | (at_builtin; refine wpList_app_new intA_size intA_one Try.underlying22 infoInt rfl (by decide) rfl (.tmp 33) (.tmp 35) rfl (w.heap.size + 1 + 1 + 1) _ s rfl (HI.out.row.alloc _) ⟨wr.heap.size, 0, none⟩ 1 [x] rfl (f_new intA_size wr [x] #[.int .i64 x] 3 rfl) (by simp only [maxLen, List.length_singleton]; omega) (by simp only [List.length_singleton]; omega) (by simp; omega) ?_; intro v' w5 ho hb5; obtain ⟨g, cap, rfl, D5, R5, T5, bw5⟩ := HAPP.out v' w5 ho hb5; have y0 := (T5.cell 0).trans rfl; have z0 := T5.frozen 0))
      obtain ⟨w6, hw6⟩ : ∃ w6, w6 = w5.setCell ⟨w.heap.size + 1 + 1, 0, none⟩ (.slice (some ⟨g, 0, none⟩) (s.length + 1) cap) := ⟨_, rfl⟩
      have T6 := T5.set0 0 (.slice (some ⟨g, 0, none⟩) (s.length + 1) cap)
      have D6 := D5.other (B' := w.heap.size + 1 + 1) (by omega) 0 (.slice (some ⟨g, 0, none⟩) (s.length + 1) cap)
      have R6 := R5.other (B' := w.heap.size + 1 + 1) (by omega) 0 (.slice (some ⟨g, 0, none⟩) (s.length + 1) cap)
      have o6 := row_far ho (grownBy_set w5 (w.heap.size + 1 + 1) 0 (.slice (some ⟨g, 0, none⟩) (s.length + 1) cap)) (by omega)
      have bw6 := bw5.setCell (p := ⟨w.heap.size + 1 + 1, 0, none⟩) (by show w.heap.size ≤ w.heap.size + 1 + 1; omega) (.slice (some ⟨g, 0, none⟩) (s.length + 1) cap)
      rw [← hw6] at T6 D6 R6 o6 bw6 ⊢
      change At w6 _ #[.slice (some ⟨g, 0, none⟩) (s.length + 1) cap, .int .i64 0, .int .i64 0, .int .i64 0] _ at T6
      clear hw6 T5 D5 R5 ho bw5 hb5 y0 z0 HAPP
      have HO6 := Lib.hid o6
      have HB6 := Lib.hid bw6
      clear o6 bw6
      have t0 := (T6.cell 0).trans rfl; have t1 := (T6.cell 1).trans rfl; have t2 := (T6.cell 2).trans rfl; have t3 := (T6.cell 3).trans rfl
      have f1 := T6.frozen 1; have f2 := T6.frozen 2; have f3 := T6.frozen 3
      have r0 := (R6.cell 0).trans rfl; have r1 := (R6.cell 1).trans rfl; have r2 := (R6.cell 2).trans rfl; have r3 := (R6.cell 3).trans rfl
      have q0 := R6.frozen 0; have q1 := R6.frozen 1; have q2 := R6.frozen 2; have q3 := R6.frozen 3
      go_wp2_with fail
      have R70 := R6.other (B' := w.heap.size + 1 + 1) (by omega) 1 (.int .i64 4)
      have o70 := row_far HO6.out (grownBy_set w6 (w.heap.size + 1 + 1) 1 (.int .i64 4)) (by omega)
      have bw70 := HB6.out.setCell (p := ⟨w.heap.size + 1 + 1, 1, none⟩) (by show w.heap.size ≤ w.heap.size + 1 + 1; omega) (.int .i64 4)
      have Z := putW_at (g := g) (n := s.length + 1) (cap := cap) (f := 4) (pd := 0) (pp := 0) R70
      have Y0 := Z.cell 0; have Y1 := Z.cell 1; have Y2 := Z.cell 2; have Y3 := Z.cell 3
      unfold putW at Y0 Y1 Y2 Y3
      simp at Y0 Y1 Y2 Y3
      refine bodyPost_ret (v := .tuple #[.agg #[.slice (some ⟨g, 0, none⟩) (s.length + 1) cap, .int .i64 4, .int .i64 0, .int .i64 0], .int .i64 0]) ?_ rfl (tr_end o70 bw70 HF.out)
      simp [results, Try.results11, go_sem, Y0, Y1, Y2, Y3]
    · obtain ⟨st, hst⟩ : ∃ st, st = stepN ls L x a := ⟨_, rfl⟩
      have HST : Hid (∀ u, Below w.heap.size w u → Calls Try.prog 14 #[.agg #[.slice A1 ps.length c1, .slice A2 ls.length c2, .slice A3 L.length c3], .int .i64 x, .int .u32 a] u fun e w' => e = .returned (stepV st) ∧ Below u.heap.size u w') := Lib.hid fun u hu => by rw [hst]; exact rstep_any ps ls L x a u HR.out.rules (HN.out u hu)
      have HV0 : Hid (V = trc ls L a (ps.length - s.length + 1) s x) := Lib.hid (by rw [HI.out.val, show ps.length + 1 - s.length = (ps.length - s.length) + 1 by omega])
      have HE : Hid (st.1 ≠ 4 → V = ⟨s ++ [x], st.1, st.2⟩) := Lib.hid fun h => by rw [HV0.out, hst]; exact trc_end hmem (by rw [← hst]; exact h)
      have HO : Hid (st.1 = 4 → V = trc ls L a (ps.length - s.length) (s ++ [x]) (onTo ls L x a) ∧ inD ps (onTo ls L x a) ∧ onTo ls L x a = ((nextT ls st.2).getD ⟨0, 0⟩).d) := Lib.hid fun h => ⟨by rw [HV0.out]; exact trc_on hmem (by rw [← hst]; exact h), onTo_in HR.out.topo (by rw [← hst]; exact h), by rw [hst]; rfl⟩
      rw [decide_eq_false hmem] at kh
      have HMEM := Lib.hid hmem
      clear hst hmem
      obtain ⟨f, ⟨pd, pp⟩⟩ := st
      dsimp only at HE HO
      rw [show stepV (f, ⟨pd, pp⟩) = .tuple #[.int .i64 f, .agg #[.int .i64 pd, .int .i64 pp]] from rfl] at HST
      go_upto_region 7 with (first
        | (go_at_call 19; refine kh.mono ?_; rintro e w2 ⟨rfl, e2⟩; rw [e2]; clear e2 w2)
        | (at_builtin; refine wpList_app_new intA_size intA_one Try.underlying22 infoInt rfl (by decide) rfl (.tmp 33) (.tmp 35) rfl (w.heap.size + 1 + 1 + 1) _ s rfl (HI.out.row.alloc _) ⟨wr.heap.size, 0, none⟩ 1 [x] rfl (f_new intA_size wr [x] #[.int .i64 x] 3 rfl) (by simp only [maxLen, List.length_singleton]; omega) (by simp only [List.length_singleton]; omega) (by simp; omega) ?_; intro v' w5 ho hb5; obtain ⟨g, cap, rfl, D5, R5, T5, bw5⟩ := HAPP.out v' w5 ho hb5; have y0 := (T5.cell 0).trans rfl; have z0 := T5.frozen 0))
      obtain ⟨w6, hw6⟩ : ∃ w6, w6 = w5.setCell ⟨w.heap.size + 1 + 1, 0, none⟩ (.slice (some ⟨g, 0, none⟩) (s.length + 1) cap) := ⟨_, rfl⟩
      have T6 := T5.set0 0 (.slice (some ⟨g, 0, none⟩) (s.length + 1) cap)
      have D6 := D5.other (B' := w.heap.size + 1 + 1) (by omega) 0 (.slice (some ⟨g, 0, none⟩) (s.length + 1) cap)
      have R6 := R5.other (B' := w.heap.size + 1 + 1) (by omega) 0 (.slice (some ⟨g, 0, none⟩) (s.length + 1) cap)
      have o6 := row_far ho (grownBy_set w5 (w.heap.size + 1 + 1) 0 (.slice (some ⟨g, 0, none⟩) (s.length + 1) cap)) (by omega)
      have bw6 := bw5.setCell (p := ⟨w.heap.size + 1 + 1, 0, none⟩) (by show w.heap.size ≤ w.heap.size + 1 + 1; omega) (.slice (some ⟨g, 0, none⟩) (s.length + 1) cap)
      rw [← hw6] at T6 D6 R6 o6 bw6 ⊢
      change At w6 _ #[.slice (some ⟨g, 0, none⟩) (s.length + 1) cap, .int .i64 0, .int .i64 0, .int .i64 0] _ at T6
      clear hw6 T5 D5 R5 ho bw5 hb5 y0 z0 HAPP
      have HO6 := Lib.hid o6
      have HB6 := Lib.hid bw6
      clear o6 bw6
      have ks := HST.out w6 HB6.out
      have d0 := (D6.cell 0).trans rfl; have d1 := (D6.cell 1).trans rfl; have d2 := (D6.cell 2).trans rfl
      go_upto_region 11 with (go_at_call 14; refine ks.mono ?_; rintro e w7 ⟨rfl, b7⟩)
      obtain ⟨w8, hw8⟩ : ∃ w8, w8 = w7.alloc (.cells #[.int .i64 pd, .int .i64 pp] 34) := ⟨_, rfl⟩
      have b8 : Below w6.heap.size w6 w8 := by rw [hw8]; exact b7.alloc b7.size _
      have P8 : At w8 w7.heap.size #[.int .i64 pd, .int .i64 pp] 34 := by rw [hw8]; exact At.new w7 _ _
      rw [← hw8]
      have T8 := T6.belows b8
      have D8 := D6.belows b8
      have R8 := R6.belows b8
      have o8 := row_belows HO6.out b8
      have bw8 := HB6.out.trans (b8.mono HB6.out.size)
      have hlt7 : w.heap.size + 1 + 1 < w7.heap.size := Nat.lt_of_lt_of_le T6.lt b7.size
      clear hw8 b7 b8 T6 D6 R6 HO6 HB6 ks d0 d1 d2 kh
      have p0 := (P8.cell 0).trans rfl; have p1 := (P8.cell 1).trans rfl
      by_cases h4 : f = 4
      · obtain ⟨HV1, HI1, HO1⟩ := HO.out h4
        have HN1 := Lib.hid (show V = trc ls L a (ps.length + 1 - (s ++ [x]).length) (s ++ [x]) (onTo ls L x a) by rw [HV1]; congr 1; simp)
        have kn := rnext_any ps ls ⟨pd, pp⟩ w8 (HN.out w8 bw8).1
        have d0 := (D8.cell 0).trans rfl; have d1 := (D8.cell 1).trans rfl
        obtain ⟨qo, hqo⟩ : ∃ qo, qo = nextT ls ⟨pd, pp⟩ := ⟨_, rfl⟩
        rw [← hqo] at kn HO1
        rw [show nextV qo = .tuple #[.agg #[.int .i64 (qo.getD ⟨0, 0⟩).d, .int .i64 (qo.getD ⟨0, 0⟩).p], .bool qo.isSome] from rfl] at kn
        rw [show ptA ⟨pd, pp⟩ = #[.int .i64 pd, .int .i64 pp] from rfl] at kn
        have HQ := Lib.hid HO1
        generalize qo.isSome = qb at kn
        generalize hqg : qo.getD ⟨0, 0⟩ = qg at kn HQ
        obtain ⟨qd, qp⟩ := qg
        dsimp only at kn HQ
        have HT8 := Lib.hid T8
        have HR8 := Lib.hid R8
        have HD8 := Lib.hid D8
        have HO8 := Lib.hid o8
        have HB8 := Lib.hid bw8
        have HI8 := Lib.hid HI1
        subst h4
        clear HE HO HV1 HI1 HO1 hqo hqg o8 bw8 T8 R8 D8
        go_wp2_with (go_at_call 18; refine kn.mono ?_; rintro e w9 ⟨rfl, b9⟩)
        have hbw9 := HB8.out.trans (b9.mono HB8.out.size)
        have hNI : TrI ps ls L a V w #[.slice A1 ps.length c1, .slice A2 ls.length c2, .slice A3 L.length c3] (s ++ [x]) (onTo ls L x a) (.slice (some ⟨g, 0, none⟩) (s.length + 1) cap) (w9.alloc (.cells #[.int .i64 qd, .int .i64 qp] 34)) := by
          refine ⟨?_, ?_, HI8.out, HN1.out, (HD8.out.belows b9).alloc _, (HR8.out.belows b9).alloc _, (HT8.out.belows b9).alloc _, (row_belows HO8.out b9).alloc _, hbw9.alloc hbw9.size _⟩
          · rw [List.nodup_append]
            exact ⟨HI.out.nd, by simp, fun y hy z hz => by simp at hz; subst hz; exact fun e => HMEM.out (e ▸ hy)⟩
          · intro y hy
            rcases List.mem_append.1 hy with hy | hy
            · exact HI.out.dev y hy
            · simp at hy; subst hy; exact HI.out.at'
        have hln : lenAt (w9.alloc (.cells #[.int .i64 qd, .int .i64 qp] 34)) (w.heap.size + 1 + 1) = s.length + 1 := lenAt_of ((hNI.tr.cell 0).trans rfl)
        refine ⟨⟨onTo ls L x a, by rw [HQ.out], Lib.hid ⟨_, _, hNI⟩⟩, ?_⟩
        rw [hln]
        omega
      · have HF := Lib.hid (HE.out h4)
        have hb1 : (f == 4) = false := by simp [h4]
        have hb2 : decide (f = 4) = false := by simp [h4]
        clear HE HO h4
        have t0 := (T8.cell 0).trans rfl; have t1 := (T8.cell 1).trans rfl; have t2 := (T8.cell 2).trans rfl; have t3 := (T8.cell 3).trans rfl
        have f1 := T8.frozen 1; have f2 := T8.frozen 2; have f3 := T8.frozen 3
        have r0 := (R8.cell 0).trans rfl; have r1 := (R8.cell 1).trans rfl; have r2 := (R8.cell 2).trans rfl; have r3 := (R8.cell 3).trans rfl
        have q0 := R8.frozen 0; have q1 := R8.frozen 1; have q2 := R8.frozen 2; have q3 := R8.frozen 3
        go_wp2_with fail
        have R90 := R8.other (B' := w.heap.size + 1 + 1) (by omega) 1 (.int .i64 f)
        have o90 := row_far o8 (grownBy_set w8 (w.heap.size + 1 + 1) 1 (.int .i64 f)) (by omega)
        have bw90 := bw8.setCell (p := ⟨w.heap.size + 1 + 1, 1, none⟩) (by show w.heap.size ≤ w.heap.size + 1 + 1; omega) (.int .i64 f)
        have R91 := R90.other (B' := w.heap.size + 1 + 1) (by omega) 2 (.int .i64 pd)
        have o91 := row_far o90 (grownBy_set (w8.setCell ⟨w.heap.size + 1 + 1, 1, none⟩ (.int .i64 f)) (w.heap.size + 1 + 1) 2 (.int .i64 pd)) (by omega)
        have bw91 := bw90.setCell (p := ⟨w.heap.size + 1 + 1, 2, none⟩) (by show w.heap.size ≤ w.heap.size + 1 + 1; omega) (.int .i64 pd)
        have R92 := R91.other (B' := w.heap.size + 1 + 1) (by omega) 3 (.int .i64 pp)
        have o92 := row_far o91 (grownBy_set ((w8.setCell ⟨w.heap.size + 1 + 1, 1, none⟩ (.int .i64 f)).setCell ⟨w.heap.size + 1 + 1, 2, none⟩ (.int .i64 pd)) (w.heap.size + 1 + 1) 3 (.int .i64 pp)) (by omega)
        have bw92 := bw91.setCell (p := ⟨w.heap.size + 1 + 1, 3, none⟩) (by show w.heap.size ≤ w.heap.size + 1 + 1; omega) (.int .i64 pp)
        have Z := putW_at (g := g) (n := s.length + 1) (cap := cap) (f := f) (pd := pd) (pp := pp) R92
        have Y0 := Z.cell 0; have Y1 := Z.cell 1; have Y2 := Z.cell 2; have Y3 := Z.cell 3
        unfold putW at Y0 Y1 Y2 Y3
        simp at Y0 Y1 Y2 Y3
        refine bodyPost_ret (v := .tuple #[.agg #[.slice (some ⟨g, 0, none⟩) (s.length + 1) cap, .int .i64 f, .int .i64 pd, .int .i64 pp], .int .i64 0]) ?_ rfl (tr_end o92 bw92 HF.out)
        simp [results, Try.results11, go_sem, Y0, Y1, Y2, Y3]
/-- The document's Trace, of a right network. -/
theorem rtrace_any {vp vl vr : Value} (ps : List Int) (ls : List Lk) (L : List Ru) (d : Int) (a : Nat) (w : World) (hR : RN ps ls L) (h : IsN w vp vl vr ps ls L) : Calls Try.prog 11 #[.agg #[vp, vl, vr], .int .i64 d, .int .u32 a] w fun e w' => (inD ps d ∧ TrOut (trcN ps ls L a d) w e w') ∨ (¬ inD ps d ∧ e = .returned trNo ∧ Below w.heap.size w w') := by
  by_cases hd : inD ps d
  · exact (rtrace_in ps ls L d a w hR h hd).mono fun e w' h => .inl ⟨hd, h⟩
  · exact (rtrace_out ps ls L d a w h hd).mono fun e w' h => .inr ⟨hd, h⟩
end Go.Proofs.Ytmndgbpfophniaa
