/- FateGenuine, over the program's calls. -/
import Derived.Test.YtmndgbpfophniaaG4
namespace Go.Proofs.Ytmndgbpfophniaa
open Go.RowKit Go.Shelf

/-- A new row of no elements. -/
theorem row_empty {w : World} {B base : Nat} (h : At w B #[] 3) (hb : base ≤ B) : w.ownsRow base 3 1 (.slice (some ⟨B, 0, none⟩) 0 0) 0 [] :=
  ⟨rfl, .inr ⟨B, 0, #[], rfl, hb, h, Nat.le_refl _, Nat.zero_le _, rfl, rfl⟩⟩
section
variable {ops : Array Oper} {o' : Oper} {a' : Act} {w : World} {K : Act → World → Prop} {Q : Exit → Act → World → Prop} {E : Prop}
/-- append([]int{}, l...), as a step of a region that draws. -/
theorem step_fill (hgd : o'.guard = none) (s x : Operand) (ho : o'.op = .call { callee := .builtin .append, args := #[s, x], argTypes := #[22, 22] })
    (B : Nat) (hs : a'.eval s = .slice (some ⟨B, 0, none⟩) 0 0) (ad : Addr) (c : Nat) (M : List Int) (hx : a'.eval x = .slice (some ad) M.length c) (hB : At w B #[] 3) (hM : Fs 1 intA w (some ad) M) (hlen : M.length ≤ 1000) (base : Nat) (hbase : base ≤ B)
    (h : ∀ v' w', w'.ownsRow base 3 1 v' M.length (fcs intA M) → w.grownBy w' (some B) → K (a'.put o'.dst v') w') : if Region.wanted o' (yielded ops a'.tmps) = true then Oper.wp Try.prog o' a' w K Q else E := by
  obtain ⟨i0, hi, hz0, hz1, hz2⟩ := info_parts infoInt
  rw [if_pos (by simp [Region.wanted, hgd])]
  refine wp_append_own w s x 22 ho base 3 i0 (.int .i64 0) 1 8 Try.underlying22 hi hz0 hz1 hz2 rfl (by decide) _ 0 [] hs (row_empty hB hbase) ad M.length c (fcs intA M) hx (fcs_length intA_size M) (hM.news intA_size) (fcs_one intA_one M) (by simp only [maxLen]; omega) (by omega) (by have := hB.lt; omega) ?_
  intro v' w' g1 g2 _
  exact h v' w' (by simpa using g1) g2
/-- append(l, x), as a step of a region that draws. -/
theorem step_more (hgd : o'.guard = none) (s x : Operand) (ho : o'.op = .call { callee := .builtin .append, args := #[s, x], argTypes := #[22, 22] })
    (base : Nat) (v : Value) (L : List Int) (B2 : Nat) (y : Int) (hs : a'.eval s = v) (hx : a'.eval x = .slice (some ⟨B2, 0, none⟩) 1 1) (hrow : w.ownsRow base 3 1 v L.length (fcs intA L)) (hB : At w B2 #[.int .i64 y] 3) (hlen : L.length ≤ 1000) (hbase : base ≤ w.heap.size)
    (h : ∀ v' w', w'.ownsRow base 3 1 v' (L ++ [y]).length (fcs intA (L ++ [y])) → Below base w w' → K (a'.put o'.dst v') w') : if Region.wanted o' (yielded ops a'.tmps) = true then Oper.wp Try.prog o' a' w K Q else E :=
  step_app_new intA_size intA_one Try.underlying22 infoInt rfl (by decide) hgd s x ho base v L hs hrow ⟨B2, 0, none⟩ 1 [y] hx (fun j u hj => by rw [add_none, hB.cell j, ← Array.getElem?_toList]; exact hj) (by simp only [maxLen, List.length_singleton]; omega) (by simp only [List.length_singleton]; omega) hbase h
theorem here48 (_ : o'.op = .call { callee := .builtin .append, args := #[.tmp 45, .tmp 47], argTypes := #[22, 22] }) (h : if Region.wanted o' (yielded ops a'.tmps) = true then Oper.wp Try.prog o' a' w K Q else E) : if Region.wanted o' (yielded ops a'.tmps) = true then Oper.wp Try.prog o' a' w K Q else E := h
theorem here52 (_ : o'.op = .call { callee := .builtin .append, args := #[.tmp 48, .tmp 51], argTypes := #[22, 22] }) (h : if Region.wanted o' (yielded ops a'.tmps) = true then Oper.wp Try.prog o' a' w K Q else E) : if Region.wanted o' (yielded ops a'.tmps) = true then Oper.wp Try.prog o' a' w K Q else E := h
end
/-- What 'more' is. -/
def MOut (w wq : World) (TB LB MB : Nat) (cs ts ls' : Array Value) (D : List Int) (xf xo xp : Int) (wc : World) : Prop := ∃ g c, At wc MB #[.slice (some ⟨g, 0, none⟩) D.length c, .int .i64 xf, .int .i64 xo, .int .i64 xp] 36 ∧ D.length ≤ c ∧ c ≤ maxLen ∧ Fs 1 intA wc (some ⟨g, 0, none⟩) D ∧
  At wc w.heap.size cs 28 ∧ At wc TB ts 36 ∧ At wc LB ls' 36 ∧ Below w.heap.size w wc ∧ wq.grownBy wc (some MB)
theorem mout_of {w wq w7 : World} {TB LB MB g c k : Nat} {cs ts ls' : Array Value} {D : List Int} {xf xo xp : Int} {x : Value} (M : At wq MB #[x, .int .i64 xf, .int .i64 xo, .int .i64 xp] 36) (hD : At wq w.heap.size cs 28) (hT : At wq TB ts 36) (hL : At wq LB ls' 36) (hw : Below w.heap.size w wq)
    (h1 : w.heap.size < MB) (h2 : TB < MB) (h3 : LB < MB) (ho : w7.ownsRow wq.heap.size 3 1 (.slice (some ⟨g, 0, none⟩) k c) D.length (fcs intA D)) (hb : Below wq.heap.size wq w7) : MOut w wq TB LB MB cs ts ls' D xf xo xp (w7.setCell ⟨MB, 0, none⟩ (.slice (some ⟨g, 0, none⟩) k c)) := by
  have hM := M.lt
  obtain ⟨A', c', e, n1, m1, z1⟩ := isF_of_row intA_size (row_far ho (grownBy_set w7 MB 0 (.slice (some ⟨g, 0, none⟩) k c)) hM)
  cases e
  exact ⟨g, c, (M.belows hb).set0 0 _, n1, m1, z1, (hD.belows hb).other (by omega) 0 _, (hT.belows hb).other (by omega) 0 _, (hL.belows hb).other (by omega) 0 _,
    (hw.trans (hb.mono hw.size)).setCell (p := ⟨MB, 0, none⟩) (by show w.heap.size ≤ MB; omega) _, ⟨hb.os, hb.tape, hb.output, by have := hb.size; simpa using this, fun j hj hne => (Below.heap_setCell w7 ⟨MB, 0, none⟩ _ j fun e => hne (by rw [e])).trans (hb.block j hj)⟩⟩
set_option maxRecDepth 100000 in
set_option maxHeartbeats 4000000 in
theorem genuine9_walk (O : Own9) {vp vl vr : Value} (ps : List Int) (ls : List Lk) (L : List Ru) (d b : Int) (hdi : isI d) (hbi : isI b) (a : Nat) (w : World) (h : IsN w vp vl vr ps ls L) (hW : NW ps ls L) (ha : a < 4294967296) :
    Calls Try.prog 6 #[.agg #[vp, vl, vr], .agg #[.int .i64 d, .int .i64 b], .int .u32 a] w fun e w' => e = .returned (.bool true) ∧ Below w.heap.size w w' := by
  have HN : Hid (∀ u, Below w.heap.size w u → IsN u vp vl vr ps ls L) := Lib.hid fun u hu => h.belows hu
  have HW := Lib.hid hW
  have HD : Hid (isI d) := Lib.hid hdi
  have HA := Lib.hid ha
  obtain ⟨⟨⟨A1, c1, rfl, n1, m1, _⟩, ⟨A2, c2, rfl, n2, m2, _⟩⟩, ⟨A3, c3, rfl, n3, m3, _⟩⟩ := h
  have hM1 : ps.length ≤ 9223372036854775807 := Nat.le_trans n1 m1
  have D0 := (At.new w #[.slice A1 ps.length c1, .slice A2 ls.length c2, .slice A3 L.length c3] 28).alloc (.cells #[.int .i64 d, .int .i64 b] 48)
  have O0 := At.new1 w (.cells #[.slice A1 ps.length c1, .slice A2 ls.length c2, .slice A3 L.length c3] 28) #[.int .i64 d, .int .i64 b] 48
  have b0 : Below w.heap.size w ((w.alloc (.cells #[.slice A1 ps.length c1, .slice A2 ls.length c2, .slice A3 L.length c3] 28)).alloc (.cells #[.int .i64 d, .int .i64 b] 48)) := ((Below.refl _ w).alloc (Nat.le_refl _) _).alloc (by simp) _
  have HBI := Lib.hid hbi
  clear hW hdi ha n1 n2 n3 m1 m2 m3
  go_enter Try.func6, Try.ntmps6
  go_upto_region 1 with (fail)
  obtain ⟨w0, hw0⟩ : ∃ w0, w0 = ((w.alloc (.cells #[.slice A1 ps.length c1, .slice A2 ls.length c2, .slice A3 L.length c3] 28)).alloc (.cells #[.int .i64 d, .int .i64 b] 48)) := ⟨_, rfl⟩
  rw [← hw0] at D0 b0 O0 ⊢
  clear hw0
  have x0 := (D0.cell 0).trans rfl; have x1 := (D0.cell 1).trans rfl; have x2 := (D0.cell 2).trans rfl
  have k1 := lfits9_any ps ls L w0 HW.out (HN.out w0 b0)
  obtain ⟨q, hq⟩ : ∃ q, q = rightN ps ls L := ⟨_, rfl⟩
  rw [← hq] at k1
  have HQ := Lib.hid hq
  clear hq
  go_wp2_with fail
  refine k1.mono ?_
  rintro e w1 ⟨rfl, b1⟩
  have bw1 := b0.trans (b1.mono b0.size)
  have D1 := D0.belows b1
  clear k1 x0 x1 x2
  have x0 := (D1.cell 0).trans rfl; have x1 := (D1.cell 1).trans rfl; have x2 := (D1.cell 2).trans rfl
  have O1 := O0.belows b1
  have o0 := (O1.cell 0).trans rfl
  cases q with
  | false =>
    go_wp2_with fail
    refine (O.traceAny ps ls L d a w1 HW.out HD.out HA.out (HN.out w1 bw1)).mono ?_
    rintro e w2 ⟨At', nt, ct, ff, fd, fp, er, rfl, b2⟩
    have bw2 := (bw1.trans (b2.mono bw1.size)).alloc (bw1.trans (b2.mono bw1.size)).size (.cells #[.slice At' nt ct, .int .i64 ff, .int .i64 fd, .int .i64 fp] 36)
    go_wp2_with fail
    refine (alive9_any O _).mono ?_
    rintro e u ⟨rfl, bu⟩
    go_wp2
    go_ret
    exact ⟨rfl, bw2.trans (bu.mono bw2.size)⟩
  | true =>
    have HR := Lib.hid ((rightN_iff ps ls L).1 HQ.out.symm)
    have k2 := O.trace ps ls L d a w1 HR.out HW.out HD.out HA.out (HN.out w1 bw1)
    by_cases hin : inD ps d
    case neg =>
      have k2' : Calls Try.prog 10 #[.agg #[.slice A1 ps.length c1, .slice A2 ls.length c2, .slice A3 L.length c3], .int .i64 d, .int .u32 a] w1 (TrNo w1) := k2.mono fun e w' h => h.elim (fun h => absurd h.1 hin) (·.2)
      clear k2 hin
      go_wp2_with fail
      refine k2'.mono ?_
      rintro e w2 ⟨At', ct, _, rfl, b2⟩
      have bw2 := (bw1.trans (b2.mono bw1.size)).alloc (bw1.trans (b2.mono bw1.size)).size (.cells #[.slice At' 0 ct, .int .i64 0, .int .i64 0, .int .i64 0] 36)
      go_wp2_with fail
      refine (alive9_any O _).mono ?_
      rintro e u ⟨rfl, bu⟩
      go_wp2
      go_ret
      exact ⟨rfl, bw2.trans (bu.mono bw2.size)⟩
    have k2' : Calls Try.prog 10 #[.agg #[.slice A1 ps.length c1, .slice A2 ls.length c2, .slice A3 L.length c3], .int .i64 d, .int .u32 a] w1 (TrOut (trcN ps ls L a d) w1) := k2.mono fun e w' h => h.elim (·.2) fun h => absurd hin h.1
    have HTW := Lib.hid (trcN_w (L := L) (a := a) HR.out.topo HW.out hin)
    have HIN := Lib.hid hin
    have h8 := HR.out.topo.n8
    obtain ⟨x, hx⟩ : ∃ x, x = trcN ps ls L a d := ⟨_, rfl⟩
    rw [← hx] at k2' HTW
    have HX := Lib.hid hx
    clear k2 hin hx
    go_upto_region 3 with (go_at_call 10; refine k2'.mono ?_; unfold TrOut tcV; rintro e w2 ⟨vt, rfl, ⟨At', ct, rfl, nt, mt, zt⟩, _, b2⟩)
    have bt : Below w2.heap.size w2 (w2.alloc (.cells #[.slice At' x.ds.length ct, .int .i64 x.ft, .int .i64 x.out.d, .int .i64 x.out.p] 36)) := (Below.refl _ w2).alloc (Nat.le_refl _) _
    have T3 := At.new w2 #[.slice At' x.ds.length ct, .int .i64 x.ft, .int .i64 x.out.d, .int .i64 x.out.p] 36
    have bs2 := b2.trans (bt.mono b2.size)
    have D3 := D1.belows bs2
    have bw3 := bw1.trans (bs2.mono bw1.size)
    have z3 := zt.belows bt
    obtain ⟨w3, hw3⟩ : ∃ w3, w3 = w2.alloc (.cells #[.slice At' x.ds.length ct, .int .i64 x.ft, .int .i64 x.out.d, .int .i64 x.out.p] 36) := ⟨_, rfl⟩
    have hTs : w2.heap.size < w3.heap.size := by rw [hw3]; simp
    rw [← hw3] at T3 D3 bw3 z3 ⊢
    have O3 := O1.belows bs2
    rw [← hw3] at O3
    clear O1 O0 o0
    clear hw3 k2' x0 x1 x2 b1 b2 bt bs2 D0 D1 b0 bw1 zt
    obtain ⟨TB, hTB⟩ : ∃ TB, TB = w2.heap.size := ⟨_, rfl⟩
    rw [← hTB] at T3 hTs ⊢
    clear hTB
    have x0 := (D3.cell 0).trans rfl; have x1 := (D3.cell 1).trans rfl; have x2 := (D3.cell 2).trans rfl
    have t0 := (T3.cell 0).trans rfl; have t1 := (T3.cell 1).trans rfl; have t2 := (T3.cell 2).trans rfl; have t3 := (T3.cell 3).trans rfl
    have hX64 : x.ds.length ≤ 9223372036854775807 := Nat.le_trans nt mt
    have HZ := Lib.hid z3
    clear z3
    have hlen : 1 ≤ x.ds.length := by
      have hx := HX.out
      subst hx
      obtain ⟨ini, last, hs, _⟩ := trcN_spec HR.out.topo (L := L) (a := a) HIN.out
      rw [hs.ds]; simp
    have hle9 : x.ds.length ≤ 9 := by
      have hx := HX.out
      subst hx
      obtain ⟨ini, last, hs, _⟩ := trcN_spec HR.out.topo (L := L) (a := a) HIN.out
      have := nodup_room (n := ps.length) hs.nd (fun y hy => hs.dev y (by rw [hs.ds]; exact List.mem_append_left _ hy))
      rw [hs.ds]; simp; omega
    have HSM : Hid ((0 ≤ x.ft ∧ x.ft ≤ 4) ∧ 0 ≤ x.out.p ∧ x.out.p ≤ 3) := Lib.hid (by rw [HX.out]; exact trcN_small HR.out HIN.out)
    have HHD : Hid (∃ t, x.ds = d :: t) := Lib.hid (by
      obtain ⟨ini, last, _, t, ht⟩ := trcN_spec HR.out.topo (L := L) (a := a) HIN.out
      rw [HX.out, ← ht]
      exact ⟨t, rfl⟩)
    have HGS : Hid (genT ps ls L a x = true) := Lib.hid (by rw [HX.out]; exact genT_self HR.out.topo HIN.out)
    have HGN : Hid (∀ y : Tc, y ≠ x → (y.ds = [] ∨ ∃ t, y.ds = d :: t) → genT ps ls L a y = false) := Lib.hid fun y hy hh => genT_not (by rw [← HX.out]; exact hy) hh
    obtain ⟨xd, xf, ⟨xo, xp⟩⟩ := x
    dsimp only at HSM HHD
    have HT1 : Hid (TcW ⟨xd.take (xd.length - 1), xf, ⟨xo, xp⟩⟩) := Lib.hid ⟨fun y hy => HTW.out.ds y (List.mem_of_mem_take hy), HTW.out.ft, HTW.out.out⟩
    have HT2 : Hid (TcW ⟨xd ++ [b], xf, ⟨xo, xp⟩⟩) := Lib.hid ⟨fun y hy => by
      rcases List.mem_append.1 hy with hy | hy
      · exact HTW.out.ds y hy
      · simp at hy; subst hy; exact HBI.out, HTW.out.ft, HTW.out.out⟩
    obtain ⟨f5, hf5⟩ : ∃ f5, f5 = if xf = 4 then (0 : Int) else xf + 1 := ⟨_, rfl⟩
    have hxf := HSM.out.1
    have hxp := HSM.out.2
    have e5 : IntKind.i64.wrap (xf + 1) = xf + 1 := IntWalk.i64_in _ (by omega)
    have e6 : (xf + 1).tmod 5 = f5 := by
      rw [hf5]
      split
      · rename_i h; subst h; rfl
      · rename_i h; exact Int.tmod_eq_of_lt (by omega) (by omega)
    have e7 : IntKind.i64.wrap (xp + 1) = xp + 1 := IntWalk.i64_in _ (by omega)
    have HF5 : Hid (f5 ≠ xf ∧ 0 ≤ f5 ∧ f5 ≤ 4) := Lib.hid (by rw [hf5]; split <;> omega)
    have HT3 : Hid (TcW ⟨xd, f5, ⟨xo, xp⟩⟩) := Lib.hid ⟨HTW.out.ds, by have := HF5.out; unfold isI; dsimp only; omega, HTW.out.out⟩
    have HT4 : Hid (TcW ⟨xd, xf, ⟨xo, xp + 1⟩⟩) := Lib.hid ⟨HTW.out.ds, HTW.out.ft, HTW.out.out.1, by unfold isI; dsimp only; omega⟩
    have HT5' : Hid (TcW ⟨[], 0, ⟨0, 0⟩⟩) := Lib.hid ⟨fun y hy => by simp at hy, by simp [isI], by simp [isPt, isI]⟩
    have HG1 : Hid (genT ps ls L a ⟨xd.take (xd.length - 1), xf, ⟨xo, xp⟩⟩ = false) := Lib.hid (HGN.out _ (fun e => by
      have e1 : (xd.take (xd.length - 1)).length = xd.length := congrArg (fun z : Tc => z.ds.length) e
      have h1 : 1 ≤ xd.length := hlen
      rw [List.length_take] at e1; omega) (by
      obtain ⟨t, ht⟩ := HHD.out
      show xd.take (xd.length - 1) = [] ∨ ∃ t, xd.take (xd.length - 1) = d :: t
      rw [ht]
      cases t with
      | nil => exact .inl rfl
      | cons y t => exact .inr ⟨_, rfl⟩))
    have HG2 : Hid (genT ps ls L a ⟨xd ++ [b], xf, ⟨xo, xp⟩⟩ = false) := Lib.hid (HGN.out _ (fun e => by
      have e1 := congrArg (fun z : Tc => z.ds.length) e
      simp at e1) (by
      obtain ⟨t, ht⟩ := HHD.out
      exact .inr ⟨t ++ [b], by show xd ++ [b] = _; rw [ht]; rfl⟩))
    have HG3 : Hid (genT ps ls L a ⟨xd, f5, ⟨xo, xp⟩⟩ = false) := Lib.hid (HGN.out _ (fun e => HF5.out.1 (congrArg Tc.ft e)) (.inr HHD.out))
    have HG4 : Hid (genT ps ls L a ⟨xd, xf, ⟨xo, xp + 1⟩⟩ = false) := Lib.hid (HGN.out _ (fun e => by have e1 := congrArg (fun z : Tc => z.out.p) e; simp at e1; omega) (.inr HHD.out))
    clear hf5 hxf hxp HGN HHD HSM HF5
    dsimp only at T3 t0 t1 t2 t3 hX64 HZ nt hlen hle9 hTs ⊢
    have e0 : ((xd.length : Int) == 0) = false := by rw [beq_eq_false_iff_ne]; omega
    have e0b : decide ((xd.length : Int) = 0) = false := decide_eq_false (by omega)
    have e1 : IntKind.i64.wrap ((xd.length : Int) - 1) = ((xd.length - 1 : Nat) : Int) := by rw [show (xd.length : Int) - 1 = ((xd.length - 1 : Nat) : Int) by omega]; exact IntWalk.i64_in _ (by omega)
    obtain ⟨g, o, e, hg, _⟩ := HZ.out.at 0 (by omega)
    subst e
    have hsl : ∀ u, (Instr.slice 22 (.slice (some ⟨g, o, none⟩) xd.length ct) none (some (.int .i64 ((xd.length - 1 : Nat) : Int))) none).run Try.prog u = .ok (.slice (some ⟨g, o, none⟩) (xd.length - 1) ct) u := fun u => run_to Try.underlying22 (sizeInt u) _ xd.length ct (xd.length - 1) (by omega) (fun a ha => by cases ha; exact ⟨g, o, rfl⟩)
    have hs3 := D3.lt
    go_upto_region 9 with (fail)
    clear e0 e0b hsl e1
    obtain ⟨w4, hw4⟩ : ∃ w4, w4 = w3.alloc (.cells #[.slice (some ⟨g, o, none⟩) (xd.length - 1) ct, .int .i64 xf, .int .i64 xo, .int .i64 xp] 36) := ⟨_, rfl⟩
    have b4 : Below w3.heap.size w3 w4 := by rw [hw4]; exact (Below.refl _ _).alloc (Nat.le_refl _) _
    have L4 : At w4 w3.heap.size #[.slice (some ⟨g, o, none⟩) (xd.length - 1) ct, .int .i64 xf, .int .i64 xo, .int .i64 xp] 36 := by rw [hw4]; exact At.new w3 _ _
    have hsL : w3.heap.size < w4.heap.size := by rw [hw4]; simp
    rw [← hw4]
    clear hw4
    obtain ⟨LB, hLB⟩ : ∃ LB, LB = w3.heap.size := ⟨_, rfl⟩
    rw [← hLB] at L4 hsL ⊢
    have hTL : TB < LB := by omega
    have hOT : w.heap.size + 1 < LB := by have := O3.lt; omega
    have hgL : g < LB := by omega
    clear hLB hg
    have T4 := T3.belows b4
    have t0 := (T4.cell 0).trans rfl; have t1 := (T4.cell 1).trans rfl; have t2 := (T4.cell 2).trans rfl; have t3 := (T4.cell 3).trans rfl
    have hs4 : w3.heap.size ≤ w4.heap.size := b4.size
    go_upto_region 10 with (fail)
    obtain ⟨w5, hw5⟩ : ∃ w5, w5 = w4.alloc (.cells #[.slice (some ⟨g, o, none⟩) xd.length ct, .int .i64 xf, .int .i64 xo, .int .i64 xp] 36) := ⟨_, rfl⟩
    have b5 : Below w4.heap.size w4 w5 := by rw [hw5]; exact (Below.refl _ _).alloc (Nat.le_refl _) _
    have M5 : At w5 w4.heap.size #[.slice (some ⟨g, o, none⟩) xd.length ct, .int .i64 xf, .int .i64 xo, .int .i64 xp] 36 := by rw [hw5]; exact At.new w4 _ _
    have hsM : w4.heap.size < w5.heap.size := by rw [hw5]; simp
    rw [← hw5]
    clear hw5
    obtain ⟨MB, hMB⟩ : ∃ MB, MB = w4.heap.size := ⟨_, rfl⟩
    rw [← hMB] at M5 hsM ⊢
    have hLM : LB < MB := by omega
    clear hMB
    have b35 := b4.trans (b5.mono b4.size)
    have bw5 := bw3.trans (b35.mono bw3.size)
    have D5 := D3.belows b35
    have T5 := T4.belows b5
    have L5 := L4.belows b5
    have O5 := O3.belows b35
    have HZ5 := Lib.hid (HZ.out.belows b35)
    have KZ : Hid (∀ (u : World) (v : Value), (u.cell? ⟨TB, 0, none⟩ = some (.slice (some ⟨g, o, none⟩) xd.length ct) ∧ u.cell? ⟨w.heap.size + 1, 1, none⟩ = some (.int .i64 b)) → ((u.setCell ⟨MB, 0, none⟩ v).cell? ⟨TB, 0, none⟩ = some (.slice (some ⟨g, o, none⟩) xd.length ct) ∧ (u.setCell ⟨MB, 0, none⟩ v).cell? ⟨w.heap.size + 1, 1, none⟩ = some (.int .i64 b))) := Lib.hid fun u v h =>
      ⟨(World.cell?_setCell_other _ _ _ _ (by intro e; injection e with e1; omega)).trans h.1, (World.cell?_setCell_other _ _ _ _ (by intro e; injection e with e1; omega)).trans h.2⟩
    have SZ : Hid (∀ u, Below w5.heap.size w5 u → u.cell? ⟨TB, 0, none⟩ = some (.slice (some ⟨g, o, none⟩) xd.length ct) ∧ u.cell? ⟨w.heap.size + 1, 1, none⟩ = some (.int .i64 b)) := Lib.hid fun u hu =>
      ⟨((T5.belows hu).cell 0).trans rfl, ((O5.belows hu).cell 1).trans rfl⟩
    have MZ : Hid (∀ u, Below w5.heap.size w5 u → u.cell? ⟨MB, 0, none⟩ = some (.slice (some ⟨g, o, none⟩) xd.length ct) ∧ u.frozen? ⟨MB, 0, none⟩ = false) := Lib.hid fun u hu =>
      ⟨((M5.belows hu).cell 0).trans rfl, (M5.belows hu).frozen 0⟩
    have HM5 := Lib.hid M5
    have HD5 := Lib.hid D5
    have HT5 := Lib.hid T5
    have HL5 := Lib.hid L5
    have HB5 := Lib.hid bw5
    clear t0 t1 t2 t3 x0 x1 x2 T3 D3 bw3 b4 b5 b35 bw5 D5 T5 L5 O5 O3 M5 L4 T4 HZ HX
    go_cut [52] (fun _ wc => Hid (MOut w w5 TB LB MB #[.slice A1 ps.length c1, .slice A2 ls.length c2, .slice A3 L.length c3] #[.slice (some ⟨g, o, none⟩) xd.length ct, .int .i64 xf, .int .i64 xo, .int .i64 xp] #[.slice (some ⟨g, o, none⟩) (xd.length - 1) ct, .int .i64 xf, .int .i64 xo, .int .i64 xp] (xd ++ [b]) xf xo xp wc))
    case first =>
      go_region_held3 (fun W => W.cell? ⟨TB, 0, none⟩ = some (.slice (some ⟨g, o, none⟩) xd.length ct) ∧ W.cell? ⟨w.heap.size + 1, 1, none⟩ = some (.int .i64 b))
        (first | with_reducible exact SZ.out _ b6w | with_reducible exact SZ.out _ b5w | with_reducible exact SZ.out _ (b5w.alloc b5w.size _) | with_reducible exact SZ.out _ ((Below.refl _ w5).alloc (Nat.le_refl _) _).drew | with_reducible exact SZ.out _ (((Below.refl _ w5).alloc (Nat.le_refl _) _).alloc (by simp) _).drew | with_reducible exact SZ.out _ (Below.refl _ w5).drew | with_reducible exact KZ.out _ _ (SZ.out _ b6w))
        (first
          | (refine here48 rfl ?_; first
          | (refine step_fill rfl (.tmp 45) (.tmp 47) rfl (w5.heap.size) (by simp [Act.eval]) ⟨g, o, none⟩ ct xd (by simp [Act.eval]) (by with_reducible exact (At.new w5 _ _).drew) (HZ5.out.belows (by with_reducible exact ((Below.refl _ w5).alloc (Nat.le_refl _) _).drew)) (by omega) w5.heap.size (Nat.le_refl _) ?_; intro v6 w6 ho6 g6; have b5w : Below w5.heap.size w5 w6 := Below.grown ((Below.refl _ w5).alloc (Nat.le_refl _) _).drew g6 (by simp) (fun j hj => by cases hj; exact Nat.le_refl _))
          | (refine step_fill rfl (.tmp 45) (.tmp 47) rfl (w5.heap.size) (by simp [Act.eval]) ⟨g, o, none⟩ ct xd (by simp [Act.eval]) (by with_reducible exact ((At.new w5 _ _).alloc _).drew) (HZ5.out.belows (by with_reducible exact (((Below.refl _ w5).alloc (Nat.le_refl _) _).alloc (by simp) _).drew)) (by omega) w5.heap.size (Nat.le_refl _) ?_; intro v6 w6 ho6 g6; have b5w : Below w5.heap.size w5 w6 := Below.grown (((Below.refl _ w5).alloc (Nat.le_refl _) _).alloc (by simp) _).drew g6 (by simp; omega) (fun j hj => by cases hj; exact Nat.le_refl _); have Q6 : At w6 (w5.heap.size + 1) #[.int .i64 b] 3 := At.kept (At.new1 w5 _ _ _).drew g6 (by simp))
          | (refine step_fill rfl (.tmp 45) (.tmp 47) rfl (w5.heap.size + 1) (by simp [Act.eval]) ⟨g, o, none⟩ ct xd (by simp [Act.eval]) (by with_reducible exact (At.new1 w5 _ _ _).drew) (HZ5.out.belows (by with_reducible exact (((Below.refl _ w5).alloc (Nat.le_refl _) _).alloc (by simp) _).drew)) (by omega) w5.heap.size (by omega) ?_; intro v6 w6 ho6 g6; have b5w : Below w5.heap.size w5 w6 := Below.grown (((Below.refl _ w5).alloc (Nat.le_refl _) _).alloc (by simp) _).drew g6 (by simp; omega) (fun j hj => by cases hj; omega); have Q6 : At w6 w5.heap.size #[.int .i64 b] 3 := At.kept ((At.new w5 _ _).alloc _).drew g6 (by simp)))
          | (refine here52 rfl ?_; first
          | (refine step_more rfl (.tmp 48) (.tmp 51) rfl w5.heap.size v6 xd (w6.heap.size) b (by simp [Act.eval]) (by simp [Act.eval]) (by with_reducible exact (ho6.alloc _)) (by with_reducible exact (At.new w6 _ _)) (by omega) (by have := b5w.size; simp; omega) ?_; intro v7 w7 ho7 b7; have b6w : Below w5.heap.size w5 w7 := Below.trans (b5w.alloc b5w.size _) b7; obtain ⟨g7, c7, rfl, _, _⟩ := row_some ho7 (by simp); obtain ⟨y0, f0⟩ := MZ.out w7 b6w)
          | (refine step_more rfl (.tmp 48) (.tmp 51) rfl w5.heap.size v6 xd (w5.heap.size + 1) b (by simp [Act.eval]) (by simp [Act.eval]) (by with_reducible exact ho6) (by with_reducible exact Q6) (by omega) (b5w.size) ?_; intro v7 w7 ho7 b7; have b6w : Below w5.heap.size w5 w7 := Below.trans b5w b7; obtain ⟨g7, c7, rfl, _, _⟩ := row_some ho7 (by simp); obtain ⟨y0, f0⟩ := MZ.out w7 b6w)
          | (refine step_more rfl (.tmp 48) (.tmp 51) rfl w5.heap.size v6 xd (w5.heap.size) b (by simp [Act.eval]) (by simp [Act.eval]) (by with_reducible exact ho6) (by with_reducible exact Q6) (by omega) (b5w.size) ?_; intro v7 w7 ho7 b7; have b6w : Below w5.heap.size w5 w7 := Below.trans b5w b7; obtain ⟨g7, c7, rfl, _, _⟩ := row_some ho7 (by simp); obtain ⟨y0, f0⟩ := MZ.out w7 b6w)))
      all_goals (go_wp2_with fail; go_meet; exact Lib.hid (mout_of HM5.out HD5.out HT5.out HL5.out HB5.out (by omega) (by omega) hLM (by have h := ho7; rw [show (Value.slice (some ⟨g7, 0, none⟩) (xd ++ [b]).length c7) = .slice (some ⟨g7, 0, none⟩) (xd.length + 1) c7 by simp] at h; exact h) b6w))
    case rest =>
      obtain ⟨gm, cm, M6, mn, mm, mz, D6, T6, L6, bw6, g56⟩ := hcut.out
      clear hcut
      simp only [List.length_append, List.length_singleton] at M6 mn
      have hsz6 : w5.heap.size ≤ wc.heap.size := g56.size
      have hgMB : ¬ g = MB := by omega
      have HDZ0 : Hid (Fs 1 intA wc (some ⟨g, o, none⟩) xd) := Lib.hid (fun hn => by
        obtain ⟨g', o', e, hg', hc'⟩ := HZ5.out hn
        cases e
        exact ⟨g, o, rfl, Nat.lt_of_lt_of_le hg' hsz6, fun i hi j hj => (World.cell?_of_block (a := ⟨g, _, none⟩) (g56.block g hg' (by simpa using hgMB))).trans (hc' i hi j hj)⟩)
      have t0 := (T6.cell 0).trans rfl; have t1 := (T6.cell 1).trans rfl; have t2 := (T6.cell 2).trans rfl; have t3 := (T6.cell 3).trans rfl
      have hsT : TB < wc.heap.size := T6.lt
      clear HZ5 HM5 HD5 HT5 HL5 HB5 SZ MZ KZ g56
      go_upto_region 13 with (fail)
      obtain ⟨w7, hw7⟩ : ∃ w7, w7 = wc.alloc (.cells #[.slice (some ⟨g, o, none⟩) xd.length ct, .int .i64 f5, .int .i64 xo, .int .i64 xp] 36) := ⟨_, rfl⟩
      have b7 : Below wc.heap.size wc w7 := by rw [hw7]; exact (Below.refl _ _).alloc (Nat.le_refl _) _
      have O7 : At w7 wc.heap.size #[.slice (some ⟨g, o, none⟩) xd.length ct, .int .i64 f5, .int .i64 xo, .int .i64 xp] 36 := by rw [hw7]; exact At.new wc _ _
      rw [← hw7]
      clear hw7
      obtain ⟨OB, hOB⟩ : ∃ OB, OB = wc.heap.size := ⟨_, rfl⟩
      rw [← hOB] at O7 ⊢
      clear hOB t0 t1 t2 t3
      have T7 := T6.belows b7
      have t0 := (T7.cell 0).trans rfl; have t1 := (T7.cell 1).trans rfl; have t2 := (T7.cell 2).trans rfl; have t3 := (T7.cell 3).trans rfl
      have hsT7 : TB < w7.heap.size := T7.lt
      go_upto_region 15 with (fail)
      obtain ⟨w8, hw8⟩ : ∃ w8, w8 = w7.alloc (.cells #[.slice (some ⟨g, o, none⟩) xd.length ct, .int .i64 xf, .int .i64 xo, .int .i64 (xp + 1)] 36) := ⟨_, rfl⟩
      have b8 : Below w7.heap.size w7 w8 := by rw [hw8]; exact (Below.refl _ _).alloc (Nat.le_refl _) _
      have P8 : At w8 w7.heap.size #[.slice (some ⟨g, o, none⟩) xd.length ct, .int .i64 xf, .int .i64 xo, .int .i64 (xp + 1)] 36 := by rw [hw8]; exact At.new w7 _ _
      rw [← hw8]
      clear hw8
      obtain ⟨PB, hPB⟩ : ∃ PB, PB = w7.heap.size := ⟨_, rfl⟩
      rw [← hPB] at P8 ⊢
      clear hPB t0 t1 t2 t3 hsT7 e5 e6 e7
      have b68 := b7.trans (b8.mono b7.size)
      have bw8 := bw6.trans (b68.mono bw6.size)
      go_wp2_with fail
      refine (alive9_any O _).mono ?_
      rintro e wa0 ⟨rfl, ba⟩
      have bq := b68.trans (ba.mono b68.size)
      have hb0 := bw8.trans (ba.mono bw8.size)
      have Da0 := D6.belows bq; have Ta0 := T6.belows bq; have La0 := L6.belows bq; have Ma0 := M6.belows bq
      have Oa0 := (O7.belows b8).belows ba
      have Pa0 := P8.belows ba
      have za0 := Lib.hid (HDZ0.out.belows bq)
      have zm0 := Lib.hid (mz.belows bq)
      clear D6 T6 L6 M6 O7 P8 T7 HDZ0 mz b7 b8 b68 ba bq bw8
      have kg0 := O.genuine (v := .slice (some ⟨g, o, none⟩) xd.length ct) ps ls L a ⟨xd, xf, ⟨xo, xp⟩⟩ wa0 HR.out HW.out HA.out HTW.out (HN.out wa0 hb0) ⟨_, ct, rfl, nt, mt, za0.out⟩
      rw [HGS.out] at kg0
      unfold tcV at kg0
      dsimp only at kg0
      have d0 := (Da0.cell 0).trans rfl; have d1 := (Da0.cell 1).trans rfl; have d2 := (Da0.cell 2).trans rfl
      have t0 := (Ta0.cell 0).trans rfl; have t1 := (Ta0.cell 1).trans rfl; have t2 := (Ta0.cell 2).trans rfl; have t3 := (Ta0.cell 3).trans rfl
      go_wp2_with fail
      refine kg0.mono ?_
      rintro e wa1 ⟨rfl, bg⟩
      have hb1 := hb0.trans (bg.mono hb0.size)
      have Da1 := Da0.belows bg; have Ta1 := Ta0.belows bg; have La1 := La0.belows bg; have Ma1 := Ma0.belows bg; have Oa1 := Oa0.belows bg; have Pa1 := Pa0.belows bg
      have za1 := Lib.hid (za0.out.belows bg); have zm1 := Lib.hid (zm0.out.belows bg)
      clear kg0 d0 d1 d2 t0 t1 t2 t3 bg za0 zm0 hb0 Da0 Ta0 La0 Ma0 Oa0 Pa0
      have kg1 := O.genuine (v := .slice (some ⟨g, o, none⟩) (xd.length - 1) ct) ps ls L a ⟨xd.take (xd.length - 1), xf, ⟨xo, xp⟩⟩ wa1 HR.out HW.out HA.out HT1.out (HN.out wa1 hb1) ⟨_, ct, by simp <;> omega, by simp <;> omega, mt, za1.out.take⟩
      rw [HG1.out] at kg1
      unfold tcV at kg1
      dsimp only at kg1
      have d0 := (Da1.cell 0).trans rfl; have d1 := (Da1.cell 1).trans rfl; have d2 := (Da1.cell 2).trans rfl
      have t0 := (La1.cell 0).trans rfl; have t1 := (La1.cell 1).trans rfl; have t2 := (La1.cell 2).trans rfl; have t3 := (La1.cell 3).trans rfl
      go_wp2_with fail
      refine kg1.mono ?_
      rintro e wa2 ⟨rfl, bg⟩
      have hb2 := hb1.trans (bg.mono hb1.size)
      have Da2 := Da1.belows bg; have Ta2 := Ta1.belows bg; have La2 := La1.belows bg; have Ma2 := Ma1.belows bg; have Oa2 := Oa1.belows bg; have Pa2 := Pa1.belows bg
      have za2 := Lib.hid (za1.out.belows bg); have zm2 := Lib.hid (zm1.out.belows bg)
      clear kg1 d0 d1 d2 t0 t1 t2 t3 bg za1 zm1 hb1 Da1 Ta1 La1 Ma1 Oa1 Pa1
      have kg2 := O.genuine (v := .slice (some ⟨gm, 0, none⟩) (xd.length + 1) cm) ps ls L a ⟨xd ++ [b], xf, ⟨xo, xp⟩⟩ wa2 HR.out HW.out HA.out HT2.out (HN.out wa2 hb2) ⟨_, cm, by simp, by simpa using mn, mm, zm2.out⟩
      rw [HG2.out] at kg2
      unfold tcV at kg2
      dsimp only at kg2
      have d0 := (Da2.cell 0).trans rfl; have d1 := (Da2.cell 1).trans rfl; have d2 := (Da2.cell 2).trans rfl
      have t0 := (Ma2.cell 0).trans rfl; have t1 := (Ma2.cell 1).trans rfl; have t2 := (Ma2.cell 2).trans rfl; have t3 := (Ma2.cell 3).trans rfl
      go_wp2_with fail
      refine kg2.mono ?_
      rintro e wa3 ⟨rfl, bg⟩
      have hb3 := hb2.trans (bg.mono hb2.size)
      have Da3 := Da2.belows bg; have Ta3 := Ta2.belows bg; have La3 := La2.belows bg; have Ma3 := Ma2.belows bg; have Oa3 := Oa2.belows bg; have Pa3 := Pa2.belows bg
      have za3 := Lib.hid (za2.out.belows bg); have zm3 := Lib.hid (zm2.out.belows bg)
      clear kg2 d0 d1 d2 t0 t1 t2 t3 bg za2 zm2 hb2 Da2 Ta2 La2 Ma2 Oa2 Pa2
      have kg3 := O.genuine (v := .slice (some ⟨g, o, none⟩) xd.length ct) ps ls L a ⟨xd, f5, ⟨xo, xp⟩⟩ wa3 HR.out HW.out HA.out HT3.out (HN.out wa3 hb3) ⟨_, ct, rfl, nt, mt, za3.out⟩
      rw [HG3.out] at kg3
      unfold tcV at kg3
      dsimp only at kg3
      have d0 := (Da3.cell 0).trans rfl; have d1 := (Da3.cell 1).trans rfl; have d2 := (Da3.cell 2).trans rfl
      have t0 := (Oa3.cell 0).trans rfl; have t1 := (Oa3.cell 1).trans rfl; have t2 := (Oa3.cell 2).trans rfl; have t3 := (Oa3.cell 3).trans rfl
      go_wp2_with fail
      refine kg3.mono ?_
      rintro e wa4 ⟨rfl, bg⟩
      have hb4 := hb3.trans (bg.mono hb3.size)
      have Da4 := Da3.belows bg; have Ta4 := Ta3.belows bg; have La4 := La3.belows bg; have Ma4 := Ma3.belows bg; have Oa4 := Oa3.belows bg; have Pa4 := Pa3.belows bg
      have za4 := Lib.hid (za3.out.belows bg); have zm4 := Lib.hid (zm3.out.belows bg)
      clear kg3 d0 d1 d2 t0 t1 t2 t3 bg za3 zm3 hb3 Da3 Ta3 La3 Ma3 Oa3 Pa3
      have kg4 := O.genuine (v := .slice (some ⟨g, o, none⟩) xd.length ct) ps ls L a ⟨xd, xf, ⟨xo, xp + 1⟩⟩ wa4 HR.out HW.out HA.out HT4.out (HN.out wa4 hb4) ⟨_, ct, rfl, nt, mt, za4.out⟩
      rw [HG4.out] at kg4
      unfold tcV at kg4
      dsimp only at kg4
      have d0 := (Da4.cell 0).trans rfl; have d1 := (Da4.cell 1).trans rfl; have d2 := (Da4.cell 2).trans rfl
      have t0 := (Pa4.cell 0).trans rfl; have t1 := (Pa4.cell 1).trans rfl; have t2 := (Pa4.cell 2).trans rfl; have t3 := (Pa4.cell 3).trans rfl
      go_wp2_with fail
      refine kg4.mono ?_
      rintro e wa5 ⟨rfl, bg⟩
      have hb5 := hb4.trans (bg.mono hb4.size)
      have Da5 := Da4.belows bg; have Ta5 := Ta4.belows bg; have La5 := La4.belows bg; have Ma5 := Ma4.belows bg; have Oa5 := Oa4.belows bg; have Pa5 := Pa4.belows bg
      have za5 := Lib.hid (za4.out.belows bg); have zm5 := Lib.hid (zm4.out.belows bg)
      clear kg4 d0 d1 d2 t0 t1 t2 t3 bg za4 zm4 hb4 Da4 Ta4 La4 Ma4 Oa4 Pa4
      have kg5 := O.genuine (v := .slice none 0 0) ps ls L a ⟨[], 0, ⟨0, 0⟩⟩ wa5 HR.out HW.out HA.out HT5'.out (HN.out wa5 hb5) ⟨_, 0, rfl, Nat.le_refl _, by simp, Fs.nil _ _⟩
      rw [show genT ps ls L a ⟨[], 0, ⟨0, 0⟩⟩ = false from rfl] at kg5
      unfold tcV at kg5
      dsimp only at kg5
      have d0 := (Da5.cell 0).trans rfl; have d1 := (Da5.cell 1).trans rfl; have d2 := (Da5.cell 2).trans rfl
      go_wp2_with fail
      refine kg5.mono ?_
      rintro e wa6 ⟨rfl, bg⟩
      have hb6 := hb5.trans (bg.mono hb5.size)
      go_wp2
      go_ret
      exact ⟨rfl, hb6⟩
end Go.Proofs.Ytmndgbpfophniaa
