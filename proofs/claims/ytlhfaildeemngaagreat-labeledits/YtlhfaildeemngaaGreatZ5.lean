/- Texts of this seat, put together: La10, La11, Own10Calls, Open, OpenN, Op10, Lift. -/
import Derived.Test.YtlhfaildeemngaaGreatZ4
import Derived.Test.YtlhfaildeemngaaGreatZ1
import Derived.Deep.Slices
import Derived.Deep.Fields
import Derived.ProofKit
import Derived.OpenShut
import Derived.ChangeOld
import Derived.ChangeSame
import Derived.Lib.SmallJoins
import Derived.Test.YtlhfaildeemngaaGreatZ3
import Derived.ShutString
import Derived.Carry
import Derived.Below
import Derived.SizedLaws
/- Contracts of package label: Insert, Delete. -/
namespace Go.Proofs.YtlhfaildeemngaaGreat
open Go.RowKit Go.Shelf

theorem idAt_cons (x : Ru) (L : List Ru) (j : Nat) : idAt (x :: L) (j + 1) = idAt L j := by
  unfold idAt
  by_cases h : j < L.length
  · rw [dif_pos h, dif_pos (by simpa using h)]; rfl
  · rw [dif_neg h, dif_neg (by simpa using h)]
/-- The list with a rule put in at its place. -/
theorem ins_plc {r : Ru} : ∀ {L : List Ru} {i : Nat}, Plc L r.id i → (∀ x ∈ L, x.id ≠ r.id) → L.take i ++ [r] ++ L.drop i = insL r L
  | [], i, h, _ => by
    have : i = 0 := by have := h.le; simpa using this
    subst this
    rfl
  | x :: L, 0, h, hn => by
    have h1 := h.high 0 (Nat.le_refl _) (by simp)
    rw [idAt_in (by simp)] at h1
    have h2 := hn x (by simp)
    have h3 : r.id < x.id := by
      have : r.id ≤ x.id := h1
      omega
    rw [insL, if_pos h3]
    rfl
  | x :: L, i + 1, h, hn => by
    have h1 := h.low 0 (by omega)
    rw [idAt_in (by simp)] at h1
    have h3 : ¬ r.id < x.id := by
      have : x.id < r.id := h1
      omega
    have ih := ins_plc (L := L) (i := i) ⟨by have := h.le; simp at this; omega, fun j hj => by rw [← idAt_cons x]; exact h.low (j + 1) (by omega), fun j h1 h2 => by rw [← idAt_cons x]; exact h.high (j + 1) (by omega) (by simpa using h2)⟩ (fun y hy => hn y (by simp [hy]))
    rw [insL, if_neg h3, ← ih]
    rfl
/-- .. and without the one at its place. -/
theorem del_plc {L : List Ru} {id : Int} {i : Nat} (hp : L.Pairwise (fun a b => a.id < b.id)) (hi : i < L.length) (he : idAt L i = id) : L.take i ++ L.drop (i + 1) = delL id L := by
  have e : L = L.take i ++ L[i] :: L.drop (i + 1) := by rw [← List.drop_eq_getElem_cons, List.take_append_drop]
  rw [idAt_in hi] at he
  have hpp := hp
  rw [e, List.pairwise_append] at hpp
  obtain ⟨p1, p2, p3⟩ := hpp
  have q1 : (L.take i).filter (fun x => decide (x.id ≠ id)) = L.take i := List.filter_eq_self.2 fun x hx => decide_eq_true (by have := p3 x hx L[i] List.mem_cons_self; omega)
  have q2 : (L.drop (i + 1)).filter (fun x => decide (x.id ≠ id)) = L.drop (i + 1) := List.filter_eq_self.2 fun x hx => decide_eq_true (by have := (List.pairwise_cons.1 p2).1 x hx; omega)
  unfold delL
  conv => rhs; rw [e]
  rw [List.filter_append, List.filter_cons, if_neg (by simp [he]), q1, q2]
/-- A row does not lie in a block of another type. -/
theorem row_at_ne {w : World} {base : Nat} {e : TypeId} {n : Nat} {v : Value} {k : Nat} {xs : List Value} (h : w.ownsRow base e n v k xs) {B : Nat} {cs : Array Value} {t : TypeId} (hA : At w B cs t) (ht : e ≠ t) : ∀ g, v.ownBlock = some g → g ≠ B := by
  intro g hg hB
  rw [hB] at hg
  rcases h.2 with ⟨rfl, _⟩ | ⟨g', cap, cur, rfl, _, hgg, _⟩
  · cases hg
  · have e3 : g' = B := by simpa [Value.ownBlock] using hg
    rw [e3] at hgg
    have e2 := hgg.symm.trans (show w.heap[B]? = _ from hA)
    simp only [Option.some.injEq, Obj.cells.injEq] at e2
    exact ht e2.2.1
theorem row_row_ne {w : World} {b1 b2 : Nat} {e1 e2 : TypeId} {n1 n2 : Nat} {v1 v2 : Value} {k1 k2 : Nat} {x1 x2 : List Value} (h1 : w.ownsRow b1 e1 n1 v1 k1 x1) (h2 : w.ownsRow b2 e2 n2 v2 k2 x2) (ht : e1 ≠ e2) : v1.ownBlock = none ∨ v1.ownBlock ≠ v2.ownBlock := by
  rcases h2.2 with ⟨rfl, _⟩ | ⟨g, cap, cur, rfl, _, hgg, _⟩
  · cases hv : v1.ownBlock with
    | none => exact .inl rfl
    | some c => exact .inr (by intro e; cases e)
  · cases hv : v1.ownBlock with
    | none => exact .inl rfl
    | some c => exact .inr fun e => row_at_ne h1 (B := g) hgg ht c hv (by cases e; rfl)
theorem At.ne_row {w w' : World} {base : Nat} {e : TypeId} {n : Nat} {v : Value} {k : Nat} {xs : List Value} (h : w.ownsRow base e n v k xs) {B : Nat} {cs : Array Value} {t : TypeId} (hA : At w B cs t) (ht : e ≠ t) (hg : w.grownBy w' v.ownBlock) : At w' B cs t :=
  hA.kept hg fun hh => row_at_ne h hA ht B hh.symm rfl
set_option maxRecDepth 100000 in
set_option maxHeartbeats 2000000 in
theorem insert10_any {v : Value} (H : Nat → Prop) (ps : List Int) (ls : List Lk) (L : List Ru) (r : Ru) (w : World) (hH : ∀ b, H b → ∃ cs, At w b cs 28) (hR : RN ps ls L) (hW : NW ps ls L) (hr : r.wf) (h : LbM w v ps ls L) : Calls Tryz.prog 8 #[v, .agg (ruA r)] w fun e w' =>
    ((insE ps ls L r = 0 ∧ ∃ p, e = .returned (.tuple #[p, .int .i64 0]) ∧ Lb10 H w' p ps ls (insL r L)) ∨ (insE ps ls L r ≠ 0 ∧ e = .returned (.tuple #[.pointer none, .int .i64 (insE ps ls L r)]))) ∧ Below w.heap.size w w' := by
  have hsh := hR.short
  have hpw := ((allB_pw L).1 hR.rules).2.2
  obtain ⟨w1, hw1⟩ : ∃ w1, w1 = w.alloc (.cells (ruA r) 41) := ⟨_, rfl⟩
  have b1 : Below w.heap.size w w1 := by rw [hw1]; exact (Below.refl _ w).alloc (Nat.le_refl _) _
  have R1 : At w1 w.heap.size (ruA r) 41 := by rw [hw1]; exact At.new w _ _
  have s1 : w1.heap.size = w.heap.size + 1 := by rw [hw1]; simp
  have hL1 : LbM w1 v ps ls L := by
    obtain ⟨B, vp, vl, vr, vt, g, e, hA, hN, ht, htb⟩ := h
    exact ⟨B, vp, vl, vr, vt, g, e, hA.belows b1, hN.belows b1, ht.belows b1, htb.belows b1⟩
  have KN := network10_any ps ls L w1 hR hL1
  obtain ⟨B, vp, vl, vr, vt, g, rfl, _⟩ := h
  have HB1 := Lib.hid b1
  have HR1 := Lib.hid R1
  have HS1 := Lib.hid s1
  have HR := Lib.hid hR
  have HW := Lib.hid hW
  have HH := Lib.hid hH
  have HP := Lib.hid hpw
  have HI : Hid (hasId r.id L = true → insE ps ls L r = 142) := Lib.hid fun h => by unfold insE; rw [if_pos h]
  have HI2 : Hid (hasId r.id L = false → insE ps ls L r = if rightN ps ls (insL r L) then 0 else 71) := Lib.hid fun h => by unfold insE; rw [if_neg (by rw [h]; decide)]
  have HRW := Lib.hid hr
  obtain ⟨r', hr'⟩ : ∃ r', r' = r := ⟨_, rfl⟩
  have HRR := Lib.hid hr'
  obtain ⟨id, dv, pr, kd, f, t, pt⟩ := r
  rw [ruA_mk] at hw1
  have R1c := R1
  rw [ruA_mk] at R1c ⊢
  clear hr' R1 hH hL1 hpw hW hR b1 s1 hr
  go_enter Tryz.func8, Tryz.ntmps8
  go_upto_region 1 with (fail)
  rw [← hw1]
  clear hw1
  go_upto_region 4 with (go_at_call 23; refine KN.mono ?_; rintro e w2 ⟨vp', vl', vr', rfl, o2, b2⟩; obtain ⟨B1, e1, rfl, _, _⟩ := row_slice o2.p; obtain ⟨B2, e2, rfl, _, _⟩ := row_slice o2.l; obtain ⟨B3, e3, rfl, e4, e5⟩ := row_slice o2.r)
  obtain ⟨w3, hw3⟩ : ∃ w3, w3 = w2.alloc (.cells #[.slice B1 ps.length e1, .slice B2 ls.length e2, .slice B3 L.length e3] 28) := ⟨_, rfl⟩
  have b3 : Below w1.heap.size w1 w3 := by rw [hw3]; exact b2.alloc b2.size _
  have N3 : At w3 w2.heap.size #[.slice B1 ps.length e1, .slice B2 ls.length e2, .slice B3 L.length e3] 28 := by rw [hw3]; exact At.new w2 _ _
  have O3 : Rows3 w3 w1.heap.size (.slice B1 ps.length e1) (.slice B2 ls.length e2) (.slice B3 L.length e3) ps ls L := by rw [hw3]; exact ⟨o2.p.alloc _, o2.l.alloc _, o2.r.alloc _⟩
  obtain ⟨NB, hNB⟩ : ∃ NB, NB = w2.heap.size := ⟨_, rfl⟩
  have KP := place_any L id w3 HP.out (by omega) e4 e5 (by
    obtain ⟨_, _, e, _, _, z⟩ := O3.isN.2
    cases e
    exact z)
  rw [← hNB] at N3 ⊢
  rw [← hw3]
  have R3 := R1c.belows b3
  have y2 := (N3.cell 2).trans rfl
  have q0 := (R3.cell 0).trans rfl
  have HN3 := Lib.hid N3
  have HO3 := Lib.hid O3
  have HB3 := Lib.hid b3
  have HR3 := Lib.hid R3
  have HNB : Hid (w1.heap.size ≤ NB) := Lib.hid (by rw [hNB]; exact b2.size)
  clear hw3 hNB KN o2 b2 b3 N3 O3 R3 R1c
  go_upto_region 5 with (go_at_call 24; refine KP.mono ?_; rintro e w4 ⟨i, rfl, hpl, b4⟩)
  have HPL := Lib.hid hpl
  have HB4 := Lib.hid (HB3.out.trans (b4.mono HB3.out.size))
  have HN4 := Lib.hid (HN3.out.belows b4)
  have HO4 := Lib.hid (HO3.out.belows b4)
  have R4 := HR3.out.belows b4
  have hile := hpl.le
  clear KP b4 hpl y2 q0
  cases hq : hasId id L with
  | true =>
    have hE := Lib.hid (HI.out hq)
    clear HI HI2 hq
    go_wp2
    go_ret2
    rw [hE.out]
    exact ⟨.inr ⟨by decide, rfl⟩, HB1.out.trans (HB4.out.mono HB1.out.size)⟩
  | false =>
    have hE := Lib.hid (HI2.out hq)
    have hno := hasId_no.1 hq
    have HL := Lib.hid (ins_plc (r := ⟨id, dv, pr, kd, f, t, pt⟩) HPL.out hno)
    clear HI HI2 hq hno
    have y2 := (HN4.out.cell 2).trans rfl
    have r0 := (R4.cell 0).trans rfl; have r1 := (R4.cell 1).trans rfl; have r2 := (R4.cell 2).trans rfl; have r3 := (R4.cell 3).trans rfl; have r4 := (R4.cell 4).trans rfl; have r5 := (R4.cell 5).trans rfl; have r6 := (R4.cell 6).trans rfl
    obtain ⟨w5, hw5⟩ : ∃ w5, w5 = w4.alloc (.cells #[.int .i64 id, .int .i64 dv, .int .i64 pr, .int .i64 kd, .int .u32 f, .int .u32 t, .int .i64 pt] 41) := ⟨_, rfl⟩
    have V5 : At w5 w4.heap.size (ruA ⟨id, dv, pr, kd, f, t, pt⟩) 41 := by rw [hw5]; exact At.new w4 _ _
    have b45 : Below w4.heap.size w4 w5 := by rw [hw5]; exact (Below.refl _ _).alloc (Nat.le_refl _) _
    have O5 := HO4.out.belows b45
    have N5 := HN4.out.belows b45
    have B5 : Below w1.heap.size w1 w5 := HB4.out.trans (b45.mono HB4.out.size)
    have KI := insert_any L i ⟨id, dv, pr, kd, f, t, pt⟩ w4.heap.size w5 hile (by omega) O5.r B5.size V5 (fun e => by
      have := (HO4.out.r.lt _ e).2
      omega)
    rw [HL.out] at KI
    have HO5 := Lib.hid O5
    have HN5 := Lib.hid N5
    have HB5 := Lib.hid B5
    obtain ⟨VB, hVB⟩ : ∃ VB, VB = w4.heap.size := ⟨_, rfl⟩
    rw [← hVB] at KI
    rw [hw5] at KI
    have HE5 := Lib.hid hw5
    have HVB := Lib.hid hVB
    clear hw5 V5 b45 O5 N5 B5
    go_upto_region 8 with (rw [← hVB]; go_at_call 25; refine KI.mono ?_; rintro e w6 ⟨v6, rfl, o6, g6⟩; rw [← HE5.out] at g6; have N6 := At.ne_row HO5.out.r HN5.out (by decide) g6; have z2 := (N6.cell 2).trans rfl; have z2f := N6.frozen 2; obtain ⟨B6, d6, rfl, _, _⟩ := row_slice o6)
    obtain ⟨w7, hw7⟩ : ∃ w7, w7 = w6.setCell ⟨NB, 2, none⟩ (.slice B6 (insL ⟨id, dv, pr, kd, f, t, pt⟩ L).length d6) := ⟨_, rfl⟩
    have N7 : At w7 NB #[.slice B1 ps.length e1, .slice B2 ls.length e2, .slice B6 (insL ⟨id, dv, pr, kd, f, t, pt⟩ L).length d6] 28 := by rw [hw7]; exact N6.set0 2 _
    have p6 := HO5.out.p.kept g6 (row_row_ne HO5.out.p HO5.out.r (by decide))
    have l6 := HO5.out.l.kept g6 (row_row_ne HO5.out.l HO5.out.r (by decide))
    have gs : w6.grownBy w7 (some NB) := by rw [hw7]; exact grownBy_set _ _ _ _
    have I7 : IsN w7 (.slice B1 ps.length e1) (.slice B2 ls.length e2) (.slice B6 (insL ⟨id, dv, pr, kd, f, t, pt⟩ L).length d6) ps ls (insL ⟨id, dv, pr, kd, f, t, pt⟩ L) :=
      (Rows3.mk (row_not p6 gs (row_at_ne p6 N6 (by decide))) (row_not l6 gs (row_at_ne l6 N6 (by decide))) (row_not o6 gs (row_at_ne o6 N6 (by decide)))).isN
    have b7 : Below w.heap.size w w7 := by
      have b6 := HB5.out.grown g6 HB5.out.size (fun k hk => (HO5.out.r.lt k hk).1)
      rw [hw7]
      exact (HB1.out.trans (b6.mono HB1.out.size)).setCell (p := ⟨NB, 2, none⟩) (by show w.heap.size ≤ NB; have := HNB.out; have := HS1.out; omega) _
    have KO := of10_any H ps ls (insL ⟨id, dv, pr, kd, f, t, pt⟩ L) w7 (Nets.belows (W := w) HH.out b7) (ins_w HW.out HRW.out (by omega)) I7
    have KO2 : Calls Tryz.prog 6 #[.agg #[.slice B1 ps.length e1, .slice B2 ls.length e2, .slice B6 (insL ⟨id, dv, pr, kd, f, t, pt⟩ L).length d6]] w7 fun e w' => ∃ (p : Value) (n : Int), e = .returned (.tuple #[p, .int .i64 n]) ∧ Hid ((insE ps ls L ⟨id, dv, pr, kd, f, t, pt⟩ = 0 ∧ n = 0 ∧ Lb10 H w' p ps ls (insL ⟨id, dv, pr, kd, f, t, pt⟩ L)) ∨ (insE ps ls L ⟨id, dv, pr, kd, f, t, pt⟩ ≠ 0 ∧ p = .pointer none ∧ n = insE ps ls L ⟨id, dv, pr, kd, f, t, pt⟩)) ∧ Below w7.heap.size w7 w' := KO.mono fun e w' h => by
      obtain ⟨h, hb⟩ := h
      rcases h with ⟨h1, p, rfl, h3⟩ | ⟨h1, rfl⟩
      · exact ⟨p, 0, rfl, Lib.hid (.inl ⟨by rw [hE.out, if_pos ((rightN_iff _ _ _).2 h1)], rfl, h3⟩), hb⟩
      · have h2 : rightN ps ls (insL ⟨id, dv, pr, kd, f, t, pt⟩ L) = false := by
          cases hq : rightN ps ls (insL ⟨id, dv, pr, kd, f, t, pt⟩ L) with
          | false => rfl
          | true => exact absurd ((rightN_iff _ _ _).1 hq) h1
        have h3 : insE ps ls L ⟨id, dv, pr, kd, f, t, pt⟩ = 71 := by rw [hE.out, h2]; rfl
        exact ⟨_, _, rfl, Lib.hid (.inr ⟨by rw [h3]; decide, rfl, h3.symm⟩), hb⟩
    have HB7 := Lib.hid b7
    have d0 := (N7.cell 0).trans rfl
    have d1 := (N7.cell 1).trans rfl
    have d2 := (N7.cell 2).trans rfl
    rw [← hw7]
    clear hw7 N6 N7 z2 z2f o6 p6 l6 gs I7 b7 KO g6 y2 r0 r1 r2 r3 r4 r5 r6 R4 hile
    go_wp2_with (go_at_call 6; refine KO2.mono ?_; rintro e w8 ⟨p, n, rfl, h8, b8⟩)
    go_ret2
    have hb8 := HB7.out.trans (b8.mono HB7.out.size)
    rcases h8.out with ⟨h1, rfl, h3⟩ | ⟨h1, rfl, rfl⟩
    · exact ⟨.inl ⟨h1, p, rfl, h3⟩, hb8⟩
    · exact ⟨.inr ⟨h1, rfl⟩, hb8⟩
end Go.Proofs.YtlhfaildeemngaaGreat
/- Contracts of package label: Delete; nil labels. -/
namespace Go.Proofs.YtlhfaildeemngaaGreat
open Go.RowKit Go.Shelf

theorem delete_any {v : Value} {base : Nat} (L : List Ru) (i : Nat) (w : World) (hi : i < L.length) (hl : L.length ≤ 100000) (hrow : w.ownsRow base 41 7 v L.length (fcs ruA L)) :
    Calls Tryz.prog 26 #[v, .int .i64 (i : Int), .int .i64 ((i : Int) + 1)] w (RowOut w base v (L.take i ++ L.drop (i + 1))) := by
  rcases hrow.2 with ⟨_, h0⟩ | ⟨g, cap, cur, rfl, hb, hA, hnc, hm, hs, hx⟩
  · omega
  · obtain ⟨M, hM⟩ : ∃ M, L.length = M + 1 := ⟨L.length - 1, by omega⟩
    have := delete_row L i w hM (by omega) (by omega) hb hA (by omega) hm hs hx
    rw [← hM] at this
    exact this
set_option maxRecDepth 100000 in
set_option maxHeartbeats 2000000 in
theorem delete10_any {v : Value} (H : Nat → Prop) (ps : List Int) (ls : List Lk) (L : List Ru) (id : Int) (w : World) (hH : ∀ b, H b → ∃ cs, At w b cs 28) (hR : RN ps ls L) (hW : NW ps ls L) (h : LbM w v ps ls L) : Calls Tryz.prog 10 #[v, .int .i64 id] w fun e w' =>
    ((delE L id = 0 ∧ ∃ p, e = .returned (.tuple #[p, .int .i64 0]) ∧ Lb10 H w' p ps ls (delL id L)) ∨ (delE L id ≠ 0 ∧ e = .returned (.tuple #[.pointer none, .int .i64 (delE L id)]))) ∧ Below w.heap.size w w' := by
  have hsh := hR.short
  have hpw := ((allB_pw L).1 hR.rules).2.2
  have KN := network10_any ps ls L w hR h
  obtain ⟨B, vp, vl, vr, vt, g, rfl, _⟩ := h
  have HW := Lib.hid hW
  have HH := Lib.hid hH
  have HP := Lib.hid hpw
  have HD : Hid (RN ps ls (delL id L)) := Lib.hid (del_right hR id)
  have HE1 : Hid (hasId id L = true → delE L id = 0) := Lib.hid fun h => by unfold delE; rw [if_pos h]
  have HE2 : Hid (hasId id L = false → delE L id = 143) := Lib.hid fun h => by unfold delE; rw [if_neg (by rw [h]; decide)]
  clear hH hpw hW hR
  go_enter Tryz.func10, Tryz.ntmps10
  go_upto_region 4 with (go_at_call 23; refine KN.mono ?_; rintro e w2 ⟨vp', vl', vr', rfl, o2, b2⟩; obtain ⟨B1, e1, rfl, _, _⟩ := row_slice o2.p; obtain ⟨B2, e2, rfl, _, _⟩ := row_slice o2.l; obtain ⟨B3, e3, rfl, e4, e5⟩ := row_slice o2.r)
  obtain ⟨w3, hw3⟩ : ∃ w3, w3 = w2.alloc (.cells #[.slice B1 ps.length e1, .slice B2 ls.length e2, .slice B3 L.length e3] 28) := ⟨_, rfl⟩
  have b3 : Below w.heap.size w w3 := by rw [hw3]; exact b2.alloc b2.size _
  have N3 : At w3 w2.heap.size #[.slice B1 ps.length e1, .slice B2 ls.length e2, .slice B3 L.length e3] 28 := by rw [hw3]; exact At.new w2 _ _
  have O3 : Rows3 w3 w.heap.size (.slice B1 ps.length e1) (.slice B2 ls.length e2) (.slice B3 L.length e3) ps ls L := by rw [hw3]; exact ⟨o2.p.alloc _, o2.l.alloc _, o2.r.alloc _⟩
  obtain ⟨NB, hNB⟩ : ∃ NB, NB = w2.heap.size := ⟨_, rfl⟩
  have KP := place_any L id w3 HP.out (by omega) e4 e5 (by
    obtain ⟨_, _, e, _, _, z⟩ := O3.isN.2
    cases e
    exact z)
  rw [← hNB] at N3 ⊢
  rw [← hw3]
  have y2 := (N3.cell 2).trans rfl
  have HN3 := Lib.hid N3
  have HO3 := Lib.hid O3
  have HB3 := Lib.hid b3
  have HNB : Hid (w.heap.size ≤ NB) := Lib.hid (by rw [hNB]; exact b2.size)
  clear hw3 hNB KN o2 b2 b3 N3 O3
  go_upto_region 5 with (go_at_call 24; refine KP.mono ?_; rintro e w4 ⟨i, rfl, hpl, b4⟩)
  have HPL := Lib.hid hpl
  have HB4 := Lib.hid (HB3.out.trans (b4.mono HB3.out.size))
  have HN4 := Lib.hid (HN3.out.belows b4)
  have HO4 := Lib.hid (HO3.out.belows b4)
  have hile := hpl.le
  clear KP b4 hpl y2
  cases hq : hasId id L with
  | false =>
    have hE := Lib.hid (HE2.out hq)
    clear HE1 HE2 hq
    go_wp2
    go_ret2
    rw [hE.out]
    exact ⟨.inr ⟨by decide, rfl⟩, HB4.out⟩
  | true =>
    have hE := Lib.hid (HE1.out hq)
    have hat := of_decide_eq_true ((HPL.out.has HP.out).symm.trans hq)
    have HL := Lib.hid (del_plc HP.out hat.1 hat.2)
    have hlt := hat.1
    clear HE1 HE2 hq hat
    have y2 := (HN4.out.cell 2).trans rfl
    have KI := delete_any L i w4 hlt (by omega) HO4.out.r
    rw [HL.out] at KI
    have j1 : IntKind.i64.wrap ((i : Int) + 1) = (i : Int) + 1 := IntWalk.i64_in _ (by omega)
    go_upto_region 8 with (go_at_call 26; refine KI.mono ?_; rintro e w6 ⟨v6, rfl, o6, g6⟩; have N6 := At.ne_row HO4.out.r HN4.out (by decide) g6; have z2 := (N6.cell 2).trans rfl; have z2f := N6.frozen 2; obtain ⟨B6, d6, rfl, _, _⟩ := row_slice o6)
    obtain ⟨w7, hw7⟩ : ∃ w7, w7 = w6.setCell ⟨NB, 2, none⟩ (.slice B6 (delL id L).length d6) := ⟨_, rfl⟩
    have N7 : At w7 NB #[.slice B1 ps.length e1, .slice B2 ls.length e2, .slice B6 (delL id L).length d6] 28 := by rw [hw7]; exact N6.set0 2 _
    have p6 := HO4.out.p.kept g6 (row_row_ne HO4.out.p HO4.out.r (by decide))
    have l6 := HO4.out.l.kept g6 (row_row_ne HO4.out.l HO4.out.r (by decide))
    have gs : w6.grownBy w7 (some NB) := by rw [hw7]; exact grownBy_set _ _ _ _
    have I7 : IsN w7 (.slice B1 ps.length e1) (.slice B2 ls.length e2) (.slice B6 (delL id L).length d6) ps ls (delL id L) :=
      (Rows3.mk (row_not p6 gs (row_at_ne p6 N6 (by decide))) (row_not l6 gs (row_at_ne l6 N6 (by decide))) (row_not o6 gs (row_at_ne o6 N6 (by decide)))).isN
    have b7 : Below w.heap.size w w7 := by
      have b6 := HB4.out.grown g6 HB4.out.size (fun k hk => (HO4.out.r.lt k hk).1)
      rw [hw7]
      exact b6.setCell (p := ⟨NB, 2, none⟩) HNB.out _
    have KO := of10_any H ps ls (delL id L) w7 (Nets.belows (W := w) HH.out b7) (del_w HW.out id) I7
    have KO2 : Calls Tryz.prog 6 #[.agg #[.slice B1 ps.length e1, .slice B2 ls.length e2, .slice B6 (delL id L).length d6]] w7 fun e w' => ∃ (p : Value), e = .returned (.tuple #[p, .int .i64 0]) ∧ Hid (Lb10 H w' p ps ls (delL id L)) ∧ Below w7.heap.size w7 w' := KO.mono fun e w' h => by
      obtain ⟨h, hb⟩ := h
      rcases h with ⟨h1, p, rfl, h3⟩ | ⟨h1, rfl⟩
      · exact ⟨p, rfl, Lib.hid h3, hb⟩
      · exact absurd HD.out h1
    have HB7 := Lib.hid b7
    have d0 := (N7.cell 0).trans rfl
    have d1 := (N7.cell 1).trans rfl
    have d2 := (N7.cell 2).trans rfl
    rw [← hw7]
    clear hw7 N6 N7 z2 z2f o6 p6 l6 gs I7 b7 KO g6 y2 hile hlt
    go_wp2_with (go_at_call 6; refine KO2.mono ?_; rintro e w8 ⟨p, rfl, h8, b8⟩)
    go_ret2
    exact ⟨.inl ⟨hE.out, p, rfl, h8.out⟩, HB7.out.trans (b8.mono HB7.out.size)⟩
set_option maxRecDepth 100000 in
theorem insertNil_any (r : Ru) (w : World) : Calls Tryz.prog 8 #[.pointer none, .agg (ruA r)] w fun e w' => e = .returned (.tuple #[.pointer none, .int .i64 1]) ∧ Below w.heap.size w w' := by
  obtain ⟨id, dv, pr, kd, f, t, pt⟩ := r
  rw [ruA_mk]
  have b1 : Below w.heap.size w (w.alloc (.cells #[.int .i64 id, .int .i64 dv, .int .i64 pr, .int .i64 kd, .int .u32 f, .int .u32 t, .int .i64 pt] 41)) := (Below.refl _ w).alloc (Nat.le_refl _) _
  go_enter Tryz.func8, Tryz.ntmps8
  go_wp2
  go_ret2
  exact ⟨rfl, b1⟩
theorem deleteNil_any (i : Int) (w : World) : Calls Tryz.prog 10 #[.pointer none, .int .i64 i] w fun e w' => e = .returned (.tuple #[.pointer none, .int .i64 1]) ∧ Below w.heap.size w w' := by
  go_enter Tryz.func10, Tryz.ntmps10
  go_wp2
  go_ret2
  exact ⟨rfl, Below.refl _ _⟩
end Go.Proofs.YtlhfaildeemngaaGreat
/- The program's calls of stage 10, as the laws ask them. -/
namespace Go.Proofs.YtlhfaildeemngaaGreat
open Go.RowKit Go.Shelf

theorem bnds_few {w : World} {v : Value} {ps : List Int} {ls : List Lk} {L : List Ru} (h : LbM w v ps ls L) : (Tr.bnds (rgL L)).length ≤ 4000 := by
  obtain ⟨B, vp, vl, vr, vt, g, rfl, hA, hN, ht, htb⟩ := h
  obtain ⟨h1, B, vr, vc, R, C, e, ha, hr, hc, tr, tc⟩ := ht
  have e1 := Tr.bnds_len h1 tc
  have e2 := Tr.tal_len tc
  have e3 := h1.2
  omega
def ownCalls10 : Own10 where
  Lb := Lb10
  keep := fun h hx W' hW => h W' (hx.trans hW)
  sub := fun h hs W' hx => h W' (hx.sub hs)
  ptr := fun h => by
    obtain ⟨B, vp, vl, vr, vt, g, rfl, _⟩ := h.now
    exact ⟨_, rfl⟩
  of := fun H ps ls L w hH hW h => of10_any H ps ls L w hH hW h.isN
  network := fun H ps ls L w hR hW h => (network10_any ps ls L w hR h.now).mono fun e w' ⟨vp, vl, vr, he, o, hb⟩ => ⟨⟨vp, vl, vr, he, o.isN⟩, hb⟩
  atoms := fun H ps ls L w hR hW h => atoms10_any ps ls L w h.now
  atom := fun H ps ls L i w hR hW hi h => atom10_any ps ls L i w h.now
  at' := fun H ps ls L d i w hR hW hd hi h => by
    have hb := bnds_few h.now
    by_cases hin : (0 ≤ d ∧ d < ps.length) ∧ 0 ≤ i ∧ i < (Tr.bnds (rgL L)).length
    · obtain ⟨⟨d0, d1⟩, i0, i1⟩ := hin
      obtain ⟨d, rfl⟩ := Int.eq_ofNat_of_zero_le d0
      obtain ⟨i, rfl⟩ := Int.eq_ofNat_of_zero_le i0
      refine (at10_in ps ls L d i w (by omega) (by omega) hR.short.1 hb h.now).mono fun e w' ⟨he, hbb⟩ => ⟨.inl ⟨⟨d0, d1⟩, i0, by simp [atm_len]; omega, ?_⟩, hbb⟩
      rw [he]
      simp [tellQ, atmL, Tr.atomsL_at]
    · refine (at10_out ps ls L d i w hR.short.1 hb hd hi hin h.now).mono fun e w' ⟨he, hbb⟩ => ⟨.inr ⟨fun hh => hin ⟨hh.1, hh.2.1, by have := hh.2.2; rw [atm_len] at this; omega⟩, 0, he⟩, hbb⟩
  insert := fun H ps ls L r w hH hR hW hr h => insert10_any H ps ls L r w hH hR hW hr h.now
  delete := fun H ps ls L i w hH hR hW hi h => delete10_any H ps ls L i w hH hR hW h.now
  networkNil := networkNil_any
  atomsNil := atomsNil_any
  atomNil := fun i w _ => atomNil_any i w
  atNil := fun d i w _ _ => atNil_any d i w
  insertNil := fun r w _ => insertNil_any r w
  deleteNil := fun i w _ => deleteNil_any i w
end Go.Proofs.YtlhfaildeemngaaGreat
/- Arguments: a topology, a port, rules, arrays of two and three: what lies in memory, element by element. -/
namespace Go.Proofs.YtlhfaildeemngaaGreat
open Go.ChangeShapes Go.WideShapes Go.ChangeAt Go.RowKit

theorem addr_block (a : Addr) (n : Nat) : (a.add n).block = a.block := by unfold Addr.add; split <;> rfl
theorem addr_add (a : Addr) (i j : Nat) : (a.add i).add j = a.add (i + j) := by
  unfold Addr.add
  by_cases hi : i = 0 <;> by_cases hj : j = 0 <;> simp [hi, hj, Nat.add_assoc]
theorem list_of_fun {α : Type} [Inhabited α] (n : Nat) (p : Nat → α → Prop) (h : ∀ i, i < n → ∃ x, p i x) : ∃ l : List α, l.length = n ∧ ∀ i x, l[i]? = some x → p i x := by
  induction n with
  | zero => exact ⟨[], rfl, by simp⟩
  | succ n ih =>
    obtain ⟨l, hl, hp⟩ := ih (fun i hi => h i (by omega))
    obtain ⟨x, hx⟩ := h n (by omega)
    refine ⟨l ++ [x], by simp [hl], fun i y hy => ?_⟩
    rw [List.getElem?_append] at hy
    split at hy
    · exact hp i y hy
    · rename_i hge
      have : i = n := by
        rcases Nat.lt_or_ge (i - l.length) 1 with h1 | h1
        · omega
        · rw [List.getElem?_eq_none (by simpa using h1)] at hy; cases hy
      subst this
      rw [hl] at hy
      simp at hy
      subst hy
      exact hx
theorem u32_wf {a : Int} (h : (Lit.int .u32 a).wf = true) : ∃ n : Nat, a = n ∧ n < 4294967296 := by
  simp [Lit.wf, IntKind.min, IntKind.max, IntKind.signed, IntKind.bits] at h
  exact ⟨a.toNat, by omega, by omega⟩
theorem i64_wf {a : Int} (h : (Lit.int .i64 a).wf = true) : isI a := by
  simp [Lit.wf, IntKind.min, IntKind.max, IntKind.signed, IntKind.bits] at h
  unfold isI; omega
section
variable {H : Type} {enc : TypeId × Value → H} {P : Program} {w : World}
/-- Of a slice: each element's cells and its own reading. -/
theorem slice_elems {t e : TypeId} {C : Nat} {v : Value} {d : DataW H} {p : List MemPlace} (ht : P.underlying t = some (.slice e)) (hC : P.cellsOf e = C) (_ : 0 < C) (h : DataW.Trod enc P w 0 (fun _ => true) true t v d p) (hv : ∃ A n c, v = .slice A n c) :
    ∃ A n c, v = .slice A n c ∧ n ≤ c ∧ c ≤ maxLen ∧ (n = 0 ∨ ∃ a : Addr, A = some a ∧ ∀ i, i < n → ∃ (cs : List Value) (m : Nat) (y : DataW H × List MemPlace), cs.length = C ∧ (∀ j, j < C → w.cell? (a.add (i * C + j)) = cs[j]?) ∧ DataW.trod enc P w 0 (fun _ => true) true m e cs = some y) := by
  obtain ⟨A, n, c, rfl⟩ := hv
  obtain ⟨fuel, hf⟩ := h
  rcases Deep.open_slice ht hf with ⟨hcs, _⟩ | ⟨a, len, cap, m, k, D, Pl, hcs, _, hl, hm, hmm, hx, hi⟩
  · simp [Value.cells] at hcs
    obtain ⟨rfl, rfl, rfl⟩ := hcs
    exact ⟨none, 0, 0, rfl, Nat.le_refl _, by simp, .inl rfl⟩
  · simp [Value.cells] at hcs
    obtain ⟨rfl, rfl, rfl⟩ := hcs
    simp at hmm
    subst hmm
    refine ⟨_, n, m, rfl, hl, hm, .inr ⟨a, rfl, fun i hin => ?_⟩⟩
    obtain ⟨cs, hc, ht'⟩ := hi i (by omega)
    rw [hC] at hc
    obtain ⟨_, hcl, hat⟩ := World.cells?_some hc
    exact ⟨cs, _, _, by omega, fun j hj => by rw [← addr_add]; exact hat j hj, ht'⟩
end
section
variable {H : Type} {enc : TypeId × Value → H} {P : Program} {w : World} {α : Type} [Inhabited α] {f : α → Array Value}
/-- Of a slice that is a field: each element's cells and its own reading. -/
theorem slice_elems1 {t e : TypeId} {C m : Nat} {v : Value} {y : DataW H × List MemPlace} (ht : P.underlying t = some (.slice e)) (hC : P.cellsOf e = C) (h : DataW.trod enc P w 0 (fun _ => true) true m t [v] = some y) :
    ∃ A n c, v = .slice A n c ∧ n ≤ c ∧ c ≤ maxLen ∧ (n = 0 ∨ ∃ a : Addr, A = some a ∧ ∀ i, i < n → ∃ (cs : List Value) (m : Nat) (y : DataW H × List MemPlace), cs.length = C ∧ (∀ j, j < C → w.cell? (a.add (i * C + j)) = cs[j]?) ∧ DataW.trod enc P w 0 (fun _ => true) true m e cs = some y) := by
  rcases Deep.open_slice ht h with ⟨hcs, _⟩ | ⟨a, len, cap, m, k, D, Pl, hcs, _, hl, hm, hmm, hx, hi⟩
  · injection hcs with hcs
    subst hcs
    exact ⟨none, 0, 0, rfl, Nat.le_refl _, by simp, .inl rfl⟩
  · injection hcs with hcs
    subst hcs
    simp at hmm
    subst hmm
    refine ⟨_, len, _, rfl, hl, hm, .inr ⟨a, rfl, fun i hin => ?_⟩⟩
    obtain ⟨cs, hc, ht'⟩ := hi i (by omega)
    rw [hC] at hc
    obtain ⟨_, hcl, hat⟩ := World.cells?_some hc
    exact ⟨cs, _, _, by omega, fun j hj => by rw [← addr_add]; exact hat j hj, ht'⟩
/-- Such a slice reads as a list. -/
theorem open_vec {Q : α → Prop} {t e : TypeId} {n m : Nat} {v : Value} {y : DataW H × List MemPlace} (hf : ∀ x, (f x).size = n) (hn : 0 < n) (ht : P.underlying t = some (.slice e)) (hC : P.cellsOf e = n)
    (hr : ∀ (m : Nat) (cs : List Value) (y : DataW H × List MemPlace), DataW.trod enc P w 0 (fun _ => true) true m e cs = some y → cs.length = n → ∃ x, Q x ∧ cs = (f x).toList)
    (h : DataW.trod enc P w 0 (fun _ => true) true m t [v] = some y) : ∃ L : List α, IsF n f w v L ∧ ∀ x ∈ L, Q x := by
  obtain ⟨A, k, c, rfl, hnc, hcm, hh⟩ := slice_elems1 ht hC h
  rcases hh with rfl | ⟨a, rfl, hc⟩
  · exact ⟨[], ⟨A, c, rfl, hnc, hcm, fun h => absurd h (by simp)⟩, by simp⟩
  · obtain ⟨l, hl, hp⟩ := list_of_fun k (fun i (x : α) => Q x ∧ ∀ j, j < n → w.cell? (a.add (i * n + j)) = (f x)[j]?) (fun i hi => by
      obtain ⟨cs, m, y, hlen, hat, hy⟩ := hc i hi
      obtain ⟨r, hq, rfl⟩ := hr m cs y hy hlen
      exact ⟨r, hq, fun j hj => by rw [hat j hj]; simp⟩)
    subst hl
    refine ⟨l, ⟨_, c, rfl, hnc, hcm, fun h0 => ?_⟩, fun x hx => by obtain ⟨k, hk, rfl⟩ := List.getElem_of_mem hx; exact (hp k _ (List.getElem?_eq_getElem hk)).1⟩
    have f0 := (hp 0 _ (List.getElem?_eq_getElem h0)).2 0 hn
    have hs : 0 < (f l[0]).size := by rw [hf]; exact hn
    rw [Array.getElem?_eq_getElem hs] at f0
    have hB := World.block_lt_of_cell? w _ f0
    rw [addr_block] at hB
    have hsp : a.spot = none := by
      cases hs : a.spot with
      | none => rfl
      | some s =>
        rw [show a.add (0 * n + 0) = a by simp [Addr.add]] at f0
        unfold World.cell? at f0
        rw [hs] at f0
        split at f0 <;> simp at f0
    obtain ⟨b, o, sp⟩ := a
    obtain rfl : sp = none := hsp
    refine ⟨b, o, rfl, hB, fun k hk j hj => ?_⟩
    have f1 := (hp k _ (List.getElem?_eq_getElem hk)).2 j hj
    rw [addr_off, ← Nat.add_assoc] at f1
    exact f1
end
theorem cells3 : Tryz.prog.cellsOf 3 = 1 := by kernel_rfl
theorem cellsKind : Tryz.prog.cellsOf 36 = 1 := by kernel_rfl
theorem cellsU32 : Tryz.prog.cellsOf 37 = 1 := by kernel_rfl
theorem cellsRange : Tryz.prog.cellsOf 39 = 2 := by kernel_rfl
theorem cellsRule : Tryz.prog.cellsOf 41 = 7 := by kernel_rfl
theorem cellsPort : Tryz.prog.cellsOf 81 = 2 := by kernel_rfl
theorem cellsLink : Tryz.prog.cellsOf 83 = 4 := by kernel_rfl
instance : Inhabited Pt := ⟨⟨0, 0⟩⟩
instance : Inhabited Lk := ⟨⟨⟨0, 0⟩, ⟨0, 0⟩⟩⟩
section
variable {H : Type} {enc : TypeId × Value → H} {W : World} {base : Nat} {spare : Nat → Bool} {held : Bool}
set_option maxRecDepth 100000 in
/-- A rule, by its cells. -/
theorem trod_rule {m : Nat} {cs : List Value} {y : DataW H × List MemPlace} (h : DataW.trod enc Tryz.prog W base spare held m 41 cs = some y) : ∃ r : Ru, r.wf ∧ cs = (ruA r).toList := by
  obtain ⟨xs, n, _, _, hl, hxl, hf⟩ := DataW.trod_struct Tryz.underlying41 h
  rw [cellsRule] at hl
  have g : ∀ i, i < 6 → ∃ x, xs[i]? = some x := fun i hi => ⟨xs[i]'(by rw [hxl]; exact hi), List.getElem?_eq_getElem _⟩
  obtain ⟨x0, g0⟩ := g 0 (by decide)
  obtain ⟨x1, g1⟩ := g 1 (by decide)
  obtain ⟨x2, g2⟩ := g 2 (by decide)
  obtain ⟨x3, g3⟩ := g 3 (by decide)
  obtain ⟨x4, g4⟩ := g 4 (by decide)
  obtain ⟨x5, g5⟩ := g 5 (by decide)
  have h0 : DataW.trod enc Tryz.prog W base spare held n 3 ((cs.drop 0).take (Tryz.prog.cellsOf 3)) = some x0 := (hf 0 _ rfl).trans g0
  have h1 : DataW.trod enc Tryz.prog W base spare held n 3 ((cs.drop 1).take (Tryz.prog.cellsOf 3)) = some x1 := (hf 1 _ rfl).trans g1
  have h2 : DataW.trod enc Tryz.prog W base spare held n 3 ((cs.drop 2).take (Tryz.prog.cellsOf 3)) = some x2 := (hf 2 _ rfl).trans g2
  have h3 : DataW.trod enc Tryz.prog W base spare held n 36 ((cs.drop 3).take (Tryz.prog.cellsOf 36)) = some x3 := (hf 3 _ rfl).trans g3
  have h4 : DataW.trod enc Tryz.prog W base spare held n 39 ((cs.drop 4).take (Tryz.prog.cellsOf 39)) = some x4 := (hf 4 _ rfl).trans g4
  have h5 : DataW.trod enc Tryz.prog W base spare held n 3 ((cs.drop 6).take (Tryz.prog.cellsOf 3)) = some x5 := (hf 5 _ rfl).trans g5
  match cs, hl with
  | [c0, c1, c2, c3, c4, c5, c6], _ =>
    simp only [cells3, cellsKind, cellsRange, List.drop_zero, List.take_succ_cons, List.take_zero, List.drop_succ_cons] at h0 h1 h2 h3 h4 h5
    obtain ⟨y2, y3, m2, _, _, h6, h7⟩ := trod_struct2 Tryz.underlying39 h4
    simp only [cellsU32, List.drop_zero, List.take_succ_cons, List.take_zero, List.drop_succ_cons] at h6 h7
    obtain ⟨z0, q0, _, w0⟩ := DataW.trod_int Tryz.underlying3 h0
    obtain ⟨z1, q1, _, w1⟩ := DataW.trod_int Tryz.underlying3 h1
    obtain ⟨z2, q2, _, w2⟩ := DataW.trod_int Tryz.underlying3 h2
    obtain ⟨z3, q3, _, w3⟩ := DataW.trod_int Tryz.underlying36 h3
    obtain ⟨z4, q4, _, w4⟩ := DataW.trod_int Tryz.underlying37 h6
    obtain ⟨z5, q5, _, w5⟩ := DataW.trod_int Tryz.underlying37 h7
    obtain ⟨z6, q6, _, w6⟩ := DataW.trod_int Tryz.underlying3 h5
    injection q0 with q0; injection q1 with q1; injection q2 with q2; injection q3 with q3; injection q4 with q4; injection q5 with q5; injection q6 with q6
    subst q0 q1 q2 q3 q4 q5 q6
    obtain ⟨n4, rfl, b4⟩ := u32_wf w4
    obtain ⟨n5, rfl, b5⟩ := u32_wf w5
    exact ⟨⟨z0, z1, z2, z3, n4, n5, z6⟩, ⟨i64_wf w0, i64_wf w1, i64_wf w2, i64_wf w3, b4, b5, i64_wf w6⟩, rfl⟩
set_option maxRecDepth 100000 in
/-- An argument that is a rule. -/
theorem open_rule {r : Reach} {b0 : Nat} {v : Value} {d : DataW H} {p : List MemPlace} (hv : Value.okWide Tryz.prog W r b0 41 v) (h : DataW.Trod enc Tryz.prog W base spare held 41 v d p) : ∃ x : Ru, v = .agg (ruA x) ∧ x.wf := by
  obtain ⟨cs, rfl, hsz⟩ := okWide_struct Tryz.underlying41 hv
  obtain ⟨fuel, hf⟩ := h
  obtain ⟨x, hw, e⟩ := trod_rule hf
  refine ⟨x, ?_, hw⟩
  have e' : cs.toList = (ruA x).toList := by simpa [Value.cells] using e
  rw [Array.toList_inj.1 e']
set_option maxRecDepth 100000 in
/-- An argument that is a slice of rules. -/
theorem open_rules {v : Value} {d : DataW H} {p : List MemPlace} (h : DataW.Trod enc Tryz.prog W 0 (fun _ => true) true 26 v d p) (hv : ∃ A n c, v = .slice A n c) :
    ∃ L : List Ru, IsR W v L ∧ ∀ r ∈ L, r.wf := by
  obtain ⟨A, n, c, rfl, hnc, hcm, hr⟩ := slice_elems Tryz.underlying26 cellsRule (by decide) h hv
  rcases hr with rfl | ⟨a, rfl, hc⟩
  · exact ⟨[], ⟨A, c, rfl, hnc, hcm, Rs.nil _ _⟩, fun r hr => by simp at hr⟩
  · obtain ⟨l, hl, hp⟩ := list_of_fun n (fun i (x : Ru) => (∀ j, j < 7 → W.cell? (a.add (i * 7 + j)) = (ruA x)[j]?) ∧ x.wf) (fun i hi => by
      obtain ⟨cs, m, y, hlen, hat, hy⟩ := hc i hi
      obtain ⟨r, hw, rfl⟩ := trod_rule hy
      exact ⟨r, fun j hj => by rw [hat j hj]; simp, hw⟩)
    subst hl
    refine ⟨l, ⟨_, c, rfl, hnc, hcm, fun h0 => ?_⟩, fun r hr => ?_⟩
    · have f0 := (hp 0 _ (List.getElem?_eq_getElem h0)).1 0 (by decide)
      have f0' : W.cell? (a.add (0 * 7 + 0)) = some (.int .i64 l[0].id) := f0
      have hB := World.block_lt_of_cell? W _ f0'
      rw [addr_block] at hB
      have hsp : a.spot = none := by
        cases hs : a.spot with
        | none => rfl
        | some s =>
          rw [show a.add (0 * 7 + 0) = a by simp [Addr.add]] at f0'
          unfold World.cell? at f0'
          rw [hs] at f0'
          split at f0' <;> simp at f0'
      obtain ⟨b, o, sp⟩ := a
      obtain rfl : sp = none := hsp
      refine ⟨b, o, rfl, hB, fun k hk j hj => ?_⟩
      have f1 := (hp k _ (List.getElem?_eq_getElem hk)).1 j hj
      rw [addr_off, ← Nat.add_assoc] at f1
      exact f1
    · obtain ⟨k, hk, rfl⟩ := List.getElem_of_mem hr
      exact (hp k _ (List.getElem?_eq_getElem hk)).2
/-- A number, by its cell. -/
theorem trod_num {m : Nat} {cs : List Value} {y : DataW H × List MemPlace} (h : DataW.trod enc Tryz.prog W base spare held m 3 cs = some y) (hl : cs.length = 1) : ∃ x : Int, isI x ∧ cs = (intA x).toList := by
  match cs, hl with
  | [c0], _ =>
    obtain ⟨z0, q0, _, w0⟩ := DataW.trod_int Tryz.underlying3 h
    injection q0 with q0
    subst q0
    exact ⟨z0, i64_wf w0, rfl⟩
set_option maxRecDepth 100000 in
/-- A port, by its cells. -/
theorem trod_port {m : Nat} {cs : List Value} {y : DataW H × List MemPlace} (h : DataW.trod enc Tryz.prog W base spare held m 81 cs = some y) (hl : cs.length = 2) : ∃ p : Pt, isPt p ∧ cs = (ptA p).toList := by
  match cs, hl with
  | [c0, c1], _ =>
    obtain ⟨y2, y3, m2, _, _, h6, h7⟩ := trod_struct2 Tryz.underlying81 h
    simp only [cells3, List.drop_zero, List.take_succ_cons, List.take_zero, List.drop_succ_cons] at h6 h7
    obtain ⟨z0, q0, _, w0⟩ := DataW.trod_int Tryz.underlying3 h6
    obtain ⟨z1, q1, _, w1⟩ := DataW.trod_int Tryz.underlying3 h7
    injection q0 with q0; injection q1 with q1
    subst q0 q1
    exact ⟨⟨z0, z1⟩, ⟨i64_wf w0, i64_wf w1⟩, rfl⟩
set_option maxRecDepth 100000 in
/-- A link, by its cells. -/
theorem trod_link {m : Nat} {cs : List Value} {y : DataW H × List MemPlace} (h : DataW.trod enc Tryz.prog W base spare held m 83 cs = some y) (hl : cs.length = 4) : ∃ l : Lk, (isPt l.a ∧ isPt l.b) ∧ cs = (lkA l).toList := by
  match cs, hl with
  | [c0, c1, c2, c3], _ =>
    obtain ⟨y2, y3, m2, _, _, h6, h7⟩ := trod_struct2 Tryz.underlying83 h
    simp only [cellsPort, List.drop_zero, List.take_succ_cons, List.take_zero, List.drop_succ_cons] at h6 h7
    obtain ⟨p, hp, e0⟩ := trod_port h6 rfl
    obtain ⟨q, hq, e1⟩ := trod_port h7 rfl
    injection e0 with e0 e2
    injection e2 with e2
    injection e1 with e1 e3
    injection e3 with e3
    subst e0 e1 e2 e3
    exact ⟨⟨p, q⟩, ⟨hp, hq⟩, rfl⟩
set_option maxRecDepth 100000 in
/-- An argument that is a port. -/
theorem open_port {r : Reach} {b0 : Nat} {v : Value} {d : DataW H} {p : List MemPlace} (hv : Value.okWide Tryz.prog W r b0 81 v) (h : DataW.Trod enc Tryz.prog W base spare held 81 v d p) : ∃ x : Pt, v = .agg (ptA x) ∧ isPt x := by
  obtain ⟨cs, rfl, hsz⟩ := okWide_struct Tryz.underlying81 hv
  rw [cellsPort] at hsz
  obtain ⟨fuel, hf⟩ := h
  obtain ⟨x, hx, e⟩ := trod_port hf (by simpa [Value.cells] using hsz)
  refine ⟨x, ?_, hx⟩
  have e' : cs.toList = (ptA x).toList := by simpa [Value.cells] using e
  rw [Array.toList_inj.1 e']
set_option maxRecDepth 100000 in
/-- An argument that is a topology. -/
theorem open_topo {r : Reach} {b0 : Nat} {v : Value} {d : DataW H} {p : List MemPlace} (hv : Value.okWide Tryz.prog W r b0 25 v) (h : DataW.Trod enc Tryz.prog W 0 (fun _ => true) true 25 v d p) : ∃ (v0 v1 : Value) (ps : List Int) (ls : List Lk), v = .agg #[v0, v1] ∧ IsT W v0 v1 ps ls ∧ TW ps ls := by
  obtain ⟨v0, v1, y0, y1, n, rfl, _, _, h0, h1⟩ := Joins.open_agg2 Tryz.underlying25 (by kernel_rfl) (by kernel_rfl) hv h
  obtain ⟨L, hL, qL⟩ := open_vec intA_size (by decide) Tryz.underlying22 cells3 (fun m cs y hy hl => trod_num hy hl) h0
  obtain ⟨M, hM, qM⟩ := open_vec lkA_size (by decide) Tryz.underlying23 cellsLink (fun m cs y hy hl => trod_link hy hl) h1
  exact ⟨v0, v1, L, M, rfl, ⟨hL, hM⟩, qL, qM⟩
set_option maxRecDepth 100000 in
theorem array3 {α : Type} {cs : Array α} (h : cs.size = 3) : ∃ a b c, cs = #[a, b, c] := by
  obtain ⟨l⟩ := cs
  match l, h with
  | [a, b, c], _ => exact ⟨a, b, c, rfl⟩
set_option maxRecDepth 100000 in
end
end Go.Proofs.YtlhfaildeemngaaGreat
/- Arguments: a network. -/
namespace Go.Proofs.YtlhfaildeemngaaGreat
open Go.RowKit Go.Shelf Go.ChangeShapes Go.WideShapes Go.ChangeAt
open Go.ChangeMaps (open_string)

theorem cellsNet : Tryz.prog.cellsOf 28 = 3 := by kernel_rfl
theorem cellsTopo : Tryz.prog.cellsOf 25 = 2 := by kernel_rfl
theorem cellsInts : Tryz.prog.cellsOf 22 = 1 := by kernel_rfl
theorem cellsLinks : Tryz.prog.cellsOf 23 = 1 := by kernel_rfl
theorem cellsRules : Tryz.prog.cellsOf 26 = 1 := by kernel_rfl
section
variable {H : Type} {enc : TypeId × Value → H} {W : World}
theorem net_room {d : DataW H} {ts : List TypeId} {ds : List (DataW H)} (h : (DataW.weightsEach Tryz.prog (28 :: ts) (d :: ds)).all (· ≤ reachBytes) = true) : (d.weights Tryz.prog 28).all (· ≤ reachBytes) = true := by
  rw [DataW.weightsEach, List.all_append, Bool.and_eq_true] at h
  exact h.1
theorem bytesRule : Tryz.prog.bytesOf 41 = 48 := by kernel_rfl
set_option maxRecDepth 100000 in
theorem open_net {r : Reach} {b0 : Nat} {v : Value} {d : DataW H} {p : List MemPlace} (hv : Value.okWide Tryz.prog W r b0 28 v) (h : DataW.Trod enc Tryz.prog W 0 (fun _ => true) true 28 v d p) (hz : (d.weights Tryz.prog 28).all (· ≤ reachBytes) = true) :
    ∃ (v0 v1 v2 : Value) (ps : List Int) (ls : List Lk) (L : List Ru), v = .agg #[v0, v1, v2] ∧ IsN W v0 v1 v2 ps ls L ∧ NW ps ls L := by
  obtain ⟨cs, rfl, hsz⟩ := okWide_struct Tryz.underlying28 hv
  rw [cellsNet] at hsz
  obtain ⟨c0, c1, c2, rfl⟩ := array3 hsz
  obtain ⟨fuel, hf⟩ := h
  obtain ⟨y0, y1, n, hd, _, h6, h7⟩ := trod_struct2 Tryz.underlying28 hf
  simp only [Value.cells, cellsTopo, cellsRules, List.drop_zero, List.take_succ_cons, List.take_zero, List.drop_succ_cons] at h6 h7
  obtain ⟨z0, z1, n2, _, _, h8, h9⟩ := trod_struct2 Tryz.underlying25 h6
  simp only [cellsInts, cellsLinks, List.drop_zero, List.take_succ_cons, List.take_zero, List.drop_succ_cons] at h8 h9
  obtain ⟨ps, hP, qP⟩ := open_vec intA_size (by decide) Tryz.underlying22 cells3 (fun m cs y hy hl => trod_num hy hl) h8
  obtain ⟨ls, hM, qM⟩ := open_vec lkA_size (by decide) Tryz.underlying23 cellsLink (fun m cs y hy hl => trod_link hy hl) h9
  obtain ⟨A, k, c, e, _⟩ := slice_elems1 Tryz.underlying26 cellsRule h7
  subst e
  obtain ⟨L, hL, qL⟩ := open_rules (enc := enc) (W := W) (v := .slice A k c) (d := y1.1) (p := y1.2) ⟨n, h7⟩ ⟨_, _, _, rfl⟩
  have hk : L.length = k := by obtain ⟨_, _, e', _⟩ := hL; injection e' with _ h _; exact h.symm
  have hroom : L.length ≤ 4000000000000 := by
    obtain ⟨rfl, _⟩ := Prod.mk.inj hd
    rw [hk]
    rcases Deep.open_slice Tryz.underlying26 h7 with ⟨hcs, _⟩ | ⟨a, len, cap, m, _, D, Pl, hcs, _, _, _, _, hx, _⟩
    · simp only [List.cons.injEq, and_true] at hcs
      injection hcs with _ h _
      omega
    · simp only [List.cons.injEq, and_true] at hcs
      injection hcs with _ h _
      subst hx
      simp only [DataW.weights, Tryz.underlying28, Tryz.underlying26, DataW.weightsEach, List.all_append, List.all_cons, List.map_cons, List.length_map, List.length_range, Bool.and_eq_true, bytesRule, reachBytes] at hz
      have hh := of_decide_eq_true hz.2.1.1
      omega
  exact ⟨c0, c1, _, ps, ls, L, rfl, ⟨⟨hP, hM⟩, hL⟩, ⟨⟨qP, qM⟩, qL, hroom⟩⟩
end
end Go.Proofs.YtlhfaildeemngaaGreat
/- Arguments: acts (stage 10). -/
namespace Go.Proofs.YtlhfaildeemngaaGreat
open Go.RowKit Go.Shelf Go.ChangeShapes Go.WideShapes Go.ChangeAt
open Go.ChangeMaps (open_string)

theorem cellsAct : Tryz.prog.cellsOf 43 = 8 := by kernel_rfl
theorem cellsB : Tryz.prog.cellsOf 4 = 1 := by kernel_rfl
instance : Inhabited Ru := ⟨ru0⟩
section
variable {H : Type} {enc : TypeId × Value → H} {W : World}
set_option maxRecDepth 100000 in
/-- An act, by its cells. -/
theorem trod_act {m : Nat} {cs : List Value} {y : DataW H × List MemPlace} (h : DataW.trod enc Tryz.prog W 0 (fun _ => true) true m 43 cs = some y) (hl : cs.length = 8) : ∃ x : Bool × Ru, x.2.wf ∧ cs = (actA x).toList := by
  match cs, hl with
  | [c0, c1, c2, c3, c4, c5, c6, c7], _ =>
    obtain ⟨y2, y3, m2, _, _, h6, h7⟩ := trod_struct2 Tryz.underlying43 h
    simp only [cellsB, cellsRule, List.drop_zero, List.take_succ_cons, List.take_zero, List.drop_succ_cons] at h6 h7
    obtain ⟨b, q0, _⟩ := DataW.trod_bool Tryz.underlying4 h6
    obtain ⟨r, hw, e⟩ := trod_rule h7
    injection q0 with q0
    subst q0
    refine ⟨(b, r), hw, ?_⟩
    rw [e]
    rfl
set_option maxRecDepth 100000 in
/-- An argument that is a slice of acts. -/
theorem open_acts {r : Reach} {b0 : Nat} {v : Value} {d : DataW H} {p : List MemPlace} (hv : Value.okWide Tryz.prog W r b0 29 v) (h : DataW.Trod enc Tryz.prog W 0 (fun _ => true) true 29 v d p) : ∃ S : List (Bool × Ru), IsF 8 actA W v S ∧ ∀ x ∈ S, x.2.wf := by
  obtain ⟨a, n, c, rfl⟩ := okWide_slice Tryz.underlying29 hv
  obtain ⟨fuel, hf⟩ := h
  have hf' : DataW.trod enc Tryz.prog W 0 (fun _ => true) true fuel 29 [.slice a n c] = some (d, p) := by simpa [Value.cells] using hf
  exact open_vec actA_size (by decide) Tryz.underlying29 cellsAct (fun m cs y hy hl => trod_act hy hl) hf'
end
end Go.Proofs.YtlhfaildeemngaaGreat
/- From a law's walk to the row: the arguments read as before where nothing below the first world's heap has turned. Over any program. -/
namespace Go.Proofs.YtlhfaildeemngaaGreat
open Go.ChangeShapes Go.WideShapes Go.ChangeAt Go.RowKit

section
variable {H : Type} {enc : TypeId × Value → H} {P : Program}
theorem trodAll_below (hl : laidOutB P = true) {W W' : World} (bel : Below W.heap.size W W') : ∀ (ts : List TypeId) (vs : List Value) (ds : List (DataW H)) (ps : List MemPlace),
    (ts.all fun t => P.readableRec t && decide (t < P.types.size)) = true → DataW.TrodAll enc P W 0 (fun _ => true) true ts vs ds ps → DataW.TrodAll enc P W' 0 (fun b => decide (b < W.heap.size)) true ts vs ds ps := by
  intro ts
  induction ts with
  | nil =>
    intro vs ds ps _ h
    obtain ⟨rfl, rfl, rfl⟩ := trodAll_nil h
    exact trodAll_mk0
  | cons t ts ih =>
    intro vs ds ps hts h
    obtain ⟨v, vs', d, ds', p, q, rfl, rfl, rfl, h1, h2⟩ := trodAll_cons h
    simp only [List.all_cons, Bool.and_eq_true, decide_eq_true_eq] at hts
    have lt : ∀ x ∈ p, x.block < W.heap.size := by obtain ⟨m, hm⟩ := h1; exact DataW.trod_lt m _ _ _ hm
    exact trodAll_cons_mk (Below.trod hl hts.1.1 hts.1.2 h1 bel lt) (ih _ _ _ hts.2 h2)

theorem post_law {f : Func} {s : ChangeSpec} {tb : TypeId} (hl : laidOutB P = true) (hts : (f.params.toList.all fun t => P.readableRec t && decide (t < P.types.size)) = true)
    (hres : f.resultTypes = #[tb]) (htb : P.underlying tb = some .bool) (hvars : s.vars = []) {W W' : World} {args : Array Value} {ds gs : List (DataW H)} {before : List MemPlace}
    (hW : DataW.Whole enc P f.params.toList s.vars false W args.toList ds gs before) (hspec : s.fn H (ds ++ gs) = { results := [.lit (.bool true)], args := ds }) (bel : Below W.heap.size W W') :
    s.post enc P f false true false false W args (.bool true) W' := by
  have hW' := hW
  obtain ⟨p, q, hA, hV, _, _, _⟩ := hW
  refine ⟨ds, gs, before, [], p, [], hW', ?_, ?_, ?_, bel.frame _, fun h => by cases h⟩
  · rw [hspec, hres]
    exact trodAll_mk1 (shut_bool htb true)
  · rw [hspec]
    exact trodAll_below hl bel _ _ _ _ hts hA
  · rw [hspec, hvars]
    rfl
end
end Go.Proofs.YtlhfaildeemngaaGreat
