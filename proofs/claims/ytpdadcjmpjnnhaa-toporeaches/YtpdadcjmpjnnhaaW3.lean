/- TopoReaches, walked over the program's calls. -/
import Derived.Test.YtpdadcjmpjnnhaaW1
namespace Go.Proofs.Ytpdadcjmpjnnhaa
open Go.RowKit Go.Shelf

set_option maxRecDepth 100000 in
set_option maxHeartbeats 4000000 in
theorem reaches_walk (O : Own) {vp vl vr : Value} (ps : List Int) (ls : List Lk) (a b : Int) (L : List Ru) (w : World) (h : IsT w vp vl ps ls) (hr : IsR w vr L) (hwf : ∀ r ∈ L, r.wf) (hw : TW ps ls) (ha : isI a) (hb : isI b) : Calls Try.prog 4 #[.agg #[vp, vl], .agg #[.int .i64 a, .int .i64 b], vr] w fun e w' => e = .returned (.bool true) ∧ Below w.heap.size w w' := by
  have HT : Hid (∀ u, Below w.heap.size w u → IsT u vp vl ps ls) := Lib.hid fun u hu => h.belows hu
  have HR : Hid (∀ u, Below w.heap.size w u → IsR u vr L) := Lib.hid fun u hu => hr.belows hu
  obtain ⟨⟨A1, c1, rfl, _⟩, ⟨A2, c2, rfl, _⟩⟩ := h
  obtain ⟨A3, c3, rfl, _⟩ := hr
  have kL : ∀ u, Below w.heap.size w u → Calls Try.prog 7 #[.agg #[.slice A1 ps.length c1, .slice A2 ls.length c2]] u fun e w' => e = .returned (.bool (decide (ps.length ≤ 30) && decide (ls.length ≤ 30))) ∧ Below u.heap.size u w' := fun u hu => lfits_any ps ls u (HT.out u hu)
  have kR' : ∀ u, Below w.heap.size w u → Calls Try.prog 9 #[.agg #[.slice A1 ps.length c1, .slice A2 ls.length c2]] u fun e w' => e = .returned (.bool (rightT ps ls)) ∧ Below u.heap.size u w' := fun u hu => rrightT_any ps ls u (HT.out u hu)
  have kQ : ∀ u, Below w.heap.size w u → Calls Try.prog 20 #[.slice A3 L.length c3] u fun e w' => e = .returned (.bool (allB L)) ∧ Below u.heap.size u w' := fun u hu => rruall_any L u hwf (HR.out u hu)
  have kA := alive_any O
  have kA' := fun u (x : Sub u) => kA x.u
  generalize (decide (ps.length ≤ 30) && decide (ls.length ≤ 30)) = f1 at kL
  obtain ⟨f2, hf2⟩ : ∃ f2, f2 = allB L := ⟨_, rfl⟩
  rw [← hf2] at kQ
  have HQ := Lib.hid hf2
  have HWF := Lib.hid hwf
  have HW := Lib.hid hw
  have HA := Lib.hid ha
  have HB := Lib.hid hb
  obtain ⟨V, hV⟩ : ∃ V, V = rightT ps ls := ⟨_, rfl⟩
  rw [← hV] at kR'
  have HV := Lib.hid hV
  have O' := Lib.hid O
  clear O hV hwf hf2 hw ha hb
  have D0 := (At.new w #[.slice A1 ps.length c1, .slice A2 ls.length c2] 25).alloc (.cells #[.int .i64 a, .int .i64 b] 38)
  have D1 := At.new1 w (.cells #[.slice A1 ps.length c1, .slice A2 ls.length c2] 25) #[.int .i64 a, .int .i64 b] 38
  have b0 : Below w.heap.size w ((w.alloc (.cells #[.slice A1 ps.length c1, .slice A2 ls.length c2] 25)).alloc (.cells #[.int .i64 a, .int .i64 b] 38)) := ((Below.refl _ _).alloc (Nat.le_refl _) _).alloc (by simp) _
  go_enter Try.func4, Try.ntmps4
  obtain ⟨w0, hw0⟩ : ∃ w0, w0 = ((w.alloc (.cells #[.slice A1 ps.length c1, .slice A2 ls.length c2] 25)).alloc (.cells #[.int .i64 a, .int .i64 b] 38)) := ⟨_, rfl⟩
  rw [← hw0] at D0 D1 b0
  have x0 := (D0.cell 0).trans rfl; have x1 := (D0.cell 1).trans rfl
  go_upto_region 1 with (fail)
  rw [← hw0]
  clear hw0
  go_wp2_with fail
  refine (kL _ b0).mono ?_
  rintro e w1 ⟨rfl, b1⟩
  have bb1 := b0.trans (b1.mono b0.size)
  have E0 := D0.belows b1
  have E1 := D1.belows b1
  clear x0 x1 D0 D1 b1 b0 kL
  cases f1 with
  | false =>
    go_wp2_with fail
    refine (kQ _ bb1).mono ?_
    rintro e w2 ⟨rfl, b2⟩
    have bb2 := bb1.trans (b2.mono bb1.size)
    go_wp2_with fail
    refine (kA _).mono ?_
    rintro e w3 ⟨rfl, b3⟩
    go_wp2
    go_ret
    exact ⟨rfl, bb2.trans (b3.mono bb2.size)⟩
  | true =>
    have x0 := (E0.cell 0).trans rfl; have x1 := (E0.cell 1).trans rfl
    go_wp2_with fail
    refine (kR' _ bb1).mono ?_
    rintro e w2 ⟨rfl, b2⟩
    have bb2 := bb1.trans (b2.mono bb1.size)
    have F0 := E0.belows b2
    have F1 := E1.belows b2
    clear x0 x1 E0 E1 b2 bb1 kR'
    go_wp2_with fail
    refine (kQ _ bb2).mono ?_
    rintro e w3 ⟨rfl, b3⟩
    have bb3 := bb2.trans (b3.mono bb2.size)
    have G0 := F0.belows b3
    have G1 := F1.belows b3
    clear F0 F1 b3 bb2 kQ
    by_cases hf : V = true ∧ f2 = true
    case neg =>
      have hn : (V = false) ∨ (V = true ∧ f2 = false) := by cases V <;> cases f2 <;> simp_all
      clear HV HQ hf
      rcases hn with rfl | ⟨rfl, rfl⟩
      all_goals
        go_wp2_with fail
        refine (kA _).mono ?_
        rintro e w4 ⟨rfl, b4⟩
        go_wp2
        go_ret
        exact ⟨rfl, bb3.trans (b4.mono bb3.size)⟩
    obtain ⟨hVt, hft⟩ := hf
    have hall : allB L = true := HQ.out.symm.trans hft
    clear HQ
    subst hft
    have hR : RT ps ls := (rightT_iff _ _).1 (HV.out.symm.trans hVt)
    clear HV
    subst hVt
    have s0 : ∀ x : Sub w3, x.u.cell? ⟨w.heap.size, 0, none⟩ = some (.slice A1 ps.length c1) := fun x => ((G0.belows x.h).cell 0).trans rfl
    have s1 : ∀ x : Sub w3, x.u.cell? ⟨w.heap.size, 1, none⟩ = some (.slice A2 ls.length c2) := fun x => ((G0.belows x.h).cell 1).trans rfl
    have s2 : ∀ x : Sub w3, x.u.cell? ⟨w.heap.size + 1, 0, none⟩ = some (.int .i64 a) := fun x => ((G1.belows x.h).cell 0).trans rfl
    have s3 : ∀ x : Sub w3, x.u.cell? ⟨w.heap.size + 1, 1, none⟩ = some (.int .i64 b) := fun x => ((G1.belows x.h).cell 1).trans rfl
    have k0 := fun x : Sub w3 => kA x.u
    have k1 := fun x : Sub w3 => O'.out.reaches ps ls a b x.u hR HW.out HA.out HB.out (HT.out _ (bb3.trans (x.h.mono bb3.size)))
    have k2 := fun x : Sub w3 => rreaches_any ps ls a b x.u hR (HT.out _ (bb3.trans (x.h.mono bb3.size)))
    have k3 := fun x : Sub w3 => O'.out.fits ps ls L x.u hR HW.out HWF.out hall (HT.out _ (bb3.trans (x.h.mono bb3.size))) (HR.out _ (bb3.trans (x.h.mono bb3.size)))
    have k4 := fun x : Sub w3 => rfits_any ps ls L x.u (HT.out _ (bb3.trans (x.h.mono bb3.size))) (HR.out _ (bb3.trans (x.h.mono bb3.size)))
    generalize reachT ps ls a b = q1 at k1 k2
    generalize fitsT ps L = q2 at k3 k4
    have n1 : (q1 == q1) = true := by simp
    have n2 : (q2 == q2) = true := by simp
    clear kA kA' HT HR O' hR hall HWF HW HA HB G0 G1
    go_upto_region 6 with (fail)
    refine wp_region_cls (by kernel_rfl) (by kernel_rfl) ?_
    repeat (go_big_quiet_step ((first | (go_at_call 8; exact Calls.cls_of (k0 _)) | (go_at_call 21; exact Calls.cls_of (k1 _)) | (go_at_call 22; exact Calls.cls_of (k2 _)) | (go_at_call 23; exact Calls.cls_of (k3 _)) | (go_at_call 24; exact Calls.cls_of (k4 _)))))
    refine wpQuiet_nil ?_
    rintro w4 ⟨x4, hx⟩
    have b4 := x4.h
    rw [← hx] at b4
    clear hx x4 s0 s1 s2 s3 k0 k1 k2 k3 k4 n1 n2
    go_wp2
    go_ret
    exact ⟨rfl, bb3.trans (b4.mono bb3.size)⟩
end Go.Proofs.Ytpdadcjmpjnnhaa
