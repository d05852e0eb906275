/- Contracts: the document's Fits, SamePorts, Same; fits of the laws. -/
import Derived.Test.YtmndgbpfophniaaT2
import Derived.Test.YtmndgbpfophniaaR6
namespace Go.Proofs.Ytmndgbpfophniaa
open Go.RowKit Go.Shelf

/-- Do rules fit, as the document asks? -/
def fitsT (ps : List Int) (L : List Ru) : Bool := L.all fun r => hasT ps ⟨r.dv, r.pt⟩
set_option maxRecDepth 100000 in
set_option maxHeartbeats 2000000 in
/-- The document's Fits. -/
theorem rfits_any {vp vl vr : Value} (ps : List Int) (ls : List Lk) (L : List Ru) (w : World) (h : IsT w vp vl ps ls) (hr : IsR w vr L) : Calls Try.prog 23 #[.agg #[vp, vl], vr] w fun e w' => e = .returned (.bool (fitsT ps L)) ∧ Below w.heap.size w w' := by
  have HT : Hid (∀ u, Below w.heap.size w u → IsT u vp vl ps ls) := Lib.hid fun u hu => h.belows hu
  obtain ⟨⟨A1, c1, rfl, n1, m1, _⟩, ⟨A2, c2, rfl, n2, m2, _⟩⟩ := h
  obtain ⟨A3, c3, rfl, n3, m3, z3⟩ := hr
  have hL : L.length ≤ 9223372036854775807 := Nat.le_trans n3 m3
  have HZ : Hid (∀ u, Below w.heap.size w u → Rs u A3 L) := Lib.hid fun u hu => z3.belows hu
  have D0 := At.new w #[.slice A1 ps.length c1, .slice A2 ls.length c2] 25
  have b0 : Below w.heap.size w (w.alloc (.cells #[.slice A1 ps.length c1, .slice A2 ls.length c2] 25)) := (Below.refl _ w).alloc (Nat.le_refl _) _
  obtain ⟨V, hV⟩ : ∃ V, V = fitsT ps L := ⟨_, rfl⟩
  rw [← hV]
  have HV := Lib.hid hV
  clear hV z3
  go_enter Try.func23, Try.ntmps23
  obtain ⟨w0, hw0⟩ : ∃ w0, w0 = w.alloc (.cells #[.slice A1 ps.length c1, .slice A2 ls.length c2] 25) := ⟨_, rfl⟩
  go_wp2
  rw [← hw0] at D0 b0 ⊢
  clear hw0
  go_loopw [5] (fun i wr => ∃ k : Nat, i = .int .i64 k ∧ k ≤ L.length ∧ Hid (∀ j (hj : j < L.length), j < k → hasT ps ⟨L[j].dv, L[j].pt⟩ = true) ∧ Below w0.heap.size w0 wr) (fun i _ => L.length - (intOf i).toNat)
  case atStart => exact ⟨0, rfl, by omega, Lib.hid (fun j _ hj => by omega), Below.refl _ _⟩
  case round =>
    obtain ⟨k, rfl, hk, HK, hb⟩ := hrel
    by_cases hlt : k < L.length
    · have hbw := b0.trans (hb.mono b0.size)
      obtain ⟨g1, o1, e1, hg, r0, r1, r2, r3, r4, r5, r6⟩ := (HZ.out wr hbw).at k hlt
      subst e1
      have Dr := D0.belows hb
      have kc : ∀ x : Sub wr, Calls Try.prog 36 #[.agg #[.slice A1 ps.length c1, .slice A2 ls.length c2], .agg #[.int .i64 L[k].dv, .int .i64 L[k].pt]] x.u fun e w' => e = .returned (.bool (hasT ps ⟨L[k].dv, L[k].pt⟩)) ∧ Below x.u.heap.size x.u w' := fun x => rhas_any ps ls ⟨L[k].dv, L[k].pt⟩ x.u (HT.out _ (hbw.trans (x.h.mono hbw.size)))
      have HX : Hid (hasT ps ⟨L[k].dv, L[k].pt⟩ = true → ∀ j (h1 : j < L.length), j < k + 1 → hasT ps ⟨L[j].dv, L[j].pt⟩ = true) := Lib.hid fun e j h1 hj => by
        by_cases hjk : j = k
        · subst hjk; exact e
        · exact HK.out j h1 (by omega)
      have HY : Hid (hasT ps ⟨L[k].dv, L[k].pt⟩ = false → V = false) := Lib.hid fun e => by
        rw [HV.out, fitsT, List.all_eq_false]
        exact ⟨L[k], List.getElem_mem hlt, by rw [e]; simp⟩
      generalize L[k] = r at r0 r1 r2 r3 r4 r5 r6 kc HX HY
      obtain ⟨id, dv, pr, kd, f, t, pt⟩ := r
      dsimp only at r0 r1 r2 r3 r4 r5 r6 kc HX HY
      have s1 : ∀ x : Sub wr, x.u.cell? ⟨g1, o1 + k * 7 + 1, none⟩ = some (.int .i64 dv) := fun x => (x.h.cell (p := ⟨g1, _, none⟩) hg).trans r1
      have s6 : ∀ x : Sub wr, x.u.cell? ⟨g1, o1 + k * 7 + 6, none⟩ = some (.int .i64 pt) := fun x => (x.h.cell (p := ⟨g1, _, none⟩) hg).trans r6
      have x0 : ∀ x : Sub wr, x.u.cell? ⟨w.heap.size, 0, none⟩ = some (.slice A1 ps.length c1) := fun x => ((Dr.belows x.h).cell 0).trans rfl
      have x1 : ∀ x : Sub wr, x.u.cell? ⟨w.heap.size, 1, none⟩ = some (.slice A2 ls.length c2) := fun x => ((Dr.belows x.h).cell 1).trans rfl
      have i0 : (0 : Int) ≤ (k : Int) := by omega
      have i1 : (k : Int) < (L.length : Int) := by omega
      generalize hasT ps ⟨dv, pt⟩ = q at kc HX HY
      clear r0 r1 r2 r3 r4 r5 r6 HK
      go_upto_region 4 with (fail)
      refine wp_region_cls (by kernel_rfl) (by kernel_rfl) ?_
      repeat (go_big_quiet_step ((go_at_call 36; exact Calls.cls_of (kc _))))
      refine wpQuiet_nil ?_
      rintro w7 ⟨x7, hx⟩
      have b7 := x7.h
      rw [← hx] at b7
      clear hx x7 s1 s6 x0 x1 kc
      cases q with
      | true =>
        have HN := Lib.hid (HX.out rfl)
        clear HX HY
        go_wp2
        go_roundw
        case rel => exact ⟨k + 1, by go_num, by omega, HN, hb.trans (b7.mono hb.size)⟩
        case measure => simp [intOf]; omega
      | false =>
        have HN := Lib.hid (HY.out rfl)
        clear HX HY
        go_wp2
        go_ret
        exact ⟨by rw [HN.out]; rfl, hbw.trans (b7.mono hbw.size)⟩
    · have HN : Hid (V = true) := Lib.hid (by
        rw [HV.out, fitsT, List.all_eq_true]
        intro r hr
        obtain ⟨j, hj, rfl⟩ := List.getElem_of_mem hr
        exact HK.out j hj (by omega))
      have hki : ¬ (k : Int) < (L.length : Int) := by omega
      clear HK
      go_wp2
      go_ret
      exact ⟨by rw [HN.out]; rfl, b0.trans (hb.mono b0.size)⟩
end Go.Proofs.Ytmndgbpfophniaa
