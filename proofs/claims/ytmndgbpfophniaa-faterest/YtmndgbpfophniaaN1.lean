/- Contracts: the program's below, hasDevice, Has. -/
import Derived.Test.YtmndgbpfophniaaW0
namespace Go.Proofs.Ytmndgbpfophniaa
open Go.RowKit Go.Shelf

/-- Is there such a device? -/
def devT (ps : List Int) (d : Int) : Bool := decide (0 ≤ d) && decide (d < (ps.length : Int))
set_option maxRecDepth 100000 in
set_option maxHeartbeats 1000000 in
theorem below_any (n m : Int) (w : World) : Calls Try.prog 51 #[.int .i64 n, .int .i64 m] w fun e w' => e = .returned (.bool (decide (0 ≤ n) && decide (n < m))) ∧ w' = w := by
  by_cases h1 : 0 ≤ n
  · have e1 : decide (0 ≤ n) = true := decide_eq_true h1
    rw [e1]
    go_enter Try.func51, Try.ntmps51
    go_wp2
    go_ret
    exact ⟨by simp, rfl⟩
  · have e1 : decide (0 ≤ n) = false := decide_eq_false h1
    rw [e1]
    go_enter Try.func51, Try.ntmps51
    go_wp2
    go_ret
    exact ⟨by simp, rfl⟩
set_option maxRecDepth 100000 in
set_option maxHeartbeats 1000000 in
theorem hasDevice_any {vp vl : Value} (ps : List Int) (ls : List Lk) (d : Int) (w : World) (h : IsT w vp vl ps ls) : Calls Try.prog 44 #[.agg #[vp, vl], .int .i64 d] w fun e w' => e = .returned (.bool (devT ps d)) ∧ Below w.heap.size w w' := by
  obtain ⟨⟨A1, c1, rfl, n1, m1, _⟩, ⟨A2, c2, rfl, n2, m2, _⟩⟩ := h
  have hL : ps.length ≤ 9223372036854775807 := Nat.le_trans n1 m1
  have b0 : Below w.heap.size w (w.alloc (.cells #[.slice A1 ps.length c1, .slice A2 ls.length c2] 25)) := (Below.refl _ w).alloc (Nat.le_refl _) _
  go_enter Try.func44, Try.ntmps44
  go_wp2_with fail
  refine (below_any _ _ _).mono ?_
  rintro e w1 ⟨rfl, rfl⟩
  go_wp2
  go_ret
  exact ⟨rfl, b0⟩
set_option maxRecDepth 100000 in
set_option maxHeartbeats 1000000 in
/-- Has, of any topology. -/
theorem has_any {vp vl : Value} (ps : List Int) (ls : List Lk) (p : Pt) (w : World) (h : IsT w vp vl ps ls) : Calls Try.prog 38 #[.agg #[vp, vl], .agg (ptA p)] w fun e w' => e = .returned (.bool (hasT ps p)) ∧ Below w.heap.size w w' := by
  have HT : Hid (∀ u, Below w.heap.size w u → IsT u vp vl ps ls) := Lib.hid fun u hu => h.belows hu
  obtain ⟨⟨A1, c1, rfl, n1, m1, z1⟩, ⟨A2, c2, rfl, n2, m2, _⟩⟩ := h
  have hL : ps.length ≤ 9223372036854775807 := Nat.le_trans n1 m1
  obtain ⟨d, q⟩ := p
  have D0 := (At.new w #[.slice A1 ps.length c1, .slice A2 ls.length c2] 25).alloc (.cells #[.int .i64 d, .int .i64 q] 34)
  have P0 := At.new1 w (.cells #[.slice A1 ps.length c1, .slice A2 ls.length c2] 25) #[.int .i64 d, .int .i64 q] 34
  have b0 : Below w.heap.size w ((w.alloc (.cells #[.slice A1 ps.length c1, .slice A2 ls.length c2] 25)).alloc (.cells #[.int .i64 d, .int .i64 q] 34)) := ((Below.refl _ w).alloc (Nat.le_refl _) _).alloc (by simp) _
  have H1 := Lib.hid (z1.belows b0)
  clear z1
  obtain ⟨w0, hw0⟩ : ∃ w0, w0 = ((w.alloc (.cells #[.slice A1 ps.length c1, .slice A2 ls.length c2] 25)).alloc (.cells #[.int .i64 d, .int .i64 q] 34)) := ⟨_, rfl⟩
  unfold ptA
  dsimp only
  obtain ⟨V, hV⟩ : ∃ V, V = hasT ps ⟨d, q⟩ := ⟨_, rfl⟩
  rw [← hV]
  have HV := Lib.hid hV
  clear hV
  go_enter Try.func38, Try.ntmps38
  go_upto_region 1 with (fail)
  rw [← hw0] at D0 P0 b0 H1 ⊢
  clear hw0
  have s0 : ∀ x : Sub w0, x.u.cell? ⟨w.heap.size, 0, none⟩ = some (.slice A1 ps.length c1) := fun x => ((D0.belows x.h).cell 0).trans rfl
  have s1 : ∀ x : Sub w0, x.u.cell? ⟨w.heap.size, 1, none⟩ = some (.slice A2 ls.length c2) := fun x => ((D0.belows x.h).cell 1).trans rfl
  have t0 : ∀ x : Sub w0, x.u.cell? ⟨w.heap.size + 1, 0, none⟩ = some (.int .i64 d) := fun x => ((P0.belows x.h).cell 0).trans rfl
  have t1 : ∀ x : Sub w0, x.u.cell? ⟨w.heap.size + 1, 1, none⟩ = some (.int .i64 q) := fun x => ((P0.belows x.h).cell 1).trans rfl
  have kc : ∀ x : Sub w0, Calls Try.prog 44 #[.agg #[.slice A1 ps.length c1, .slice A2 ls.length c2], .int .i64 d] x.u fun e w' => e = .returned (.bool (devT ps d)) ∧ Below x.u.heap.size x.u w' := fun x => hasDevice_any ps ls d x.u (HT.out _ (b0.trans (x.h.mono b0.size)))
  by_cases h1 : 0 ≤ d ∧ d < (ps.length : Int)
  · obtain ⟨h1, h2⟩ := h1
    have e1 : devT ps d = true := by simp [devT, h1, h2]
    obtain ⟨k, rfl⟩ := Int.eq_ofNat_of_zero_le h1
    have hk : k < ps.length := by omega
    obtain ⟨g, o, rfl, hg, hc⟩ := H1.out.at k hk
    have c0 : ∀ x : Sub w0, x.u.cell? ⟨g, o + k, none⟩ = some (.int .i64 ps[k]) := fun x => (x.h.cell (p := ⟨g, _, none⟩) hg).trans (by have := hc 0 (by decide); simpa [intA] using this)
    have eg : hasT ps ⟨(k : Int), q⟩ = (decide (0 ≤ q) && decide (q < ps[k])) := by simp [hasT, hk]
    have HE := Lib.hid (HV.out.trans eg)
    rw [e1] at kc
    clear HV eg e1 hc D0 P0
    generalize ps[k] = y at c0 HE
    have kb : ∀ x : Sub w0, Calls Try.prog 51 #[.int .i64 q, .int .i64 y] x.u fun e w' => e = .returned (.bool (decide (0 ≤ q) && decide (q < y))) ∧ Below x.u.heap.size x.u w' := fun x => (below_any q y x.u).mono fun e w' h => ⟨h.1, by rw [h.2]; exact Below.refl _ _⟩
    generalize (decide (0 ≤ q) && decide (q < y)) = r at kb HE
    refine wp_region_cls (by kernel_rfl) (by kernel_rfl) ?_
    repeat (go_big_quiet_step (first | (go_at_call 44; exact Calls.cls_of (kc _)) | (go_at_call 51; exact Calls.cls_of (kb _))))
    refine wpQuiet_nil ?_
    rintro w7 ⟨x7, hx⟩
    have b7 := x7.h
    rw [← hx] at b7
    clear hx x7 s0 s1 t0 t1 kc kb c0
    go_wp2
    go_ret
    exact ⟨by rw [HE.out]; rfl, b0.trans (b7.mono b0.size)⟩
  · have e1 : devT ps d = false := by
      cases h : devT ps d with
      | false => rfl
      | true => simp [devT] at h; exact absurd h h1
    have e2 : hasT ps ⟨d, q⟩ = false := by
      cases h : hasT ps ⟨d, q⟩ with
      | false => rfl
      | true => simp [hasT] at h; exact absurd ⟨h.1, h.2.1⟩ h1
    have HE := Lib.hid (HV.out.trans e2)
    rw [e1] at kc
    clear HV e1 e2 h1 D0 P0
    refine wp_region_cls (by kernel_rfl) (by kernel_rfl) ?_
    repeat (go_big_quiet_step (first | (go_at_call 44; exact Calls.cls_of (kc _))))
    refine wpQuiet_nil ?_
    rintro w7 ⟨x7, hx⟩
    have b7 := x7.h
    rw [← hx] at b7
    clear hx x7 s0 s1 t0 t1 kc
    go_wp2
    go_ret
    exact ⟨by rw [HE.out]; rfl, b0.trans (b7.mono b0.size)⟩
end Go.Proofs.Ytmndgbpfophniaa
