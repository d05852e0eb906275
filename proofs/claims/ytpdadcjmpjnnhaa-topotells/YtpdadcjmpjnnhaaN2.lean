/- Contracts: slices.Equal of numbers, of links; the program's Same. -/
import Derived.Test.YtpdadcjmpjnnhaaW1
namespace Go.Proofs.Ytpdadcjmpjnnhaa
open Go.RowKit Go.Shelf

set_option maxRecDepth 100000 in
set_option maxHeartbeats 1000000 in
/-- slices.Equal of numbers. -/
theorem eqInts_any {v1 v2 : Value} (L M : List Int) (w : World) (h1 : IsF 1 intA w v1 L) (h2 : IsF 1 intA w v2 M) : Calls Try.prog 27 #[v1, v2] w fun e w' => e = .returned (.bool (decide (L = M))) ∧ Below w.heap.size w w' := by
  obtain ⟨A1, c1, rfl, n1, m1, z1⟩ := h1
  obtain ⟨A2, c2, rfl, n2, m2, z2⟩ := h2
  have hL : L.length ≤ 9223372036854775807 := Nat.le_trans n1 m1
  have hM : M.length ≤ 9223372036854775807 := Nat.le_trans n2 m2
  have H1 := Lib.hid z1
  have H2 := Lib.hid z2
  obtain ⟨q, hq⟩ : ∃ q, q = decide (L = M) := ⟨_, rfl⟩
  rw [← hq]
  have HQ := Lib.hid hq
  clear z1 z2 hq
  by_cases hlen : L.length = M.length
  · have hln : ((L.length : Int) == (M.length : Int)) = true := by simp [hlen]
    have hlm : decide ((L.length : Int) = (M.length : Int)) = true := by simp [hlen]
    have HE := Lib.hid hlen
    clear hlen
    go_enter Try.func27, Try.ntmps27
    go_wp2
    go_loopw [13] (fun i wr => ∃ k : Nat, i = .int .i64 k ∧ k ≤ L.length ∧ Hid (∀ j (h1 : j < L.length) (h2 : j < M.length), j < k → L[j] = M[j]) ∧ ∃ q, wr = w.drewN q) (fun i _ => L.length - (intOf i).toNat)
    case atStart => exact ⟨0, rfl, by omega, Lib.hid (fun j _ _ hj => by omega), 0, rfl⟩
    case round =>
      obtain ⟨k, rfl, hk, HK, nd, rfl⟩ := hrel
      by_cases hlt : k < L.length
      · have hlt2 : k < M.length := by have := HE.out; omega
        obtain ⟨g1, o1, e1, _, r⟩ := H1.out.at k hlt
        obtain ⟨g2, o2, e2, _, s⟩ := H2.out.at k hlt2
        subst e1 e2
        have r0 : w.cell? ⟨g1, o1 + k, none⟩ = some (.int .i64 L[k]) := by have := r 0 (by decide); simpa [intA] using this
        have s0 : w.cell? ⟨g2, o2 + k, none⟩ = some (.int .i64 M[k]) := by have := s 0 (by decide); simpa [intA] using this
        have HX : Hid (L[k] = M[k] → ∀ j (h1 : j < L.length) (h2 : j < M.length), j < k + 1 → L[j] = M[j]) := Lib.hid fun e j h1 h2 hj => by
          by_cases hjk : j = k
          · subst hjk; exact e
          · exact HK.out j h1 h2 (by omega)
        have HY : Hid (L[k] ≠ M[k] → q = false) := Lib.hid fun e => by
          rw [HQ.out]; apply decide_eq_false; intro h; subst h; exact e rfl
        clear r s
        generalize L[k] = x at r0 HX HY
        generalize M[k] = y at s0 HX HY
        have i0 : (0 : Int) ≤ (k : Int) := by omega
        have i1 : (k : Int) < (L.length : Int) := by omega
        have i2 : (k : Int) < (M.length : Int) := by omega
        clear hlt2
        by_cases hxy : x = y
        · have HZ := Lib.hid (HX.out hxy)
          clear HX HY
          subst hxy
          have s0' := s0
          clear s0
          go_wp2_with fail
          go_quiet (fail)
          go_wp2
          go_roundw
          case rel => exact ⟨k + 1, by go_num, by omega, HZ, nd + nq, rfl⟩
          case measure => simp [intOf]; omega
        · have hqf := HY.out hxy
          have hb1 : (x == y) = false := by simp [hxy]
          have hb2 : decide (x = y) = false := by simp [hxy]
          clear HX HY hxy
          subst hqf
          go_wp2_with fail
          go_quiet (fail)
          go_wp2
          go_ret
          exact ⟨rfl, bdrewN (bdrewN (Below.refl _ _) _) _⟩
      · have hqt : q = true := by
          rw [HQ.out]; apply decide_eq_true
          exact List.ext_getElem HE.out fun j h1 h2 => HK.out j h1 h2 (by omega)
        have hki : ¬ (k : Int) < (L.length : Int) := by omega
        subst hqt
        go_wp2
        go_ret
        exact ⟨rfl, bdrewN (Below.refl _ _) _⟩
  · have hln : ((L.length : Int) == (M.length : Int)) = false := by simp; omega
    have hlm : decide ((L.length : Int) = (M.length : Int)) = false := by simp; omega
    have hqf : q = false := by rw [HQ.out]; apply decide_eq_false; intro h; subst h; exact hlen rfl
    subst hqf
    clear HQ
    go_enter Try.func27, Try.ntmps27
    go_wp2
    go_ret
    exact ⟨rfl, Below.refl _ _⟩
set_option maxRecDepth 100000 in
set_option maxHeartbeats 1000000 in
/-- slices.Equal of links. -/
theorem eqLinks_any {v1 v2 : Value} (L M : List Lk) (w : World) (h1 : IsF 4 lkA w v1 L) (h2 : IsF 4 lkA w v2 M) : Calls Try.prog 28 #[v1, v2] w fun e w' => e = .returned (.bool (decide (L = M))) ∧ Below w.heap.size w w' := by
  obtain ⟨A1, c1, rfl, n1, m1, z1⟩ := h1
  obtain ⟨A2, c2, rfl, n2, m2, z2⟩ := h2
  have hL : L.length ≤ 9223372036854775807 := Nat.le_trans n1 m1
  have hM : M.length ≤ 9223372036854775807 := Nat.le_trans n2 m2
  have H1 := Lib.hid z1
  have H2 := Lib.hid z2
  obtain ⟨q, hq⟩ : ∃ q, q = decide (L = M) := ⟨_, rfl⟩
  rw [← hq]
  have HQ := Lib.hid hq
  clear z1 z2 hq
  by_cases hlen : L.length = M.length
  · have hln : ((L.length : Int) == (M.length : Int)) = true := by simp [hlen]
    have hlm : decide ((L.length : Int) = (M.length : Int)) = true := by simp [hlen]
    have HE := Lib.hid hlen
    clear hlen
    go_enter Try.func28, Try.ntmps28
    go_wp2
    go_loopw [13] (fun i wr => ∃ k : Nat, i = .int .i64 k ∧ k ≤ L.length ∧ Hid (∀ j (h1 : j < L.length) (h2 : j < M.length), j < k → L[j] = M[j]) ∧ ∃ q, wr = w.drewN q) (fun i _ => L.length - (intOf i).toNat)
    case atStart => exact ⟨0, rfl, by omega, Lib.hid (fun j _ _ hj => by omega), 0, rfl⟩
    case round =>
      obtain ⟨k, rfl, hk, HK, nd, rfl⟩ := hrel
      by_cases hlt : k < L.length
      · have hlt2 : k < M.length := by have := HE.out; omega
        obtain ⟨g1, o1, e1, _, r⟩ := H1.out.at k hlt
        obtain ⟨g2, o2, e2, _, s⟩ := H2.out.at k hlt2
        subst e1 e2
        have r0 := r 0 (by decide); have r1 := r 1 (by decide); have r2 := r 2 (by decide); have r3 := r 3 (by decide)
        have s0 := s 0 (by decide); have s1 := s 1 (by decide); have s2 := s 2 (by decide); have s3 := s 3 (by decide)
        have HX : Hid (L[k] = M[k] → ∀ j (h1 : j < L.length) (h2 : j < M.length), j < k + 1 → L[j] = M[j]) := Lib.hid fun e j h1 h2 hj => by
          by_cases hjk : j = k
          · subst hjk; exact e
          · exact HK.out j h1 h2 (by omega)
        have HY : Hid (L[k] ≠ M[k] → q = false) := Lib.hid fun e => by
          rw [HQ.out]; apply decide_eq_false; intro h; subst h; exact e rfl
        have hn := neq_lk L[k] M[k]
        clear r s
        generalize L[k] = x at r0 r1 r2 r3 hn HX HY
        generalize M[k] = y at s0 s1 s2 s3 hn HX HY
        have i0 : (0 : Int) ≤ (k : Int) := by omega
        have i1 : (k : Int) < (L.length : Int) := by omega
        have i2 : (k : Int) < (M.length : Int) := by omega
        clear hlt2
        obtain ⟨⟨a, b⟩, ⟨c, d⟩⟩ := x
        obtain ⟨⟨a', b'⟩, ⟨c', d'⟩⟩ := y
        simp only [lkA, Nat.add_zero] at r0 r1 r2 r3 s0 s1 s2 s3 hn
        by_cases hxy : (⟨⟨a, b⟩, ⟨c, d⟩⟩ : Lk) = ⟨⟨a', b'⟩, ⟨c', d'⟩⟩
        · have HZ := Lib.hid (HX.out hxy)
          rw [decide_eq_true hxy, Bool.not_true] at hn
          clear HX HY hxy
          go_wp2_with fail
          go_quiet (fail)
          go_wp2
          go_roundw
          case rel => exact ⟨k + 1, by go_num, by omega, HZ, nd + nq, rfl⟩
          case measure => simp [intOf]; omega
        · have hqf := HY.out hxy
          rw [decide_eq_false hxy, Bool.not_false] at hn
          clear HX HY hxy
          subst hqf
          go_wp2_with fail
          go_quiet (fail)
          go_wp2
          go_ret
          exact ⟨rfl, bdrewN (bdrewN (Below.refl _ _) _) _⟩
      · have hqt : q = true := by
          rw [HQ.out]; apply decide_eq_true
          exact List.ext_getElem HE.out fun j h1 h2 => HK.out j h1 h2 (by omega)
        have hki : ¬ (k : Int) < (L.length : Int) := by omega
        subst hqt
        go_wp2
        go_ret
        exact ⟨rfl, bdrewN (Below.refl _ _) _⟩
  · have hln : ((L.length : Int) == (M.length : Int)) = false := by simp; omega
    have hlm : decide ((L.length : Int) = (M.length : Int)) = false := by simp; omega
    have hqf : q = false := by rw [HQ.out]; apply decide_eq_false; intro h; subst h; exact hlen rfl
    subst hqf
    clear HQ
    go_enter Try.func28, Try.ntmps28
    go_wp2
    go_ret
    exact ⟨rfl, Below.refl _ _⟩
set_option maxRecDepth 100000 in
set_option maxHeartbeats 1000000 in
/-- Same. -/
theorem same_any {vp vl up ul : Value} (ps qs : List Int) (ls ms : List Lk) (w : World) (h1 : IsT w vp vl ps ls) (h2 : IsT w up ul qs ms) : Calls Try.prog 11 #[.agg #[vp, vl], .agg #[up, ul]] w fun e w' => e = .returned (.bool (decide (ps = qs ∧ ls = ms))) ∧ Below w.heap.size w w' := by
  have b0 : ∀ (cs ds : Array Value) (t t' : TypeId), Below w.heap.size w ((w.alloc (.cells cs t)).alloc (.cells ds t')) := fun cs ds t t' => ((Below.refl _ w).alloc (Nat.le_refl _) _).alloc (by simp) _
  have k1 : ∀ u, Below w.heap.size w u → Calls Try.prog 27 #[vp, up] u fun e w' => e = .returned (.bool (decide (ps = qs))) ∧ Below u.heap.size u w' := fun u hu => eqInts_any ps qs u (h1.belows hu).1 (h2.belows hu).1
  have k2 : ∀ u, Below w.heap.size w u → Calls Try.prog 28 #[vl, ul] u fun e w' => e = .returned (.bool (decide (ls = ms))) ∧ Below u.heap.size u w' := fun u hu => eqLinks_any ls ms u (h1.belows hu).2 (h2.belows hu).2
  have h1 := h1; have h2 := h2
  obtain ⟨⟨A1, c1, rfl, _⟩, ⟨A2, c2, rfl, _⟩⟩ := h1
  obtain ⟨⟨A3, c3, rfl, _⟩, ⟨A4, c4, rfl, _⟩⟩ := h2
  have e0 : decide (ps = qs ∧ ls = ms) = (decide (ps = qs) && decide (ls = ms)) := by by_cases h : ps = qs <;> by_cases h' : ls = ms <;> simp [h, h']
  rw [e0]
  clear e0
  have D0 := (At.new w #[.slice A1 ps.length c1, .slice A2 ls.length c2] 25).alloc (.cells #[.slice A3 qs.length c3, .slice A4 ms.length c4] 25)
  have E0 := At.new1 w (.cells #[.slice A1 ps.length c1, .slice A2 ls.length c2] 25) #[.slice A3 qs.length c3, .slice A4 ms.length c4] 25
  have bb := b0 #[.slice A1 ps.length c1, .slice A2 ls.length c2] #[.slice A3 qs.length c3, .slice A4 ms.length c4] 25 25
  generalize decide (ps = qs) = q1 at k1 ⊢
  generalize decide (ls = ms) = q2 at k2 ⊢
  obtain ⟨w0, hw0⟩ : ∃ w0, w0 = ((w.alloc (.cells #[.slice A1 ps.length c1, .slice A2 ls.length c2] 25)).alloc (.cells #[.slice A3 qs.length c3, .slice A4 ms.length c4] 25)) := ⟨_, rfl⟩
  rw [← hw0] at D0 E0 bb
  have kk1 := k1 w0 bb
  clear b0 k1
  cases q1 with
  | false =>
    go_enter Try.func11, Try.ntmps11
    go_upto_region 1 with (fail)
    rw [← hw0]
    clear hw0
    have x0 := (D0.cell 0).trans rfl; have y0 := (E0.cell 0).trans rfl
    go_wp2_with fail
    refine kk1.mono ?_
    rintro e w1 ⟨rfl, b1⟩
    go_wp2
    go_ret
    exact ⟨rfl, bb.trans (b1.mono bb.size)⟩
  | true =>
    go_enter Try.func11, Try.ntmps11
    go_upto_region 1 with (fail)
    rw [← hw0]
    clear hw0
    have x0 := (D0.cell 0).trans rfl; have y0 := (E0.cell 0).trans rfl
    go_wp2_with fail
    refine kk1.mono ?_
    rintro e w1 ⟨rfl, b1⟩
    have bb1 := bb.trans (b1.mono bb.size)
    have kk2 := k2 w1 bb1
    have D1 := D0.belows b1
    have E1 := E0.belows b1
    clear x0 y0 D0 E0 kk1 k2
    have x1 := (D1.cell 1).trans rfl; have y1 := (E1.cell 1).trans rfl
    go_wp2_with fail
    refine kk2.mono ?_
    rintro e w2 ⟨rfl, b2⟩
    go_wp2
    go_ret
    exact ⟨rfl, bb1.trans (b2.mono bb1.size)⟩
end Go.Proofs.Ytpdadcjmpjnnhaa
