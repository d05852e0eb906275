/- Words: traces in memory. The document's Has, Ints, Same. -/
import Derived.Test.YtmndgbpfophniaaF8
namespace Go.Proofs.Ytmndgbpfophniaa
open Go.RowKit Go.Shelf

set_option maxRecDepth 100000 in
set_option maxHeartbeats 1000000 in
/-- The document's Ints. -/
theorem rints_any {v1 v2 : Value} (L M : List Int) (w : World) (h1 : IsF 1 intA w v1 L) (h2 : IsF 1 intA w v2 M) : Calls Try.prog 29 #[v1, v2] w fun e w' => e = .returned (.bool (decide (L = M))) ∧ Below w.heap.size w w' := by
  obtain ⟨A1, c1, rfl, n1, m1, z1⟩ := h1
  obtain ⟨A2, c2, rfl, n2, m2, z2⟩ := h2
  have hL : L.length ≤ 9223372036854775807 := Nat.le_trans n1 m1
  have hM : M.length ≤ 9223372036854775807 := Nat.le_trans n2 m2
  have H1 := Lib.hid z1
  have H2 := Lib.hid z2
  obtain ⟨q, hq⟩ : ∃ q, q = decide (L = M) := ⟨_, rfl⟩
  rw [← hq]
  have HQ := Lib.hid hq
  clear z1 z2 hq
  by_cases hlen : L.length = M.length
  · have hln : ((L.length : Int) == (M.length : Int)) = true := by simp [hlen]
    have hlm : decide ((L.length : Int) = (M.length : Int)) = true := by simp [hlen]
    have HE := Lib.hid hlen
    clear hlen
    go_enter Try.func29, Try.ntmps29
    go_wp2
    go_loopw [5] (fun i wr => ∃ k : Nat, i = .int .i64 k ∧ k ≤ L.length ∧ Hid (∀ j (h1 : j < L.length) (h2 : j < M.length), j < k → L[j] = M[j]) ∧ ∃ q, wr = w.drewN q) (fun i _ => L.length - (intOf i).toNat)
    case atStart => exact ⟨0, rfl, by omega, Lib.hid (fun j _ _ hj => by omega), 0, rfl⟩
    case round =>
      obtain ⟨k, rfl, hk, HK, nd, rfl⟩ := hrel
      by_cases hlt : k < L.length
      · have hlt2 : k < M.length := by have := HE.out; omega
        obtain ⟨g1, o1, e1, _, r⟩ := H1.out.at k hlt
        obtain ⟨g2, o2, e2, _, s⟩ := H2.out.at k hlt2
        subst e1 e2
        have r0 : w.cell? ⟨g1, o1 + k, none⟩ = some (.int .i64 L[k]) := by have := r 0 (by decide); simpa [intA] using this
        have s0 : w.cell? ⟨g2, o2 + k, none⟩ = some (.int .i64 M[k]) := by have := s 0 (by decide); simpa [intA] using this
        have HX : Hid (L[k] = M[k] → ∀ j (h1 : j < L.length) (h2 : j < M.length), j < k + 1 → L[j] = M[j]) := Lib.hid fun e j h1 h2 hj => by
          by_cases hjk : j = k
          · subst hjk; exact e
          · exact HK.out j h1 h2 (by omega)
        have HY : Hid (L[k] ≠ M[k] → q = false) := Lib.hid fun e => by
          rw [HQ.out]; apply decide_eq_false; intro h; subst h; exact e rfl
        clear r s
        generalize L[k] = x at r0 HX HY
        generalize M[k] = y at s0 HX HY
        have i0 : (0 : Int) ≤ (k : Int) := by omega
        have i1 : (k : Int) < (L.length : Int) := by omega
        have i2 : (k : Int) < (M.length : Int) := by omega
        clear hlt2
        by_cases hxy : x = y
        · have HZ := Lib.hid (HX.out hxy)
          clear HX HY
          subst hxy
          have s0' := s0
          clear s0
          go_wp2_with fail
          go_quiet (fail)
          go_wp2
          go_roundw
          case rel => exact ⟨k + 1, by go_num, by omega, HZ, nd + nq, rfl⟩
          case measure => simp [intOf]; omega
        · have hqf := HY.out hxy
          have hb1 : (x == y) = false := by simp [hxy]
          have hb2 : decide (x = y) = false := by simp [hxy]
          clear HX HY hxy
          subst hqf
          go_wp2_with fail
          go_quiet (fail)
          go_wp2
          go_ret
          exact ⟨rfl, bdrewN (bdrewN (Below.refl _ _) _) _⟩
      · have hqt : q = true := by
          rw [HQ.out]; apply decide_eq_true
          exact List.ext_getElem HE.out fun j h1 h2 => HK.out j h1 h2 (by omega)
        have hki : ¬ (k : Int) < (L.length : Int) := by omega
        subst hqt
        go_wp2
        go_ret
        exact ⟨rfl, bdrewN (Below.refl _ _) _⟩
  · have hln : ((L.length : Int) == (M.length : Int)) = false := by simp; omega
    have hlm : decide ((L.length : Int) = (M.length : Int)) = false := by simp; omega
    have hqf : q = false := by rw [HQ.out]; apply decide_eq_false; intro h; subst h; exact hlen rfl
    subst hqf
    clear HQ
    go_enter Try.func29, Try.ntmps29
    go_wp2
    go_ret
    exact ⟨rfl, Below.refl _ _⟩
set_option maxRecDepth 100000 in
set_option maxHeartbeats 1000000 in
/-- The document's Has. -/
theorem rhasI_any {v : Value} (D : List Int) (x : Int) (w : World) (h : IsF 1 intA w v D) : Calls Try.prog 19 #[v, .int .i64 x] w fun e w' => e = .returned (.bool (decide (x ∈ D))) ∧ w' = w := by
  obtain ⟨A1, c1, rfl, n1, m1, z1⟩ := h
  have hL : D.length ≤ 9223372036854775807 := Nat.le_trans n1 m1
  have H1 := Lib.hid z1
  obtain ⟨q, hq⟩ : ∃ q, q = decide (x ∈ D) := ⟨_, rfl⟩
  rw [← hq]
  have HQ := Lib.hid hq
  clear z1 hq
  go_enter Try.func19, Try.ntmps19
  go_wp2
  go_loopw [5] (fun i wr => ∃ k : Nat, i = .int .i64 k ∧ k ≤ D.length ∧ Hid (∀ j (h1 : j < D.length), j < k → D[j] ≠ x) ∧ wr = w) (fun i _ => D.length - (intOf i).toNat)
  case atStart => exact ⟨0, rfl, by omega, Lib.hid (fun j _ hj => by omega), rfl⟩
  case round =>
    obtain ⟨k, rfl, hk, HK, rfl⟩ := hrel
    by_cases hlt : k < D.length
    · obtain ⟨g1, o1, e1, _, r⟩ := H1.out.at k hlt
      subst e1
      have r0 : wr.cell? ⟨g1, o1 + k, none⟩ = some (.int .i64 D[k]) := by have := r 0 (by decide); simpa [intA] using this
      have HX : Hid (D[k] ≠ x → ∀ j (h1 : j < D.length), j < k + 1 → D[j] ≠ x) := Lib.hid fun e j h1 hj => by
        by_cases hjk : j = k
        · subst hjk; exact e
        · exact HK.out j h1 (by omega)
      have HY : Hid (D[k] = x → q = true) := Lib.hid fun e => by
        rw [HQ.out]; exact decide_eq_true (e ▸ List.getElem_mem hlt)
      clear r
      generalize D[k] = y at r0 HX HY
      have i0 : (0 : Int) ≤ (k : Int) := by omega
      have i1 : (k : Int) < (D.length : Int) := by omega
      by_cases hxy : y = x
      · have hqt := HY.out hxy
        clear HX HY
        subst hqt
        have hb1 : (y == x) = true := by simp [hxy]
        clear hxy
        go_wp2
        go_ret
        exact ⟨rfl, rfl⟩
      · have HZ := Lib.hid (HX.out hxy)
        have hb1 : (y == x) = false := by simp [hxy]
        have hb2 : decide (y = x) = false := by simp [hxy]
        clear HX HY hxy
        go_wp2
        go_roundw
        case rel => exact ⟨k + 1, by go_num, by omega, HZ, (by first | rfl | trivial)⟩
        case measure => simp [intOf]; omega
    · have hqf : q = false := by
        rw [HQ.out]; apply decide_eq_false
        intro hm
        obtain ⟨j, hj, e⟩ := List.getElem_of_mem hm
        exact HK.out j hj (by omega) e
      have hki : ¬ (k : Int) < (D.length : Int) := by omega
      subst hqf
      go_wp2
      go_ret
      exact ⟨rfl, rfl⟩
/-- A trace's value. -/
def tcV (v : Value) (x : Tc) : Value := .agg #[v, .int .i64 x.ft, .int .i64 x.out.d, .int .i64 x.out.p]
set_option maxRecDepth 100000 in
set_option maxHeartbeats 1000000 in
/-- The document's Same. -/
theorem rsameC_any {v1 v2 : Value} (x y : Tc) (w : World) (h1 : IsF 1 intA w v1 x.ds) (h2 : IsF 1 intA w v2 y.ds) : Calls Try.prog 12 #[tcV v1 x, tcV v2 y] w fun e w' => e = .returned (.bool (decide (x = y))) ∧ Below w.heap.size w w' := by
  obtain ⟨D, f, ⟨pd, pp⟩⟩ := x
  obtain ⟨E, f', ⟨pd', pp'⟩⟩ := y
  dsimp only at h1 h2
  unfold tcV
  dsimp only
  have b0 : Below w.heap.size w ((w.alloc (.cells #[v1, .int .i64 f, .int .i64 pd, .int .i64 pp] 36)).alloc (.cells #[v2, .int .i64 f', .int .i64 pd', .int .i64 pp'] 36)) := ((Below.refl _ w).alloc (Nat.le_refl _) _).alloc (by simp) _
  have k1 := rints_any D E _ (h1.belows b0) (h2.belows b0)
  have X0 := (At.new w #[v1, .int .i64 f, .int .i64 pd, .int .i64 pp] 36).alloc (.cells #[v2, .int .i64 f', .int .i64 pd', .int .i64 pp'] 36)
  have Y0 := At.new1 w (.cells #[v1, .int .i64 f, .int .i64 pd, .int .i64 pp] 36) #[v2, .int .i64 f', .int .i64 pd', .int .i64 pp'] 36
  obtain ⟨V, hV⟩ : ∃ V, V = decide ((⟨D, f, ⟨pd, pp⟩⟩ : Tc) = ⟨E, f', ⟨pd', pp'⟩⟩) := ⟨_, rfl⟩
  rw [← hV]
  have e0 : V = (decide (D = E) && (decide (f = f') && decide ((⟨pd, pp⟩ : Pt) = ⟨pd', pp'⟩))) := by
    rw [hV, Bool.eq_iff_iff, decide_eq_true_eq, Tc.eq_iff]
    simp only [Bool.and_eq_true, decide_eq_true_eq]
  have hq := eql_pt ⟨pd, pp⟩ ⟨pd', pp'⟩
  unfold ptA at hq
  dsimp only at hq
  generalize decide (D = E) = q1 at k1 e0
  generalize decide ((⟨pd, pp⟩ : Pt) = ⟨pd', pp'⟩) = q3 at hq e0
  have hq2 : (f == f') = decide (f = f') := rfl
  generalize decide (f = f') = q2 at hq2 e0
  have HV := Lib.hid e0
  obtain ⟨A1, c1, rfl, _⟩ := h1
  obtain ⟨A2, c2, rfl, _⟩ := h2
  clear hV e0
  go_enter Try.func12, Try.ntmps12
  go_upto_region 1 with (fail)
  obtain ⟨w0, hw0⟩ : ∃ w0, w0 = ((w.alloc (.cells #[.slice A1 D.length c1, .int .i64 f, .int .i64 pd, .int .i64 pp] 36)).alloc (.cells #[.slice A2 E.length c2, .int .i64 f', .int .i64 pd', .int .i64 pp'] 36)) := ⟨_, rfl⟩
  rw [← hw0] at b0 k1 X0 Y0 ⊢
  clear hw0
  have x0 := (X0.cell 0).trans rfl; have y0 := (Y0.cell 0).trans rfl
  go_wp2_with fail
  refine k1.mono ?_
  rintro e w1 ⟨rfl, b1⟩
  have bw1 := b0.trans (b1.mono b0.size)
  have X1 := X0.belows b1
  have Y1 := Y0.belows b1
  clear x0 y0 k1
  have x1 := (X1.cell 1).trans rfl; have y1 := (Y1.cell 1).trans rfl
  have x2 := (X1.cell 2).trans rfl; have y2 := (Y1.cell 2).trans rfl
  have x3 := (X1.cell 3).trans rfl; have y3 := (Y1.cell 3).trans rfl
  cases q1 with
  | false =>
    have HF : Hid (V = false) := Lib.hid (by rw [HV.out]; rfl)
    go_wp2
    go_ret
    exact ⟨by rw [HF.out]; rfl, bw1⟩
  | true =>
    cases q2 with
    | false =>
      have HF : Hid (V = false) := Lib.hid (by rw [HV.out]; rfl)
      go_wp2
      go_ret
      exact ⟨by rw [HF.out]; rfl, bw1⟩
    | true =>
      have HF : Hid (V = q3) := Lib.hid (by rw [HV.out]; rfl)
      go_wp2
      go_ret
      exact ⟨by rw [HF.out]; rfl, bw1⟩
end Go.Proofs.Ytmndgbpfophniaa
