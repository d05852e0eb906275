/- Contracts: the document's SamePorts, Same. -/
import Derived.Test.YtpdadcjmpjnnhaaT2
namespace Go.Proofs.Ytpdadcjmpjnnhaa
open Go.RowKit Go.Shelf

theorem fsLk : Try.prog.underlying 46 = some (.struct (Try.prog.fieldsOf 46)) := by kernel_rfl
theorem hdLk : Try.prog.stoodInHeld 46 = false := by kernel_rfl
theorem eq_lk (x y : Lk) (w : World) : (Op.equalIn 10000 46 (.agg (lkA x)) (.agg (lkA y))).run Try.prog w = .ok (decide (x = y)) w := by
  obtain ⟨⟨a, b⟩, ⟨c, d⟩⟩ := x
  obtain ⟨⟨a', b'⟩, ⟨c', d'⟩⟩ := y
  have u1 := Try.underlying46
  have u2 := Try.underlying27
  have hLk := (Option.some.inj (fsLk.symm.trans u1))
  have hPt := (Option.some.inj (fsPt.symm.trans u2))
  injection hLk with hLk
  injection hPt with hPt
  rw [run_equalIn_agg w 9999 _ _ _ fsLk hdLk, hLk]
  simp [lkA, go_sem, Op.eqFields, fsPt, hdPt, hPt, Lk.eq_iff, Pt.eq_iff]
  by_cases h1 : a = a'
  · by_cases h2 : b = b'
    · by_cases h3 : c = c'
      · by_cases h4 : d = d' <;> simp [h1, h2, h3, h4]
      · simp [h1, h2, h3]
    · simp [h1, h2]
  · simp [h1]
theorem neq_lk (x y : Lk) (w : World) : (binOp .neq 46 (.agg (lkA x)) (.agg (lkA y))).run Try.prog w = .ok (.bool (!decide (x = y))) w := by
  rw [run_neq_struct, eq_lk]; rfl

set_option maxRecDepth 100000 in
set_option maxHeartbeats 1000000 in
/-- The document's SamePorts. -/
theorem samePorts_any {v1 v2 : Value} (L M : List Pt) (w : World) (h1 : IsF 2 ptA w v1 L) (h2 : IsF 2 ptA w v2 M) : Calls Try.prog 17 #[v1, v2] w fun e w' => e = .returned (.bool (decide (L = M))) ∧ Below w.heap.size w w' := by
  obtain ⟨A1, c1, rfl, n1, m1, z1⟩ := h1
  obtain ⟨A2, c2, rfl, n2, m2, z2⟩ := h2
  have hL : L.length ≤ 9223372036854775807 := Nat.le_trans n1 m1
  have hM : M.length ≤ 9223372036854775807 := Nat.le_trans n2 m2
  have H1 := Lib.hid z1
  have H2 := Lib.hid z2
  obtain ⟨q, hq⟩ : ∃ q, q = decide (L = M) := ⟨_, rfl⟩
  rw [← hq]
  have HQ := Lib.hid hq
  clear z1 z2 hq
  by_cases hlen : L.length = M.length
  · have hln : ((L.length : Int) == (M.length : Int)) = true := by simp [hlen]
    have hlm : decide ((L.length : Int) = (M.length : Int)) = true := by simp [hlen]
    have HE := Lib.hid hlen
    clear hlen
    go_enter Try.func17, Try.ntmps17
    go_wp2
    go_loopw [5] (fun i wr => ∃ k : Nat, i = .int .i64 k ∧ k ≤ L.length ∧ Hid (∀ j (h1 : j < L.length) (h2 : j < M.length), j < k → L[j] = M[j]) ∧ ∃ q, wr = w.drewN q) (fun i _ => L.length - (intOf i).toNat)
    case atStart => exact ⟨0, rfl, by omega, Lib.hid (fun j _ _ hj => by omega), 0, rfl⟩
    case round =>
      obtain ⟨k, rfl, hk, HK, nd, rfl⟩ := hrel
      by_cases hlt : k < L.length
      · have hlt2 : k < M.length := by have := HE.out; omega
        obtain ⟨g1, o1, e1, _, r⟩ := H1.out.at k hlt
        obtain ⟨g2, o2, e2, _, s⟩ := H2.out.at k hlt2
        subst e1 e2
        have r0 := r 0 (by decide); have r1 := r 1 (by decide)
        have s0 := s 0 (by decide); have s1 := s 1 (by decide)
        clear r s
        have hn := neq_pt L[k] M[k]
        have HX : Hid (L[k] = M[k] → ∀ j (h1 : j < L.length) (h2 : j < M.length), j < k + 1 → L[j] = M[j]) := Lib.hid fun e j h1 h2 hj => by
          by_cases hjk : j = k
          · subst hjk; exact e
          · exact HK.out j h1 h2 (by omega)
        have HY : Hid (L[k] ≠ M[k] → q = false) := Lib.hid fun e => by
          rw [HQ.out]; apply decide_eq_false; intro h; subst h; exact e rfl
        generalize L[k] = x at r0 r1 hn HX HY
        generalize M[k] = y at s0 s1 hn HX HY
        have i0 : (0 : Int) ≤ (k : Int) := by omega
        have i1 : (k : Int) < (L.length : Int) := by omega
        have i2 : (k : Int) < (M.length : Int) := by omega
        clear hlt2
        obtain ⟨a, b⟩ := x
        obtain ⟨a', b'⟩ := y
        simp only [ptA, Nat.add_zero] at r0 r1 s0 s1 hn
        by_cases hxy : (⟨a, b⟩ : Pt) = ⟨a', b'⟩
        · have HZ := Lib.hid (HX.out hxy)
          rw [decide_eq_true hxy, Bool.not_true] at hn
          clear HX HY hxy
          go_wp2_with fail
          go_quiet (fail)
          go_wp2
          go_roundw
          case rel => exact ⟨k + 1, by go_num, by omega, HZ, nd + nq, rfl⟩
          case measure => simp [intOf]; omega
        · have hqf := HY.out hxy
          rw [decide_eq_false hxy, Bool.not_false] at hn
          clear HX HY hxy
          subst hqf
          go_wp2_with fail
          go_quiet (fail)
          go_wp2
          go_ret
          exact ⟨rfl, bdrewN (bdrewN (Below.refl _ _) _) _⟩
      · have hqt : q = true := by
          rw [HQ.out]; apply decide_eq_true
          exact List.ext_getElem HE.out fun j h1 h2 => HK.out j h1 h2 (by omega)
        subst hqt
        go_wp2
        go_ret
        exact ⟨rfl, bdrewN (Below.refl _ _) _⟩
  · have hln : ((L.length : Int) == (M.length : Int)) = false := by simp; omega
    have hlm : decide ((L.length : Int) = (M.length : Int)) = false := by simp; omega
    have hqf : q = false := by rw [HQ.out]; apply decide_eq_false; intro h; subst h; exact hlen rfl
    subst hqf
    clear HQ
    go_enter Try.func17, Try.ntmps17
    go_wp2
    go_ret
    exact ⟨rfl, Below.refl _ _⟩

set_option maxRecDepth 100000 in
set_option maxHeartbeats 2000000 in
/-- The document's Same. -/
theorem rsameT_any {vp vl up ul : Value} (ps qs : List Int) (ls ms : List Lk) (w : World) (h : IsT w vp vl ps ls) (h' : IsT w up ul qs ms) : Calls Try.prog 12 #[.agg #[vp, vl], .agg #[up, ul]] w fun e w' => e = .returned (.bool (decide (ps = qs ∧ ls = ms))) ∧ Below w.heap.size w w' := by
  obtain ⟨⟨A1, c1, rfl, n1, m1, z1⟩, ⟨A2, c2, rfl, n2, m2, z2⟩⟩ := h
  obtain ⟨⟨A3, c3, rfl, n3, m3, z3⟩, ⟨A4, c4, rfl, n4, m4, z4⟩⟩ := h'
  have hL1 : ps.length ≤ 9223372036854775807 := Nat.le_trans n1 m1
  have hL2 : ls.length ≤ 9223372036854775807 := Nat.le_trans n2 m2
  have hL3 : qs.length ≤ 9223372036854775807 := Nat.le_trans n3 m3
  have hL4 : ms.length ≤ 9223372036854775807 := Nat.le_trans n4 m4
  have D0 := (At.new w #[.slice A1 ps.length c1, .slice A2 ls.length c2] 25).alloc (.cells #[.slice A3 qs.length c3, .slice A4 ms.length c4] 25)
  have E0 := At.new1 w (.cells #[.slice A1 ps.length c1, .slice A2 ls.length c2] 25) #[.slice A3 qs.length c3, .slice A4 ms.length c4] 25
  have b0 : Below w.heap.size w ((w.alloc (.cells #[.slice A1 ps.length c1, .slice A2 ls.length c2] 25)).alloc (.cells #[.slice A3 qs.length c3, .slice A4 ms.length c4] 25)) := ((Below.refl _ w).alloc (Nat.le_refl _) _).alloc (by simp) _
  have H1 := Lib.hid (z1.belows b0)
  have H2 := Lib.hid (z2.belows b0)
  have H3 := Lib.hid (z3.belows b0)
  have H4 := Lib.hid (z4.belows b0)
  obtain ⟨q, hq⟩ : ∃ q, q = decide (ps = qs ∧ ls = ms) := ⟨_, rfl⟩
  rw [← hq]
  have HQ := Lib.hid hq
  clear z1 z2 z3 z4 hq n1 n2 n3 n4 m1 m2 m3 m4
  go_enter Try.func12, Try.ntmps12
  obtain ⟨w0, hw0⟩ : ∃ w0, w0 = (w.alloc (.cells #[.slice A1 ps.length c1, .slice A2 ls.length c2] 25)).alloc (.cells #[.slice A3 qs.length c3, .slice A4 ms.length c4] 25) := ⟨_, rfl⟩
  rw [← hw0] at D0 E0 b0 H1 H2 H3 H4
  have x0 := (D0.cell 0).trans rfl; have x1 := (D0.cell 1).trans rfl
  have y0 := (E0.cell 0).trans rfl; have y1 := (E0.cell 1).trans rfl
  go_upto_region 1 with (fail)
  rw [← hw0]
  clear hw0 D0 E0
  by_cases hlp : ps.length = qs.length
  · have e1 : ((ps.length : Int) != (qs.length : Int)) = false := by simp [hlp]
    have e1' : ((ps.length : Int) == (qs.length : Int)) = true := by simp [hlp]
    by_cases hll : ls.length = ms.length
    · have e2 : ((ls.length : Int) != (ms.length : Int)) = false := by simp [hll]
      have e2' : ((ls.length : Int) == (ms.length : Int)) = true := by simp [hll]
      have HP := Lib.hid hlp
      have HLL := Lib.hid hll
      clear hlp hll
      go_wp2
      go_loopw [5] (fun i wr => ∃ k : Nat, i = .int .i64 k ∧ k ≤ ps.length ∧ Hid (∀ j (h1 : j < ps.length) (h2 : j < qs.length), j < k → ps[j] = qs[j]) ∧ ∃ q, wr = w0.drewN q) (fun i _ => ps.length - (intOf i).toNat)
      case atStart => exact ⟨0, rfl, by omega, Lib.hid (fun j _ _ hj => by omega), 0, rfl⟩
      case round =>
        obtain ⟨k, rfl, hk, HK, nd, rfl⟩ := hrel
        by_cases hlt : k < ps.length
        · have hlt2 : k < qs.length := by have := HP.out; omega
          obtain ⟨g1, o1, f1, _, r⟩ := H1.out.at k hlt
          obtain ⟨g3, o3, f3, _, s⟩ := H3.out.at k hlt2
          subst f1 f3
          have r0 : w0.cell? ⟨g1, o1 + k, none⟩ = some (.int .i64 ps[k]) := by have := r 0 (by decide); simpa [intA] using this
          have s0 : w0.cell? ⟨g3, o3 + k, none⟩ = some (.int .i64 qs[k]) := by have := s 0 (by decide); simpa [intA] using this
          clear r s
          have HX : Hid (ps[k] = qs[k] → ∀ j (h1 : j < ps.length) (h2 : j < qs.length), j < k + 1 → ps[j] = qs[j]) := Lib.hid fun e j h1 h2 hj => by
            by_cases hjk : j = k
            · subst hjk; exact e
            · exact HK.out j h1 h2 (by omega)
          have HY : Hid (ps[k] ≠ qs[k] → q = false) := Lib.hid fun e => by
            rw [HQ.out]; apply decide_eq_false; rintro ⟨h, _⟩; subst h; exact e rfl
          generalize ps[k] = x at r0 HX HY
          generalize qs[k] = y at s0 HX HY
          have i0 : (0 : Int) ≤ (k : Int) := by omega
          have i1 : (k : Int) < (ps.length : Int) := by omega
          have i2 : (k : Int) < (qs.length : Int) := by omega
          clear hlt2
          by_cases hxy : x = y
          · have HZ := Lib.hid (HX.out hxy)
            have en : (x != y) = false := by simp [hxy]
            have en' : (x == y) = true := by simp [hxy]
            clear HX HY hxy
            go_wp2_with fail
            go_quiet (fail)
            go_wp2
            go_roundw
            case rel => exact ⟨k + 1, by go_num, by omega, HZ, nd + nq, rfl⟩
            case measure => simp [intOf]; omega
          · have hqf := HY.out hxy
            have en : (x != y) = true := by simp [hxy]
            have en' : (x == y) = false := by simp [hxy]
            clear HX HY hxy
            subst hqf
            go_wp2_with fail
            go_quiet (fail)
            go_wp2
            go_ret
            exact ⟨rfl, bdrewN (bdrewN b0 _) _⟩
        · have hki : ¬ (k : Int) < (ps.length : Int) := by omega
          have HPQ : Hid (ps = qs) := Lib.hid (List.ext_getElem HP.out fun j h1 h2 => HK.out j h1 h2 (by omega))
          clear HK
          go_wp2
          go_loopw [6] (fun i wr => ∃ k : Nat, i = .int .i64 k ∧ k ≤ ls.length ∧ Hid (∀ j (h1 : j < ls.length) (h2 : j < ms.length), j < k → ls[j] = ms[j]) ∧ ∃ q, wr = w0.drewN q) (fun i _ => ls.length - (intOf i).toNat)
          case atStart => exact ⟨0, rfl, by omega, Lib.hid (fun j _ _ hj => by omega), nd, rfl⟩
          case round =>
            obtain ⟨j', rfl, hj', HJ, md, rfl⟩ := hrel
            by_cases hlt : j' < ls.length
            · have hlt2 : j' < ms.length := by have := HLL.out; omega
              obtain ⟨g2, o2, f2, _, r⟩ := H2.out.at j' hlt
              obtain ⟨g4, o4, f4, _, s⟩ := H4.out.at j' hlt2
              subst f2 f4
              have r0 := r 0 (by decide); have r1 := r 1 (by decide); have r2 := r 2 (by decide); have r3 := r 3 (by decide)
              have s0 := s 0 (by decide); have s1 := s 1 (by decide); have s2 := s 2 (by decide); have s3 := s 3 (by decide)
              clear r s
              have hn := neq_lk ls[j'] ms[j']
              have HX : Hid (ls[j'] = ms[j'] → ∀ j (h1 : j < ls.length) (h2 : j < ms.length), j < j' + 1 → ls[j] = ms[j]) := Lib.hid fun e j h1 h2 hj => by
                by_cases hjk : j = j'
                · subst hjk; exact e
                · exact HJ.out j h1 h2 (by omega)
              have HY : Hid (ls[j'] ≠ ms[j'] → q = false) := Lib.hid fun e => by
                rw [HQ.out]; apply decide_eq_false; rintro ⟨_, h⟩; subst h; exact e rfl
              generalize ls[j'] = x at r0 r1 r2 r3 hn HX HY
              generalize ms[j'] = y at s0 s1 s2 s3 hn HX HY
              have i0 : (0 : Int) ≤ (j' : Int) := by omega
              have i1 : (j' : Int) < (ls.length : Int) := by omega
              have i2 : (j' : Int) < (ms.length : Int) := by omega
              clear hlt2
              by_cases hxy : x = y
              · have HZ := Lib.hid (HX.out hxy)
                rw [decide_eq_true hxy, Bool.not_true] at hn
                clear HX HY hxy
                obtain ⟨⟨a, b⟩, ⟨c, d⟩⟩ := x
                obtain ⟨⟨a', b'⟩, ⟨c', d'⟩⟩ := y
                simp only [lkA, Nat.add_zero] at r0 r1 r2 r3 s0 s1 s2 s3 hn
                go_wp2_with fail
                go_quiet (fail)
                go_wp2
                go_roundw
                case rel => exact ⟨j' + 1, by go_num, by omega, HZ, md + nq, rfl⟩
                case measure => simp [intOf]; omega
              · have hqf := HY.out hxy
                rw [decide_eq_false hxy, Bool.not_false] at hn
                clear HX HY hxy
                subst hqf
                obtain ⟨⟨a, b⟩, ⟨c, d⟩⟩ := x
                obtain ⟨⟨a', b'⟩, ⟨c', d'⟩⟩ := y
                simp only [lkA, Nat.add_zero] at r0 r1 r2 r3 s0 s1 s2 s3 hn
                go_wp2_with fail
                go_quiet (fail)
                go_wp2
                go_ret
                exact ⟨rfl, bdrewN (bdrewN b0 _) _⟩
            · have hqt : q = true := by
                rw [HQ.out]; apply decide_eq_true
                exact ⟨HPQ.out, List.ext_getElem HLL.out fun j h1 h2 => HJ.out j h1 h2 (by omega)⟩
              subst hqt
              have hki : ¬ (j' : Int) < (ls.length : Int) := by omega
              clear HJ
              go_wp2
              go_ret
              exact ⟨rfl, bdrewN b0 _⟩
    · have e2 : ((ls.length : Int) != (ms.length : Int)) = true := by simp; omega
      have e2' : ((ls.length : Int) == (ms.length : Int)) = false := by simp; omega
      have hqf : q = false := by rw [HQ.out]; apply decide_eq_false; rintro ⟨_, h⟩; subst h; exact hll rfl
      subst hqf
      clear hll hlp
      go_wp2
      go_ret
      exact ⟨rfl, b0⟩
  · have e1 : ((ps.length : Int) != (qs.length : Int)) = true := by simp; omega
    have e1' : ((ps.length : Int) == (qs.length : Int)) = false := by simp; omega
    have hqf : q = false := by rw [HQ.out]; apply decide_eq_false; rintro ⟨h, _⟩; subst h; exact hlp rfl
    subst hqf
    clear hlp
    go_wp2
    go_ret
    exact ⟨rfl, b0⟩
end Go.Proofs.Ytpdadcjmpjnnhaa
