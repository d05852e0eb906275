/- Contracts: zone.common. -/
import Derived.Test.YtonhmppobdbidaaG2
namespace Go.Proofs.Ytonhmppobdbidaa
open Go.RowKit Go.Shelf
attribute [local go_sem] Oper.semAt_some
attribute [local go_sem] wide_fn

/-- What is still to come of two zones' common ranges. -/
def CI (xs : List R32) (X Y : List (Nat × Nat)) (i j : Nat) (pre : List R32) : Prop := ∃ rest, xs = pre ++ rest ∧ vals rest = comm (X.drop i) (Y.drop j)
theorem CI.fin {xs pre : List R32} {X Y : List (Nat × Nat)} {i j : Nat} (h : CI xs X Y i j pre) (hij : X.length ≤ i ∨ Y.length ≤ j) : pre = xs := by
  obtain ⟨rest, rfl, hr⟩ := h
  rcases hij with h | h
  · rw [List.drop_eq_nil_of_le h, comm_nil'] at hr; simp [vals_nil hr]
  · rw [List.drop_eq_nil_of_le h, comm_nil] at hr; simp [vals_nil hr]
theorem CI.pass {xs pre : List R32} {X Y : List (Nat × Nat)} {i j : Nat} (h : CI xs X Y i j pre) (hi : i < X.length) (hj : j < Y.length) (hq : ¬ max X[i].1 Y[j].1 ≤ min X[i].2 Y[j].2) :
    (X[i].2 ≤ Y[j].2 → CI xs X Y (i + 1) j pre) ∧ (¬ X[i].2 ≤ Y[j].2 → CI xs X Y i (j + 1) pre) := by
  obtain ⟨rest, hx, hr⟩ := h
  rw [List.drop_eq_getElem_cons hi, List.drop_eq_getElem_cons hj, comm, if_neg hq, List.nil_append] at hr
  refine ⟨fun h => ⟨rest, hx, ?_⟩, fun h => ⟨rest, hx, ?_⟩⟩
  · rw [hr, if_pos h, List.drop_eq_getElem_cons hj]
  · rw [hr, if_neg h, List.drop_eq_getElem_cons hi]
theorem CI.give {xs pre : List R32} {X Y : List (Nat × Nat)} {i j : Nat} (h : CI xs X Y i j pre) (hi : i < X.length) (hj : j < Y.length) (hq : max X[i].1 Y[j].1 ≤ min X[i].2 Y[j].2) :
    ∃ x : R32, x.1 = (max X[i].1 Y[j].1, min X[i].2 Y[j].2) ∧ pre.length < xs.length ∧ pre ++ [x] <+: xs ∧ (X[i].2 ≤ Y[j].2 → CI xs X Y (i + 1) j (pre ++ [x])) ∧ (¬ X[i].2 ≤ Y[j].2 → CI xs X Y i (j + 1) (pre ++ [x])) := by
  obtain ⟨rest, hx, hr⟩ := h
  rw [List.drop_eq_getElem_cons hi, List.drop_eq_getElem_cons hj, comm, if_pos hq, List.cons_append, List.nil_append] at hr
  obtain ⟨x, r', rfl, hx1, hr'⟩ := vals_cons hr
  refine ⟨x, hx1, by rw [hx]; simp, ⟨r', by rw [hx]; simp⟩, fun h => ⟨r', by rw [hx]; simp, ?_⟩, fun h => ⟨r', by rw [hx]; simp, ?_⟩⟩
  · rw [hr', if_pos h, List.drop_eq_getElem_cons hj]
  · rw [hr', if_neg h, List.drop_eq_getElem_cons hi]

set_option maxRecDepth 100000 in
set_option maxHeartbeats 40000000 in
theorem common_hands (Bx By : Nat) (vx vy : Value) (X Y : List (Nat × Nat)) (xs : List R32) (w : World) (hxs : vals xs = comm X Y) (hX : At w Bx #[vx] 22) (hY' : At w By #[vy] 22) (zx : IsZ w vx X) (zy : IsZ w vy Y) (ux : U32 X) (uy : U32 Y) :
    ∀ W, Below w.heap.size w W → At W w.heap.size #[.slice none 0 0] 22 → Hands 50 #[.pointer (some ⟨Bx, 0, none⟩), .pointer (some ⟨By, 0, none⟩)] w.heap.size xs W := by
  refine hands_of fun l J Jx W hW hbox hJ hY h0 => ?_
  obtain ⟨A, c, rfl, n1, m1, z1⟩ := zx
  obtain ⟨A2, c2, rfl, n2, m2, z2⟩ := zy
  have hL1 : X.length ≤ 9223372036854775807 := Nat.le_trans n1 m1
  have hL2 : Y.length ≤ 9223372036854775807 := Nat.le_trans n2 m2
  have HZ1 : Hid (∀ W, Below w.heap.size w W → Zs W A X) := Lib.hid fun W hW => z1.belows hW
  have HZ2 : Hid (∀ W, Below w.heap.size w W → Zs W A2 Y) := Lib.hid fun W hW => z2.belows hW
  have HB1 : Hid (∀ W, Below w.heap.size w W → W.cell? ⟨Bx, 0, none⟩ = some (.slice A X.length c)) := Lib.hid fun W hW => ((hX.belows hW).cell 0).trans rfl
  have HB2 : Hid (∀ W, Below w.heap.size w W → W.cell? ⟨By, 0, none⟩ = some (.slice A2 Y.length c2)) := Lib.hid fun W hW => ((hY'.belows hW).cell 0).trans rfl
  have HY := Lib.hid hY
  have HU1 := Lib.hid ux
  have HU2 := Lib.hid uy
  clear z1 z2 hY hX hY' ux uy
  show CallsIn Fence.wide 4 Try.prog 50 #[.func (.yield l) #[] #[], .pointer (some ⟨Bx, 0, none⟩), .pointer (some ⟨By, 0, none⟩)] W _
  refine callsIn_of_wp Try.func50 rfl trivial ?_ rfl
  simp only [Try.ntmps50, List.size_toArray, List.length_cons, List.length_nil, Nat.reduceAdd, Nat.reduceSub, Array.replicate_succ, Array.replicate_zero, List.push_toArray, List.append_toArray, List.nil_append, List.cons_append]
  gi_wp2
  gi_loopw [4, 5] (fun s t wr => ∃ (i j : Nat) (pre : List R32), s = .int .i64 i ∧ t = .int .i64 j ∧ i ≤ X.length ∧ j ≤ Y.length ∧ Hid (CI xs X Y i j pre) ∧ Hid (J pre wr) ∧ Hid (Vd w.heap.size wr) ∧ w.heap.size < wr.heap.size ∧ Below w.heap.size w wr) (fun s t _ => (X.length - (intOf s).toNat) + (Y.length - (intOf t).toNat))
  case atStart => exact ⟨0, 0, [], rfl, rfl, by omega, by omega, Lib.hid ⟨xs, rfl, by simpa using hxs⟩, Lib.hid h0, Lib.hid (Vd.start hbox), hbox.lt, hW⟩
  case round =>
    obtain ⟨i, j, pre, rfl, rfl, hi, hj, HC, HJ, HVD, hsz, hb⟩ := hrel
    have hbx := HB1.out wr hb
    have hby := HB2.out wr hb
    by_cases hlt : i < X.length
    · by_cases hlt2 : j < Y.length
      · obtain ⟨g1, o1, e1, hg1, r1⟩ := (HZ1.out wr hb) (by omega)
        obtain ⟨g2, o2, e2, hg2, r2⟩ := (HZ2.out wr hb) (by omega)
        subst e1 e2
        obtain ⟨c10, c11⟩ := r1 i hlt
        obtain ⟨c20, c21⟩ := r2 j hlt2
        have b1 := HU1.out.at i hlt
        have b2 := HU2.out.at j hlt2
        have hgive := HC.out.give hlt hlt2
        have hpass := HC.out.pass hlt hlt2
        have hcx : ∀ W, Below w.heap.size w W → W.cell? ⟨g1, o1 + i * 2 + 1, none⟩ = some (.int .u32 X[i].2) := fun W hW => by
          obtain ⟨g', o', e', _, r'⟩ := HZ1.out W hW (by omega)
          cases e'
          exact (r' i hlt).2
        clear r1 r2
        generalize X[i] = r at c10 c11 b1 hgive hpass hcx
        have HCX := Lib.hid hcx
        clear hcx
        generalize Y[j] = s at c20 c21 b2 hgive hpass
        have HG := Lib.hid hgive
        have HP := Lib.hid hpass
        clear hgive hpass
        have i0 : (0 : Int) ≤ (i : Int) := by omega
        have i1 : (i : Int) < (X.length : Int) := by omega
        have i2 : (0 : Int) ≤ (j : Int) := by omega
        have i3 : (j : Int) < (Y.length : Int) := by omega
        obtain ⟨q1, hq1⟩ : ∃ q1, q1 = max r.1 s.1 := ⟨_, rfl⟩
        obtain ⟨q2, hq2⟩ : ∃ q2, q2 = min r.2 s.2 := ⟨_, rfl⟩
        rw [← hq1, ← hq2] at HG HP
        have hm1 : (if r.1 < s.1 then (s.1 : Int) else (r.1 : Int)) = (q1 : Int) := by split <;> omega
        have hm2 : (if s.2 < r.2 then (s.2 : Int) else (r.2 : Int)) = (q2 : Int) := by split <;> omega
        have hle : (r.2 ≤ s.2 ↔ r.2 = q2) := by omega
        have HLE := Lib.hid hle
        clear hq1 hq2 hle
        gi_wp2
        refine wpIn_wide.2 ?_
        go_region_held3 (fun w' => w'.cell? ⟨Bx, 0, none⟩ = some (.slice (some ⟨g1, o1, none⟩) X.length c) ∧ w'.cell? ⟨By, 0, none⟩ = some (.slice (some ⟨g2, o2, none⟩) Y.length c2) ∧ w'.cell? ⟨g1, o1 + i * 2, none⟩ = some (.int .u32 r.1) ∧ w'.cell? ⟨g1, o1 + i * 2 + 1, none⟩ = some (.int .u32 r.2) ∧ w'.cell? ⟨g2, o2 + j * 2, none⟩ = some (.int .u32 s.1) ∧ w'.cell? ⟨g2, o2 + j * 2 + 1, none⟩ = some (.int .u32 s.2)) (first | go_keep) (fail)
        all_goals
          have hA2 : At (wr.alloc (.cells #[.int .u32 q1, .int .u32 q2] 33)).drew wr.heap.size #[.int .u32 q1, .int .u32 q2] 33 := (At.new _ _ _).drew
          have hb2 : Below wr.heap.size wr (wr.alloc (.cells #[.int .u32 q1, .int .u32 q2] 33)).drew := ((Below.refl _ wr).alloc (Nat.le_refl _) _).drew
          generalize (wr.alloc (.cells #[.int .u32 q1, .int .u32 q2] 33)).drew = W2 at hA2 hb2 ⊢
          have hr0 : W2.cell? ⟨wr.heap.size, 0, none⟩ = some (.int .u32 q1) := (hA2.cell 0).trans rfl
          have hr1 : W2.cell? ⟨wr.heap.size, 1, none⟩ = some (.int .u32 q2) := (hA2.cell 1).trans rfl
          clear c10 c11 c20 c21 hbx hby hm1 hm2
          gi_wp2_with fail
          refine (callsIn_wide.2 (backward_any q1 q2 _)).mono ?_
          rintro e w3 ⟨rfl, b3⟩
          have b23 : Below wr.heap.size wr w3 := hb2.trans (b3.mono hb2.size)
          have hA3 : At w3 wr.heap.size #[.int .u32 q1, .int .u32 q2] 33 := hA2.belows b3
          have hJ3 : J pre w3 := hJ _ _ _ HJ.out (grown_none b23)
          have hvd3 : Vd w.heap.size w3 := HVD.out.same hsz b23
          have hsz3 : w.heap.size < w3.heap.size := Nat.lt_of_lt_of_le hsz b23.size
          have hb3 : Below w.heap.size w w3 := hb.trans (b23.mono (Nat.le_of_lt hsz))
          have hr0' : w3.cell? ⟨wr.heap.size, 0, none⟩ = some (.int .u32 q1) := (hA3.cell 0).trans rfl
          have hr1' : w3.cell? ⟨wr.heap.size, 1, none⟩ = some (.int .u32 q2) := (hA3.cell 1).trans rfl
          clear hr0 hr1 hA2 hb2
          by_cases hq : q1 ≤ q2
          · have dq : decide (q2 < q1) = false := by simp; omega
            obtain ⟨x, hx, hlen, hprf, hstep⟩ := HG.out hq
            obtain ⟨fn, tmps, assign, body, hy, hR⟩ := HY.out pre x w3 hJ3 hlen
            rw [hx] at hy
            have HST := Lib.hid hstep
            have HPRF := Lib.hid hprf
            have HA3 := Lib.hid hA3
            have HV3 := Lib.hid hvd3
            clear hstep hprf hA3 hvd3 hJ3
            rw [dq]
            gi_wp2
            refine hR.mono ?_
            rintro e W4 (⟨rfl, hJ4, hk4⟩ | ⟨rfl, hJx4⟩)
            · obtain ⟨hA4, _⟩ := hk4.2.2 _ _ _ HA3.out (HVD.out.fresh hsz b23 (Nat.le_refl _))
              have hvd := hk4.2.1 HV3.out
              have hb5 : Below w.heap.size w W4 := hb3.trans hk4.1
              have hsz5 : w.heap.size < W4.heap.size := Nat.lt_of_lt_of_le hsz3 hk4.1.size
              have h1 := (hA4.cell 1).trans rfl
              have h2 := HCX.out W4 hb5
              have h3 := HB1.out W4 hb5
              have hstep := HST.out
              clear hr0' hr1'
              gi_wp2
              by_cases hrs : r.2 ≤ s.2
              · have hd : r.2 = q2 := HLE.out.1 hrs
                have d1 : ((r.2 : Int) == (q2 : Int)) = true := by rw [beq_iff_eq]; omega
                have d2 : (r.2 == q2) = true := by rw [beq_iff_eq]; omega
                clear hd
                gi_big_quiet_th (fail)
                gi_wp2
                go_roundw
                case rel => exact ⟨i + 1, j, pre ++ [x], by go_num, rfl, by omega, hj, Lib.hid (hstep.1 hrs), Lib.hid (hJ _ _ _ hJ4 (grown_none (bdrewN (Below.refl _ _) nq))), Lib.hid (hvd.same hsz5 (bdrewN (Below.refl _ _) nq)), hsz5, bdrewN hb5 nq⟩
                case measure => simp [intOf]; omega
              · have hd : r.2 ≠ q2 := fun h => hrs (HLE.out.2 h)
                have d1 : ((r.2 : Int) == (q2 : Int)) = false := by rw [beq_eq_false_iff_ne]; omega
                have d2 : (r.2 == q2) = false := by rw [beq_eq_false_iff_ne]; omega
                clear hd
                gi_big_quiet_th (fail)
                gi_wp2
                go_roundw
                case rel => exact ⟨i, j + 1, pre ++ [x], rfl, by go_num, hi, by omega, Lib.hid (hstep.2 hrs), Lib.hid (hJ _ _ _ hJ4 (grown_none (bdrewN (Below.refl _ _) nq))), Lib.hid (hvd.same hsz5 (bdrewN (Below.refl _ _) nq)), hsz5, bdrewN hb5 nq⟩
                case measure => simp [intOf]; omega
            · gi_wp2
              refine bodyPost_ret (results_none rfl _ _ _) rfl ?_
              exact ⟨⟨_, rfl⟩, .inr ⟨_, HPRF.out, hJx4⟩⟩
          · have dq : decide (q2 < q1) = true := by simp; omega
            have hstep := HP.out hq
            have h2 := HCX.out w3 hb3
            have h3 := HB1.out w3 hb3
            have hvd := hvd3
            have hb5 := hb3
            have hsz5 := hsz3
            rw [dq]
            gi_wp2
            by_cases hrs : r.2 ≤ s.2
            · have hd : r.2 = q2 := HLE.out.1 hrs
              have d1 : ((r.2 : Int) == (q2 : Int)) = true := by rw [beq_iff_eq]; omega
              have d2 : (r.2 == q2) = true := by rw [beq_iff_eq]; omega
              clear hd
              gi_big_quiet_th (fail)
              gi_wp2
              go_roundw
              case rel => exact ⟨i + 1, j, pre, by go_num, rfl, by omega, hj, Lib.hid (hstep.1 hrs), Lib.hid (hJ _ _ _ hJ3 (grown_none (bdrewN (Below.refl _ _) nq))), Lib.hid (hvd.same hsz5 (bdrewN (Below.refl _ _) nq)), hsz5, bdrewN hb5 nq⟩
              case measure => simp [intOf]; omega
            · have hd : r.2 ≠ q2 := fun h => hrs (HLE.out.2 h)
              have d1 : ((r.2 : Int) == (q2 : Int)) = false := by rw [beq_eq_false_iff_ne]; omega
              have d2 : (r.2 == q2) = false := by rw [beq_eq_false_iff_ne]; omega
              clear hd
              gi_big_quiet_th (fail)
              gi_wp2
              go_roundw
              case rel => exact ⟨i, j + 1, pre, rfl, by go_num, hi, by omega, Lib.hid (hstep.2 hrs), Lib.hid (hJ _ _ _ hJ3 (grown_none (bdrewN (Below.refl _ _) nq))), Lib.hid (hvd.same hsz5 (bdrewN (Below.refl _ _) nq)), hsz5, bdrewN hb5 nq⟩
              case measure => simp [intOf]; omega
      · gi_wp2
        go_end0
        exact ⟨⟨_, rfl⟩, .inl ⟨pre, HC.out.fin (.inr (by omega)), HJ.out⟩⟩
    · gi_wp2
      go_end0
      exact ⟨⟨_, rfl⟩, .inl ⟨pre, HC.out.fin (.inl (by omega)), HJ.out⟩⟩
end Go.Proofs.Ytonhmppobdbidaa
