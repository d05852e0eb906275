/- Contracts: zone.both. -/
import Derived.Test.YtonhmppobdbidaaG2
namespace Go.Proofs.Ytonhmppobdbidaa
open Go.RowKit Go.Shelf
attribute [local go_sem] Oper.semAt_some
attribute [local go_sem] wide_fn

/-- What is still to come of two zones' ranges. -/
def MI (xs : List R32) (F S : List (Nat × Nat)) (pre : List R32) : Prop := ∃ rest, xs = pre ++ rest ∧ vals rest = mrg F S
theorem MI.step {xs pre : List R32} {F S T U : List (Nat × Nat)} {h : Nat × Nat} (hm : MI xs F S pre) (e : mrg F S = h :: mrg T U) : ∃ x : R32, x.1 = h ∧ pre.length < xs.length ∧ pre ++ [x] <+: xs ∧ MI xs T U (pre ++ [x]) := by
  obtain ⟨rest, hx, hr⟩ := hm
  rw [e] at hr
  obtain ⟨x, r', rfl, hx1, hr'⟩ := vals_cons hr
  exact ⟨x, hx1, by rw [hx]; simp, ⟨r', by rw [hx]; simp⟩, r', by rw [hx]; simp, hr'⟩
theorem MI.fin {xs pre : List R32} (h : MI xs [] [] pre) : pre = xs := by
  obtain ⟨rest, hx, hr⟩ := h
  rw [mrg] at hr
  rw [hx, vals_nil hr]; simp
/-- A slice's address, of these ranges, in every later world. -/
def ZF (w : World) (A : Option Addr) (L : List (Nat × Nat)) : Prop := ∀ W, Below w.heap.size w W → Zs W A L
theorem ZF.tail {w : World} {g o c : Nat} {r : Nat × Nat} {L : List (Nat × Nat)} (h : ZF w (some ⟨g, o, none⟩) (r :: L)) (hc : L.length + 1 ≤ c) (A : Option Addr) (hA : A = if c = 1 then some ⟨g, o, none⟩ else some ⟨g, o + 2, none⟩) : ZF w A L := fun W hW => by
  have := (h W hW).drop (k := 1) (cap := c) (by simpa using hc)
  rw [hA]
  simpa [add_off] using this
def lenOf : Value → Nat
  | .slice _ n _ => n
  | _ => 0

set_option maxRecDepth 100000 in
set_option maxHeartbeats 10000000 in
theorem both_hands (Bx By : Nat) (vx vy : Value) (X Y : List (Nat × Nat)) (xs : List R32) (w : World) (hxs : vals xs = mrg X Y) (hX : At w Bx #[vx] 22) (hY' : At w By #[vy] 22) (zx : IsZ w vx X) (zy : IsZ w vy Y) :
    ∀ W, Below w.heap.size w W → At W w.heap.size #[.slice none 0 0] 22 → Hands 51 #[.pointer (some ⟨Bx, 0, none⟩), .pointer (some ⟨By, 0, none⟩)] w.heap.size xs W := by
  refine hands_of fun l J Jx W hW _ hJ hY h0 => ?_
  obtain ⟨A, c, rfl, n1, m1, z1⟩ := zx
  obtain ⟨A2, c2, rfl, n2, m2, z2⟩ := zy
  have HZ1 : Hid (ZF w A X) := Lib.hid fun W hW => z1.belows hW
  have HZ2 : Hid (ZF w A2 Y) := Lib.hid fun W hW => z2.belows hW
  have hbx : W.cell? ⟨Bx, 0, none⟩ = some (.slice A X.length c) := ((hX.belows hW).cell 0).trans rfl
  have hby : W.cell? ⟨By, 0, none⟩ = some (.slice A2 Y.length c2) := ((hY'.belows hW).cell 0).trans rfl
  have HY := Lib.hid hY
  clear z1 z2 hY hX hY'
  show CallsIn Fence.wide 4 Try.prog 51 #[.func (.yield l) #[] #[], .pointer (some ⟨Bx, 0, none⟩), .pointer (some ⟨By, 0, none⟩)] W _
  refine callsIn_of_wp Try.func51 rfl trivial ?_ rfl
  simp only [Try.ntmps51, List.size_toArray, List.length_cons, List.length_nil, Nat.reduceAdd, Nat.reduceSub, Array.replicate_succ, Array.replicate_zero, List.push_toArray, List.append_toArray, List.nil_append, List.cons_append]
  gi_wp2
  gi_big_quiet_th (fail)
  gi_wp2
  gi_loopw [4, 5] (fun s t wr => ∃ (A : Option Addr) (c : Nat) (F : List (Nat × Nat)) (A2 : Option Addr) (c2 : Nat) (S : List (Nat × Nat)) (pre : List R32), s = .slice A F.length c ∧ t = .slice A2 S.length c2 ∧ F.length ≤ c ∧ c ≤ maxLen ∧ S.length ≤ c2 ∧ c2 ≤ maxLen ∧ Hid (ZF w A F) ∧ Hid (ZF w A2 S) ∧ Hid (MI xs F S pre) ∧ Hid (J pre wr) ∧ Below w.heap.size w wr) (fun s t _ => lenOf s + lenOf t)
  case atStart => exact ⟨A, c, X, A2, c2, Y, [], rfl, rfl, n1, m1, n2, m2, HZ1, HZ2, Lib.hid ⟨xs, rfl, by simpa using hxs⟩, Lib.hid (hJ _ _ _ h0 (grown_none (bdrewN (Below.refl _ _) nq))), bdrewN hW nq⟩
  case round =>
    clear n1 m1 n2 m2 HZ1 HZ2 hbx hby
    obtain ⟨A, c, F, A2, c2, S, pre, rfl, rfl, n1, m1, n2, m2, HZ1, HZ2, HM, HJ, hb⟩ := hrel
    simp only [maxLen] at m1 m2
    cases F with
    | nil =>
      cases S with
      | nil =>
        simp only [List.length_nil]
        gi_wp2
        go_end0
        exact ⟨⟨_, rfl⟩, .inl ⟨pre, HM.out.fin, HJ.out⟩⟩
      | cons s S =>
        obtain ⟨g2, o2, e2, _, r2⟩ := (HZ2.out wr hb) (by simp)
        subst e2
        obtain ⟨c20, c21⟩ := r2 0 (by simp)
        simp only [List.getElem_cons_zero, Nat.zero_mul, Nat.add_zero] at c20 c21
        clear r2
        obtain ⟨x, hx, hlen, hprf, hstep⟩ := HM.out.step (h := s) (T := S) (U := []) (by rw [mrg])
        have HST := Lib.hid hstep
        have HPRF := Lib.hid hprf
        clear hstep hprf
        skip
        have p1 : (0 : Int) < (S.length : Int) + 1 := by omega
        skip
        simp only [List.length_cons, List.length_nil] at *
        gi_wp2
        gi_big_quiet_th (fail)
        have hJq : J pre (wr.drewN nq) := hJ _ _ _ HJ.out (grown_none (bdrewN (Below.refl _ _) nq))
        obtain ⟨fn, tmps, assign, body, hy, hR⟩ := HY.out pre x (wr.drewN nq) hJq hlen
        rw [hx] at hy
        clear hJq
        gi_wp2
        refine hR.mono ?_
        rintro e W4 (⟨rfl, hJ4, hk4⟩ | ⟨rfl, hJx4⟩)
        · gi_wp2
          go_roundw
          case rel => exact ⟨_, c2 - 1, S, A, c, [], pre ++ [x], rfl, rfl, by omega, by simp only [maxLen]; omega, n1, by simp only [maxLen]; omega, Lib.hid (HZ2.out.tail (by simpa using n2) _ rfl), HZ1, HST, Lib.hid hJ4, (bdrewN hb nq).trans hk4.1⟩
          case measure => simp only [lenOf]; omega
        · gi_wp2
          refine bodyPost_ret (results_none rfl _ _ _) rfl ?_
          exact ⟨⟨_, rfl⟩, .inr ⟨_, HPRF.out, hJx4⟩⟩
    | cons r F =>
      cases S with
      | nil =>
        obtain ⟨g1, o1, e1, _, r1⟩ := (HZ1.out wr hb) (by simp)
        subst e1
        obtain ⟨c10, c11⟩ := r1 0 (by simp)
        simp only [List.getElem_cons_zero, Nat.zero_mul, Nat.add_zero] at c10 c11
        clear r1
        obtain ⟨x, hx, hlen, hprf, hstep⟩ := HM.out.step (h := r) (T := F) (U := []) (by rw [mrg])
        have HST := Lib.hid hstep
        have HPRF := Lib.hid hprf
        clear hstep hprf
        have p0 : (0 : Int) < (F.length : Int) + 1 := by omega
        skip
        have p2 : ((F.length : Int) + 1 == 0) = false := by rw [beq_eq_false_iff_ne]; omega
        simp only [List.length_cons, List.length_nil] at *
        gi_wp2
        gi_big_quiet_th (fail)
        have hJq : J pre (wr.drewN nq) := hJ _ _ _ HJ.out (grown_none (bdrewN (Below.refl _ _) nq))
        obtain ⟨fn, tmps, assign, body, hy, hR⟩ := HY.out pre x (wr.drewN nq) hJq hlen
        rw [hx] at hy
        clear hJq
        gi_wp2
        refine hR.mono ?_
        rintro e W4 (⟨rfl, hJ4, hk4⟩ | ⟨rfl, hJx4⟩)
        · gi_wp2
          go_roundw
          case rel => exact ⟨_, c - 1, F, A2, c2, [], pre ++ [x], rfl, rfl, by omega, by simp only [maxLen]; omega, n2, by simp only [maxLen]; omega, Lib.hid (HZ1.out.tail (by simpa using n1) _ rfl), HZ2, HST, Lib.hid hJ4, (bdrewN hb nq).trans hk4.1⟩
          case measure => simp only [lenOf]; omega
        · gi_wp2
          refine bodyPost_ret (results_none rfl _ _ _) rfl ?_
          exact ⟨⟨_, rfl⟩, .inr ⟨_, HPRF.out, hJx4⟩⟩
      | cons s S =>
        by_cases hcmp : s.1 < r.1
        · obtain ⟨g2, o2, e2, _, r2⟩ := (HZ2.out wr hb) (by simp)
          obtain ⟨g1, o1, e1, _, r1⟩ := (HZ1.out wr hb) (by simp)
          subst e2
          obtain ⟨c20, c21⟩ := r2 0 (by simp)
          simp only [List.getElem_cons_zero, Nat.zero_mul, Nat.add_zero] at c20 c21
          subst e1
          obtain ⟨c10, c11⟩ := r1 0 (by simp)
          simp only [List.getElem_cons_zero, Nat.zero_mul, Nat.add_zero] at c10 c11
          clear r2 r1
          obtain ⟨x, hx, hlen, hprf, hstep⟩ := HM.out.step (h := s) (T := S) (U := r :: F) (by rw [mrg, if_pos hcmp])
          have HST := Lib.hid hstep
          have HPRF := Lib.hid hprf
          clear hstep hprf
          have p0 : (0 : Int) < (F.length : Int) + 1 := by omega
          have p1 : (0 : Int) < (S.length : Int) + 1 := by omega
          have p2 : ((F.length : Int) + 1 == 0) = false := by rw [beq_eq_false_iff_ne]; omega
          simp only [List.length_cons, List.length_nil] at *
          gi_wp2
          gi_big_quiet_th (fail)
          have hJq : J pre (wr.drewN nq) := hJ _ _ _ HJ.out (grown_none (bdrewN (Below.refl _ _) nq))
          obtain ⟨fn, tmps, assign, body, hy, hR⟩ := HY.out pre x (wr.drewN nq) hJq hlen
          rw [hx] at hy
          clear hJq
          gi_wp2
          refine hR.mono ?_
          rintro e W4 (⟨rfl, hJ4, hk4⟩ | ⟨rfl, hJx4⟩)
          · gi_wp2
            go_roundw
            case rel => exact ⟨_, c2 - 1, S, some ⟨g1, o1, none⟩, c, r :: F, pre ++ [x], rfl, rfl, by omega, by simp only [maxLen]; omega, n1, by simp only [maxLen]; omega, Lib.hid (HZ2.out.tail (by simpa using n2) _ rfl), HZ1, HST, Lib.hid hJ4, (bdrewN hb nq).trans hk4.1⟩
            case measure => simp only [lenOf]; omega
          · gi_wp2
            refine bodyPost_ret (results_none rfl _ _ _) rfl ?_
            exact ⟨⟨_, rfl⟩, .inr ⟨_, HPRF.out, hJx4⟩⟩
        · obtain ⟨g2, o2, e2, _, r2⟩ := (HZ2.out wr hb) (by simp)
          obtain ⟨g1, o1, e1, _, r1⟩ := (HZ1.out wr hb) (by simp)
          subst e2
          obtain ⟨c20, c21⟩ := r2 0 (by simp)
          simp only [List.getElem_cons_zero, Nat.zero_mul, Nat.add_zero] at c20 c21
          subst e1
          obtain ⟨c10, c11⟩ := r1 0 (by simp)
          simp only [List.getElem_cons_zero, Nat.zero_mul, Nat.add_zero] at c10 c11
          clear r2 r1
          obtain ⟨x, hx, hlen, hprf, hstep⟩ := HM.out.step (h := r) (T := F) (U := s :: S) (by rw [mrg, if_neg hcmp])
          have HST := Lib.hid hstep
          have HPRF := Lib.hid hprf
          clear hstep hprf
          have p0 : (0 : Int) < (F.length : Int) + 1 := by omega
          have p1 : (0 : Int) < (S.length : Int) + 1 := by omega
          have p2 : ((F.length : Int) + 1 == 0) = false := by rw [beq_eq_false_iff_ne]; omega
          simp only [List.length_cons, List.length_nil] at *
          gi_wp2
          gi_big_quiet_th (fail)
          have hJq : J pre (wr.drewN nq) := hJ _ _ _ HJ.out (grown_none (bdrewN (Below.refl _ _) nq))
          obtain ⟨fn, tmps, assign, body, hy, hR⟩ := HY.out pre x (wr.drewN nq) hJq hlen
          rw [hx] at hy
          clear hJq
          gi_wp2
          refine hR.mono ?_
          rintro e W4 (⟨rfl, hJ4, hk4⟩ | ⟨rfl, hJx4⟩)
          · gi_wp2
            go_roundw
            case rel => exact ⟨_, c - 1, F, some ⟨g2, o2, none⟩, c2, s :: S, pre ++ [x], rfl, rfl, by omega, by simp only [maxLen]; omega, n2, by simp only [maxLen]; omega, Lib.hid (HZ1.out.tail (by simpa using n1) _ rfl), HZ2, HST, Lib.hid hJ4, (bdrewN hb nq).trans hk4.1⟩
            case measure => simp only [lenOf]; omega
          · gi_wp2
            refine bodyPost_ret (results_none rfl _ _ _) rfl ?_
            exact ⟨⟨_, rfl⟩, .inr ⟨_, HPRF.out, hJx4⟩⟩
end Go.Proofs.Ytonhmppobdbidaa
