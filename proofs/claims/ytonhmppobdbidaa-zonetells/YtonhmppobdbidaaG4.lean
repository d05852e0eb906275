/- Contracts: zone.gaps. -/
import Derived.Test.YtonhmppobdbidaaG2
namespace Go.Proofs.Ytonhmppobdbidaa
open Go.RowKit Go.Shelf
attribute [local go_sem] Oper.semAt_some
attribute [local go_sem] wide_fn

/-- What is still to come of a zone's gaps. -/
def PI (xs : List R32) (Z : List (Nat × Nat)) (n k : Nat) (pre : List R32) : Prop := ∃ rest, xs = pre ++ rest ∧ vals rest = gapsL n (Z.drop k)
theorem PI.pass {xs pre : List R32} {Z : List (Nat × Nat)} {n k : Nat} (h : PI xs Z n k pre) (hk : k < Z.length) (hq : ¬ n < Z[k].1) : PI xs Z (Z[k].2 + 1) (k + 1) pre := by
  obtain ⟨rest, hx, hr⟩ := h
  rw [List.drop_eq_getElem_cons hk, gapsL, if_neg hq] at hr
  exact ⟨rest, hx, hr⟩
theorem PI.give {xs pre : List R32} {Z : List (Nat × Nat)} {n k : Nat} (h : PI xs Z n k pre) (hk : k < Z.length) (hq : n < Z[k].1) :
    ∃ x : R32, x.1 = (n, Z[k].1 - 1) ∧ pre.length < xs.length ∧ pre ++ [x] <+: xs ∧ PI xs Z (Z[k].2 + 1) (k + 1) (pre ++ [x]) := by
  obtain ⟨rest, hx, hr⟩ := h
  rw [List.drop_eq_getElem_cons hk, gapsL, if_pos hq] at hr
  obtain ⟨x, r', rfl, hx1, hr'⟩ := vals_cons hr
  exact ⟨x, hx1, by rw [hx]; simp, ⟨r', by rw [hx]; simp⟩, r', by rw [hx]; simp, hr'⟩
theorem PI.last {xs pre : List R32} {Z : List (Nat × Nat)} {n : Nat} (h : PI xs Z n Z.length pre) (hq : n ≤ 4294967295) : ∃ x : R32, x.1 = (n, 4294967295) ∧ pre.length < xs.length ∧ pre ++ [x] = xs := by
  obtain ⟨rest, hx, hr⟩ := h
  rw [List.drop_length, gapsL, if_pos hq] at hr
  obtain ⟨x, r', rfl, hx1, hr'⟩ := vals_cons hr
  rw [vals_nil hr'] at hx
  exact ⟨x, hx1, by rw [hx]; simp, hx.symm⟩
theorem PI.none {xs pre : List R32} {Z : List (Nat × Nat)} {n : Nat} (h : PI xs Z n Z.length pre) (hq : ¬ n ≤ 4294967295) : pre = xs := by
  obtain ⟨rest, hx, hr⟩ := h
  rw [List.drop_length, gapsL, if_neg hq] at hr
  rw [hx, vals_nil hr]; simp

set_option maxRecDepth 100000 in
set_option maxHeartbeats 10000000 in
theorem gaps_hands (Bs : Nat) (v : Value) (Z : List (Nat × Nat)) (xs : List R32) (w : World) (hxs : vals xs = gapsL 0 Z) (hA : At w Bs #[v] 22) (hz : IsZ w v Z) (hu : U32 Z) :
    ∀ W, Below w.heap.size w W → At W w.heap.size #[.slice none 0 0] 22 → Hands 52 #[.pointer (some ⟨Bs, 0, none⟩)] w.heap.size xs W := by
  refine hands_of fun l J Jx W hW hbox hJ hY h0 => ?_
  obtain ⟨A, c, rfl, n1, m1, z⟩ := hz
  have hL : Z.length ≤ 9223372036854775807 := Nat.le_trans n1 m1
  have HZ : Hid (∀ W, Below w.heap.size w W → Zs W A Z) := Lib.hid fun W hW => z.belows hW
  have HY := Lib.hid hY
  have HU := Lib.hid hu
  have hc := ((hA.belows hW).cell 0).trans rfl
  clear z hY hu
  show CallsIn Fence.wide 4 Try.prog 52 #[.func (.yield l) #[] #[], .pointer (some ⟨Bs, 0, none⟩)] W _
  refine callsIn_of_wp Try.func52 rfl trivial ?_ rfl
  simp only [Try.ntmps52, List.size_toArray, List.length_cons, List.length_nil, Nat.reduceAdd, Nat.reduceSub, Array.replicate_succ, Array.replicate_zero, List.push_toArray, List.append_toArray, List.nil_append, List.cons_append]
  gi_wp2
  gi_loopw [3, 8] (fun s i wr => ∃ (n k : Nat) (pre : List R32), s = .int .u64 n ∧ i = .int .i64 k ∧ n ≤ 4294967296 ∧ k ≤ Z.length ∧ Hid (PI xs Z n k pre) ∧ Hid (J pre wr) ∧ Hid (Vd w.heap.size wr) ∧ w.heap.size < wr.heap.size ∧ Below w.heap.size w wr) (fun _ i _ => Z.length - (intOf i).toNat)
  case atStart => exact ⟨0, 0, [], rfl, rfl, by omega, by omega, Lib.hid ⟨xs, rfl, by simpa using hxs⟩, Lib.hid h0, Lib.hid (Vd.start hbox), hbox.lt, hW⟩
  case round =>
    obtain ⟨n, k, pre, rfl, rfl, hn, hk, HC, HJ, HVD, hsz, hb⟩ := hrel
    by_cases hlt : k < Z.length
    · obtain ⟨g1, o1, e1, hg1, r1⟩ := (HZ.out wr hb) (by omega)
      subst e1
      obtain ⟨c10, c11⟩ := r1 k hlt
      have b1 := HU.out.at k hlt
      have hgive := HC.out.give hlt
      have hpass := HC.out.pass hlt
      clear r1
      generalize Z[k] = r at c10 c11 b1 hgive hpass
      have HG := Lib.hid hgive
      have HP := Lib.hid hpass
      clear hgive hpass
      have i0 : (0 : Int) ≤ (k : Int) := by omega
      have i1 : (k : Int) < (Z.length : Int) := by omega
      have hA2 : At (wr.alloc (.cells #[.int .u32 r.1, .int .u32 r.2] 33)) wr.heap.size #[.int .u32 r.1, .int .u32 r.2] 33 := At.new _ _ _
      have hb2 : Below wr.heap.size wr (wr.alloc (.cells #[.int .u32 r.1, .int .u32 r.2] 33)) := (Below.refl _ wr).alloc (Nat.le_refl _) _
      have hJ2 : J pre (wr.alloc (.cells #[.int .u32 r.1, .int .u32 r.2] 33)) := hJ _ _ _ HJ.out (grown_none hb2)
      have hv2 : Vd w.heap.size (wr.alloc (.cells #[.int .u32 r.1, .int .u32 r.2] 33)) := HVD.out.same hsz hb2
      have hs2 : w.heap.size < (wr.alloc (.cells #[.int .u32 r.1, .int .u32 r.2] 33)).heap.size := Nat.lt_of_lt_of_le hsz hb2.size
      have hbb : Below w.heap.size w (wr.alloc (.cells #[.int .u32 r.1, .int .u32 r.2] 33)) := hb.trans (hb2.mono (Nat.le_of_lt hsz))
      by_cases hq : n < r.1
      · obtain ⟨x, hx, hlen, hprf, hstep⟩ := HG.out hq
        obtain ⟨fn, tmps, assign, body, hy, hR⟩ := HY.out pre x _ hJ2 hlen
        rw [hx] at hy
        have hsub : ((r.1 - 1 : Nat) : Int) = (r.1 : Int) - 1 := by omega
        simp only [hsub] at hy
        have HST := Lib.hid hstep
        have HPRF := Lib.hid hprf
        have HA2 := Lib.hid hA2
        have HV2 := Lib.hid hv2
        have HFR := Lib.hid (HVD.out.fresh hsz hb2 (Nat.le_refl wr.heap.size))
        clear hstep hprf hA2 hv2 hJ2
        gi_wp2
        refine hR.mono ?_
        rintro e W4 (⟨rfl, hJ4, hk4⟩ | ⟨rfl, hJx4⟩)
        · obtain ⟨hA4, _⟩ := hk4.2.2 _ _ _ HA2.out HFR.out
          have hvd := hk4.2.1 HV2.out
          have hb5 : Below w.heap.size w W4 := hbb.trans hk4.1
          have hsz5 : w.heap.size < W4.heap.size := Nat.lt_of_lt_of_le hs2 hk4.1.size
          have h0' := (hA4.cell 0).trans rfl
          have h1 := (hA4.cell 1).trans rfl
          clear c10 c11 hb2 hbb hs2
          gi_wp2
          go_roundw
          case rel => exact ⟨r.2 + 1, k + 1, pre ++ [x], by go_num, by go_num, by omega, by omega, HST, Lib.hid hJ4, Lib.hid hvd, hsz5, hb5⟩
          case measure => simp [intOf]; omega
        · gi_wp2
          refine bodyPost_ret (results_none rfl _ _ _) rfl ?_
          exact ⟨⟨_, rfl⟩, .inr ⟨_, HPRF.out, hJx4⟩⟩
      · have HST := Lib.hid (HP.out hq)
        gi_wp2
        go_roundw
        case rel => exact ⟨r.2 + 1, k + 1, pre, by go_num, by go_num, by omega, by omega, HST, Lib.hid hJ2, Lib.hid hv2, hs2, hbb⟩
        case measure => simp [intOf]; omega
    · obtain rfl : k = Z.length := by omega
      by_cases hq : n ≤ 4294967295
      · obtain ⟨x, hx, hlen, hall⟩ := HC.out.last hq
        obtain ⟨fn, tmps, assign, body, hy, hR⟩ := HY.out pre x _ HJ.out hlen
        rw [hx] at hy
        dsimp only at hy
        rw [show ((4294967295 : Nat) : Int) = 4294967295 from rfl] at hy
        have HALL := Lib.hid hall
        clear hall
        gi_wp2
        refine hR.mono ?_
        rintro e W4 (⟨rfl, hJ4, hk4⟩ | ⟨rfl, hJx4⟩)
        · gi_wp2
          go_end0
          exact ⟨⟨_, rfl⟩, .inl ⟨_, HALL.out, hJ4⟩⟩
        · gi_wp2
          go_end0
          exact ⟨⟨_, rfl⟩, .inr ⟨_, by rw [HALL.out]; exact List.prefix_refl _, hJx4⟩⟩
      · gi_wp2
        go_end0
        exact ⟨⟨_, rfl⟩, .inl ⟨pre, HC.out.none hq, HJ.out⟩⟩

theorem gaps_any (A : Option Addr) (n c : Nat) (w : World) : Calls Try.prog 44 #[.slice A n c] w fun e w' => e = .returned (.func (.func 52) #[] #[.pointer (some ⟨w.heap.size, 0, none⟩)]) ∧ w' = w.alloc (.cells #[.slice A n c] 22) := by
  go_enter Try.func44, Try.ntmps44
  go_wp2
  go_ret
  exact ⟨rfl, rfl⟩
theorem common_any (A : Option Addr) (n c : Nat) (A2 : Option Addr) (n2 c2 : Nat) (w : World) : Calls Try.prog 41 #[.slice A n c, .slice A2 n2 c2] w fun e w' => e = .returned (.func (.func 50) #[] #[.pointer (some ⟨w.heap.size, 0, none⟩), .pointer (some ⟨w.heap.size + 1, 0, none⟩)]) ∧ w' = (w.alloc (.cells #[.slice A n c] 22)).alloc (.cells #[.slice A2 n2 c2] 22) := by
  go_enter Try.func41, Try.ntmps41
  go_wp2
  go_ret
  exact ⟨rfl, rfl⟩
theorem zboth_any (A : Option Addr) (n c : Nat) (A2 : Option Addr) (n2 c2 : Nat) (w : World) : Calls Try.prog 43 #[.slice A n c, .slice A2 n2 c2] w fun e w' => e = .returned (.func (.func 51) #[] #[.pointer (some ⟨w.heap.size, 0, none⟩), .pointer (some ⟨w.heap.size + 1, 0, none⟩)]) ∧ w' = (w.alloc (.cells #[.slice A n c] 22)).alloc (.cells #[.slice A2 n2 c2] 22) := by
  go_enter Try.func43, Try.ntmps43
  go_wp2
  go_ret
  exact ⟨rfl, rfl⟩
end Go.Proofs.Ytonhmppobdbidaa
