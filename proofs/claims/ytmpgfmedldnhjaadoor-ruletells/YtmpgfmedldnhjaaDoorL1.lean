/- RuleTells, walked. -/
import Derived.Test.YtmpgfmedldnhjaaDoorA1
import Derived.Test.YtmpgfmedldnhjaaDoorR6
namespace Go.Proofs.YtmpgfmedldnhjaaDoor
open Go.RowKit Go.Shelf

set_option maxRecDepth 100000 in
set_option maxHeartbeats 2000000 in
theorem tells_walk {vx vy : Value} (L M : List Ru) (w : World) (hx : IsR w vx L) (hy : IsR w vy M) (hwf : ∀ r ∈ L, r.wf) (hT : Tb w) : Calls Tryd.prog 3 #[vx, vy] w fun e w' => e = .returned (.bool true) ∧ Below w.heap.size w w' := by
  obtain ⟨A1, c1, rfl, n1, m1, z1⟩ := hx
  obtain ⟨A2, c2, rfl, n2, m2, z2⟩ := hy
  have hL : L.length ≤ 9223372036854775807 := Nat.le_trans n1 m1
  have hM : M.length ≤ 9223372036854775807 := Nat.le_trans n2 m2
  have ZX : Hid (∀ u, Below w.heap.size w u → Rs u A1 L) := Lib.hid fun u hu => z1.belows hu
  have HX : Hid (∀ u, Below w.heap.size w u → IsR u (.slice A1 L.length c1) L) := Lib.hid fun u hu => ⟨A1, c1, rfl, n1, m1, z1.belows hu⟩
  have HY : Hid (∀ u, Below w.heap.size w u → IsR u (.slice A2 M.length c2) M) := Lib.hid fun u hu => ⟨A2, c2, rfl, n2, m2, z2.belows hu⟩
  have HT : Hid (∀ u, Below w.heap.size w u → Tb u) := Lib.hid fun u hu => hT.below hu
  have HW := Lib.hid hwf
  have ha0 := alive_any w hT
  clear z1 z2 hT hwf n1 m1 n2 m2
  by_cases hm : 60 < L.length
  · have hm' : decide ((60 : Int) < (L.length : Int)) = true := by simp; omega
    go_enter Tryd.func3, Tryd.ntmps3
    go_wp2_with fail
    refine ha0.mono ?_
    rintro e w1 ⟨rfl, b1⟩
    go_wp2
    go_ret
    exact ⟨rfl, b1⟩
  · have hm' : decide ((60 : Int) < (L.length : Int)) = false := by simp; omega
    by_cases hm2 : 60 < M.length
    · have hm2' : decide ((60 : Int) < (M.length : Int)) = true := by simp; omega
      go_enter Tryd.func3, Tryd.ntmps3
      go_wp2_with fail
      refine ha0.mono ?_
      rintro e w1 ⟨rfl, b1⟩
      go_wp2
      go_ret
      exact ⟨rfl, b1⟩
    · have hm2' : decide ((60 : Int) < (M.length : Int)) = false := by simp; omega
      clear ha0
      go_enter Tryd.func3, Tryd.ntmps3
      go_wp2
      go_loopw [5] (fun i wr => ∃ k : Nat, i = .int .i64 k ∧ k ≤ L.length ∧ Below w.heap.size w wr) (fun i _ => L.length - (intOf i).toNat)
      case atStart => exact ⟨0, rfl, by omega, Below.refl _ _⟩
      case round =>
        obtain ⟨k, rfl, hk, hb⟩ := hrel
        by_cases hlt : k < L.length
        · obtain ⟨g1, o1, e1, hg, r0, r1, r2, r3, r4, r5, r6⟩ := (ZX.out wr hb).at k hlt
          subst e1
          have hc8 : ∀ x : Sub wr, Calls Tryd.prog 8 #[.agg (ruA L[k])] x.u fun e w' => e = .returned (.bool (ruB L[k])) ∧ Below x.u.heap.size x.u w' := fun x => ruright_any L[k] x.u
          have hc9 : ∀ x : Sub wr, Calls Tryd.prog 9 #[.agg (ruA L[k])] x.u fun e w' => e = .returned (.bool (ruB L[k])) ∧ Below x.u.heap.size x.u w' := fun x => drright_any L[k] x.u (HW.out _ (List.getElem_mem hlt))
          generalize L[k] = x at r0 r1 r2 r3 r4 r5 r6 hc8 hc9
          generalize ruB x = q at hc8 hc9
          obtain ⟨id, dv, pr, kd, f, t, pt⟩ := x
          rw [ruA_mk] at hc8 hc9
          dsimp only at r0 r1 r2 r3 r4 r5 r6
          have s0 : ∀ x : Sub wr, x.u.cell? ⟨g1, o1 + k * 7, none⟩ = some (.int .i64 id) := fun x => (x.h.cell (p := ⟨g1, _, none⟩) hg).trans r0
          have s1 : ∀ x : Sub wr, x.u.cell? ⟨g1, o1 + k * 7 + 1, none⟩ = some (.int .i64 dv) := fun x => (x.h.cell (p := ⟨g1, _, none⟩) hg).trans r1
          have s2 : ∀ x : Sub wr, x.u.cell? ⟨g1, o1 + k * 7 + 2, none⟩ = some (.int .i64 pr) := fun x => (x.h.cell (p := ⟨g1, _, none⟩) hg).trans r2
          have s3 : ∀ x : Sub wr, x.u.cell? ⟨g1, o1 + k * 7 + 3, none⟩ = some (.int .i64 kd) := fun x => (x.h.cell (p := ⟨g1, _, none⟩) hg).trans r3
          have s4 : ∀ x : Sub wr, x.u.cell? ⟨g1, o1 + k * 7 + 4, none⟩ = some (.int .u32 f) := fun x => (x.h.cell (p := ⟨g1, _, none⟩) hg).trans r4
          have s5 : ∀ x : Sub wr, x.u.cell? ⟨g1, o1 + k * 7 + 5, none⟩ = some (.int .u32 t) := fun x => (x.h.cell (p := ⟨g1, _, none⟩) hg).trans r5
          have s6 : ∀ x : Sub wr, x.u.cell? ⟨g1, o1 + k * 7 + 6, none⟩ = some (.int .i64 pt) := fun x => (x.h.cell (p := ⟨g1, _, none⟩) hg).trans r6
          have i0 : (0 : Int) ≤ (k : Int) := by omega
          have i1 : (k : Int) < (L.length : Int) := by omega
          have dq : (q != q) = false := by simp
          clear r0 r1 r2 r3 r4 r5 r6
          go_wp2_with fail
          refine wp_region_cls (by kernel_rfl) (by kernel_rfl) ?_
          repeat (go_big_quiet_step ((first | (go_at_call 8; exact Calls.cls_of (hc8 _)) | (go_at_call 9; exact Calls.cls_of (hc9 _)))))
          refine wpQuiet_nil ?_
          rintro w7 ⟨x7, hx⟩
          have b7 := x7.h
          rw [← hx] at b7
          clear hx x7
          go_wp2
          go_roundw
          case rel => exact ⟨k + 1, by go_num, by omega, hb.trans (b7.mono hb.size)⟩
          case measure => simp [intOf]; omega
        · have hkl : ¬ (k : Int) < (L.length : Int) := by omega
          have ha := alive_any wr (HT.out _ hb)
          go_wp2_with fail
          refine ha.mono ?_
          rintro e w1 ⟨rfl, b1⟩
          have bb1 := hb.trans (b1.mono hb.size)
          have h1 := all_any L w1 (HX.out _ bb1)
          have h2 := fun u (hu : Below w1.heap.size w1 u) => rall_any L u HW.out (HX.out _ (bb1.trans (hu.mono bb1.size)))
          generalize allB L = q at h1 h2
          have dq : (q == q) = true := by simp
          clear ha
          go_wp2_with fail
          refine h1.mono ?_
          rintro e w2 ⟨rfl, b2⟩
          have bb2 := bb1.trans (b2.mono bb1.size)
          have h2' := h2 _ b2
          clear h1 h2
          go_wp2_with fail
          refine h2'.mono ?_
          rintro e w3 ⟨rfl, b3⟩
          have bb3 := bb2.trans (b3.mono bb2.size)
          have h3 := same_any L M w3 (HX.out _ bb3) (HY.out _ bb3)
          have h4 := fun u (hu : Below w3.heap.size w3 u) => rsame_any L M u (HX.out _ (bb3.trans (hu.mono bb3.size))) (HY.out _ (bb3.trans (hu.mono bb3.size)))
          generalize decide (L = M) = q2 at h3 h4
          have dq2 : (q2 == q2) = true := by simp
          clear h2' b2 bb1 bb2
          go_wp2_with fail
          refine h3.mono ?_
          rintro e w4 ⟨rfl, b4⟩
          have bb4 := bb3.trans (b4.mono bb3.size)
          have h4' := h4 _ b4
          clear h3 h4
          go_wp2_with fail
          refine h4'.mono ?_
          rintro e w5 ⟨rfl, b5⟩
          go_wp2
          go_ret
          exact ⟨rfl, bb4.trans (b5.mono bb4.size)⟩
end Go.Proofs.YtmpgfmedldnhjaaDoor
