/- Texts of this seat, put together: M2, M5, N2, N3, FS, RtB6, RtB6a, RtB6b, RtB6c, RtB6d, RtB7, La6, La7, La8, La9, La10, La11, Own10Calls, Open, OpenN, LI2, LB, LD, LE, Op10, Lift. -/
import Derived.Test.YtlhfaildeemngaaZ3
import Derived.Test.YtlhfaildeemngaaZ1
import Derived.Deep.Slices
import Derived.Deep.Fields
import Derived.ProofKit
import Derived.OpenShut
import Derived.ChangeOld
import Derived.ChangeSame
import Derived.Lib.SmallJoins
import Derived.Test.YtlhfaildeemngaaZ2
import Derived.ShutString
import Derived.Carry
import Derived.Below
import Derived.SizedLaws
/- Contracts: the program's Right. -/
namespace Go.Proofs.Ytlhfaildeemngaa
open Go.RowKit Go.Shelf Go.Maps

theorem right_fin {ps : List Int} {ls : List Lk} (h1 : 1 ≤ ps.length) (h2 : ps.length ≤ 8) (h3 : ls.length ≤ 16) (hp : ∀ k (hk : k < ps.length), 1 ≤ ps[k] ∧ ps[k] ≤ 4)
    (hh : ∀ k (hk : k < ls.length), hasT ps ls[k].a = true ∧ hasT ps ls[k].b = true) : rightT ps ls = decide ((cntL ls : Int) = 2 * (ls.length : Int)) := by
  have hn := cntL_nodup ls
  cases hr : rightT ps ls with
  | true =>
    have := hn.2 ((rightT_iff _ _).1 hr).nodup
    symm
    rw [decide_eq_true_eq]
    omega
  | false =>
    symm
    rw [decide_eq_false_iff_not]
    intro e
    have hnd := hn.1 (by omega)
    have : rightT ps ls = true := by
      rw [rightT_iff]
      refine ⟨h1, h2, h3, fun x hx => ?_, fun p hp' => ?_, hnd⟩
      · obtain ⟨k, hk, rfl⟩ := List.getElem_of_mem hx; exact hp k hk
      · obtain ⟨l, hl, hh'⟩ := mem_ends.1 hp'
        obtain ⟨k, hk, rfl⟩ := List.getElem_of_mem hl
        rcases hh' with rfl | rfl
        · exact (hh k hk).1
        · exact (hh k hk).2
    rw [this] at hr; cases hr
theorem right_no5 {ps : List Int} {ls : List Lk} (k : Nat) (hk : k < ls.length) (h : hasT ps ls[k].a = false ∨ hasT ps ls[k].b = false) : rightT ps ls = false := by
  cases hr : rightT ps ls with
  | false => rfl
  | true =>
    have hR := (rightT_iff _ _).1 hr
    have h1 := hR.has _ (mem_ends.2 ⟨_, List.getElem_mem hk, .inl rfl⟩)
    have h2 := hR.has _ (mem_ends.2 ⟨_, List.getElem_mem hk, .inr rfl⟩)
    rw [h1, h2] at h
    rcases h with h | h <;> cases h
set_option maxRecDepth 100000 in
set_option maxHeartbeats 4000000 in
/-- Right, of any topology. -/
theorem right_any {vp vl : Value} (ps : List Int) (ls : List Lk) (w : World) (hT : TW ps ls) (h : IsT w vp vl ps ls) : Calls Try.prog 35 #[.agg #[vp, vl]] w fun e w' => e = .returned (.bool (rightT ps ls)) ∧ Below w.heap.size w w' := by
  have HT : Hid (∀ u, Below w.heap.size w u → IsT u vp vl ps ls) := Lib.hid fun u hu => h.belows hu
  have KJ : Hid (ls.length ≤ 16 → ∀ u, Below w.heap.size w u → Calls Try.prog 60 #[.agg #[vp, vl]] u (JOut ls u)) := Lib.hid fun h16 u hu => joined_any ps ls u hT h16 (h.belows hu)
  obtain ⟨⟨A1, c1, rfl, n1, m1, z1⟩, ⟨A2, c2, rfl, n2, m2, z2⟩⟩ := h
  have hM : ps.length ≤ 9223372036854775807 := Nat.le_trans n1 m1
  have hL : ls.length ≤ 9223372036854775807 := Nat.le_trans n2 m2
  have D0 := At.new w #[.slice A1 ps.length c1, .slice A2 ls.length c2] 25
  have b0 : Below w.heap.size w (w.alloc (.cells #[.slice A1 ps.length c1, .slice A2 ls.length c2] 25)) := (Below.refl _ w).alloc (Nat.le_refl _) _
  have H1 := Lib.hid (z1.belows b0)
  have H2 := Lib.hid (z2.belows b0)
  obtain ⟨V, hV⟩ : ∃ V, V = rightT ps ls := ⟨_, rfl⟩
  rw [← hV]
  have HV := Lib.hid hV
  clear z1 z2 hV n1 n2 m1 m2 hT
  go_enter Try.func35, Try.ntmps35
  obtain ⟨w0, hw0⟩ : ∃ w0, w0 = w.alloc (.cells #[.slice A1 ps.length c1, .slice A2 ls.length c2] 25) := ⟨_, rfl⟩
  rw [← hw0] at D0 b0 H1 H2
  have x0 := (D0.cell 0).trans rfl
  have x1 := (D0.cell 1).trans rfl
  have x1lt : w.heap.size < w0.heap.size := by rw [hw0]; simp
  go_upto_region 1 with (fail)
  rw [← hw0]
  clear hw0
  by_cases h1 : ps.length < 1
  · have hf := HV.out.trans (right_no1 (ps := ps) (ls := ls) (by omega))
    subst hf
    have e1 : decide ((ps.length : Int) < 1) = true := decide_eq_true (by omega)
    have e1n : decide (ps.length < 1) = true := decide_eq_true (by omega)
    have e0 : ps = [] := by cases ps with
      | nil => rfl
      | cons x l => simp at h1
    subst e0
    clear h1 e1 e1n
    go_wp2
    go_ret
    exact ⟨rfl, b0⟩
  have e1 : decide ((ps.length : Int) < 1) = false := decide_eq_false (by omega)
  have e1n : decide (ps.length < 1) = false := decide_eq_false (by omega)
  have hne : ps ≠ [] := fun e => by rw [e] at h1; simp at h1
  by_cases h2 : 8 < ps.length
  · have hf := HV.out.trans (right_no1 (ps := ps) (ls := ls) (by omega))
    subst hf
    have e2 : decide ((8 : Int) < (ps.length : Int)) = true := by simp; omega
    clear h1
    go_wp2
    go_ret
    exact ⟨rfl, b0⟩
  have e2 : decide ((8 : Int) < (ps.length : Int)) = false := by simp; omega
  by_cases h3 : 16 < ls.length
  · have hf := HV.out.trans (right_no1 (ps := ps) (ls := ls) (by omega))
    subst hf
    have e3 : decide ((16 : Int) < (ls.length : Int)) = true := by simp; omega
    clear h1
    go_wp2
    go_ret
    exact ⟨rfl, b0⟩
  have e3 : decide ((16 : Int) < (ls.length : Int)) = false := by simp; omega
  have h16 : ls.length ≤ 16 := by omega
  have hn1 : 1 ≤ ps.length := by omega
  have hn8 : ps.length ≤ 8 := by omega
  clear h1 h2 h3
  go_wp2
  go_loopw [26] (fun i wr => ∃ k : Nat, i = .int .i64 k ∧ k ≤ ps.length ∧ Hid (∀ j (hj : j < ps.length), j < k → 1 ≤ ps[j] ∧ ps[j] ≤ 4) ∧ wr = w0) (fun i _ => ps.length - (intOf i).toNat)
  case atStart => exact ⟨0, rfl, by omega, Lib.hid (fun j _ hj => by omega), rfl⟩
  case round =>
    obtain ⟨k, rfl, hk, HK, rfl⟩ := hrel
    by_cases hlt : k < ps.length
    · obtain ⟨g, o, f1, _, r⟩ := H1.out.at k hlt
      subst f1
      have r0 : wr.cell? ⟨g, o + k, none⟩ = some (.int .i64 ps[k]) := by have := r 0 (by decide); simpa [intA] using this
      have HX : Hid ((1 ≤ ps[k] ∧ ps[k] ≤ 4) → ∀ j (hj : j < ps.length), j < k + 1 → 1 ≤ ps[j] ∧ ps[j] ≤ 4) := Lib.hid fun e j hj hjk => by
        by_cases hjk' : j = k
        · subst hjk'; exact e
        · exact HK.out j hj (by omega)
      have HY : Hid (¬ (1 ≤ ps[k] ∧ ps[k] ≤ 4) → V = false) := Lib.hid fun e => HV.out.trans (right_no2 k hlt e)
      clear r
      generalize ps[k] = x at r0 HX HY
      have i0 : (0 : Int) ≤ (k : Int) := by omega
      have i1 : (k : Int) < (ps.length : Int) := by omega
      by_cases hx1 : x < 1
      · have hf := HY.out (by omega)
        subst hf
        have d1 : decide (x < 1) = true := decide_eq_true hx1
        clear HX HY hx1
        go_wp2
        go_ret
        exact ⟨rfl, b0⟩
      · have d1 : decide (x < 1) = false := decide_eq_false hx1
        by_cases hx4 : 4 < x
        · have hf := HY.out (by omega)
          subst hf
          have d4 : decide (4 < x) = true := decide_eq_true hx4
          clear HX HY hx1 hx4
          go_wp2
          go_ret
          exact ⟨rfl, b0⟩
        · have d4 : decide (4 < x) = false := decide_eq_false hx4
          have HN := Lib.hid (HX.out (by omega))
          clear HX HY hx1 hx4
          go_wp2
          go_roundw
          case rel => exact ⟨k + 1, by go_num, by omega, HN, (by first | rfl | trivial)⟩
          case measure => simp [intOf]; omega
    · have hki : ¬ (k : Int) < (ps.length : Int) := by omega
      have HPO : Hid (∀ j (hj : j < ps.length), 1 ≤ ps[j] ∧ ps[j] ≤ 4) := Lib.hid fun j hj => HK.out j hj (by omega)
      clear HK
      obtain ⟨w1, rfl⟩ : ∃ w1, w1 = wr := ⟨_, rfl⟩
      go_wp2
      go_loopw [40] (fun i wr => ∃ j : Nat, i = .int .i64 j ∧ j ≤ ls.length ∧ Hid (∀ m (hm : m < ls.length), m < j → hasT ps ls[m].a = true ∧ hasT ps ls[m].b = true) ∧ Below w1.heap.size w1 wr) (fun i => fun _ => ls.length - (intOf i).toNat)
      case atStart => exact ⟨0, rfl, by omega, Lib.hid (fun m _ hm => by omega), Below.refl _ _⟩
      case round =>
        obtain ⟨j, rfl, hj, HJ, hb⟩ := hrel
        have Dq := D0.belows hb
        have hbw : Below w.heap.size w wr := b0.trans (hb.mono b0.size)
        have hszr := hb.size
        by_cases hjl : j < ls.length
        · obtain ⟨g, o, f1, hg, r⟩ := H2.out.at j hjl
          subst f1
          have r0 := (hb.cell (p := ⟨g, o + j * 4 + 0, none⟩) hg).trans (r 0 (by decide))
          have r1 := (hb.cell (p := ⟨g, o + j * 4 + 1, none⟩) hg).trans (r 1 (by decide))
          have r2 := (hb.cell (p := ⟨g, o + j * 4 + 2, none⟩) hg).trans (r 2 (by decide))
          have r3 := (hb.cell (p := ⟨g, o + j * 4 + 3, none⟩) hg).trans (r 3 (by decide))
          have HX : Hid (hasT ps ls[j].a = true → hasT ps ls[j].b = true → ∀ m (hm : m < ls.length), m < j + 1 → hasT ps ls[m].a = true ∧ hasT ps ls[m].b = true) := Lib.hid fun ea eb m hm hmj => by
            by_cases hmj' : m = j
            · subst hmj'; exact ⟨ea, eb⟩
            · exact HJ.out m hm (by omega)
          have HY : Hid (hasT ps ls[j].a = false ∨ hasT ps ls[j].b = false → V = false) := Lib.hid fun e => HV.out.trans (right_no5 j hjl e)
          have ka : ∀ u, Below w.heap.size w u → Calls Try.prog 59 #[.agg #[.slice A1 ps.length c1, .slice (some ⟨g, o, none⟩) ls.length c2], .agg (ptA ls[j].a)] u fun e w' => e = .returned (.bool (hasT ps ls[j].a)) ∧ Below u.heap.size u w' := fun u hu => has_any ps ls ls[j].a u (HT.out u hu)
          have kb : ∀ u, Below w.heap.size w u → Calls Try.prog 59 #[.agg #[.slice A1 ps.length c1, .slice (some ⟨g, o, none⟩) ls.length c2], .agg (ptA ls[j].b)] u fun e w' => e = .returned (.bool (hasT ps ls[j].b)) ∧ Below u.heap.size u w' := fun u hu => has_any ps ls ls[j].b u (HT.out u hu)
          have i0 : (0 : Int) ≤ (j : Int) := by omega
          have i1 : (j : Int) < (ls.length : Int) := by omega
          clear r
          generalize ls[j] = l at r0 r1 r2 r3 HX HY ka kb
          obtain ⟨⟨a, b⟩, ⟨c, d⟩⟩ := l
          simp only [lkA, Nat.add_zero] at r0 r1 r2 r3
          dsimp only at HX HY ka kb
          unfold ptA at ka kb
          dsimp only at ka kb
          generalize hasT ps ⟨a, b⟩ = qa at ka HX HY
          generalize hasT ps ⟨c, d⟩ = qb at kb HX HY
          have L1 := At.new wr #[.int .i64 a, .int .i64 b, .int .i64 c, .int .i64 d] 75
          have D1 := Dq.alloc (.cells #[.int .i64 a, .int .i64 b, .int .i64 c, .int .i64 d] 75)
          have hb1 : Below w1.heap.size w1 (wr.alloc (.cells #[.int .i64 a, .int .i64 b, .int .i64 c, .int .i64 d] 75)) := hb.alloc hb.size _
          have hbw1 : Below w.heap.size w (wr.alloc (.cells #[.int .i64 a, .int .i64 b, .int .i64 c, .int .i64 d] 75)) := hbw.alloc hbw.size _
          have kaa := ka _ hbw1
          have HKB := Lib.hid kb
          have y0 := (Dq.cell 0).trans rfl
          have y1 := (Dq.cell 1).trans rfl
          have hlt1 : w.heap.size < wr.heap.size := by omega
          clear ka kb
          go_upto_region 12 with (fail)
          obtain ⟨w2, hw2⟩ : ∃ w2, w2 = (wr.alloc (.cells #[.int .i64 a, .int .i64 b, .int .i64 c, .int .i64 d] 75)) := ⟨_, rfl⟩
          rw [← hw2] at L1 D1 hb1 hbw1 kaa ⊢
          clear hw2 y0 y1
          have y0 := (D1.cell 0).trans rfl
          have y1 := (D1.cell 1).trans rfl
          have l0 := (L1.cell 0).trans rfl
          have l1 := (L1.cell 1).trans rfl
          cases qa with
          | false =>
            have hf := HY.out (.inl rfl)
            subst hf
            clear HX HY
            go_wp2_with fail
            refine kaa.mono ?_
            rintro e w3 ⟨rfl, b3⟩
            go_wp2
            go_ret
            exact ⟨rfl, hbw1.trans (b3.mono hbw1.size)⟩
          | true =>
            go_wp2_with fail
            refine kaa.mono ?_
            rintro e w3 ⟨rfl, b3⟩
            have hbw3 := hbw1.trans (b3.mono hbw1.size)
            have hb3 := hb1.trans (b3.mono hb1.size)
            have kbb := HKB.out w3 hbw3
            have D3 := D1.belows b3
            have L3 := L1.belows b3
            clear y0 y1 l0 l1 kaa
            have y0 := (D3.cell 0).trans rfl
            have y1 := (D3.cell 1).trans rfl
            have l2 := (L3.cell 2).trans rfl
            have l3 := (L3.cell 3).trans rfl
            cases qb with
            | false =>
              have hf := HY.out (.inr rfl)
              subst hf
              clear HX HY
              go_wp2_with fail
              refine kbb.mono ?_
              rintro e w4 ⟨rfl, b4⟩
              go_wp2
              go_ret
              exact ⟨rfl, hbw3.trans (b4.mono hbw3.size)⟩
            | true =>
              have HN := Lib.hid (HX.out (by trivial) (by trivial))
              clear HX HY
              go_wp2_with fail
              refine kbb.mono ?_
              rintro e w4 ⟨rfl, b4⟩
              have hb4 := hb3.trans (b4.mono hb3.size)
              go_wp2
              go_roundw
              case rel => exact ⟨j + 1, by go_num, by omega, HN, hb4⟩
              case measure => simp [intOf]; omega
        · have hji : ¬ (j : Int) < (ls.length : Int) := by omega
          have hV : V = decide ((cntL ls : Int) = 2 * (ls.length : Int)) := HV.out.trans (right_fin hn1 hn8 h16 HPO.out fun m hm => HJ.out m hm (by omega))
          clear HJ
          have HVV := Lib.hid hV
          have kj := KJ.out h16
          have hwr : ∀ u, Below wr.heap.size wr u → Below w.heap.size w u := fun u hu => hbw.trans (hu.mono hbw.size)
          have hml := fun u b n s M (h : JMap u b n s M) => MapAt.run_len h Try.underlying105 3
          have hwm : IntKind.i64.wrap (2 * (ls.length : Int)) = 2 * (ls.length : Int) := IntWalk.i64_in _ (by omega)
          have y0 := (Dq.cell 0).trans rfl
          have y1 := (Dq.cell 1).trans rfl
          clear hV y0 y1 hml
          have x0 : ∀ x : Sub wr, x.u.cell? ⟨w.heap.size, 0, none⟩ = some (.slice A1 ps.length c1) := fun x => ((Dq.belows x.h).cell 0).trans rfl
          have x1 : ∀ x : Sub wr, x.u.cell? ⟨w.heap.size, 1, none⟩ = some (.slice A2 ls.length c2) := fun x => ((Dq.belows x.h).cell 1).trans rfl
          go_wp2_with fail
          refine wp_region_seg 1 8 (by kernel_rfl) (by kernel_rfl) rfl (by kernel_rfl) (by kernel_rfl) ?_
          show wpQuiet _ _ _ _ [_] ⟨List.toArray (_ :: _ :: _ :: _ :: _ :: _ :: _ :: _ :: _ :: _ :: _ :: _ :: _ :: _ :: _ :: _ :: _ :: _ :: _ :: _ :: _ :: _ :: _ :: _ :: _ :: _ :: _ :: _ :: _ :: _ :: _ :: _ :: _ :: _ :: _ :: _ :: _ :: _ :: _ :: _ :: _ :: _ :: _ :: _ :: _ :: _ :: _ :: _ :: _ :: _ :: _ :: _ :: _ :: _ :: _ :: _ :: _ :: _ :: _ :: _ :: _ :: _ :: _ :: _ :: _ :: []), _⟩
          repeat (go_big_quiet_step (fail))
          refine wpQuiet_nil ?_
          intro u1 hu1
          refine held_more 4 4 3 (by kernel_rfl) (by kernel_rfl) (by kernel_rfl) hu1 ?_
          show wpQuiet _ _ _ _ [_, _, _, _] ⟨List.toArray (_ :: _ :: _ :: _ :: _ :: _ :: _ :: _ :: _ :: _ :: _ :: _ :: _ :: _ :: _ :: _ :: _ :: _ :: _ :: _ :: _ :: _ :: _ :: _ :: _ :: _ :: _ :: _ :: _ :: _ :: _ :: _ :: _ :: _ :: _ :: _ :: _ :: _ :: _ :: _ :: _ :: _ :: _ :: _ :: _ :: _ :: _ :: _ :: _ :: _ :: _ :: _ :: _ :: _ :: _ :: _ :: _ :: _ :: _ :: _ :: _ :: _ :: _ :: _ :: _ :: []), _⟩
          repeat (go_big_quiet_step (fail))
          refine wpQuiet_nil ?_
          intro u2 hu2
          clear x0 x1
          refine held_call (k := 1) (ys := #[.agg #[.slice A1 ps.length c1, .slice A2 ls.length c2]]) (by kernel_rfl) rfl (by kernel_rfl) rfl Try.func60 (by kernel_rfl) (by kernel_rfl) hu2 (by simp only [List.map_toArray, List.map_cons, List.map_nil, Act.eval] <;> rfl) (fun v => rfl) ?_
          refine (kj u2 (hwr u2 hu2)).mono ?_
          rintro e w5 ⟨bq, rfl, hbq, J5, b5⟩
          refine ⟨_, rfl, b5, ?_⟩
          have hlen : ∀ x : Sub w5, (Builtin.len_ #[105] 3 #[.map (some bq)]).run Try.prog x.u = .ok (.int .i64 (cntL ls)) x.u := fun x => MapAt.run_len (J5.belows x.h) Try.underlying105 3
          have hbw5 := (hwr u2 hu2).trans (b5.mono (hwr u2 hu2).size)
          clear J5 b5 hbq
          generalize cntL ls = cn at hlen HVV
          have hwm2 : IntKind.i64.wrap (2 * (ls.length : Int)) = 2 * (ls.length : Int) := hwm
          refine held_more 1 2 2 (by kernel_rfl) (by kernel_rfl) (by kernel_rfl) (Below.refl _ _) ?_
          show wpQuiet _ _ _ _ [_] ⟨List.toArray (_ :: _ :: _ :: _ :: _ :: _ :: _ :: _ :: _ :: _ :: _ :: _ :: _ :: _ :: _ :: _ :: _ :: _ :: _ :: _ :: _ :: _ :: _ :: _ :: _ :: _ :: _ :: _ :: _ :: _ :: _ :: _ :: _ :: _ :: _ :: _ :: _ :: _ :: _ :: _ :: _ :: _ :: _ :: _ :: _ :: _ :: _ :: _ :: _ :: _ :: _ :: _ :: _ :: _ :: _ :: _ :: _ :: _ :: _ :: _ :: _ :: _ :: _ :: _ :: _ :: []), _⟩
          repeat (go_big_quiet_step (fail))
          refine wpQuiet_nil ?_
          intro u3 hu3
          clear hlen
          refine held_more 2 0 7 (by kernel_rfl) (by kernel_rfl) (by kernel_rfl) hu3 ?_
          show wpQuiet _ _ _ _ [_, _] ⟨List.toArray (_ :: _ :: _ :: _ :: _ :: _ :: _ :: _ :: _ :: _ :: _ :: _ :: _ :: _ :: _ :: _ :: _ :: _ :: _ :: _ :: _ :: _ :: _ :: _ :: _ :: _ :: _ :: _ :: _ :: _ :: _ :: _ :: _ :: _ :: _ :: _ :: _ :: _ :: _ :: _ :: _ :: _ :: _ :: _ :: _ :: _ :: _ :: _ :: _ :: _ :: _ :: _ :: _ :: _ :: _ :: _ :: _ :: _ :: _ :: _ :: _ :: _ :: _ :: _ :: _ :: []), _⟩
          repeat (go_big_quiet_step (fail))
          refine wpQuiet_nil ?_
          intro u4 hu4
          refine held_end (by kernel_rfl) ?_
          have hbw6 := hbw5.trans (hu4.mono hbw5.size)
          go_wp2
          go_ret
          exact ⟨by rw [HVV.out]; rfl, hbw6⟩
end Go.Proofs.Ytlhfaildeemngaa
/- Contracts: the program's Fits. -/
namespace Go.Proofs.Ytlhfaildeemngaa
open Go.RowKit Go.Shelf

/-- Does one rule fit, as the program asks? -/
def fitsR (ps : List Int) (r : Ru) : Bool := if r.kd = 0 then hasT ps ⟨r.dv, r.pt⟩ else devT ps r.dv
theorem fitsR_right {ps : List Int} {ls : List Lk} (hR : RT ps ls) {r : Ru} (hr : ruB r = true) : fitsR ps r = hasT ps ⟨r.dv, r.pt⟩ := by
  unfold fitsR
  by_cases h : r.kd = 0
  · rw [if_pos h]
  · rw [if_neg h]
    obtain ⟨_, _, _, _, _, _, _, _, h9⟩ := (ruB_iff r).1 hr
    have h0 := h9.resolve_left h
    unfold devT hasT
    by_cases h1 : 0 ≤ r.dv
    · by_cases h2 : r.dv < (ps.length : Int)
      · have hp := hR.ports (ps[r.dv.toNat]'(by omega)) (List.getElem_mem _)
        rw [h0]
        dsimp only
        rw [List.getElem?_eq_getElem (by omega)]
        simp [h1, h2]
        omega
      · simp [h2]
    · simp [h1]
theorem allB_right {L : List Ru} (h : allB L = true) : ∀ r ∈ L, ruB r = true := by
  intro r hr
  obtain ⟨k, hk, rfl⟩ := List.getElem_of_mem hr
  exact (((allB_iff L).1 h).2 k hk).1
theorem enters_fits : ∀ args w, (callFunc 64 args).run Try.prog w = .ok (.enter 64 args) w := enters_of Try.func64 (by kernel_rfl) rfl
set_option maxRecDepth 100000 in
set_option maxHeartbeats 1000000 in
/-- The predicate. -/
theorem fitsBody_any {vp vl : Value} (ps : List Int) (ls : List Lk) (r : Ru) (B : Nat) (W : World) (hB : At W B #[vp, vl] 25) (h : IsT W vp vl ps ls) :
    Calls Try.prog 64 #[.agg (ruA r), .pointer (some ⟨B, 0, none⟩)] W fun e W' => e = .returned (.bool (!fitsR ps r)) ∧ Below W.heap.size W W' := by
  obtain ⟨id, dv, pr, kd, f, t, pt⟩ := r
  rw [ruA_mk]
  have b0 : Below W.heap.size W (W.alloc (.cells #[.int .i64 id, .int .i64 dv, .int .i64 pr, .int .i64 kd, .int .u32 f, .int .u32 t, .int .i64 pt] 50)) := (Below.refl _ _).alloc (Nat.le_refl _) _
  have hh := h.belows b0
  have k1 := has_any ps ls ⟨dv, pt⟩ _ hh
  have k2 := hasDevice_any ps ls dv _ hh
  have D1 := hB.belows b0
  have R1 := At.new W #[.int .i64 id, .int .i64 dv, .int .i64 pr, .int .i64 kd, .int .u32 f, .int .u32 t, .int .i64 pt] 50
  obtain ⟨V, hV⟩ : ∃ V, V = fitsR ps ⟨id, dv, pr, kd, f, t, pt⟩ := ⟨_, rfl⟩
  rw [← hV]
  unfold fitsR at hV
  dsimp only at hV
  unfold ptA at k1
  dsimp only at k1
  obtain ⟨⟨A1, c1, rfl, _⟩, ⟨A2, c2, rfl, _⟩⟩ := h
  clear hh
  go_enter Try.func64, Try.ntmps64
  go_upto_region 1 with (fail)
  obtain ⟨w1, hw1⟩ : ∃ w1, w1 = W.alloc (.cells #[.int .i64 id, .int .i64 dv, .int .i64 pr, .int .i64 kd, .int .u32 f, .int .u32 t, .int .i64 pt] 50) := ⟨_, rfl⟩
  rw [← hw1] at b0 k1 k2 D1 R1 ⊢
  clear hw1
  have x0 := (D1.cell 0).trans rfl
  have x1 := (D1.cell 1).trans rfl
  have y1 := (R1.cell 1).trans rfl
  have y3 := (R1.cell 3).trans rfl
  have y5 := (R1.cell 6).trans rfl
  by_cases h0 : kd = 0
  · rw [if_pos h0] at hV
    have HV := Lib.hid hV
    subst h0
    clear hV k2
    go_wp2_with fail
    refine k1.mono ?_
    rintro e w2 ⟨rfl, b2⟩
    go_wp2
    go_ret
    exact ⟨by rw [HV.out]; rfl, b0.trans (b2.mono b0.size)⟩
  · rw [if_neg h0] at hV
    have HV := Lib.hid hV
    have e1 : (kd == 0) = false := by simp [h0]
    have e2 : decide (kd = 0) = false := by simp [h0]
    clear hV k1 h0
    go_wp2_with fail
    refine k2.mono ?_
    rintro e w2 ⟨rfl, b2⟩
    go_wp2
    go_ret
    exact ⟨by rw [HV.out]; rfl, b0.trans (b2.mono b0.size)⟩
set_option maxRecDepth 100000 in
set_option maxHeartbeats 1000000 in
/-- Fits, of a right topology and right rules. -/
theorem fits_any {vp vl vr : Value} (ps : List Int) (ls : List Lk) (L : List Ru) (w : World) (hR : RT ps ls) (hA : allB L = true) (h : IsT w vp vl ps ls) (hr : IsR w vr L) : Calls Try.prog 37 #[.agg #[vp, vl], vr] w fun e w' => e = .returned (.bool (fitsT ps L)) ∧ Below w.heap.size w w' := by
  have b0 : Below w.heap.size w (w.alloc (.cells #[vp, vl] 25)) := (Below.refl _ w).alloc (Nat.le_refl _) _
  have D0 := At.new w #[vp, vl] 25
  have hsteps : Steps 64 #[.pointer (some ⟨w.heap.size, 0, none⟩)] L (fun k => !fitsR ps (L[k]?.getD ru0)) (fun _ W => Below (w.alloc (.cells #[vp, vl] 25)).heap.size (w.alloc (.cells #[vp, vl] 25)) W) (w.alloc (.cells #[vp, vl] 25)).heap.size := by
    intro k hk W hI
    refine (fitsBody_any ps ls L[k] w.heap.size W (D0.belows hI) (h.belows (b0.trans (hI.mono b0.size)))).mono ?_
    rintro e W' ⟨rfl, hb⟩
    exact ⟨by show _ = Ending.returned (.bool (!fitsR ps (L[k]?.getD ru0))); rw [List.getElem?_eq_getElem hk]; rfl, hI.trans (hb.mono hI.size), hb.mono hI.size⟩
  have hZ : ∀ W, Below (w.alloc (.cells #[vp, vl] 25)).heap.size (w.alloc (.cells #[vp, vl] 25)) W → IsR W vr L := fun W hW => hr.belows (b0.trans (hW.mono b0.size))
  have hc := containsFunc_any 64 #[.pointer (some ⟨w.heap.size, 0, none⟩)] enters_fits L _ _ _ (w.alloc (.cells #[vp, vl] 25)) hsteps (Below.refl _ _) hZ
  obtain ⟨q, hq⟩ : ∃ q, q = fitsT ps L := ⟨_, rfl⟩
  rw [← hq]
  have HQ : Hid (∀ b : Bool, (b = true ↔ ∃ k, k < L.length ∧ (!fitsR ps (L[k]?.getD ru0)) = true) → (!b) = q) := Lib.hid fun b hb => by
    rw [hq, Bool.eq_iff_iff, Bool.not_eq_true', ← Bool.not_eq_true, hb]
    unfold fitsT
    rw [List.all_eq_true]
    constructor
    · intro hno r hrL
      obtain ⟨k, hk, rfl⟩ := List.getElem_of_mem hrL
      cases hf : fitsR ps L[k] with
      | true => rw [← fitsR_right hR (allB_right hA _ hrL)]; exact hf
      | false => exact absurd ⟨k, hk, by rw [List.getElem?_eq_getElem hk]; simp [hf]⟩ hno
    · rintro hall ⟨k, hk, hf⟩
      rw [List.getElem?_eq_getElem hk] at hf
      have := hall L[k] (List.getElem_mem hk)
      rw [← fitsR_right hR (allB_right hA _ (List.getElem_mem hk))] at this
      simp [this] at hf
  obtain ⟨⟨A1, c1, rfl, _⟩, ⟨A2, c2, rfl, _⟩⟩ := h
  obtain ⟨A3, c3, rfl, _⟩ := hr
  clear hsteps hZ hq
  go_enter Try.func37, Try.ntmps37
  go_wp2_with (go_at_call 61; refine hc.mono ?_; rintro e w1 ⟨b, rfl, hb, b1⟩)
  go_ret
  exact ⟨by rw [← HQ.out b hb]; rfl, b0.trans (b1.mono b0.size)⟩
end Go.Proofs.Ytlhfaildeemngaa
/- Contracts: slices.Equal of numbers, of links; the program's Same. -/
namespace Go.Proofs.Ytlhfaildeemngaa
open Go.RowKit Go.Shelf

end Go.Proofs.Ytlhfaildeemngaa
/- Contracts: the program's Next. -/
namespace Go.Proofs.Ytlhfaildeemngaa
open Go.RowKit Go.Shelf

set_option maxRecDepth 100000 in
set_option maxHeartbeats 2000000 in
/-- Next, of any topology. -/
theorem next_any {vp vl : Value} (ps : List Int) (ls : List Lk) (p : Pt) (w : World) (h : IsT w vp vl ps ls) : Calls Try.prog 69 #[.agg #[vp, vl], .agg (ptA p)] w fun e w' => e = .returned (nextV (nextT ls p)) ∧ Below w.heap.size w w' := by
  obtain ⟨⟨A1, c1, rfl, n1, m1, _⟩, ⟨A2, c2, rfl, n2, m2, z2⟩⟩ := h
  have hL : ls.length ≤ 9223372036854775807 := Nat.le_trans n2 m2
  have hM : ps.length ≤ 9223372036854775807 := Nat.le_trans n1 m1
  obtain ⟨V, hV⟩ : ∃ V, V = nextT ls p := ⟨_, rfl⟩
  rw [← hV]
  have HV := Lib.hid hV
  clear hV
  have D0 := ((At.new w #[.slice A1 ps.length c1, .slice A2 ls.length c2] 25).alloc (.cells (ptA p) 68)).alloc (.cells (ptA ⟨0, 0⟩) 68)
  have P0 := (At.new1 w (.cells #[.slice A1 ps.length c1, .slice A2 ls.length c2] 25) (ptA p) 68).alloc (.cells (ptA ⟨0, 0⟩) 68)
  have R0 := At.new2 w (.cells #[.slice A1 ps.length c1, .slice A2 ls.length c2] 25) (.cells (ptA p) 68) (ptA ⟨0, 0⟩) 68
  have b0 : Below w.heap.size w (((w.alloc (.cells #[.slice A1 ps.length c1, .slice A2 ls.length c2] 25)).alloc (.cells (ptA p) 68)).alloc (.cells (ptA ⟨0, 0⟩) 68)) := (((Below.refl _ w).alloc (Nat.le_refl _) _).alloc (by simp) _).alloc (by simp; omega) _
  have HZ := Lib.hid (z2.belows b0)
  clear z2
  obtain ⟨d, q⟩ := p
  obtain ⟨w0, hw0⟩ : ∃ w0, w0 = (((w.alloc (.cells #[.slice A1 ps.length c1, .slice A2 ls.length c2] 25)).alloc (.cells #[.int .i64 d, .int .i64 q] 68)).alloc (.cells #[.int .i64 0, .int .i64 0] 68)) := ⟨_, rfl⟩
  rw [show ptA ⟨d, q⟩ = #[.int .i64 d, .int .i64 q] from rfl, show ptA ⟨0, 0⟩ = #[.int .i64 0, .int .i64 0] from rfl] at D0 P0 R0 b0 HZ
  rw [← hw0] at D0 P0 R0 b0 HZ
  unfold ptA
  dsimp only
  go_enter Try.func69, Try.ntmps69
  go_upto_region 1 with (fail)
  rw [← hw0]
  have hs0 : w.heap.size + 1 + 1 < w0.heap.size := by rw [hw0]; simp
  clear hw0
  have x1 := (D0.cell 1).trans rfl
  go_wp2
  go_loopw [11] (fun i wr => ∃ k : Nat, i = .int .i64 k ∧ k ≤ ls.length ∧ Hid (V = nextT (ls.drop k) ⟨d, q⟩) ∧ Below w0.heap.size w0 wr) (fun i _ => ls.length - (intOf i).toNat)
  case atStart => exact ⟨0, rfl, by omega, HV, Below.refl _ _⟩
  case round =>
    obtain ⟨k, rfl, hk, HK, hb⟩ := hrel
    have P1 := P0.belows hb
    have R1 := R0.belows hb
    have p0 := (P1.cell 0).trans rfl
    have p1 := (P1.cell 1).trans rfl
    have hsz := hb.size
    by_cases hlt : k < ls.length
    · obtain ⟨g, o, e, hg, hc⟩ := HZ.out.at k hlt
      subst e
      have r0 := (hb.cell (p := ⟨g, _, none⟩) hg).trans (hc 0 (by decide)); have r1 := (hb.cell (p := ⟨g, _, none⟩) hg).trans (hc 1 (by decide)); have r2 := (hb.cell (p := ⟨g, _, none⟩) hg).trans (hc 2 (by decide)); have r3 := (hb.cell (p := ⟨g, _, none⟩) hg).trans (hc 3 (by decide))
      have HD : Hid (ls.drop k = ls[k] :: ls.drop (k + 1)) := Lib.hid (List.drop_eq_getElem_cons hlt)
      have q1 := eql_pt ⟨d, q⟩ ls[k].a
      have q2 := eql_pt ⟨d, q⟩ ls[k].b
      have HA : Hid (ls[k].a = ⟨d, q⟩ → V = some ls[k].b) := Lib.hid fun e => by rw [HK.out, HD.out]; unfold nextT; rw [if_pos e]
      have HB : Hid (ls[k].a ≠ ⟨d, q⟩ → ls[k].b = ⟨d, q⟩ → V = some ls[k].a) := Lib.hid fun e e' => by rw [HK.out, HD.out]; unfold nextT; rw [if_neg e, if_pos e']
      have HC : Hid (ls[k].a ≠ ⟨d, q⟩ → ls[k].b ≠ ⟨d, q⟩ → V = nextT (ls.drop (k + 1)) ⟨d, q⟩) := Lib.hid fun e e' => by rw [HK.out, HD.out]; show (if _ then _ else if _ then _ else _) = _; rw [if_neg e, if_neg e']
      clear HD hc
      generalize ls[k] = l at r0 r1 r2 r3 q1 q2 HA HB HC
      obtain ⟨⟨ad, ap⟩, ⟨bd, bp⟩⟩ := l
      simp only [lkA, Nat.add_zero] at r0 r1 r2 r3
      dsimp only at q1 q2 HA HB HC
      have i0 : (0 : Int) ≤ (k : Int) := by omega
      have i1 : (k : Int) < (ls.length : Int) := by omega
      have hb2 : Below w0.heap.size w0 (wr.alloc (.cells #[.int .i64 ad, .int .i64 ap, .int .i64 bd, .int .i64 bp] 75)) := hb.alloc hb.size _
      have bw1 := b0.trans (hb.mono b0.size)
      have P2 := P1.alloc (.cells #[.int .i64 ad, .int .i64 ap, .int .i64 bd, .int .i64 bp] 75)
      have R2 := R1.alloc (.cells #[.int .i64 ad, .int .i64 ap, .int .i64 bd, .int .i64 bp] 75)
      have hlt2 : w.heap.size + 1 < wr.heap.size := by omega
      have hlt3 : w.heap.size + 1 + 1 < wr.heap.size := by omega
      have hlt4 : w.heap.size + 1 + 1 ≠ wr.heap.size := by omega
      by_cases h1 : (⟨ad, ap⟩ : Pt) = ⟨d, q⟩
      · have HV2 := Lib.hid (HA.out h1)
        rw [decide_eq_true h1.symm] at q1
        unfold ptA at q1
        dsimp only at q1
        clear HA HB HC h1 q2 HK
        have y0 := (R1.cell 0).trans rfl; have y1 := (R1.cell 1).trans rfl; have z0 := R1.frozen 0; have z1 := R1.frozen 1
        go_wp2
        have Z := ((R1.set0 0 (.int .i64 bd)).set0 1 (.int .i64 bp)).alloc (.cells #[.int .i64 ad, .int .i64 ap, .int .i64 bd, .int .i64 bp] 75)
        have Y0 := Z.cell 0
        have Y1 := Z.cell 1
        refine bodyPost_ret (v := .tuple #[.agg #[.int .i64 bd, .int .i64 bp], .bool true]) ?_ rfl ⟨by rw [HV2.out]; rfl, ((bw1.setCell (p := ⟨w.heap.size + 1 + 1, 0, none⟩) (by show w.heap.size ≤ w.heap.size + 1 + 1; omega) _).setCell (p := ⟨w.heap.size + 1 + 1, 1, none⟩) (by show w.heap.size ≤ w.heap.size + 1 + 1; omega) _).alloc (by simp; omega) _⟩
        simp at Y0 Y1
        simp [results, Try.results69, go_sem, Y0, Y1]
      · rw [decide_eq_false (fun e => h1 e.symm)] at q1
        unfold ptA at q1 
        dsimp only at q1
        by_cases h2 : (⟨bd, bp⟩ : Pt) = ⟨d, q⟩
        · have HV2 := Lib.hid (HB.out h1 h2)
          rw [decide_eq_true h2.symm] at q2
          unfold ptA at q2
          dsimp only at q2
          clear HA HB HC h1 h2 HK
          have y0 := (R1.cell 0).trans rfl; have y1 := (R1.cell 1).trans rfl; have z0 := R1.frozen 0; have z1 := R1.frozen 1
          go_wp2
          have Z := ((R1.set0 0 (.int .i64 ad)).set0 1 (.int .i64 ap)).alloc (.cells #[.int .i64 ad, .int .i64 ap, .int .i64 bd, .int .i64 bp] 75)
          have Y0 := Z.cell 0
          have Y1 := Z.cell 1
          refine bodyPost_ret (v := .tuple #[.agg #[.int .i64 ad, .int .i64 ap], .bool true]) ?_ rfl ⟨by rw [HV2.out]; rfl, ((bw1.setCell (p := ⟨w.heap.size + 1 + 1, 0, none⟩) (by show w.heap.size ≤ w.heap.size + 1 + 1; omega) _).setCell (p := ⟨w.heap.size + 1 + 1, 1, none⟩) (by show w.heap.size ≤ w.heap.size + 1 + 1; omega) _).alloc (by simp; omega) _⟩
          simp at Y0 Y1
          simp [results, Try.results69, go_sem, Y0, Y1]
        · have HV2 := Lib.hid (HC.out h1 h2)
          rw [decide_eq_false (fun e => h2 e.symm)] at q2
          unfold ptA at q2
          dsimp only at q2
          clear HA HB HC h1 h2 HK
          go_wp2
          go_roundw
          case rel => exact ⟨k + 1, by go_num, by omega, HV2, hb2⟩
          case measure => simp [intOf]; omega
    · have HV2 : Hid (V = none) := Lib.hid (by rw [HK.out, List.drop_eq_nil_of_le (by omega)]; rfl)
      have hki : ¬ (k : Int) < (ls.length : Int) := by omega
      clear HK
      have bw1 := b0.trans (hb.mono b0.size)
      have y0 := (R1.cell 0).trans rfl; have y1 := (R1.cell 1).trans rfl; have z0 := R1.frozen 0; have z1 := R1.frozen 1
      go_wp2
      have Z := (R1.set0 0 (.int .i64 0)).set0 1 (.int .i64 0)
      have Y0 := Z.cell 0
      have Y1 := Z.cell 1
      refine bodyPost_ret (v := .tuple #[.agg #[.int .i64 0, .int .i64 0], .bool false]) ?_ rfl ⟨by rw [HV2.out]; rfl, (bw1.setCell (p := ⟨w.heap.size + 1 + 1, 0, none⟩) (by show w.heap.size ≤ w.heap.size + 1 + 1; omega) _).setCell (p := ⟨w.heap.size + 1 + 1, 1, none⟩) (by show w.heap.size ≤ w.heap.size + 1 + 1; omega) _⟩
      simp at Y0 Y1
      simp [results, Try.results69, go_sem, Y0, Y1]
end Go.Proofs.Ytlhfaildeemngaa
/- Contracts: the program's Right, Step, Same. -/
namespace Go.Proofs.Ytlhfaildeemngaa
open Go.RowKit Go.Shelf

set_option maxRecDepth 100000 in
set_option maxHeartbeats 1000000 in
/-- Right, of any network. -/
theorem fright_any {vp vl vr : Value} (ps : List Int) (ls : List Lk) (L : List Ru) (w : World) (hW : NW ps ls L) (h : IsN w vp vl vr ps ls L) : Calls Try.prog 19 #[.agg #[vp, vl, vr]] w fun e w' => e = .returned (.bool (rightN ps ls L)) ∧ Below w.heap.size w w' := by
  have HN : Hid (∀ u, Below w.heap.size w u → IsN u vp vl vr ps ls L) := Lib.hid fun u hu => h.belows hu
  have HW := Lib.hid hW
  obtain ⟨⟨⟨A1, c1, rfl, _⟩, ⟨A2, c2, rfl, _⟩⟩, ⟨A3, c3, rfl, _⟩⟩ := h
  have D0 := At.new w #[.slice A1 ps.length c1, .slice A2 ls.length c2, .slice A3 L.length c3] 28
  have b0 : Below w.heap.size w (w.alloc (.cells #[.slice A1 ps.length c1, .slice A2 ls.length c2, .slice A3 L.length c3] 28)) := (Below.refl _ w).alloc (Nat.le_refl _) _
  obtain ⟨V, hV⟩ : ∃ V, V = rightN ps ls L := ⟨_, rfl⟩
  rw [← hV]
  have HV := Lib.hid hV
  clear hV hW
  go_enter Try.func19, Try.ntmps19
  go_upto_region 1 with (fail)
  obtain ⟨w0, hw0⟩ : ∃ w0, w0 = w.alloc (.cells #[.slice A1 ps.length c1, .slice A2 ls.length c2, .slice A3 L.length c3] 28) := ⟨_, rfl⟩
  rw [← hw0] at D0 b0 ⊢
  clear hw0
  have k1 := right_any ps ls w0 HW.out.topo (HN.out w0 b0).1
  have x0 := (D0.cell 0).trans rfl
  have x1 := (D0.cell 1).trans rfl
  cases h1 : rightT ps ls with
  | false =>
    have HF : Hid (V = false) := Lib.hid (by rw [HV.out, rightN, h1]; rfl)
    rw [h1] at k1
    clear h1
    go_wp2_with fail
    refine k1.mono ?_
    rintro e w1 ⟨rfl, b1⟩
    go_wp2
    go_ret
    exact ⟨by first | (rw [HF.out]; done) | (rw [HF.out]; rfl), b0.trans (b1.mono b0.size)⟩
  | true =>
    have HR := Lib.hid ((rightT_iff _ _).1 h1)
    rw [h1] at k1
    go_wp2_with fail
    refine k1.mono ?_
    rintro e w1 ⟨rfl, b1⟩
    have bw1 := b0.trans (b1.mono b0.size)
    have D1 := D0.belows b1
    have k2 := all_any L w1 (HN.out w1 bw1).2
    clear x0 x1 k1
    have x2 := (D1.cell 2).trans rfl
    cases h2 : allB L with
    | false =>
      have HF : Hid (V = false) := Lib.hid (by rw [HV.out, rightN, h1, h2]; rfl)
      rw [h2] at k2
      clear h1 h2
      go_wp2_with fail
      refine k2.mono ?_
      rintro e w2 ⟨rfl, b2⟩
      go_wp2
      go_ret
      exact ⟨by first | (rw [HF.out]; done) | (rw [HF.out]; rfl), bw1.trans (b2.mono bw1.size)⟩
    | true =>
      have HF : Hid (V = fitsT ps L) := Lib.hid (by rw [HV.out, rightN, h1, h2]; rfl)
      have HA := Lib.hid h2
      rw [h2] at k2
      clear h1 h2
      go_wp2_with fail
      refine k2.mono ?_
      rintro e w2 ⟨rfl, b2⟩
      have bw2 := bw1.trans (b2.mono bw1.size)
      have D2 := D1.belows b2
      clear x2 k2
      have x0 := (D2.cell 0).trans rfl
      have x1 := (D2.cell 1).trans rfl
      have x2 := (D2.cell 2).trans rfl
      have k3 := fits_any ps ls L w2 HR.out HA.out (HN.out w2 bw2).1 (HN.out w2 bw2).2
      go_wp2_with fail
      refine k3.mono ?_
      rintro e w3 ⟨rfl, b3⟩
      go_wp2
      go_ret
      exact ⟨by first | (rw [HF.out]; done) | (rw [HF.out]; rfl), bw2.trans (b3.mono bw2.size)⟩
set_option maxRecDepth 100000 in
set_option maxHeartbeats 2000000 in
/-- Step, of any network. -/
theorem fstep_any {vp vl vr : Value} (ps : List Int) (ls : List Lk) (L : List Ru) (d : Int) (a : Nat) (w : World) (h : IsN w vp vl vr ps ls L) : Calls Try.prog 44 #[.agg #[vp, vl, vr], .int .i64 d, .int .u32 a] w fun e w' => e = .returned (stepV (stepN ls L d a)) ∧ Below w.heap.size w w' := by
  have HN : Hid (∀ u, Below w.heap.size w u → IsN u vp vl vr ps ls L) := Lib.hid fun u hu => h.belows hu
  obtain ⟨⟨⟨A1, c1, rfl, _⟩, ⟨A2, c2, rfl, _⟩⟩, ⟨A3, c3, rfl, _⟩⟩ := h
  have D0 := (At.new w #[.slice A1 ps.length c1, .slice A2 ls.length c2, .slice A3 L.length c3] 28).alloc (.cells #[.int .i64 0, .int .i64 0] 68)
  have R0 := At.new1 w (.cells #[.slice A1 ps.length c1, .slice A2 ls.length c2, .slice A3 L.length c3] 28) #[.int .i64 0, .int .i64 0] 68
  have b0 : Below w.heap.size w ((w.alloc (.cells #[.slice A1 ps.length c1, .slice A2 ls.length c2, .slice A3 L.length c3] 28)).alloc (.cells #[.int .i64 0, .int .i64 0] 68)) := ((Below.refl _ w).alloc (Nat.le_refl _) _).alloc (by simp) _
  obtain ⟨V, hV⟩ : ∃ V, V = stepN ls L d a := ⟨_, rfl⟩
  rw [← hV]
  have HV := Lib.hid hV
  clear hV
  go_enter Try.func44, Try.ntmps44
  go_upto_region 1 with (fail)
  obtain ⟨w0, hw0⟩ : ∃ w0, w0 = ((w.alloc (.cells #[.slice A1 ps.length c1, .slice A2 ls.length c2, .slice A3 L.length c3] 28)).alloc (.cells #[.int .i64 0, .int .i64 0] 68)) := ⟨_, rfl⟩
  rw [← hw0] at D0 R0 b0 ⊢
  clear hw0
  have k1 := denies_any L d a w0 (HN.out w0 b0).2
  have x2 := (D0.cell 2).trans rfl
  rw [show ((firstL (tk d 2 3 a) L).isSome && decide (((firstL (tk d 2 3 a) L).getD ru0).kd = 3)) = denB L d a from rfl] at k1
  cases hd : denB L d a with
  | true =>
    have HF : Hid (V = (2, ⟨0, 0⟩)) := Lib.hid (HV.out.trans (stepN_den hd))
    rw [hd] at k1
    clear hd
    go_wp2_with (go_at_call 67; refine k1.mono ?_; rintro e w1 ⟨rfl, b1⟩; have R1 := R0.belows b1; have y0 := (R1.cell 0).trans rfl; have y1 := (R1.cell 1).trans rfl; have z0 := R1.frozen 0; have z1 := R1.frozen 1)
    have Z := (R1.set0 0 (.int .i64 0)).set0 1 (.int .i64 0)
    have Y0 := Z.cell 0
    have Y1 := Z.cell 1
    have bw1 := b0.trans (b1.mono b0.size)
    refine bodyPost_ret (v := .tuple #[.int .i64 2, .agg #[.int .i64 0, .int .i64 0]]) ?_ rfl ⟨by rw [HF.out]; rfl, (bw1.setCell (p := ⟨w.heap.size + 1, 0, none⟩) (by show w.heap.size ≤ w.heap.size + 1; omega) _).setCell (p := ⟨w.heap.size + 1, 1, none⟩) (by show w.heap.size ≤ w.heap.size + 1; omega) _⟩
    simp at Y0 Y1
    simp [results, Try.results44, go_sem, Y0, Y1]
  | false =>
    have HF : Hid (V = goP ls d (firstL (tk d 0 1 a) L)) := Lib.hid (HV.out.trans (stepN_go hd))
    rw [hd] at k1
    clear hd
    obtain ⟨o, ho⟩ : ∃ o, o = firstL (tk d 0 1 a) L := ⟨_, rfl⟩
    rw [← ho] at HF
    have HK2 : Hid (∀ u, Below w.heap.size w u → Calls Try.prog 68 #[.slice A3 L.length c3, .int .i64 d, .int .u32 a] u fun e w' => e = .returned (firstV o) ∧ Below u.heap.size u w') := Lib.hid fun u hu => by rw [ho]; exact match_any L d a u (HN.out u hu).2
    clear ho
    cases o with
    | none =>
      have HF2 : Hid (V = (0, ⟨0, 0⟩)) := Lib.hid HF.out
      rw [show firstV none = .tuple #[.agg (ruA ru0), .bool false] from rfl, rd0] at HK2
      go_wp2_with (first
        | (go_at_call 67; refine k1.mono ?_; rintro e w1 ⟨rfl, b1⟩; have bw1 := b0.trans (b1.mono b0.size); have D1 := D0.belows b1; have R1 := R0.belows b1; have k2 := HK2.out w1 bw1; clear x2; have x2 := (D1.cell 2).trans rfl; have x0 := (D1.cell 0).trans rfl; have x1 := (D1.cell 1).trans rfl)
        | (go_at_call 68; refine k2.mono ?_; rintro e w2 ⟨rfl, b2⟩; have bw2 := bw1.trans (b2.mono bw1.size); have D2 := D1.belows b2; have R2 := R1.belows b2; have hs2 := R2.lt; have hs3 : w.heap.size < w2.heap.size := (by omega); have hs4 : w.heap.size < w2.heap.size + 1 := (by omega); have hs5 : w.heap.size + 1 < w2.heap.size + 1 := (by omega); have y0 := (R2.cell 0).trans rfl; have y1 := (R2.cell 1).trans rfl; have z0 := R2.frozen 0; have z1 := R2.frozen 1))
      have Z := (((R2.set0 0 (.int .i64 0)).set0 1 (.int .i64 0)).alloc (.cells #[.int .i64 0, .int .i64 0, .int .i64 0, .int .i64 0, .int .u32 0, .int .u32 0, .int .i64 0] 50))
      have Y0 := Z.cell 0
      have Y1 := Z.cell 1
      refine bodyPost_ret (v := .tuple #[.int .i64 0, .agg #[.int .i64 0, .int .i64 0]]) ?_ rfl ⟨by rw [HF2.out]; rfl, (((bw2.setCell (p := ⟨w.heap.size + 1, 0, none⟩) (by show w.heap.size ≤ w.heap.size + 1; omega) _).setCell (p := ⟨w.heap.size + 1, 1, none⟩) (by show w.heap.size ≤ w.heap.size + 1; omega) _).alloc (by have := bw2.size; simp; omega) _)⟩
      simp at Y0 Y1
      simp [results, Try.results44, go_sem, Y0, Y1]
    | some r =>
      obtain ⟨id, dv, pr, kd, rf, rt, pt⟩ := r
      rw [show firstV (some ⟨id, dv, pr, kd, rf, rt, pt⟩) = .tuple #[.agg #[.int .i64 id, .int .i64 dv, .int .i64 pr, .int .i64 kd, .int .u32 rf, .int .u32 rt, .int .i64 pt], .bool true] from rfl] at HK2
      by_cases hkd : kd = 1
      · have HF2 : Hid (V = (1, ⟨0, 0⟩)) := Lib.hid (HF.out.trans (goP_drop hkd))
        subst hkd
        go_wp2_with (first
          | (go_at_call 67; refine k1.mono ?_; rintro e w1 ⟨rfl, b1⟩; have bw1 := b0.trans (b1.mono b0.size); have D1 := D0.belows b1; have R1 := R0.belows b1; have k2 := HK2.out w1 bw1; clear x2; have x2 := (D1.cell 2).trans rfl; have x0 := (D1.cell 0).trans rfl; have x1 := (D1.cell 1).trans rfl)
          | (go_at_call 68; refine k2.mono ?_; rintro e w2 ⟨rfl, b2⟩; have bw2 := bw1.trans (b2.mono bw1.size); have D2 := D1.belows b2; have R2 := R1.belows b2; have hs2 := R2.lt; have hs3 : w.heap.size < w2.heap.size := (by omega); have hs4 : w.heap.size < w2.heap.size + 1 := (by omega); have hs5 : w.heap.size + 1 < w2.heap.size + 1 := (by omega); have y0 := (R2.cell 0).trans rfl; have y1 := (R2.cell 1).trans rfl; have z0 := R2.frozen 0; have z1 := R2.frozen 1))
        have Z := (((R2.set0 0 (.int .i64 0)).set0 1 (.int .i64 0)).alloc (.cells #[.int .i64 id, .int .i64 dv, .int .i64 pr, .int .i64 1, .int .u32 rf, .int .u32 rt, .int .i64 pt] 50))
        have Y0 := Z.cell 0
        have Y1 := Z.cell 1
        refine bodyPost_ret (v := .tuple #[.int .i64 1, .agg #[.int .i64 0, .int .i64 0]]) ?_ rfl ⟨by rw [HF2.out]; rfl, (((bw2.setCell (p := ⟨w.heap.size + 1, 0, none⟩) (by show w.heap.size ≤ w.heap.size + 1; omega) _).setCell (p := ⟨w.heap.size + 1, 1, none⟩) (by show w.heap.size ≤ w.heap.size + 1; omega) _).alloc (by have := bw2.size; simp; omega) _)⟩
        simp at Y0 Y1
        simp [results, Try.results44, go_sem, Y0, Y1]
      · have hk1 : (kd == 1) = false := by simp [hkd]
        have hk2 : decide (kd = 1) = false := by simp [hkd]
        have HNX : Hid (∀ u, Below w.heap.size w u → Calls Try.prog 69 #[.agg #[.slice A1 ps.length c1, .slice A2 ls.length c2], .agg #[.int .i64 d, .int .i64 pt]] u fun e w' => e = .returned (nextV (nextT ls ⟨d, pt⟩)) ∧ Below u.heap.size u w') := Lib.hid fun u hu => next_any ps ls ⟨d, pt⟩ u (HN.out u hu).1
        cases hn : nextT ls ⟨d, pt⟩ with
        | none =>
          have HF2 : Hid (V = (3, ⟨d, pt⟩)) := Lib.hid (HF.out.trans (goP_out hkd hn))
          rw [hn, show nextV none = .tuple #[.agg #[.int .i64 0, .int .i64 0], .bool false] from rfl] at HNX
          clear hn hkd HF
          go_upto_region 11 with (first
            | (go_at_call 67; refine k1.mono ?_; rintro e w1 ⟨rfl, b1⟩; have bw1 := b0.trans (b1.mono b0.size); have D1 := D0.belows b1; have R1 := R0.belows b1; have k2 := HK2.out w1 bw1; clear x2; have x2 := (D1.cell 2).trans rfl; have x0 := (D1.cell 0).trans rfl; have x1 := (D1.cell 1).trans rfl)
            | (go_at_call 68; refine k2.mono ?_; rintro e w2 ⟨rfl, b2⟩; have bw2 := bw1.trans (b2.mono bw1.size); have D2 := D1.belows b2; have R2 := R1.belows b2; have hs2 := R2.lt; have hs3 : w.heap.size < w2.heap.size := (by omega); have hs4 : w.heap.size < w2.heap.size + 1 := (by omega); have hs5 : w.heap.size + 1 < w2.heap.size + 1 := (by omega); have P4 := At.new1 w2 (.cells #[.int .i64 id, .int .i64 dv, .int .i64 pr, .int .i64 kd, .int .u32 rf, .int .u32 rt, .int .i64 pt] 50) #[.int .i64 d, .int .i64 pt] 68; have R4 := (R2.alloc (.cells #[.int .i64 id, .int .i64 dv, .int .i64 pr, .int .i64 kd, .int .u32 rf, .int .u32 rt, .int .i64 pt] 50)).alloc (.cells #[.int .i64 d, .int .i64 pt] 68); have D4 := (D2.alloc (.cells #[.int .i64 id, .int .i64 dv, .int .i64 pr, .int .i64 kd, .int .u32 rf, .int .u32 rt, .int .i64 pt] 50)).alloc (.cells #[.int .i64 d, .int .i64 pt] 68); have bw4 : Below w.heap.size w ((w2.alloc (.cells #[.int .i64 id, .int .i64 dv, .int .i64 pr, .int .i64 kd, .int .u32 rf, .int .u32 rt, .int .i64 pt] 50)).alloc (.cells #[.int .i64 d, .int .i64 pt] 68)) := (bw2.alloc bw2.size _).alloc (by have := bw2.size; simp; omega) _; clear x0 x1; have x0 := (D2.cell 0).trans rfl; have x1 := (D2.cell 1).trans rfl)
            | (go_at_call 69; refine (HNX.out _ bw4).mono ?_; rintro e w5 ⟨rfl, b5⟩; have bw5 := bw4.trans (b5.mono bw4.size); have P5 := P4.belows b5; have R5 := R4.belows b5; have p0 := (P5.cell 0).trans rfl; have p1 := (P5.cell 1).trans rfl; have y0 := (R5.cell 0).trans rfl; have y1 := (R5.cell 1).trans rfl; have z0 := R5.frozen 0; have z1 := R5.frozen 1))
          obtain ⟨w6, hw6⟩ : ∃ w6, w6 = w5.alloc (.cells #[.int .i64 0, .int .i64 0] 68) := ⟨_, rfl⟩
          have P6 := P5.alloc (.cells #[.int .i64 0, .int .i64 0] 68)
          have R6 := R5.alloc (.cells #[.int .i64 0, .int .i64 0] 68)
          have bw6 := bw5.alloc bw5.size (.cells #[.int .i64 0, .int .i64 0] 68)
          rw [← hw6] at P6 R6 bw6 ⊢
          clear hw6 p0 p1 y0 y1 z0 z1 k1 k2 x0 x1 x2 HNX HK2 HN
          have p0 := (P6.cell 0).trans rfl; have p1 := (P6.cell 1).trans rfl
          have p0d : ({ heap := w6.heap, tape := w6.tape, drawn := w6.drawn + 1, os := w6.os, output := w6.output } : World).cell? ⟨w2.heap.size + 1, 0, none⟩ = some (.int .i64 d) := p0
          have p1d : ({ heap := w6.heap, tape := w6.tape, drawn := w6.drawn + 1, os := w6.os, output := w6.output } : World).cell? ⟨w2.heap.size + 1, 1, none⟩ = some (.int .i64 pt) := p1
          go_still_tail 2, (by kernel_rfl)
          clear p0d p1d p0 p1
          change wpList _ _ _ _ _ w6.drew
          have R7 := R6.drew
          have bw7 := bdrewN bw6 1
          change At w6.drew _ _ _ at R7
          change Below _ _ w6.drew at bw7
          generalize w6.drew = w7 at R7 bw7 ⊢
          have y0 := (R7.cell 0).trans rfl; have y1 := (R7.cell 1).trans rfl; have z0 := R7.frozen 0; have z1 := R7.frozen 1
          go_wp2
          have Z := (R7.set0 0 (.int .i64 d)).set0 1 (.int .i64 pt)
          have Y0 := Z.cell 0
          have Y1 := Z.cell 1
          refine bodyPost_ret (v := .tuple #[.int .i64 3, .agg #[.int .i64 d, .int .i64 pt]]) ?_ rfl ⟨by rw [HF2.out]; rfl, (bw7.setCell (p := ⟨w.heap.size + 1, 0, none⟩) (by show w.heap.size ≤ w.heap.size + 1; omega) _).setCell (p := ⟨w.heap.size + 1, 1, none⟩) (by show w.heap.size ≤ w.heap.size + 1; omega) _⟩
          simp at Y0 Y1
          simp [results, Try.results44, go_sem, Y0, Y1]
        | some q =>
          have HF2 : Hid (V = (4, ⟨d, pt⟩)) := Lib.hid (HF.out.trans (goP_on hkd hn))
          obtain ⟨qd, qp⟩ := q
          rw [hn, show nextV (some ⟨qd, qp⟩) = .tuple #[.agg #[.int .i64 qd, .int .i64 qp], .bool true] from rfl] at HNX
          clear hn hkd HF
          go_upto_region 12 with (first
            | (go_at_call 67; refine k1.mono ?_; rintro e w1 ⟨rfl, b1⟩; have bw1 := b0.trans (b1.mono b0.size); have D1 := D0.belows b1; have R1 := R0.belows b1; have k2 := HK2.out w1 bw1; clear x2; have x2 := (D1.cell 2).trans rfl; have x0 := (D1.cell 0).trans rfl; have x1 := (D1.cell 1).trans rfl)
            | (go_at_call 68; refine k2.mono ?_; rintro e w2 ⟨rfl, b2⟩; have bw2 := bw1.trans (b2.mono bw1.size); have D2 := D1.belows b2; have R2 := R1.belows b2; have hs2 := R2.lt; have hs3 : w.heap.size < w2.heap.size := (by omega); have hs4 : w.heap.size < w2.heap.size + 1 := (by omega); have hs5 : w.heap.size + 1 < w2.heap.size + 1 := (by omega); have P4 := At.new1 w2 (.cells #[.int .i64 id, .int .i64 dv, .int .i64 pr, .int .i64 kd, .int .u32 rf, .int .u32 rt, .int .i64 pt] 50) #[.int .i64 d, .int .i64 pt] 68; have R4 := (R2.alloc (.cells #[.int .i64 id, .int .i64 dv, .int .i64 pr, .int .i64 kd, .int .u32 rf, .int .u32 rt, .int .i64 pt] 50)).alloc (.cells #[.int .i64 d, .int .i64 pt] 68); have D4 := (D2.alloc (.cells #[.int .i64 id, .int .i64 dv, .int .i64 pr, .int .i64 kd, .int .u32 rf, .int .u32 rt, .int .i64 pt] 50)).alloc (.cells #[.int .i64 d, .int .i64 pt] 68); have bw4 : Below w.heap.size w ((w2.alloc (.cells #[.int .i64 id, .int .i64 dv, .int .i64 pr, .int .i64 kd, .int .u32 rf, .int .u32 rt, .int .i64 pt] 50)).alloc (.cells #[.int .i64 d, .int .i64 pt] 68)) := (bw2.alloc bw2.size _).alloc (by have := bw2.size; simp; omega) _; clear x0 x1; have x0 := (D2.cell 0).trans rfl; have x1 := (D2.cell 1).trans rfl)
            | (go_at_call 69; refine (HNX.out _ bw4).mono ?_; rintro e w5 ⟨rfl, b5⟩; have bw5 := bw4.trans (b5.mono bw4.size); have P5 := P4.belows b5; have R5 := R4.belows b5; have p0 := (P5.cell 0).trans rfl; have p1 := (P5.cell 1).trans rfl; have y0 := (R5.cell 0).trans rfl; have y1 := (R5.cell 1).trans rfl; have z0 := R5.frozen 0; have z1 := R5.frozen 1))
          obtain ⟨w6, hw6⟩ : ∃ w6, w6 = w5.alloc (.cells #[.int .i64 qd, .int .i64 qp] 68) := ⟨_, rfl⟩
          have P6 := P5.alloc (.cells #[.int .i64 qd, .int .i64 qp] 68)
          have R6 := R5.alloc (.cells #[.int .i64 qd, .int .i64 qp] 68)
          have bw6 := bw5.alloc bw5.size (.cells #[.int .i64 qd, .int .i64 qp] 68)
          rw [← hw6] at P6 R6 bw6 ⊢
          clear hw6 p0 p1 y0 y1 z0 z1 k1 k2 x0 x1 x2 HNX HK2 HN
          have p0 := (P6.cell 0).trans rfl; have p1 := (P6.cell 1).trans rfl
          have p0d : ({ heap := w6.heap, tape := w6.tape, drawn := w6.drawn + 1, os := w6.os, output := w6.output } : World).cell? ⟨w2.heap.size + 1, 0, none⟩ = some (.int .i64 d) := p0
          have p1d : ({ heap := w6.heap, tape := w6.tape, drawn := w6.drawn + 1, os := w6.os, output := w6.output } : World).cell? ⟨w2.heap.size + 1, 1, none⟩ = some (.int .i64 pt) := p1
          go_still_tail 2, (by kernel_rfl)
          clear p0d p1d p0 p1
          change wpList _ _ _ _ _ w6.drew
          have R7 := R6.drew
          have bw7 := bdrewN bw6 1
          change At w6.drew _ _ _ at R7
          change Below _ _ w6.drew at bw7
          generalize w6.drew = w7 at R7 bw7 ⊢
          have y0 := (R7.cell 0).trans rfl; have y1 := (R7.cell 1).trans rfl; have z0 := R7.frozen 0; have z1 := R7.frozen 1
          go_wp2
          have Z := (R7.set0 0 (.int .i64 d)).set0 1 (.int .i64 pt)
          have Y0 := Z.cell 0
          have Y1 := Z.cell 1
          refine bodyPost_ret (v := .tuple #[.int .i64 4, .agg #[.int .i64 d, .int .i64 pt]]) ?_ rfl ⟨by rw [HF2.out]; rfl, (bw7.setCell (p := ⟨w.heap.size + 1, 0, none⟩) (by show w.heap.size ≤ w.heap.size + 1; omega) _).setCell (p := ⟨w.heap.size + 1, 1, none⟩) (by show w.heap.size ≤ w.heap.size + 1; omega) _⟩
          simp at Y0 Y1
          simp [results, Try.results44, go_sem, Y0, Y1]
end Go.Proofs.Ytlhfaildeemngaa
/- Contracts of a table: Of, Atom, Within. -/
namespace Go.Proofs.Ytlhfaildeemngaa.Tr
open Go.RowKit Go.Shelf

set_option maxRecDepth 100000 in
set_option maxHeartbeats 1000000 in
theorem atom_no {v : Value} (L : List (Nat × Nat)) (i : Int) (w : World) (h : IsTab0 w v L) (hi : ¬ (0 ≤ i ∧ i < (bnds L).length)) : Calls Try.prog 27 #[v, .int .i64 i] w fun e w' => e = .returned (.tuple #[.agg #[.int .u32 0, .int .u32 0], .bool false]) ∧ Below w.heap.size w w' := by
  have A0 := At.new w #[.int .u32 0, .int .u32 0] 43
  have b0 : Below w.heap.size w (w.alloc (.cells #[.int .u32 0, .int .u32 0] 43)) := (Below.refl _ w).alloc (Nat.le_refl _) _
  have hs := some_any L _ (h.belows b0)
  obtain ⟨p, rfl⟩ := h.ptr
  go_enter Try.func27, Try.ntmps27
  go_wp2_with fail
  refine hs.mono ?_
  rintro e w1 ⟨v1, rfl, t1, b1⟩
  have hlen := len5_any L w1 t1.any
  obtain ⟨B, rfl⟩ := t1.ptr
  have A1 := A0.belows b1
  have bb1 := b0.trans (b1.mono b0.size)
  clear hs A0 t1 b0 b1
  generalize (bnds L).length = n at *
  by_cases h0 : i < 0
  · have A2 := (A1.set0 0 (.int .u32 0)).set0 1 (.int .u32 0)
    have f0 := A1.frozen 0
    have f1 := A1.frozen 1
    have e0 := (A1.cell 0).trans rfl
    have e1 := (A1.cell 1).trans rfl
    go_wp2
    refine bodyPost_ret (v := .tuple #[.agg #[.int .u32 0, .int .u32 0], .bool false]) (by simp [results, Try.results27, go_sem, A2.cell 0, A2.cell 1]) rfl ⟨rfl, ?_⟩
    exact (bb1.setCell (p := ⟨w.heap.size, 0, none⟩) (Nat.le_refl _) _).setCell (p := ⟨w.heap.size, 1, none⟩) (Nat.le_refl _) _
  · have h1 : (n : Int) ≤ i := by omega
    clear hi
    go_wp2_with fail
    refine hlen.mono ?_
    rintro e w2 ⟨rfl, b2⟩
    have A1 := A1.belows b2
    have A2 := (A1.set0 0 (.int .u32 0)).set0 1 (.int .u32 0)
    have f0 := A1.frozen 0
    have f1 := A1.frozen 1
    have e0 := (A1.cell 0).trans rfl
    have e1 := (A1.cell 1).trans rfl
    have bb2 := bb1.trans (b2.mono bb1.size)
    clear hlen b2 bb1
    go_wp2
    refine bodyPost_ret (v := .tuple #[.agg #[.int .u32 0, .int .u32 0], .bool false]) (by simp [results, Try.results27, go_sem, A2.cell 0, A2.cell 1]) rfl ⟨rfl, ?_⟩
    exact (bb2.setCell (p := ⟨w.heap.size, 0, none⟩) (Nat.le_refl _) _).setCell (p := ⟨w.heap.size, 1, none⟩) (Nat.le_refl _) _
end Go.Proofs.Ytlhfaildeemngaa.Tr
/- Contract: Atom, way 1. -/
namespace Go.Proofs.Ytlhfaildeemngaa.Tr
open Go.RowKit Go.Shelf

set_option maxRecDepth 100000 in
set_option maxHeartbeats 4000000 in
theorem atom_ok1 {v : Value} (L : List (Nat × Nat)) (i0 : Nat) (w : World) (h : IsTab0 w v L) (hi : i0 < (bnds L).length) (h0 : i0 = 0) (h9 : i0 + 1 = (bnds L).length) : Calls Try.prog 27 #[v, .int .i64 (i0 : Int)] w fun e w' => e = .returned (.tuple #[.agg #[.int .u32 (frm (bnds L) i0 : Nat), .int .u32 (too (bnds L) i0 : Nat)], .bool true]) ∧ Below w.heap.size w w' := by
  have hlast := h9
  subst h0
  clear h9
  have HLAST0 := Lib.hid hlast
  clear hlast
  have A0 := At.new w #[.int .u32 0, .int .u32 0] 43
  have b0 : Below w.heap.size w (w.alloc (.cells #[.int .u32 0, .int .u32 0] 43)) := (Below.refl _ w).alloc (Nat.le_refl _) _
  have hs := some_any L _ (h.belows b0)
  obtain ⟨p, rfl⟩ := h.ptr
  go_enter Try.func27, Try.ntmps27
  go_wp2_with fail
  refine hs.mono ?_
  rintro e w1 ⟨v1, rfl, t1, b1⟩
  have hlen := len5_any L w1 t1.any
  obtain ⟨hL, B, vr, vc, R, C, rfl, hB, ir, ic, tr, tc⟩ := t1
  obtain ⟨pc, rfl⟩ := ic.ptr
  have A1 := A0.belows b1
  have bb1 := b0.trans (b1.mono b0.size)
  have hbl := bnds_len hL tc
  have hcl := ic.up.2
  have hat := at_of hL tc
  have hbd := bd_of L
  have hfr := hbd.frm_le hi
  have HX : Hid ((∀ j, j + 1 < (bnds L).length → frm (bnds L) (j + 1) = too (bnds L) j + 1) ∧ (0 + 1 = (bnds L).length → too (bnds L) 0 = 4294967295) ∧ (True → frm (bnds L) 0 = 0)) := Lib.hid ⟨fun j hj => hbd.next hj, fun hj => hbd.last hj, fun _ => by rw [frm_in hbd.pos]; exact hbd.zero⟩
  have HAT := Lib.hid hat
  have hs0 : w.heap.size < w1.heap.size := A1.lt
  clear hs A0 b0 b1 ir tr tc hL hbd hat
  obtain ⟨n, hn⟩ : ∃ n, (bnds L).length = n := ⟨_, rfl⟩
  rw [hn] at hlen hi hbl HX HLAST0
  go_wp2_with fail
  refine hlen.mono ?_
  rintro e w2 ⟨rfl, b2⟩
  have A2 := A1.belows b2
  have hB2 := hB.belows b2
  have ic2 := ic.belows b2
  have bb2 := bb1.trans (b2.mono bb1.size)
  have c1 := (hB2.cell 1).trans rfl
  have hs2 : w.heap.size < w2.heap.size := A2.lt
  have hsB : B < w2.heap.size := hB2.lt
  clear hlen A1 hB ic bb1 b2 hs0
  have D2 := At.new w2 #[.int .u32 0, .int .u32 4294967295] 43
  have b2' : Below w2.heap.size w2 (w2.alloc (.cells #[.int .u32 0, .int .u32 4294967295] 43)) := (Below.refl _ w2).alloc (Nat.le_refl _) _
  have HLAST := HLAST0
  clear HLAST0 hn
  go_wp2_with fail
  obtain ⟨W2, hW2⟩ : ∃ W2, w2.alloc (.cells #[.int .u32 0, .int .u32 4294967295] 43) = W2 := ⟨_, rfl⟩
  rw [hW2] at D2 b2' ⊢
  clear hW2
  have hfr0 : frm (bnds L) 0 = 0 := HX.out.2.2 trivial
  have hc1 : Calls Try.prog 49 #[.pointer pc, .int .i64 (-1)] W2 fun e w' => e = .returned (.tuple #[.agg #[.int .u64 0, .int .i64 0], .bool false]) ∧ Below W2.heap.size W2 w' := At_any C (-1) W2 (ic2.belows b2') (by omega) (by omega)
  refine hc1.mono ?_
  rintro e w3 ⟨rfl, b3⟩
  have b3' := (b2'.trans (b3.mono b2'.size)).alloc (b2'.trans (b3.mono b2'.size)).size (.cells #[.int .u64 0, .int .i64 0] 92)
  have D3 := (D2.belows b3).alloc (.cells #[.int .u64 0, .int .i64 0] 92)
  have c3 := ((hB2.belows b3').cell 1).trans rfl
  clear hc1 b3 D2 b2' c1
  go_wp2_with fail
  obtain ⟨W3, hW3⟩ : ∃ W3, (w3.alloc (.cells #[.int .u64 0, .int .i64 0] 92)) = W3 := ⟨_, rfl⟩
  rw [hW3] at b3' D3 c3 ⊢
  clear hW3
  have h5 : C.length ≤ 0 := by have := HLAST.out; omega
  have ho : atL C ((0 : Nat) : Int) = none := by unfold atL; rw [if_pos (by omega), Int.toNat_natCast]; exact List.getElem?_eq_none h5
  clear h5
  have htoo : too (bnds L) (0) = 4294967295 := HX.out.2.1 HLAST.out
  have hc2 := At_any C ((0 : Nat) : Int) W3 (ic2.belows b3') (by omega) (by omega)
  rw [ho] at hc2
  simp only [toldV] at hc2
  clear ho
  refine hc2.mono ?_
  rintro e w4 ⟨rfl, b4⟩
  have b4 : Below W3.heap.size W3 w4 := b4
  have b4' := (b3'.trans (b4.mono b3'.size)).alloc (b3'.trans (b4.mono b3'.size)).size (.cells #[.int .u64 0, .int .i64 0] 92)
  have D4 := (D3.belows b4).alloc (.cells #[.int .u64 0, .int .i64 0] 92)
  have z0 := (D4.cell 0).trans rfl
  have z1 := (D4.cell 1).trans rfl
  have A4 := A2.belows b4'
  have q0 := (A4.cell 0).trans rfl
  have q1 := (A4.cell 1).trans rfl
  have p0 := A4.frozen 0
  have p1 := A4.frozen 1
  have A5 := (A4.set0 0 (.int .u32 0)).set0 1 (.int .u32 4294967295)
  have bw := bb2.trans (b4'.mono bb2.size)
  clear hc2 b4 D3 b3' c3
  go_wp2
  refine bodyPost_ret (v := .tuple #[.agg #[.int .u32 0, .int .u32 4294967295], .bool true]) (by simp [results, Try.results27, go_sem, A5.cell 0, A5.cell 1]) rfl ⟨?_, ?_⟩
  · rw [hfr0, htoo]; rfl
  · exact (bw.setCell (p := ⟨w.heap.size, 0, none⟩) (Nat.le_refl _) _).setCell (p := ⟨w.heap.size, 1, none⟩) (Nat.le_refl _) _
end Go.Proofs.Ytlhfaildeemngaa.Tr
/- Contract: Atom, way 2. -/
namespace Go.Proofs.Ytlhfaildeemngaa.Tr
open Go.RowKit Go.Shelf

set_option maxRecDepth 100000 in
set_option maxHeartbeats 4000000 in
theorem atom_ok2 {v : Value} (L : List (Nat × Nat)) (i0 : Nat) (w : World) (h : IsTab0 w v L) (hi : i0 < (bnds L).length) (h0 : i0 = 0) (h9 : ¬ i0 + 1 = (bnds L).length) : Calls Try.prog 27 #[v, .int .i64 (i0 : Int)] w fun e w' => e = .returned (.tuple #[.agg #[.int .u32 (frm (bnds L) i0 : Nat), .int .u32 (too (bnds L) i0 : Nat)], .bool true]) ∧ Below w.heap.size w w' := by
  have hlast := h9
  subst h0
  clear h9
  have HLAST0 := Lib.hid hlast
  clear hlast
  have A0 := At.new w #[.int .u32 0, .int .u32 0] 43
  have b0 : Below w.heap.size w (w.alloc (.cells #[.int .u32 0, .int .u32 0] 43)) := (Below.refl _ w).alloc (Nat.le_refl _) _
  have hs := some_any L _ (h.belows b0)
  obtain ⟨p, rfl⟩ := h.ptr
  go_enter Try.func27, Try.ntmps27
  go_wp2_with fail
  refine hs.mono ?_
  rintro e w1 ⟨v1, rfl, t1, b1⟩
  have hlen := len5_any L w1 t1.any
  obtain ⟨hL, B, vr, vc, R, C, rfl, hB, ir, ic, tr, tc⟩ := t1
  obtain ⟨pc, rfl⟩ := ic.ptr
  have A1 := A0.belows b1
  have bb1 := b0.trans (b1.mono b0.size)
  have hbl := bnds_len hL tc
  have hcl := ic.up.2
  have hat := at_of hL tc
  have hbd := bd_of L
  have hfr := hbd.frm_le hi
  have HX : Hid ((∀ j, j + 1 < (bnds L).length → frm (bnds L) (j + 1) = too (bnds L) j + 1) ∧ (0 + 1 = (bnds L).length → too (bnds L) 0 = 4294967295) ∧ (True → frm (bnds L) 0 = 0)) := Lib.hid ⟨fun j hj => hbd.next hj, fun hj => hbd.last hj, fun _ => by rw [frm_in hbd.pos]; exact hbd.zero⟩
  have HAT := Lib.hid hat
  have hs0 : w.heap.size < w1.heap.size := A1.lt
  clear hs A0 b0 b1 ir tr tc hL hbd hat
  obtain ⟨n, hn⟩ : ∃ n, (bnds L).length = n := ⟨_, rfl⟩
  rw [hn] at hlen hi hbl HX HLAST0
  go_wp2_with fail
  refine hlen.mono ?_
  rintro e w2 ⟨rfl, b2⟩
  have A2 := A1.belows b2
  have hB2 := hB.belows b2
  have ic2 := ic.belows b2
  have bb2 := bb1.trans (b2.mono bb1.size)
  have c1 := (hB2.cell 1).trans rfl
  have hs2 : w.heap.size < w2.heap.size := A2.lt
  have hsB : B < w2.heap.size := hB2.lt
  clear hlen A1 hB ic bb1 b2 hs0
  have D2 := At.new w2 #[.int .u32 0, .int .u32 4294967295] 43
  have b2' : Below w2.heap.size w2 (w2.alloc (.cells #[.int .u32 0, .int .u32 4294967295] 43)) := (Below.refl _ w2).alloc (Nat.le_refl _) _
  have HLAST := HLAST0
  clear HLAST0 hn
  go_wp2_with fail
  obtain ⟨W2, hW2⟩ : ∃ W2, w2.alloc (.cells #[.int .u32 0, .int .u32 4294967295] 43) = W2 := ⟨_, rfl⟩
  rw [hW2] at D2 b2' ⊢
  clear hW2
  have hfr0 : frm (bnds L) 0 = 0 := HX.out.2.2 trivial
  have hc1 : Calls Try.prog 49 #[.pointer pc, .int .i64 (-1)] W2 fun e w' => e = .returned (.tuple #[.agg #[.int .u64 0, .int .i64 0], .bool false]) ∧ Below W2.heap.size W2 w' := At_any C (-1) W2 (ic2.belows b2') (by omega) (by omega)
  refine hc1.mono ?_
  rintro e w3 ⟨rfl, b3⟩
  have b3' := (b2'.trans (b3.mono b2'.size)).alloc (b2'.trans (b3.mono b2'.size)).size (.cells #[.int .u64 0, .int .i64 0] 92)
  have D3 := (D2.belows b3).alloc (.cells #[.int .u64 0, .int .i64 0] 92)
  have c3 := ((hB2.belows b3').cell 1).trans rfl
  clear hc1 b3 D2 b2' c1
  go_wp2_with fail
  obtain ⟨W3, hW3⟩ : ∃ W3, (w3.alloc (.cells #[.int .u64 0, .int .i64 0] 92)) = W3 := ⟨_, rfl⟩
  rw [hW3] at b3' D3 c3 ⊢
  clear hW3
  have hlt2 : 0 < C.length := by have := HLAST.out; omega
  obtain ⟨n2, e2, _⟩ := HAT.out (0) hlt2
  have ho : atL C ((0 : Nat) : Int) = some (((frm (bnds L) (0 + 1) : Nat) : Int), n2) := by unfold atL; rw [if_pos (by omega)]; simp [hlt2, e2]
  have hnx : ((frm (bnds L) (0 + 1) : Nat) : Int) = ((too (bnds L) (0) : Nat) : Int) + 1 := by have := HX.out.1 (0) (by omega); omega
  rw [hnx] at ho
  have hc2 := At_any C ((0 : Nat) : Int) W3 (ic2.belows b3') (by omega) (by omega)
  rw [ho] at hc2
  simp only [toldV] at hc2
  clear ho e2 hnx hlt2
  refine hc2.mono ?_
  rintro e w4 ⟨rfl, b4⟩
  have b4 : Below W3.heap.size W3 w4 := b4
  have b4' := (b3'.trans (b4.mono b3'.size)).alloc (b3'.trans (b4.mono b3'.size)).size (.cells #[.int .u64 (((too (bnds L) (0) : Nat) : Int) + 1), .int .i64 n2] 92)
  have D4 := (D3.belows b4).alloc (.cells #[.int .u64 (((too (bnds L) (0) : Nat) : Int) + 1), .int .i64 n2] 92)
  have O4 := At.new w4 #[.int .u64 (((too (bnds L) (0) : Nat) : Int) + 1), .int .i64 n2] 92
  have x4 := (O4.cell 0).trans rfl
  have g4 := D4.frozen 1
  have y4 := (D4.cell 1).trans rfl
  have b4' := b4'.setCell (p := ⟨w2.heap.size, 1, none⟩) (Nat.le_refl _) (.int .u32 ((too (bnds L) (0) : Nat) : Int))
  have D4 := D4.set0 1 (.int .u32 ((too (bnds L) (0) : Nat) : Int))
  have j4 : IntKind.u32.wrap ((too (bnds L) (0) : Nat) : Int) = ((too (bnds L) (0) : Nat) : Int) := IntWalk.u32_in _ (by omega)
  have j7 : (((too (bnds L) (0) : Nat) : Int) + 1) - 1 = ((too (bnds L) (0) : Nat) : Int) := by omega
  have z0 := (D4.cell 0).trans rfl
  have z1 := (D4.cell 1).trans rfl
  have A4 := A2.belows b4'
  have q0 := (A4.cell 0).trans rfl
  have q1 := (A4.cell 1).trans rfl
  have p0 := A4.frozen 0
  have p1 := A4.frozen 1
  have A5 := (A4.set0 0 (.int .u32 0)).set0 1 (.int .u32 ((too (bnds L) (0) : Nat) : Int))
  have bw := bb2.trans (b4'.mono bb2.size)
  clear hc2 b4 D3 b3' c3
  go_wp2
  refine bodyPost_ret (v := .tuple #[.agg #[.int .u32 0, .int .u32 ((too (bnds L) (0) : Nat) : Int)], .bool true]) (by simp [results, Try.results27, go_sem, A5.cell 0, A5.cell 1]) rfl ⟨?_, ?_⟩
  · rw [hfr0]; rfl
  · exact (bw.setCell (p := ⟨w.heap.size, 0, none⟩) (Nat.le_refl _) _).setCell (p := ⟨w.heap.size, 1, none⟩) (Nat.le_refl _) _
end Go.Proofs.Ytlhfaildeemngaa.Tr
/- Contract: Atom, way 3. -/
namespace Go.Proofs.Ytlhfaildeemngaa.Tr
open Go.RowKit Go.Shelf

set_option maxRecDepth 100000 in
set_option maxHeartbeats 4000000 in
theorem atom_ok3 {v : Value} (L : List (Nat × Nat)) (i0 : Nat) (w : World) (h : IsTab0 w v L) (hi : i0 < (bnds L).length) (h0 : i0 ≠ 0) (h9 : i0 + 1 = (bnds L).length) : Calls Try.prog 27 #[v, .int .i64 (i0 : Int)] w fun e w' => e = .returned (.tuple #[.agg #[.int .u32 (frm (bnds L) i0 : Nat), .int .u32 (too (bnds L) i0 : Nat)], .bool true]) ∧ Below w.heap.size w w' := by
  have hlast := h9
  obtain ⟨i, rfl⟩ : ∃ i, i0 = i + 1 := ⟨i0 - 1, by omega⟩
  clear h9
  have HLAST0 := Lib.hid hlast
  clear hlast
  have A0 := At.new w #[.int .u32 0, .int .u32 0] 43
  have b0 : Below w.heap.size w (w.alloc (.cells #[.int .u32 0, .int .u32 0] 43)) := (Below.refl _ w).alloc (Nat.le_refl _) _
  have hs := some_any L _ (h.belows b0)
  obtain ⟨p, rfl⟩ := h.ptr
  go_enter Try.func27, Try.ntmps27
  go_wp2_with fail
  refine hs.mono ?_
  rintro e w1 ⟨v1, rfl, t1, b1⟩
  have hlen := len5_any L w1 t1.any
  obtain ⟨hL, B, vr, vc, R, C, rfl, hB, ir, ic, tr, tc⟩ := t1
  obtain ⟨pc, rfl⟩ := ic.ptr
  have A1 := A0.belows b1
  have bb1 := b0.trans (b1.mono b0.size)
  have hbl := bnds_len hL tc
  have hcl := ic.up.2
  have hat := at_of hL tc
  have hbd := bd_of L
  have hfr := hbd.frm_le hi
  have HX : Hid ((∀ j, j + 1 < (bnds L).length → frm (bnds L) (j + 1) = too (bnds L) j + 1) ∧ (i + 1 + 1 = (bnds L).length → too (bnds L) (i + 1) = 4294967295) ∧ True) := Lib.hid ⟨fun j hj => hbd.next hj, fun hj => hbd.last hj, trivial⟩
  have HAT := Lib.hid hat
  have hs0 : w.heap.size < w1.heap.size := A1.lt
  clear hs A0 b0 b1 ir tr tc hL hbd hat
  obtain ⟨n, hn⟩ : ∃ n, (bnds L).length = n := ⟨_, rfl⟩
  rw [hn] at hlen hi hbl HX HLAST0
  go_wp2_with fail
  refine hlen.mono ?_
  rintro e w2 ⟨rfl, b2⟩
  have A2 := A1.belows b2
  have hB2 := hB.belows b2
  have ic2 := ic.belows b2
  have bb2 := bb1.trans (b2.mono bb1.size)
  have c1 := (hB2.cell 1).trans rfl
  have hs2 : w.heap.size < w2.heap.size := A2.lt
  have hsB : B < w2.heap.size := hB2.lt
  clear hlen A1 hB ic bb1 b2 hs0
  have D2 := At.new w2 #[.int .u32 0, .int .u32 4294967295] 43
  have b2' : Below w2.heap.size w2 (w2.alloc (.cells #[.int .u32 0, .int .u32 4294967295] 43)) := (Below.refl _ w2).alloc (Nat.le_refl _) _
  have HLAST := HLAST0
  clear HLAST0 hn
  go_wp2_with fail
  obtain ⟨W2, hW2⟩ : ∃ W2, w2.alloc (.cells #[.int .u32 0, .int .u32 4294967295] 43) = W2 := ⟨_, rfl⟩
  rw [hW2] at D2 b2' ⊢
  clear hW2
  obtain ⟨n1, e1, _⟩ := HAT.out i (by omega)
  have ho : atL C (i : Int) = some (((frm (bnds L) (i + 1) : Nat) : Int), n1) := by unfold atL; rw [if_pos (by omega)]; simp [show i < C.length by omega, e1]
  have hc1 := At_any C (i : Int) W2 (ic2.belows b2') (by omega) (by omega)
  rw [ho] at hc1
  simp only [toldV] at hc1
  clear ho e1
  refine hc1.mono ?_
  rintro e w3 ⟨rfl, b3⟩
  have b3' := (b2'.trans (b3.mono b2'.size)).alloc (b2'.trans (b3.mono b2'.size)).size (.cells #[.int .u64 ((frm (bnds L) (i + 1) : Nat) : Int), .int .i64 n1] 92)
  have D3 := (D2.belows b3).alloc (.cells #[.int .u64 ((frm (bnds L) (i + 1) : Nat) : Int), .int .i64 n1] 92)
  have O3 := At.new w3 #[.int .u64 ((frm (bnds L) (i + 1) : Nat) : Int), .int .i64 n1] 92
  have x0 := (O3.cell 0).trans rfl
  have g0 := D3.frozen 0
  have y0 := (D3.cell 0).trans rfl
  have b3' := b3'.setCell (p := ⟨w2.heap.size, 0, none⟩) (Nat.le_refl _) (.int .u32 ((frm (bnds L) (i + 1) : Nat) : Int))
  have D3 := D3.set0 0 (.int .u32 ((frm (bnds L) (i + 1) : Nat) : Int))
  have j3 : IntKind.u32.wrap ((frm (bnds L) (i + 1) : Nat) : Int) = ((frm (bnds L) (i + 1) : Nat) : Int) := IntWalk.u32_in _ (by omega)
  have c3 := ((hB2.belows b3').cell 1).trans rfl
  clear hc1 b3 D2 b2' c1
  go_wp2_with fail
  obtain ⟨W3, hW3⟩ : ∃ W3, ((w3.alloc (.cells #[.int .u64 ((frm (bnds L) (i + 1) : Nat) : Int), .int .i64 n1] 92)).setCell ⟨w2.heap.size, 0, none⟩ (.int .u32 ((frm (bnds L) (i + 1) : Nat) : Int))) = W3 := ⟨_, rfl⟩
  rw [hW3] at b3' D3 c3 ⊢
  clear hW3
  clear x0 g0 y0 O3
  have h5 : C.length ≤ i + 1 := by have := HLAST.out; omega
  have ho : atL C ((i + 1 : Nat) : Int) = none := by unfold atL; rw [if_pos (by omega), Int.toNat_natCast]; exact List.getElem?_eq_none h5
  clear h5
  have htoo : too (bnds L) (i + 1) = 4294967295 := HX.out.2.1 HLAST.out
  have hc2 := At_any C ((i + 1 : Nat) : Int) W3 (ic2.belows b3') (by omega) (by omega)
  rw [ho] at hc2
  simp only [toldV] at hc2
  clear ho
  refine hc2.mono ?_
  rintro e w4 ⟨rfl, b4⟩
  have b4 : Below W3.heap.size W3 w4 := b4
  have b4' := (b3'.trans (b4.mono b3'.size)).alloc (b3'.trans (b4.mono b3'.size)).size (.cells #[.int .u64 0, .int .i64 0] 92)
  have D4 := (D3.belows b4).alloc (.cells #[.int .u64 0, .int .i64 0] 92)
  have z0 := (D4.cell 0).trans rfl
  have z1 := (D4.cell 1).trans rfl
  have A4 := A2.belows b4'
  have q0 := (A4.cell 0).trans rfl
  have q1 := (A4.cell 1).trans rfl
  have p0 := A4.frozen 0
  have p1 := A4.frozen 1
  have A5 := (A4.set0 0 (.int .u32 ((frm (bnds L) (i + 1) : Nat) : Int))).set0 1 (.int .u32 4294967295)
  have bw := bb2.trans (b4'.mono bb2.size)
  clear hc2 b4 D3 b3' c3
  go_wp2
  refine bodyPost_ret (v := .tuple #[.agg #[.int .u32 ((frm (bnds L) (i + 1) : Nat) : Int), .int .u32 4294967295], .bool true]) (by simp [results, Try.results27, go_sem, A5.cell 0, A5.cell 1]) rfl ⟨?_, ?_⟩
  · rw [htoo]; rfl
  · exact (bw.setCell (p := ⟨w.heap.size, 0, none⟩) (Nat.le_refl _) _).setCell (p := ⟨w.heap.size, 1, none⟩) (Nat.le_refl _) _
end Go.Proofs.Ytlhfaildeemngaa.Tr
/- Contract: Atom, way 4. -/
namespace Go.Proofs.Ytlhfaildeemngaa.Tr
open Go.RowKit Go.Shelf

set_option maxRecDepth 100000 in
set_option maxHeartbeats 4000000 in
theorem atom_ok4 {v : Value} (L : List (Nat × Nat)) (i0 : Nat) (w : World) (h : IsTab0 w v L) (hi : i0 < (bnds L).length) (h0 : i0 ≠ 0) (h9 : ¬ i0 + 1 = (bnds L).length) : Calls Try.prog 27 #[v, .int .i64 (i0 : Int)] w fun e w' => e = .returned (.tuple #[.agg #[.int .u32 (frm (bnds L) i0 : Nat), .int .u32 (too (bnds L) i0 : Nat)], .bool true]) ∧ Below w.heap.size w w' := by
  have hlast := h9
  obtain ⟨i, rfl⟩ : ∃ i, i0 = i + 1 := ⟨i0 - 1, by omega⟩
  clear h9
  have HLAST0 := Lib.hid hlast
  clear hlast
  have A0 := At.new w #[.int .u32 0, .int .u32 0] 43
  have b0 : Below w.heap.size w (w.alloc (.cells #[.int .u32 0, .int .u32 0] 43)) := (Below.refl _ w).alloc (Nat.le_refl _) _
  have hs := some_any L _ (h.belows b0)
  obtain ⟨p, rfl⟩ := h.ptr
  go_enter Try.func27, Try.ntmps27
  go_wp2_with fail
  refine hs.mono ?_
  rintro e w1 ⟨v1, rfl, t1, b1⟩
  have hlen := len5_any L w1 t1.any
  obtain ⟨hL, B, vr, vc, R, C, rfl, hB, ir, ic, tr, tc⟩ := t1
  obtain ⟨pc, rfl⟩ := ic.ptr
  have A1 := A0.belows b1
  have bb1 := b0.trans (b1.mono b0.size)
  have hbl := bnds_len hL tc
  have hcl := ic.up.2
  have hat := at_of hL tc
  have hbd := bd_of L
  have hfr := hbd.frm_le hi
  have HX : Hid ((∀ j, j + 1 < (bnds L).length → frm (bnds L) (j + 1) = too (bnds L) j + 1) ∧ (i + 1 + 1 = (bnds L).length → too (bnds L) (i + 1) = 4294967295) ∧ True) := Lib.hid ⟨fun j hj => hbd.next hj, fun hj => hbd.last hj, trivial⟩
  have HAT := Lib.hid hat
  have hs0 : w.heap.size < w1.heap.size := A1.lt
  clear hs A0 b0 b1 ir tr tc hL hbd hat
  obtain ⟨n, hn⟩ : ∃ n, (bnds L).length = n := ⟨_, rfl⟩
  rw [hn] at hlen hi hbl HX HLAST0
  go_wp2_with fail
  refine hlen.mono ?_
  rintro e w2 ⟨rfl, b2⟩
  have A2 := A1.belows b2
  have hB2 := hB.belows b2
  have ic2 := ic.belows b2
  have bb2 := bb1.trans (b2.mono bb1.size)
  have c1 := (hB2.cell 1).trans rfl
  have hs2 : w.heap.size < w2.heap.size := A2.lt
  have hsB : B < w2.heap.size := hB2.lt
  clear hlen A1 hB ic bb1 b2 hs0
  have D2 := At.new w2 #[.int .u32 0, .int .u32 4294967295] 43
  have b2' : Below w2.heap.size w2 (w2.alloc (.cells #[.int .u32 0, .int .u32 4294967295] 43)) := (Below.refl _ w2).alloc (Nat.le_refl _) _
  have HLAST := HLAST0
  clear HLAST0 hn
  go_wp2_with fail
  obtain ⟨W2, hW2⟩ : ∃ W2, w2.alloc (.cells #[.int .u32 0, .int .u32 4294967295] 43) = W2 := ⟨_, rfl⟩
  rw [hW2] at D2 b2' ⊢
  clear hW2
  obtain ⟨n1, e1, _⟩ := HAT.out i (by omega)
  have ho : atL C (i : Int) = some (((frm (bnds L) (i + 1) : Nat) : Int), n1) := by unfold atL; rw [if_pos (by omega)]; simp [show i < C.length by omega, e1]
  have hc1 := At_any C (i : Int) W2 (ic2.belows b2') (by omega) (by omega)
  rw [ho] at hc1
  simp only [toldV] at hc1
  clear ho e1
  refine hc1.mono ?_
  rintro e w3 ⟨rfl, b3⟩
  have b3' := (b2'.trans (b3.mono b2'.size)).alloc (b2'.trans (b3.mono b2'.size)).size (.cells #[.int .u64 ((frm (bnds L) (i + 1) : Nat) : Int), .int .i64 n1] 92)
  have D3 := (D2.belows b3).alloc (.cells #[.int .u64 ((frm (bnds L) (i + 1) : Nat) : Int), .int .i64 n1] 92)
  have O3 := At.new w3 #[.int .u64 ((frm (bnds L) (i + 1) : Nat) : Int), .int .i64 n1] 92
  have x0 := (O3.cell 0).trans rfl
  have g0 := D3.frozen 0
  have y0 := (D3.cell 0).trans rfl
  have b3' := b3'.setCell (p := ⟨w2.heap.size, 0, none⟩) (Nat.le_refl _) (.int .u32 ((frm (bnds L) (i + 1) : Nat) : Int))
  have D3 := D3.set0 0 (.int .u32 ((frm (bnds L) (i + 1) : Nat) : Int))
  have j3 : IntKind.u32.wrap ((frm (bnds L) (i + 1) : Nat) : Int) = ((frm (bnds L) (i + 1) : Nat) : Int) := IntWalk.u32_in _ (by omega)
  have c3 := ((hB2.belows b3').cell 1).trans rfl
  clear hc1 b3 D2 b2' c1
  go_wp2_with fail
  obtain ⟨W3, hW3⟩ : ∃ W3, ((w3.alloc (.cells #[.int .u64 ((frm (bnds L) (i + 1) : Nat) : Int), .int .i64 n1] 92)).setCell ⟨w2.heap.size, 0, none⟩ (.int .u32 ((frm (bnds L) (i + 1) : Nat) : Int))) = W3 := ⟨_, rfl⟩
  rw [hW3] at b3' D3 c3 ⊢
  clear hW3
  clear x0 g0 y0 O3
  have hlt2 : i + 1 < C.length := by have := HLAST.out; omega
  obtain ⟨n2, e2, _⟩ := HAT.out (i + 1) hlt2
  have ho : atL C ((i + 1 : Nat) : Int) = some (((frm (bnds L) (i + 1 + 1) : Nat) : Int), n2) := by unfold atL; rw [if_pos (by omega)]; simp [hlt2, e2]
  have hnx : ((frm (bnds L) (i + 1 + 1) : Nat) : Int) = ((too (bnds L) (i + 1) : Nat) : Int) + 1 := by have := HX.out.1 (i + 1) (by omega); omega
  rw [hnx] at ho
  have hc2 := At_any C ((i + 1 : Nat) : Int) W3 (ic2.belows b3') (by omega) (by omega)
  rw [ho] at hc2
  simp only [toldV] at hc2
  clear ho e2 hnx hlt2
  refine hc2.mono ?_
  rintro e w4 ⟨rfl, b4⟩
  have b4 : Below W3.heap.size W3 w4 := b4
  have b4' := (b3'.trans (b4.mono b3'.size)).alloc (b3'.trans (b4.mono b3'.size)).size (.cells #[.int .u64 (((too (bnds L) (i + 1) : Nat) : Int) + 1), .int .i64 n2] 92)
  have D4 := (D3.belows b4).alloc (.cells #[.int .u64 (((too (bnds L) (i + 1) : Nat) : Int) + 1), .int .i64 n2] 92)
  have O4 := At.new w4 #[.int .u64 (((too (bnds L) (i + 1) : Nat) : Int) + 1), .int .i64 n2] 92
  have x4 := (O4.cell 0).trans rfl
  have g4 := D4.frozen 1
  have y4 := (D4.cell 1).trans rfl
  have b4' := b4'.setCell (p := ⟨w2.heap.size, 1, none⟩) (Nat.le_refl _) (.int .u32 ((too (bnds L) (i + 1) : Nat) : Int))
  have D4 := D4.set0 1 (.int .u32 ((too (bnds L) (i + 1) : Nat) : Int))
  have j4 : IntKind.u32.wrap ((too (bnds L) (i + 1) : Nat) : Int) = ((too (bnds L) (i + 1) : Nat) : Int) := IntWalk.u32_in _ (by omega)
  have j7 : (((too (bnds L) (i + 1) : Nat) : Int) + 1) - 1 = ((too (bnds L) (i + 1) : Nat) : Int) := by omega
  have z0 := (D4.cell 0).trans rfl
  have z1 := (D4.cell 1).trans rfl
  have A4 := A2.belows b4'
  have q0 := (A4.cell 0).trans rfl
  have q1 := (A4.cell 1).trans rfl
  have p0 := A4.frozen 0
  have p1 := A4.frozen 1
  have A5 := (A4.set0 0 (.int .u32 ((frm (bnds L) (i + 1) : Nat) : Int))).set0 1 (.int .u32 ((too (bnds L) (i + 1) : Nat) : Int))
  have bw := bb2.trans (b4'.mono bb2.size)
  clear hc2 b4 D3 b3' c3
  go_wp2
  refine bodyPost_ret (v := .tuple #[.agg #[.int .u32 ((frm (bnds L) (i + 1) : Nat) : Int), .int .u32 ((too (bnds L) (i + 1) : Nat) : Int)], .bool true]) (by simp [results, Try.results27, go_sem, A5.cell 0, A5.cell 1]) rfl ⟨?_, ?_⟩
  · rfl
  · exact (bw.setCell (p := ⟨w.heap.size, 0, none⟩) (Nat.le_refl _) _).setCell (p := ⟨w.heap.size, 1, none⟩) (Nat.le_refl _) _
end Go.Proofs.Ytlhfaildeemngaa.Tr
/- Contracts of a table: Atom, Within; a range of a key. -/
namespace Go.Proofs.Ytlhfaildeemngaa.Tr
open Go.RowKit Go.Shelf

theorem atom_ok {v : Value} (L : List (Nat × Nat)) (i : Nat) (w : World) (h : IsTab0 w v L) (hi : i < (bnds L).length) : Calls Try.prog 27 #[v, .int .i64 (i : Int)] w fun e w' => e = .returned (.tuple #[.agg #[.int .u32 (frm (bnds L) i : Nat), .int .u32 (too (bnds L) i : Nat)], .bool true]) ∧ Below w.heap.size w w' := by
  by_cases h0 : i = 0
  · by_cases h9 : i + 1 = (bnds L).length
    · exact atom_ok1 L i w h hi h0 h9
    · exact atom_ok2 L i w h hi h0 h9
  · by_cases h9 : i + 1 = (bnds L).length
    · exact atom_ok3 L i w h hi h0 h9
    · exact atom_ok4 L i w h hi h0 h9
end Go.Proofs.Ytlhfaildeemngaa.Tr
/- Contract of package label: tell. -/
namespace Go.Proofs.Ytlhfaildeemngaa
open Go.RowKit Go.Shelf

/-- What is told of a device and an atom. -/
def tellQ (ls : List Lk) (L : List Ru) (d i : Nat) : Int := labN ls L (d : Int) (Tr.frm (Tr.bnds (rgL L)) i)
/-- What tell leaves. -/
def TellOut (w : World) (ps : List Int) (ls : List Lk) (L : List Ru) (e : Ending) (w' : World) : Prop :=
  ∃ g, e = .returned (.slice (some ⟨g, 0, none⟩) ps.length ps.length) ∧ TB w' g (Tr.bnds (rgL L)).length ps.length ps.length (tellQ ls L) ∧ Below w.heap.size w w'
set_option maxRecDepth 100000 in
set_option maxHeartbeats 2000000 in
theorem tell_any {vp vl vr vt : Value} (ps : List Int) (ls : List Lk) (L : List Ru) (w : World) (h : IsN w vp vl vr ps ls L) (ht : Tr.IsTab w vt (rgL L)) (hps : ps.length ≤ 100) :
    Calls Try.prog 22 #[.agg #[vp, vl, vr], vt] w (TellOut w ps ls L) := by
  have hBd := Tr.bd_of (rgL L)
  have hbl : (Tr.bnds (rgL L)).length ≤ 1001 := by
    obtain ⟨h1, B, vr, vc, R, C, e, ha, hr, hc, tr, tc⟩ := ht
    have e1 := Tr.bnds_len h1 tc
    have e2 := Tr.tal_len tc
    have e3 := h1.2
    omega
  obtain ⟨N, hN⟩ : ∃ N, N = (Tr.bnds (rgL L)).length := ⟨_, rfl⟩
  obtain ⟨w1, hw1⟩ : ∃ w1, w1 = w.alloc (.cells #[vp, vl, vr] 28) := ⟨_, rfl⟩
  have b1 : Below w.heap.size w w1 := by rw [hw1]; exact (Below.refl _ w).alloc (Nat.le_refl _) _
  have s1 : w1.heap.size = w.heap.size + 1 := by rw [hw1]; simp
  have NB := At.new w #[vp, vl, vr] 28
  rw [← hw1] at NB
  have HNB := Lib.hid NB
  have HN := Lib.hid (h.belows b1)
  have HT := Lib.hid (ht.belows b1)
  have HBD := Lib.hid hBd
  have HNN := Lib.hid hN
  have HB1 := Lib.hid b1
  have HS1 := Lib.hid s1
  rw [← hN] at hbl
  obtain ⟨Bt, rfl⟩ := ht.ptr
  obtain ⟨⟨⟨A1, c1, rfl, n1, m1, z1⟩, ⟨A2, c2, rfl, n2, m2, z2⟩⟩, ⟨A3, c3, rfl, n3, m3, z3⟩⟩ := h
  have c0 := (NB.cell 0).trans rfl
  unfold TellOut
  rw [← hN]
  generalize hD : ps.length = D at *
  have HDD := Lib.hid hD
  have hmkD := Lib.hid fun u : World => run_make_row' (P := Try.prog) 58 22 (.slice none 0 0) 24 Try.underlying58 infoInts rfl .i64 .i64 D (by omega) (by omega) u
  have hmkN := Lib.hid fun u : World => run_make_row' (P := Try.prog) 22 3 (.int .i64 0) 8 Try.underlying22 infoInt rfl .i64 .i64 N (by omega) (by omega) u
  clear NB b1 s1 z1 z2 z3 ht hN hBd
  clear hD
  have hk1 := hmkD.out w1
  go_enter Try.func22, Try.ntmps22
  go_upto_region 1 with (fail)
  rw [← hw1]
  clear hw1
  go_upto_region 2 with (fail)
  obtain ⟨w2, hw2⟩ : ∃ w2, w2 = w1.alloc (.cells (madeCells #[.slice none 0 0] D) 22) := ⟨_, rfl⟩
  have TB2 : TB w2 w1.heap.size N D 0 (tellQ ls L) := TB.start (by rw [hw2]; exact At.new w1 _ _) (size_madeCells _ _) (made_nils D)
  have HB2 : Hid (Below w1.heap.size w1 w2) := Lib.hid (by rw [hw2]; exact (Below.refl _ w1).alloc (Nat.le_refl _) _)
  rw [← hw2]
  obtain ⟨G, hG⟩ : ∃ G, G = w1.heap.size := ⟨_, rfl⟩
  rw [← hG] at TB2 ⊢
  have HG := Lib.hid hG
  have HTB := Lib.hid TB2
  have HMX : Hid (D ≤ 9223372036854775807 ∧ N ≤ 9223372036854775807) := Lib.hid ⟨by omega, by omega⟩
  have hD63 : D ≤ 9223372036854775807 := HMX.out.1
  have hN63 : N ≤ 9223372036854775807 := HMX.out.2
  clear hw2 hG TB2 hk1 c0 n1 m1 n2 m2 n3 m3 HMX
  go_wp2
  go_loopw [17] (fun i wr => ∃ k : Nat, i = .int .i64 k ∧ k ≤ D ∧ Hid (TB wr G N D k (tellQ ls L)) ∧ Below w1.heap.size w1 wr) (fun i _ => D - (intOf i).toNat)
  case atStart => exact ⟨0, rfl, by omega, HTB, HB2.out⟩
  case round =>
    obtain ⟨k, rfl, hk, HK, hb⟩ := hrel
    have HBr := Lib.hid hb
    clear hb
    by_cases hlt : k < D
    · have i0 : (0 : Int) ≤ (k : Int) := by omega
      have i1 : (k : Int) < (D : Int) := by omega
      have HL : Hid (∀ W, Below wr.heap.size wr W → Calls Try.prog 26 #[.pointer (some ⟨Bt, 0, none⟩)] W fun e w' => e = .returned (.int .i64 (N : Int)) ∧ Below W.heap.size W w') := Lib.hid fun W hW => by
        rw [HNN.out]
        exact Tr.len5_any _ W (HT.out.belows (HBr.out.trans (hW.mono HBr.out.size))).any
      have hl1 := HL.out wr (Below.refl _ _)
      obtain ⟨k0, k1⟩ := HK.out.cells hlt
      have hGs := HK.out.lt
      go_upto_region 6 with (go_at_call 26; refine hl1.mono ?_; rintro e w4 ⟨rfl, b4⟩; have hmk := hmkN.out w4; rw [made_ints (tellQ ls L k)] at hmk; have T4 := Lib.hid (HK.out.belows b4); have hG4 := T4.out.lt; have y0 := (T4.out.cells hlt).1; have y1 := (T4.out.cells hlt).2; have B4 := Lib.hid (HBr.out.trans (b4.mono HBr.out.size)); have B4r := Lib.hid b4; clear b4)
      obtain ⟨w5, hw5⟩ : ∃ w5, w5 = (w4.setCell ⟨G, k, none⟩ (.slice (some ⟨w4.heap.size, 0, none⟩) N N)).alloc (.cells (rwC (tellQ ls L k) N 0) 3) := ⟨_, rfl⟩
      have T5 : TI w5 G N D k w4.heap.size 0 (tellQ ls L) := by rw [hw5]; exact TI.of' T4.out hlt
      have B5 : Below w1.heap.size w1 w5 := by
        rw [hw5]
        have hgg := HG.out
        exact (B4.out.setCell (p := ⟨G, k, none⟩) (by show w1.heap.size ≤ G; omega) _).alloc (by simp; exact B4.out.size) _
      obtain ⟨gk, hgk⟩ : ∃ gk, gk = w4.heap.size := ⟨_, rfl⟩
      rw [← hw5, ← hgk]
      rw [← hgk] at T5
      have HGK : Hid (w1.heap.size ≤ gk) := Lib.hid (by rw [hgk]; exact B4.out.size)
      have HT5 := Lib.hid T5
      have HB5 := Lib.hid B5
      have HL5 : Hid (∀ W, Below w1.heap.size w1 W → Calls Try.prog 26 #[.pointer (some ⟨Bt, 0, none⟩)] W fun e w' => e = .returned (.int .i64 (N : Int)) ∧ Below W.heap.size W w') := Lib.hid fun W hW => by
        rw [HNN.out]
        exact Tr.len5_any _ W (HT.out.belows hW).any
      have hl5 := HL5.out w5 HB5.out
      clear hw5 hgk T5 B5 T4 hG4 y0 y1 B4 B4r hmk k0 k1 hGs hl1 HL HK HBr
      go_wp2_with (go_at_call 26; refine hl5.mono ?_; rintro e w6 ⟨rfl, b6⟩; have HT6 := Lib.hid (HT5.out.belows b6); have HB6 := Lib.hid (HB5.out.trans (b6.mono HB5.out.size)); clear b6 hl5)
      go_loopw [28] (fun i wq => ∃ j : Nat, i = .int .i64 j ∧ j ≤ N ∧ Hid (TI wq G N D k gk j (tellQ ls L)) ∧ Below w1.heap.size w1 wq) (fun i _ => N - (intOf i).toNat)
      case atStart => exact ⟨0, rfl, by omega, HT6, HB6.out⟩
      case round =>
        obtain ⟨j, rfl, hj, HJ, hbq⟩ := hrel
        have HBq := Lib.hid hbq
        clear hbq
        by_cases hjt : j < N
        · have j0 : (0 : Int) ≤ (j : Int) := by omega
          have j1 : (j : Int) < (N : Int) := by omega
          have hat := Tr.atom_ok (rgL L) j wr (HT.out.belows HBq.out).any (by rw [← HNN.out]; exact hjt)
          have hf32 : Tr.frm (Tr.bnds (rgL L)) j < 4294967296 := by
            have := HBD.out.frm_le (i := j) (by rw [← HNN.out]; exact hjt)
            omega
          obtain ⟨f, hf⟩ : ∃ f, f = Tr.frm (Tr.bnds (rgL L)) j := ⟨_, rfl⟩
          obtain ⟨t, ht⟩ : ∃ t, t = Tr.too (Tr.bnds (rgL L)) j := ⟨_, rfl⟩
          rw [← hf, ← ht] at hat
          rw [← hf] at hf32
          have HF := Lib.hid hf
          clear ht hf
          go_upto_region 10 with (go_at_call 27; refine hat.mono ?_; rintro e w7 ⟨rfl, b7⟩)
          obtain ⟨w8, hw8⟩ : ∃ w8, w8 = w7.alloc (.cells #[.int .u32 f, .int .u32 t] 43) := ⟨_, rfl⟩
          have A8 : At w8 w7.heap.size #[.int .u32 f, .int .u32 t] 43 := by rw [hw8]; exact At.new w7 _ _
          have b8 : Below wr.heap.size wr w8 := by rw [hw8]; exact b7.alloc b7.size _
          rw [← hw8]
          obtain ⟨AB, hAB⟩ : ∃ AB, AB = w7.heap.size := ⟨_, rfl⟩
          rw [← hAB] at A8 ⊢
          have HA8 := Lib.hid A8
          have HJ8 := Lib.hid (HJ.out.belows b8)
          have HB8 := Lib.hid (HBq.out.trans (b8.mono HBq.out.size))
          clear hw8 hAB A8 b8 b7 hat
          obtain ⟨st, hst⟩ : ∃ st, st = stepN ls L (k : Int) f := ⟨_, rfl⟩
          have HST : Hid (∀ u, Below w8.heap.size w8 u → Calls Try.prog 44 #[.agg #[.slice A1 D c1, .slice A2 ls.length c2, .slice A3 L.length c3], .int .i64 (k : Int), .int .u32 f] u fun e w' => e = .returned (stepV st) ∧ Below u.heap.size u w') := Lib.hid fun u hu => by
            rw [hst]; exact fstep_any ps ls L (k : Int) f u (HN.out.belows (HB8.out.trans (hu.mono HB8.out.size)))
          have HV : Hid (labP st = tellQ ls L k j) := Lib.hid (by rw [hst, HF.out]; rfl)
          have SZ : Hid (∀ u, Below w8.heap.size w8 u → u.cell? ⟨G, k, none⟩ = some (.slice (some ⟨gk, 0, none⟩) N N) ∧ u.cell? ⟨w.heap.size, 0, none⟩ = some (.slice A1 D c1) ∧ u.cell? ⟨w.heap.size, 1, none⟩ = some (.slice A2 ls.length c2) ∧ u.cell? ⟨w.heap.size, 2, none⟩ = some (.slice A3 L.length c3) ∧ u.cell? ⟨AB, 0, none⟩ = some (.int .u32 f)) := Lib.hid fun u hu =>
            ⟨((HJ8.out.belows hu).cells hjt).1, ((HNB.out.belows (HB8.out.trans (hu.mono HB8.out.size))).cell 0).trans rfl, ((HNB.out.belows (HB8.out.trans (hu.mono HB8.out.size))).cell 1).trans rfl, ((HNB.out.belows (HB8.out.trans (hu.mono HB8.out.size))).cell 2).trans rfl, ((HA8.out.belows hu).cell 0).trans rfl⟩
          have hne : G ≠ gk ∧ w.heap.size ≠ gk ∧ AB ≠ gk := by
            have h1 := HJ8.out.2.1
            have h2 := HGK.out
            have h3 := HS1.out
            refine ⟨by omega, by omega, fun e => ?_⟩
            have h4 := HJ8.out.2.2.1
            rw [← e] at h4
            have e2 := (show w8.heap[AB]? = _ from h4).symm.trans HA8.out
            simp only [Option.some.injEq, Obj.cells.injEq] at e2
            exact absurd e2.2.1 (by decide)
          have SS : Hid (∀ u, Below w8.heap.size w8 u → ∀ v : Value, (u.setCell ⟨gk, j, none⟩ v).cell? ⟨G, k, none⟩ = some (.slice (some ⟨gk, 0, none⟩) N N) ∧ (u.setCell ⟨gk, j, none⟩ v).cell? ⟨w.heap.size, 0, none⟩ = some (.slice A1 D c1) ∧ (u.setCell ⟨gk, j, none⟩ v).cell? ⟨w.heap.size, 1, none⟩ = some (.slice A2 ls.length c2) ∧ (u.setCell ⟨gk, j, none⟩ v).cell? ⟨w.heap.size, 2, none⟩ = some (.slice A3 L.length c3) ∧ (u.setCell ⟨gk, j, none⟩ v).cell? ⟨AB, 0, none⟩ = some (.int .u32 f)) := Lib.hid fun u hu v => by
            obtain ⟨q0, q1, q2, q3, q4⟩ := SZ.out u hu
            obtain ⟨n1, n2, n3⟩ := hne
            have o : ∀ (B i : Nat), B ≠ gk → (u.setCell ⟨gk, j, none⟩ v).cell? ⟨B, i, none⟩ = u.cell? ⟨B, i, none⟩ := fun B i hB => World.cell?_setCell_other _ _ _ _ (by intro e'; injection e' with e1; omega)
            exact ⟨(o _ _ n1).trans q0, (o _ _ n2).trans q1, (o _ _ n2).trans q2, (o _ _ n2).trans q3, (o _ _ n3).trans q4⟩
          clear hne
          obtain ⟨ft, ⟨pd, pp⟩⟩ := st
          rw [show stepV (ft, ⟨pd, pp⟩) = .tuple #[.int .i64 ft, .agg #[.int .i64 pd, .int .i64 pp]] from rfl] at HST
          have HLO : Hid (∀ u : World, Calls Try.prog 43 #[.int .i64 ft, .agg #[.int .i64 pd, .int .i64 pp]] u fun e w' => e = .returned (.int .i64 (labP (ft, ⟨pd, pp⟩))) ∧ Below u.heap.size u w') := Lib.hid fun u => labelOf_any ft ⟨pd, pp⟩ u
          generalize labP (ft, ⟨pd, pp⟩) = lv at HV HLO
          clear hst hf32
          go_region_held3 (fun W => W.cell? ⟨G, k, none⟩ = some (.slice (some ⟨gk, 0, none⟩) N N) ∧ W.cell? ⟨w.heap.size, 0, none⟩ = some (.slice A1 D c1) ∧ W.cell? ⟨w.heap.size, 1, none⟩ = some (.slice A2 ls.length c2) ∧ W.cell? ⟨w.heap.size, 2, none⟩ = some (.slice A3 L.length c3) ∧ W.cell? ⟨AB, 0, none⟩ = some (.int .u32 f))
            (first | exact SS.out _ b10 _ | exact SZ.out _ b10 | exact SZ.out _ b9 | exact SZ.out _ (bdrewN (Below.refl _ _) 1))
            (first
              | (go_at_call 44; refine (HST.out _ (bdrewN (Below.refl _ _) 1)).mono ?_; rintro e w9 ⟨rfl, b9x⟩; have b9 : Below w8.heap.size w8 w9 := (bdrewN (Below.refl _ _) 1).trans b9x)
              | (go_at_call 43; refine (HLO.out _).mono ?_; rintro e w10 ⟨rfl, b10x⟩; have b10 : Below w8.heap.size w8 w10 := b9.trans (b10x.mono b9.size); have t0 := ((HJ8.out.belows b10).cells hjt).2.1; have t1 := ((HJ8.out.belows b10).cells hjt).2.2.1))
          have HD := Lib.hid ((HJ8.out.belows b10).step HV.out)
          have HBF : Hid (Below w1.heap.size w1 (w10.setCell ⟨gk, j, none⟩ (.int .i64 lv))) := Lib.hid ((HB8.out.trans (b10.mono HB8.out.size)).setCell (p := ⟨gk, j, none⟩) HGK.out _)
          clear t0 t1 b10x b9x
          go_wp2
          go_roundw
          case rel => exact ⟨j + 1, by go_num, by omega, HD, HBF.out⟩
          case measure => simp [intOf]; omega
        · obtain rfl : j = N := by omega
          have HD := Lib.hid HJ.out.done
          go_wp2
          go_roundw
          case rel => exact ⟨k + 1, by go_num, by omega, HD, HBq.out⟩
          case measure => simp [intOf]; omega
    · obtain rfl : k = D := by omega
      go_wp2
      go_ret
      exact ⟨G, rfl, HK.out, HB1.out.trans (HBr.out.mono HB1.out.size)⟩
end Go.Proofs.Ytlhfaildeemngaa
/- Contract of package label: copied. -/
namespace Go.Proofs.Ytlhfaildeemngaa
open Go.RowKit Go.Shelf

/-- Lists of one's own that are a network. -/
structure Rows3 (w : World) (base : Nat) (vp vl vr : Value) (ps : List Int) (ls : List Lk) (L : List Ru) : Prop where
  p : w.ownsRow base 3 1 vp ps.length (fcs intA ps)
  l : w.ownsRow base 75 4 vl ls.length (fcs lkA ls)
  r : w.ownsRow base 50 7 vr L.length (fcs ruA L)
theorem Rows3.belows {w w' : World} {base : Nat} {vp vl vr : Value} {ps : List Int} {ls : List Lk} {L : List Ru} (h : Rows3 w base vp vl vr ps ls L) (hb : Below w.heap.size w w') : Rows3 w' base vp vl vr ps ls L := ⟨row_belows h.p hb, row_belows h.l hb, row_belows h.r hb⟩
theorem Rows3.mono {w : World} {base base' : Nat} {vp vl vr : Value} {ps : List Int} {ls : List Lk} {L : List Ru} (h : Rows3 w base vp vl vr ps ls L) (hb : base' ≤ base) : Rows3 w base' vp vl vr ps ls L := ⟨row_mono h.p hb, row_mono h.l hb, row_mono h.r hb⟩
theorem Rows3.isN {w : World} {base : Nat} {vp vl vr : Value} {ps : List Int} {ls : List Lk} {L : List Ru} (h : Rows3 w base vp vl vr ps ls L) : IsN w vp vl vr ps ls L := ⟨⟨isF_of_row intA_size h.p, isF_of_row lkA_size h.l⟩, isF_of_row (f := ruA) ruA_size7 h.r⟩
theorem Rows3.exc {H : Nat → Prop} {w w' : World} {base : Nat} {vp vl vr : Value} {ps : List Int} {ls : List Lk} {L : List Ru} (h : Rows3 w base vp vl vr ps ls L) (hx : Exc H w w') (hn : ∀ b, H b → b < base) : Rows3 w' base vp vl vr ps ls L := ⟨exc_row h.p hx hn, exc_row h.l hx hn, exc_row h.r hx hn⟩
/-- A row that does not lie in a block is kept by what is written there. -/
theorem row_not {w w' : World} {base b : Nat} {e : TypeId} {n : Nat} {v : Value} {k : Nat} {xs : List Value} (h : w.ownsRow base e n v k xs) (hg : w.grownBy w' (some b)) (hb : ∀ g, v.ownBlock = some g → g ≠ b) : w'.ownsRow base e n v k xs := by
  refine h.kept hg ?_
  cases hv : v.ownBlock with
  | none => exact .inl rfl
  | some c => exact .inr fun e => hb c hv (by cases e; rfl)
/-- The copied topology in its box. -/
def TopB (w2 : World) (UB : Nat) (ps : List Int) (ls : List Lk) (wc : World) : Prop := ∃ vp vl, w2.heap.size ≤ UB ∧ At wc UB #[vp, vl] 25 ∧ wc.ownsRow w2.heap.size 3 1 vp ps.length (fcs intA ps) ∧ wc.ownsRow w2.heap.size 75 4 vl ls.length (fcs lkA ls) ∧ Below w2.heap.size w2 wc
theorem topB_set {w2 w4 : World} {UB : Nat} {x y v3 v4 : Value} {ps : List Int} {ls : List Lk} (U : At w4 UB #[x, y] 25) (o3 : w4.ownsRow w2.heap.size 3 1 v3 ps.length (fcs intA ps)) (o4 : w4.ownsRow w2.heap.size 75 4 v4 ls.length (fcs lkA ls))
    (n3 : ∀ g, v3.ownBlock = some g → g ≠ UB) (n4 : ∀ g, v4.ownBlock = some g → g ≠ UB) (b : Below w2.heap.size w2 w4) (h : w2.heap.size ≤ UB) : TopB w2 UB ps ls ((w4.setCell ⟨UB, 0, none⟩ v3).setCell ⟨UB, 1, none⟩ v4) :=
  ⟨v3, v4, h, (U.set0 0 v3).set0 1 v4, row_not (row_not o3 (grownBy_set _ _ _ _) n3) (grownBy_set _ _ _ _) n3, row_not (row_not o4 (grownBy_set _ _ _ _) n4) (grownBy_set _ _ _ _) n4, (b.setCell (p := ⟨UB, 0, none⟩) h _).setCell (p := ⟨UB, 1, none⟩) h _⟩
theorem topB_new {w2 w4 : World} {v3 v4 : Value} {ps : List Int} {ls : List Lk} (o3 : w4.ownsRow w2.heap.size 3 1 v3 ps.length (fcs intA ps)) (o4 : w4.ownsRow w2.heap.size 75 4 v4 ls.length (fcs lkA ls))
    (b : Below w2.heap.size w2 w4) : TopB w2 w4.heap.size ps ls (w4.alloc (.cells #[v3, v4] 25)) :=
  ⟨v3, v4, b.size, At.new w4 _ _, o3.alloc _, o4.alloc _, b.alloc b.size _⟩
set_option maxRecDepth 100000 in
set_option maxHeartbeats 2000000 in
theorem copied_any {vp vl vr : Value} (ps : List Int) (ls : List Lk) (L : List Ru) (w : World) (h : IsN w vp vl vr ps ls L) (h1 : ps.length ≤ 100000) (h2 : ls.length ≤ 100000) (h3 : L.length ≤ 100000) :
    Calls Try.prog 20 #[.agg #[vp, vl, vr]] w fun e w' => ∃ vp' vl' vr', e = .returned (.agg #[vp', vl', vr']) ∧ Rows3 w' w.heap.size vp' vl' vr' ps ls L ∧ Below w.heap.size w w' := by
  obtain ⟨w2, hw2⟩ : ∃ w2, w2 = (w.alloc (.cells #[vp, vl, vr] 28)).alloc (.cells #[.slice none 0 0, .slice none 0 0, .slice none 0 0] 28) := ⟨_, rfl⟩
  have b2 : Below w.heap.size w w2 := by rw [hw2]; exact ((Below.refl _ w).alloc (Nat.le_refl _) _).alloc (by simp) _
  have N2 : At w2 w.heap.size #[vp, vl, vr] 28 := by rw [hw2]; exact (At.new w _ _).alloc _
  have R2 : At w2 (w.heap.size + 1) #[.slice none 0 0, .slice none 0 0, .slice none 0 0] 28 := by rw [hw2]; exact At.new1 w _ _ _
  have hn := h.belows b2
  obtain ⟨⟨⟨A1, c1, rfl, _, _, _⟩, ⟨A2, c2, rfl, _, _, _⟩⟩, ⟨A3, c3, rfl, _, _, _⟩⟩ := h
  have KP : Hid (∀ u, Below w2.heap.size w2 u → Calls Try.prog 38 #[.slice A1 ps.length c1] u fun e w' => ∃ v', e = .returned v' ∧ w'.ownsRow u.heap.size 3 1 v' ps.length (fcs intA ps) ∧ Below u.heap.size u w') := Lib.hid fun u hu => clone_ints ps u h1 (hn.1.1.belows hu)
  have KL : Hid (∀ u, Below w2.heap.size w2 u → Calls Try.prog 39 #[.slice A2 ls.length c2] u fun e w' => ∃ v', e = .returned v' ∧ w'.ownsRow u.heap.size 75 4 v' ls.length (fcs lkA ls) ∧ Below u.heap.size u w') := Lib.hid fun u hu => clone_links ls u h2 (hn.1.2.belows hu)
  have KR : Hid (∀ u, Below w2.heap.size w2 u → Calls Try.prog 40 #[.slice A3 L.length c3] u fun e w' => ∃ v', e = .returned v' ∧ w'.ownsRow u.heap.size 50 7 v' L.length (fcs ruA L) ∧ Below u.heap.size u w') := Lib.hid fun u hu => clone_rules L u h3 (hn.2.belows hu)
  have SZ : Hid (∀ u, Below w2.heap.size w2 u → u.cell? ⟨w.heap.size, 0, none⟩ = some (.slice A1 ps.length c1) ∧ u.cell? ⟨w.heap.size, 1, none⟩ = some (.slice A2 ls.length c2) ∧ u.cell? ⟨w.heap.size, 2, none⟩ = some (.slice A3 L.length c3)) := Lib.hid fun u hu => ⟨((N2.belows hu).cell 0).trans rfl, ((N2.belows hu).cell 1).trans rfl, ((N2.belows hu).cell 2).trans rfl⟩
  have HR2 := Lib.hid R2
  have HB2 := Lib.hid b2
  obtain ⟨c0, c1', c2'⟩ := SZ.out w2 (Below.refl _ _)
  clear hn N2 R2 b2 h1 h2 h3
  go_enter Try.func20, Try.ntmps20
  go_upto_region 1 with (fail)
  rw [← hw2]
  clear hw2
  go_cut [3] (fun p wc => ∃ UB : Nat, p = .pointer (some ⟨UB, 0, none⟩) ∧ Hid (TopB w2 UB ps ls wc))
  case first =>
    go_region_held3 (fun W => W.cell? ⟨w.heap.size, 0, none⟩ = some (.slice A1 ps.length c1) ∧ W.cell? ⟨w.heap.size, 1, none⟩ = some (.slice A2 ls.length c2) ∧ W.cell? ⟨w.heap.size, 2, none⟩ = some (.slice A3 L.length c3))
      (first | exact SZ.out _ b4w | exact SZ.out _ ((b4w.setCell (p := ⟨w3.heap.size, 0, none⟩) b3w.size _).setCell (p := ⟨w3.heap.size, 1, none⟩) b3w.size _) | exact SZ.out _ ((b4w.setCell (p := ⟨w2.heap.size, 0, none⟩) (Nat.le_refl _) _).setCell (p := ⟨w2.heap.size, 1, none⟩) (Nat.le_refl _) _) | exact SZ.out _ (b4w.alloc b4w.size _) | exact SZ.out _ b3w | exact SZ.out _ (b3w.alloc b3w.size _) | exact SZ.out _ ((Below.refl _ w2).alloc (Nat.le_refl _) _).drew | exact SZ.out _ (bdrewN (Below.refl _ _) 1))
      (first
        | (go_at_call 38; refine (KP.out _ (by first | exact bdrewN (Below.refl _ _) 1 | exact ((Below.refl _ w2).alloc (Nat.le_refl _) _).drew)).mono ?_; rintro e w3 ⟨v3, rfl, o3, b3⟩; have b3w : Below w2.heap.size w2 w3 := (by first | exact (bdrewN (Below.refl _ _) 1).trans b3 | exact Below.trans (((Below.refl _ w2).alloc (Nat.le_refl _) _).drew) (b3.mono (by simp))); obtain ⟨B3, d3, rfl, _, _⟩ := row_slice o3)
        | (go_at_call 39; refine (KL.out _ (by first | exact b3w | exact b3w.alloc b3w.size _)).mono ?_; rintro e w4 ⟨v4, rfl, o4, b4⟩; have b4w : Below w2.heap.size w2 w4 := (by first | exact b3w.trans (b4.mono b3w.size) | exact (b3w.alloc b3w.size _).trans (b4.mono (by simp; have := b3w.size; omega))); obtain ⟨B4, d4, rfl, _, _⟩ := row_slice o4; have b4m : Below w3.heap.size w3 w4 := (by first | exact b4 | exact Below.trans ((Below.refl _ w3).alloc (Nat.le_refl _) _) (b4.mono (by simp)));
            first
              | (have U4 : At w4 w2.heap.size #[.slice none 0 0, .slice none 0 0] 25 := ((show At (w2.alloc (.cells #[.slice none 0 0, .slice none 0 0] 25)).drew w2.heap.size #[.slice none 0 0, .slice none 0 0] 25 from At.new w2 _ _).belows b3).belows b4; have y0 := (U4.cell 0).trans rfl; have y1 := (U4.cell 1).trans rfl; have f0 := U4.frozen 0; have f1 := U4.frozen 1)
              | (have U4 : At w4 w3.heap.size #[.slice none 0 0, .slice none 0 0] 25 := (At.new w3 _ _).belows b4; have y0 := (U4.cell 0).trans rfl; have y1 := (U4.cell 1).trans rfl; have f0 := U4.frozen 0; have f1 := U4.frozen 1)
              | skip))
    all_goals (go_wp2_with fail; go_meet; refine ⟨_, rfl, Lib.hid ?_⟩)
    all_goals
      have q3 := row_mono (row_belows o3 b4m) (base' := w2.heap.size) (by simp)
      have q4 := row_mono o4 (base' := w2.heap.size) (by first | exact b3w.size | (simp; have := b3w.size; omega))
      have l3 := o3.lt
      have l4 := o4.lt
      first
        | exact topB_new q3 q4 b4w
        | exact topB_set U4 q3 q4 (fun g h => by have := l3 g h; (try simp at this); omega) (fun g h => by have e1 := l4 g h; (try simp at e1); have e2 := b3w.size; have e3 := b3.size; (try simp at e3); omega) b4w (by first | exact Nat.le_refl _ | exact b3w.size)
  case rest =>
    obtain ⟨UB, rfl, HU⟩ := hcut
    obtain ⟨vp, vl, hUB, U, o3, o4, b5⟩ := HU.out
    clear HU KP KL
    have HU := Lib.hid U
    have HO3 := Lib.hid o3
    have HO4 := Lib.hid o4
    have HB5 := Lib.hid b5
    obtain ⟨B3, d3, rfl, _, _⟩ := row_slice o3
    obtain ⟨B4, d4, rfl, _, _⟩ := row_slice o4
    have SZ2 : Hid (∀ u, Below wc.heap.size wc u → u.cell? ⟨UB, 0, none⟩ = some (.slice B3 ps.length d3) ∧ u.cell? ⟨UB, 1, none⟩ = some (.slice B4 ls.length d4) ∧ u.cell? ⟨w.heap.size, 2, none⟩ = some (.slice A3 L.length c3)) := Lib.hid fun u hu => ⟨((HU.out.belows hu).cell 0).trans rfl, ((HU.out.belows hu).cell 1).trans rfl, (SZ.out u (HB5.out.trans (hu.mono HB5.out.size))).2.2⟩
    have HR5 := Lib.hid (HR2.out.belows HB5.out)
    have hRB : w.heap.size + 1 < w2.heap.size := HR2.out.lt
    have SS : Hid (∀ u, Below wc.heap.size wc u → ∀ a b c : Value, (((u.setCell ⟨w.heap.size + 1, 0, none⟩ a).setCell ⟨w.heap.size + 1, 1, none⟩ b).setCell ⟨w.heap.size + 1, 2, none⟩ c).cell? ⟨UB, 0, none⟩ = some (.slice B3 ps.length d3) ∧ (((u.setCell ⟨w.heap.size + 1, 0, none⟩ a).setCell ⟨w.heap.size + 1, 1, none⟩ b).setCell ⟨w.heap.size + 1, 2, none⟩ c).cell? ⟨UB, 1, none⟩ = some (.slice B4 ls.length d4) ∧ (((u.setCell ⟨w.heap.size + 1, 0, none⟩ a).setCell ⟨w.heap.size + 1, 1, none⟩ b).setCell ⟨w.heap.size + 1, 2, none⟩ c).cell? ⟨w.heap.size, 2, none⟩ = some (.slice A3 L.length c3)) := Lib.hid fun u hu a b c => by
      obtain ⟨q0, q1, q2⟩ := SZ2.out u hu
      have o : ∀ (U : World) (B i j : Nat) (v : Value), B ≠ w.heap.size + 1 → (U.setCell ⟨w.heap.size + 1, j, none⟩ v).cell? ⟨B, i, none⟩ = U.cell? ⟨B, i, none⟩ := fun U B i j v hB => World.cell?_setCell_other _ _ _ _ (by intro e'; injection e' with e1; omega)
      refine ⟨?_, ?_, ?_⟩
      · rw [o _ _ _ _ _ (by omega), o _ _ _ _ _ (by omega), o _ _ _ _ _ (by omega)]; exact q0
      · rw [o _ _ _ _ _ (by omega), o _ _ _ _ _ (by omega), o _ _ _ _ _ (by omega)]; exact q1
      · rw [o _ _ _ _ _ (by omega), o _ _ _ _ _ (by omega), o _ _ _ _ _ (by omega)]; exact q2
    clear U o3 o4 b5
    go_wp2_with fail
    go_region_held3 (fun W => W.cell? ⟨UB, 0, none⟩ = some (.slice B3 ps.length d3) ∧ W.cell? ⟨UB, 1, none⟩ = some (.slice B4 ls.length d4) ∧ W.cell? ⟨w.heap.size, 2, none⟩ = some (.slice A3 L.length c3))
      (first | exact SS.out _ b6w _ _ _ | exact SZ2.out _ b6w | exact SZ2.out _ (bdrewN (Below.refl _ _) 1))
      (first
        | (go_at_call 40; refine (KR.out _ (bdrewN HB5.out 1)).mono ?_; rintro e w6 ⟨v6, rfl, o6, b6⟩; have b6w : Below wc.heap.size wc w6 := (bdrewN (Below.refl _ _) 1).trans b6; obtain ⟨B6, d6, rfl, _, _⟩ := row_slice o6; have R6 := HR5.out.belows b6w; have y0 := (R6.cell 0).trans rfl; have y1 := (R6.cell 1).trans rfl; have y2 := (R6.cell 2).trans rfl; have f0 := R6.frozen 0; have f1 := R6.frozen 1; have f2 := R6.frozen 2))
    have A9 := ((R6.set0 0 (.slice B3 ps.length d3)).set0 1 (.slice B4 ls.length d4)).set0 2 (.slice B6 L.length d6)
    have hRB : w.heap.size + 1 < w2.heap.size := HR2.out.lt
    have h1 : w2.heap.size ≤ (wc.drewN 1).heap.size := HB5.out.size
    have far : ∀ {U : World} {e : TypeId} {n : Nat} {v : Value} {k : Nat} {xs : List Value} (a b c : Value), U.ownsRow w2.heap.size e n v k xs → (((U.setCell ⟨w.heap.size + 1, 0, none⟩ a).setCell ⟨w.heap.size + 1, 1, none⟩ b).setCell ⟨w.heap.size + 1, 2, none⟩ c).ownsRow w2.heap.size e n v k xs := fun a b c h => row_far (row_far (row_far h (grownBy_set _ _ _ _) hRB) (grownBy_set _ _ _ _) hRB) (grownBy_set _ _ _ _) hRB
    have r3 := far (.slice B3 ps.length d3) (.slice B4 ls.length d4) (.slice B6 L.length d6) (row_belows HO3.out b6w)
    have r4 := far (.slice B3 ps.length d3) (.slice B4 ls.length d4) (.slice B6 L.length d6) (row_belows HO4.out b6w)
    have r6 := far (.slice B3 ps.length d3) (.slice B4 ls.length d4) (.slice B6 L.length d6) (row_mono o6 h1)
    have HF : Hid (Below w.heap.size w (((w6.setCell ⟨w.heap.size + 1, 0, none⟩ (.slice B3 ps.length d3)).setCell ⟨w.heap.size + 1, 1, none⟩ (.slice B4 ls.length d4)).setCell ⟨w.heap.size + 1, 2, none⟩ (.slice B6 L.length d6))) := Lib.hid (by
      have hb := HB2.out.trans ((HB5.out.trans (b6w.mono HB5.out.size)).mono HB2.out.size)
      exact ((hb.setCell (p := ⟨w.heap.size + 1, 0, none⟩) (by show w.heap.size ≤ w.heap.size + 1; omega) _).setCell (p := ⟨w.heap.size + 1, 1, none⟩) (by show w.heap.size ≤ w.heap.size + 1; omega) _).setCell (p := ⟨w.heap.size + 1, 2, none⟩) (by show w.heap.size ≤ w.heap.size + 1; omega) _)
    have HQ : Hid (w.heap.size ≤ w2.heap.size) := Lib.hid HB2.out.size
    clear y0 y1 y2 f0 f1 f2 R6
    go_wp2
    refine bodyPost_ret (v := .agg #[.slice B3 ps.length d3, .slice B4 ls.length d4, .slice B6 L.length d6]) (by simp [results, Try.results20, go_sem, A9.cell 0, A9.cell 1, A9.cell 2]) rfl ⟨_, _, _, rfl, ⟨row_mono r3 HQ.out, row_mono r4 HQ.out, row_mono r6 HQ.out⟩, HF.out⟩
end Go.Proofs.Ytlhfaildeemngaa
/- Contract of package label: Of. Labels in memory. -/
namespace Go.Proofs.Ytlhfaildeemngaa
open Go.RowKit Go.Shelf

/-- Labels in memory. -/
def LbM (W : World) (v : Value) (ps : List Int) (ls : List Lk) (L : List Ru) : Prop := ∃ (B : Nat) (vp vl vr vt : Value) (g : Nat), v = .pointer (some ⟨B, 0, none⟩) ∧ At W B #[vp, vl, vr, vt, .slice (some ⟨g, 0, none⟩) ps.length ps.length] 61 ∧
  IsN W vp vl vr ps ls L ∧ Tr.IsTab W vt (rgL L) ∧ TB W g (Tr.bnds (rgL L)).length ps.length ps.length (tellQ ls L)
/-- .. whatever is written into the blocks of H. -/
def Lb10 (H : Nat → Prop) (W : World) (v : Value) (ps : List Int) (ls : List Lk) (L : List Ru) : Prop := ∀ W', Exc H W W' → LbM W' v ps ls L
theorem Lb10.now {H : Nat → Prop} {W : World} {v : Value} {ps : List Int} {ls : List Lk} {L : List Ru} (h : Lb10 H W v ps ls L) : LbM W v ps ls L := h W (exc_of (Below.refl _ _) H)
theorem RN.short {ps : List Int} {ls : List Lk} {L : List Ru} (h : RN ps ls L) : ps.length ≤ 8 ∧ ls.length ≤ 16 ∧ L.length ≤ 40 := ⟨h.topo.n8, h.topo.l16, ((allB_pw L).1 h.rules).1⟩
set_option maxRecDepth 100000 in
set_option maxHeartbeats 2000000 in
theorem of10_any {vp vl vr : Value} (H : Nat → Prop) (ps : List Int) (ls : List Lk) (L : List Ru) (w : World) (hH : ∀ b, H b → ∃ cs, At w b cs 28) (hW : NW ps ls L) (h : IsN w vp vl vr ps ls L) : Calls Try.prog 8 #[.agg #[vp, vl, vr]] w fun e w' =>
    ((RN ps ls L ∧ ∃ p, e = .returned (.tuple #[p, .int .i64 0]) ∧ Lb10 H w' p ps ls L) ∨ (¬ RN ps ls L ∧ e = .returned (.tuple #[.pointer none, .int .i64 71]))) ∧ Below w.heap.size w w' := by
  have HH := Lib.hid hH
  have HN := Lib.hid h
  obtain ⟨w1, hw1⟩ : ∃ w1, w1 = w.alloc (.cells #[vp, vl, vr] 28) := ⟨_, rfl⟩
  have b1 : Below w.heap.size w w1 := by rw [hw1]; exact (Below.refl _ w).alloc (Nat.le_refl _) _
  have N1 : At w1 w.heap.size #[vp, vl, vr] 28 := by rw [hw1]; exact At.new w _ _
  have HN1 := Lib.hid (h.belows b1)
  have KF := fright_any ps ls L w1 hW HN1.out
  obtain ⟨⟨⟨A1, c1, rfl, _, _, _⟩, ⟨A2, c2, rfl, _, _, _⟩⟩, ⟨A3, c3, rfl, _, _, _⟩⟩ := h
  have c0 := (N1.cell 0).trans rfl
  have c1' := (N1.cell 1).trans rfl
  have c2' := (N1.cell 2).trans rfl
  have NBx := Lib.hid N1
  have HB1 := Lib.hid b1
  have HW := Lib.hid hW
  clear hH N1 b1 hW
  cases hq : rightN ps ls L with
  | false =>
    have hno : ¬ RN ps ls L := fun h => by rw [← rightN_iff, hq] at h; cases h
    rw [hq] at KF
    clear hq
    go_enter Try.func8, Try.ntmps8
    go_upto_region 1 with (fail)
    rw [← hw1]
    clear hw1
    go_wp2_with (go_at_call 19; refine KF.mono ?_; rintro e w2 ⟨rfl, b2⟩)
    go_ret2
    exact ⟨.inr ⟨hno, rfl⟩, HB1.out.trans (b2.mono HB1.out.size)⟩
  | true =>
    have hyes : RN ps ls L := (rightN_iff _ _ _).1 hq
    have HR := Lib.hid hyes
    rw [hq] at KF
    clear hq hyes
    go_enter Try.func8, Try.ntmps8
    go_upto_region 1 with (fail)
    rw [← hw1]
    clear hw1
    go_upto_region 3 with (go_at_call 19; refine KF.mono ?_; rintro e w2 ⟨rfl, b2⟩)
    have N2 := NBx.out.belows b2
    have d0 := (N2.cell 0).trans rfl
    have d1 := (N2.cell 1).trans rfl
    have d2 := (N2.cell 2).trans rfl
    have KC := copied_any ps ls L w2 (HN1.out.belows b2) (by have := HR.out.short; omega) (by have := HR.out.short; omega) (by have := HR.out.short; omega)
    have HB2 := Lib.hid (HB1.out.trans (b2.mono HB1.out.size))
    have HN2 := Lib.hid N2
    clear b2 KF c0 c1' c2' N2
    go_upto_region 4 with (go_at_call 20; refine KC.mono ?_; rintro e w3 ⟨vp', vl', vr', rfl, o3, b3⟩; obtain ⟨B1, e1, rfl, _, _⟩ := row_slice o3.p; obtain ⟨B2, e2, rfl, _, _⟩ := row_slice o3.l; obtain ⟨B3, e3, rfl, _, _⟩ := row_slice o3.r; have N3 := HN2.out.belows b3; have y0 := (N3.cell 0).trans rfl; have y1 := (N3.cell 1).trans rfl; have y2 := (N3.cell 2).trans rfl; have f0 := N3.frozen 0; have f1 := N3.frozen 1; have f2 := N3.frozen 2)
    obtain ⟨w4, hw4⟩ : ∃ w4, w4 = ((w3.setCell ⟨w.heap.size, 0, none⟩ (.slice B1 ps.length e1)).setCell ⟨w.heap.size, 1, none⟩ (.slice B2 ls.length e2)).setCell ⟨w.heap.size, 2, none⟩ (.slice B3 L.length e3) := ⟨_, rfl⟩
    have hlt : w.heap.size < w2.heap.size := HN2.out.lt
    have N4 : At w4 w.heap.size #[.slice B1 ps.length e1, .slice B2 ls.length e2, .slice B3 L.length e3] 28 := by rw [hw4]; exact ((N3.set0 0 _).set0 1 _).set0 2 _
    have far : ∀ {U : World} {e : TypeId} {n : Nat} {v : Value} {k : Nat} {xs : List Value} (a b c : Value), U.ownsRow w2.heap.size e n v k xs → (((U.setCell ⟨w.heap.size, 0, none⟩ a).setCell ⟨w.heap.size, 1, none⟩ b).setCell ⟨w.heap.size, 2, none⟩ c).ownsRow w2.heap.size e n v k xs := fun a b c h => row_far (row_far (row_far h (grownBy_set _ _ _ _) hlt) (grownBy_set _ _ _ _) hlt) (grownBy_set _ _ _ _) hlt
    have O4 : Rows3 w4 w2.heap.size (.slice B1 ps.length e1) (.slice B2 ls.length e2) (.slice B3 L.length e3) ps ls L := by rw [hw4]; exact ⟨far _ _ _ o3.p, far _ _ _ o3.l, far _ _ _ o3.r⟩
    have b4 : Below w.heap.size w w4 := by
      rw [hw4]
      exact (((HB2.out.trans (b3.mono HB2.out.size)).setCell (p := ⟨w.heap.size, 0, none⟩) (Nat.le_refl _) _).setCell (p := ⟨w.heap.size, 1, none⟩) (Nat.le_refl _) _).setCell (p := ⟨w.heap.size, 2, none⟩) (Nat.le_refl _) _
    have HB4 := Lib.hid b4
    have HO4 := Lib.hid O4
    have HN4 := Lib.hid N4
    have HLT := Lib.hid hlt
    have KT := tableOf_any L w4 (rgL_RL HR.out.rules HW.out.rules) (by have := HR.out.short; omega) O4.isN.2
    have y2' := (N4.cell 2).trans rfl
    rw [← hw4]
    clear hw4 N3 y0 y1 y2 f0 f1 f2 o3 b3 d0 d1 d2 KC far hlt N4 O4 b4
    go_upto_region 5 with (go_at_call 21; refine KT.mono ?_; rintro e w5 ⟨vt, rfl, ht, b5⟩; obtain ⟨Bt, rfl⟩ := ht.ptr)
    have HT5 := Lib.hid ht
    have N5 := HN4.out.belows b5
    have HB5 := Lib.hid (HB4.out.trans (b5.mono HB4.out.size))
    have HO5 := Lib.hid (HO4.out.belows b5)
    have KE : Hid (∀ u, Below w5.heap.size w5 u → Calls Try.prog 22 #[.agg #[.slice B1 ps.length e1, .slice B2 ls.length e2, .slice B3 L.length e3], .pointer (some ⟨Bt, 0, none⟩)] u (TellOut u ps ls L)) := Lib.hid fun u hu => tell_any ps ls L u (HO5.out.isN.belows hu) (HT5.out.belows hu) (by have := HR.out.short; omega)
    have SZ : Hid (∀ u, Below w5.heap.size w5 u → u.cell? ⟨w.heap.size, 0, none⟩ = some (.slice B1 ps.length e1) ∧ u.cell? ⟨w.heap.size, 1, none⟩ = some (.slice B2 ls.length e2) ∧ u.cell? ⟨w.heap.size, 2, none⟩ = some (.slice B3 L.length e3)) := Lib.hid fun u hu => ⟨((N5.belows hu).cell 0).trans rfl, ((N5.belows hu).cell 1).trans rfl, ((N5.belows hu).cell 2).trans rfl⟩
    clear ht b5 KT N5 y2'
    go_region_held3 (fun W => W.cell? ⟨w.heap.size, 0, none⟩ = some (.slice B1 ps.length e1) ∧ W.cell? ⟨w.heap.size, 1, none⟩ = some (.slice B2 ls.length e2) ∧ W.cell? ⟨w.heap.size, 2, none⟩ = some (.slice B3 L.length e3))
      (first | exact SZ.out _ (b6w.alloc b6w.size _) | exact SZ.out _ b6w | exact SZ.out _ (bdrewN (Below.refl _ _) 1))
      (first | (go_at_call 22; refine (KE.out _ (bdrewN (Below.refl _ _) 1)).mono ?_; rintro e w6 ⟨g, rfl, tb, b6⟩; have b6w : Below w5.heap.size w5 w6 := (bdrewN (Below.refl _ _) 1).trans b6))
    go_wp2
    go_ret2
    obtain ⟨w7, hw7⟩ : ∃ w7, w7 = w6.alloc (.cells #[.slice B1 ps.length e1, .slice B2 ls.length e2, .slice B3 L.length e3, .pointer (some ⟨Bt, 0, none⟩), .slice (some ⟨g, 0, none⟩) ps.length ps.length] 61) := ⟨_, rfl⟩
    have A7 : At w7 w6.heap.size #[.slice B1 ps.length e1, .slice B2 ls.length e2, .slice B3 L.length e3, .pointer (some ⟨Bt, 0, none⟩), .slice (some ⟨g, 0, none⟩) ps.length ps.length] 61 := by rw [hw7]; exact At.new w6 _ _
    have b7 : Below w5.heap.size w5 w7 := by rw [hw7]; exact b6w.alloc b6w.size _
    have b67 : Below w6.heap.size w6 w7 := by rw [hw7]; exact (Below.refl _ _).alloc (Nat.le_refl _) _
    have hb7 : Below w.heap.size w w7 := HB5.out.trans (b7.mono HB5.out.size)
    rw [← hw7]
    refine ⟨.inl ⟨HR.out, _, rfl, fun W' hx => ?_⟩, hb7⟩
    have hn : Nets H w7 := Nets.belows (W := w) HH.out hb7
    have hlow : ∀ b, H b → b < w.heap.size := fun b hb => by
      obtain ⟨cs, hc⟩ := HH.out b hb
      exact hc.lt
    exact ⟨w6.heap.size, _, _, _, _, g, rfl, A7.exc hx hn (by decide), ((HO5.out.belows b7).exc hx (fun b hb => by have := hlow b hb; have := HLT.out; omega)).isN, exc_is_tab hx hn (HT5.out.belows b7), exc_tb hx hn (tb.belows b67)⟩
end Go.Proofs.Ytlhfaildeemngaa
/- Contracts of package label: Network, Atoms, Atom, At. -/
namespace Go.Proofs.Ytlhfaildeemngaa
open Go.RowKit Go.Shelf

set_option maxRecDepth 100000 in
set_option maxHeartbeats 1000000 in
theorem network10_any {v : Value} (ps : List Int) (ls : List Lk) (L : List Ru) (w : World) (hR : RN ps ls L) (h : LbM w v ps ls L) : Calls Try.prog 16 #[v] w fun e w' => ∃ vp vl vr, e = .returned (.agg #[vp, vl, vr]) ∧ Rows3 w' w.heap.size vp vl vr ps ls L ∧ Below w.heap.size w w' := by
  obtain ⟨B, vp, vl, vr, vt, g, rfl, hA, hN, ht, htb⟩ := h
  obtain ⟨w1, hw1⟩ : ∃ w1, w1 = w.alloc (.cells #[.slice none 0 0, .slice none 0 0, .slice none 0 0] 28) := ⟨_, rfl⟩
  have b1 : Below w.heap.size w w1 := by rw [hw1]; exact (Below.refl _ w).alloc (Nat.le_refl _) _
  have R1 : At w1 w.heap.size #[.slice none 0 0, .slice none 0 0, .slice none 0 0] 28 := by rw [hw1]; exact At.new w _ _
  have A1 := hA.belows b1
  have KC := copied_any ps ls L w1 (hN.belows b1) (by have := hR.short; omega) (by have := hR.short; omega) (by have := hR.short; omega)
  obtain ⟨⟨⟨A1', c1, rfl, _, _, _⟩, ⟨A2, c2, rfl, _, _, _⟩⟩, ⟨A3, c3, rfl, _, _, _⟩⟩ := hN
  have c0 := (A1.cell 0).trans rfl
  have c1' := (A1.cell 1).trans rfl
  have c2' := (A1.cell 2).trans rfl
  have HB1 := Lib.hid b1
  have HR1 := Lib.hid R1
  have hs : w1.heap.size = w.heap.size + 1 := by rw [hw1]; simp
  have HS := Lib.hid hs
  clear hA ht htb A1 R1 b1 hs
  go_enter Try.func16, Try.ntmps16
  go_upto_region 1 with (fail)
  rw [← hw1]
  clear hw1
  go_wp2_with (go_at_call 20; refine KC.mono ?_; rintro e w2 ⟨vp', vl', vr', rfl, o2, b2⟩; obtain ⟨B1, e1, rfl, _, _⟩ := row_slice o2.p; obtain ⟨B2, e2, rfl, _, _⟩ := row_slice o2.l; obtain ⟨B3, e3, rfl, _, _⟩ := row_slice o2.r; have R2 := HR1.out.belows b2; have y0 := (R2.cell 0).trans rfl; have y1 := (R2.cell 1).trans rfl; have y2 := (R2.cell 2).trans rfl; have f0 := R2.frozen 0; have f1 := R2.frozen 1; have f2 := R2.frozen 2)
  have A9 := ((R2.set0 0 (.slice B1 ps.length e1)).set0 1 (.slice B2 ls.length e2)).set0 2 (.slice B3 L.length e3)
  have hlt : w.heap.size < w1.heap.size := by rw [HS.out]; omega
  have far : ∀ {U : World} {e : TypeId} {n : Nat} {v : Value} {k : Nat} {xs : List Value} (a b c : Value), U.ownsRow w1.heap.size e n v k xs → (((U.setCell ⟨w.heap.size, 0, none⟩ a).setCell ⟨w.heap.size, 1, none⟩ b).setCell ⟨w.heap.size, 2, none⟩ c).ownsRow w.heap.size e n v k xs := fun a b c h => row_mono (row_far (row_far (row_far h (grownBy_set _ _ _ _) hlt) (grownBy_set _ _ _ _) hlt) (grownBy_set _ _ _ _) hlt) (by omega)
  have r3 := far (.slice B1 ps.length e1) (.slice B2 ls.length e2) (.slice B3 L.length e3) o2.p
  have r4 := far (.slice B1 ps.length e1) (.slice B2 ls.length e2) (.slice B3 L.length e3) o2.l
  have r6 := far (.slice B1 ps.length e1) (.slice B2 ls.length e2) (.slice B3 L.length e3) o2.r
  have HF := (((HB1.out.trans (b2.mono HB1.out.size)).setCell (p := ⟨w.heap.size, 0, none⟩) (Nat.le_refl _) (.slice B1 ps.length e1)).setCell (p := ⟨w.heap.size, 1, none⟩) (Nat.le_refl _) (.slice B2 ls.length e2)).setCell (p := ⟨w.heap.size, 2, none⟩) (Nat.le_refl _) (.slice B3 L.length e3)
  refine bodyPost_ret (v := .agg #[.slice B1 ps.length e1, .slice B2 ls.length e2, .slice B3 L.length e3]) (by simp [results, Try.results16, go_sem, A9.cell 0, A9.cell 1, A9.cell 2]) rfl ⟨_, _, _, rfl, ⟨r3, r4, r6⟩, HF⟩
set_option maxRecDepth 100000 in
theorem networkNil_any (w : World) : Calls Try.prog 16 #[.pointer none] w fun e w' => (∃ vp vl vr, e = .returned (.agg #[vp, vl, vr]) ∧ IsN w' vp vl vr [] [] []) ∧ Below w.heap.size w w' := by
  have A0 := At.new w #[.slice none 0 0, .slice none 0 0, .slice none 0 0] 28
  have A9 := ((A0.set0 0 (.slice none 0 0)).set0 1 (.slice none 0 0)).set0 2 (.slice none 0 0)
  have b1 : Below w.heap.size w (w.alloc (.cells #[.slice none 0 0, .slice none 0 0, .slice none 0 0] 28)) := (Below.refl _ w).alloc (Nat.le_refl _) _
  have b9 := ((b1.setCell (p := ⟨w.heap.size, 0, none⟩) (Nat.le_refl _) (.slice none 0 0)).setCell (p := ⟨w.heap.size, 1, none⟩) (Nat.le_refl _) (.slice none 0 0)).setCell (p := ⟨w.heap.size, 2, none⟩) (Nat.le_refl _) (.slice none 0 0)
  have y0 := (A0.cell 0).trans rfl; have y1 := (A0.cell 1).trans rfl; have y2 := (A0.cell 2).trans rfl; have f0 := A0.frozen 0; have f1 := A0.frozen 1; have f2 := A0.frozen 2
  have hn : ∀ W : World, IsN W (.slice none 0 0) (.slice none 0 0) (.slice none 0 0) [] [] [] := fun W => ⟨⟨⟨none, 0, rfl, Nat.le_refl _, Nat.zero_le _, Fs.nil _ _⟩, ⟨none, 0, rfl, Nat.le_refl _, Nat.zero_le _, Fs.nil _ _⟩⟩, ⟨none, 0, rfl, Nat.le_refl _, Nat.zero_le _, Rs.nil _ _⟩⟩
  go_enter Try.func16, Try.ntmps16
  go_wp2
  first
    | refine bodyPost_ret (v := .agg #[.slice none 0 0, .slice none 0 0, .slice none 0 0]) (by simp [results, Try.results16, go_sem, A9.cell 0, A9.cell 1, A9.cell 2]) rfl ⟨⟨_, _, _, rfl, hn _⟩, b9⟩
    | refine bodyPost_ret (v := .agg #[.slice none 0 0, .slice none 0 0, .slice none 0 0]) (by simp [results, Try.results16, go_sem, A0.cell 0, A0.cell 1, A0.cell 2]) rfl ⟨⟨_, _, _, rfl, hn _⟩, b1⟩
theorem atm_len (L : List Ru) : (atmL L).length = (Tr.bnds (rgL L)).length := Tr.atomsL_len _
set_option maxRecDepth 100000 in
theorem atoms10_any {v : Value} (ps : List Int) (ls : List Lk) (L : List Ru) (w : World) (h : LbM w v ps ls L) : Calls Try.prog 11 #[v] w fun e w' => e = .returned (.int .i64 (atmL L).length) ∧ Below w.heap.size w w' := by
  obtain ⟨B, vp, vl, vr, vt, g, rfl, hA, hN, ht, htb⟩ := h
  have K := Tr.len5_any _ w ht.any
  rw [← atm_len] at K
  obtain ⟨Bt, rfl⟩ := ht.ptr
  have c3 := (hA.cell 3).trans rfl
  generalize (atmL L).length = N at *
  clear hA hN ht htb
  go_enter Try.func11, Try.ntmps11
  go_wp2_with (go_at_call 26; refine K.mono ?_; rintro e w1 ⟨rfl, b1⟩)
  go_ret
  exact ⟨rfl, b1⟩
theorem atomsNil_any (w : World) : Calls Try.prog 11 #[.pointer none] w fun e w' => e = .returned (.int .i64 0) ∧ Below w.heap.size w w' := by
  go_enter Try.func11, Try.ntmps11
  go_wp2
  go_ret
  exact ⟨rfl, Below.refl _ _⟩
set_option maxRecDepth 100000 in
set_option maxHeartbeats 1000000 in
theorem atom10_any {v : Value} (ps : List Int) (ls : List Lk) (L : List Ru) (i : Int) (w : World) (h : LbM w v ps ls L) : Calls Try.prog 12 #[v, .int .i64 i] w fun e w' => atomV L i e ∧ Below w.heap.size w w' := by
  obtain ⟨B, vp, vl, vr, vt, g, rfl, hA, hN, ht, htb⟩ := h
  obtain ⟨w1, hw1⟩ : ∃ w1, w1 = w.alloc (.cells #[.int .u32 0, .int .u32 0] 43) := ⟨_, rfl⟩
  have b1 : Below w.heap.size w w1 := by rw [hw1]; exact (Below.refl _ w).alloc (Nat.le_refl _) _
  have R1 : At w1 w.heap.size #[.int .u32 0, .int .u32 0] 43 := by rw [hw1]; exact At.new w _ _
  have A1 := hA.belows b1
  have K : ∃ (f t : Nat) (b : Bool), atomV L i (.returned (.tuple #[.agg #[.int .u32 f, .int .u32 t], .bool b])) ∧ Calls Try.prog 27 #[vt, .int .i64 i] w1 fun e w' => e = .returned (.tuple #[.agg #[.int .u32 f, .int .u32 t], .bool b]) ∧ Below w1.heap.size w1 w' := by
    by_cases hi : 0 ≤ i ∧ i < (Tr.bnds (rgL L)).length
    · obtain ⟨k, rfl⟩ := Int.eq_ofNat_of_zero_le hi.1
      have hk : k < (Tr.bnds (rgL L)).length := by omega
      refine ⟨_, _, true, .inl ⟨hi.1, by simpa [atm_len] using hk, ?_⟩, Tr.atom_ok (rgL L) k w1 (ht.belows b1).any hk⟩
      simp [atmL, Tr.atomsL_at]
    · refine ⟨0, 0, false, .inr ⟨fun h => hi ⟨h.1, by have := h.2; rw [atm_len] at this; omega⟩, 0, 0, rfl⟩, ?_⟩
      exact Tr.atom_no (rgL L) i w1 (ht.belows b1).any hi
  obtain ⟨f, t, b, hv, K⟩ := K
  obtain ⟨Bt, rfl⟩ := ht.ptr
  have c3 := (A1.cell 3).trans rfl
  have HB1 := Lib.hid b1
  have HR1 := Lib.hid R1
  have HV := Lib.hid hv
  clear hA hN ht htb A1 R1 b1 hv
  go_enter Try.func12, Try.ntmps12
  go_upto_region 1 with (fail)
  rw [← hw1]
  clear hw1
  go_wp2_with (go_at_call 27; refine K.mono ?_; rintro e w2 ⟨rfl, b2⟩; have R2 := HR1.out.belows b2; have y0 := (R2.cell 0).trans rfl; have y1 := (R2.cell 1).trans rfl; have f0 := R2.frozen 0; have f1 := R2.frozen 1)
  have A9 := (R2.set0 0 (.int .u32 f)).set0 1 (.int .u32 t)
  have HF := ((HB1.out.trans (b2.mono HB1.out.size)).setCell (p := ⟨w.heap.size, 0, none⟩) (Nat.le_refl _) (.int .u32 f)).setCell (p := ⟨w.heap.size, 1, none⟩) (Nat.le_refl _) (.int .u32 t)
  refine bodyPost_ret (v := .tuple #[.agg #[.int .u32 f, .int .u32 t], .bool b]) (by simp [results, Try.results12, go_sem, A9.cell 0, A9.cell 1]) rfl ⟨HV.out, HF⟩
set_option maxRecDepth 100000 in
theorem atomNil_any (i : Int) (w : World) : Calls Try.prog 12 #[.pointer none, .int .i64 i] w fun e w' => (∃ x y : Nat, e = .returned (.tuple #[.agg #[.int .u32 x, .int .u32 y], .bool false])) ∧ Below w.heap.size w w' := by
  have A0 := At.new w #[.int .u32 0, .int .u32 0] 43
  have A9 := (A0.set0 0 (.int .u32 0)).set0 1 (.int .u32 0)
  have b1 : Below w.heap.size w (w.alloc (.cells #[.int .u32 0, .int .u32 0] 43)) := (Below.refl _ w).alloc (Nat.le_refl _) _
  have b9 := (b1.setCell (p := ⟨w.heap.size, 0, none⟩) (Nat.le_refl _) (.int .u32 0)).setCell (p := ⟨w.heap.size, 1, none⟩) (Nat.le_refl _) (.int .u32 0)
  have y0 := (A0.cell 0).trans rfl; have y1 := (A0.cell 1).trans rfl; have f0 := A0.frozen 0; have f1 := A0.frozen 1
  go_enter Try.func12, Try.ntmps12
  go_wp2
  first
    | refine bodyPost_ret (v := .tuple #[.agg #[.int .u32 (0 : Nat), .int .u32 (0 : Nat)], .bool false]) (by simp [results, Try.results12, go_sem, A9.cell 0, A9.cell 1]) rfl ⟨⟨0, 0, rfl⟩, b9⟩
    | refine bodyPost_ret (v := .tuple #[.agg #[.int .u32 (0 : Nat), .int .u32 (0 : Nat)], .bool false]) (by simp [results, Try.results12, go_sem, A0.cell 0, A0.cell 1]) rfl ⟨⟨0, 0, rfl⟩, b1⟩
set_option maxRecDepth 100000 in
theorem at10_in {v : Value} (ps : List Int) (ls : List Lk) (L : List Ru) (d i : Nat) (w : World) (hd : d < ps.length) (hi : i < (Tr.bnds (rgL L)).length) (hs : ps.length ≤ 8) (hb : (Tr.bnds (rgL L)).length ≤ 4000) (h : LbM w v ps ls L) : Calls Try.prog 10 #[v, .int .i64 (d : Int), .int .i64 (i : Int)] w fun e w' => e = .returned (.tuple #[.int .i64 (tellQ ls L d i), .bool true]) ∧ Below w.heap.size w w' := by
  obtain ⟨B, vp, vl, vr, vt, g, rfl, hA, hN, ht, htb⟩ := h
  obtain ⟨gd, r0, r1⟩ := htb.row hd
  have r2 := r1 i hi
  generalize tellQ ls L d i = lv at *
  have c4 := (hA.cell 4).trans rfl
  generalize (Tr.bnds (rgL L)).length = N at *
  generalize ps.length = D at *
  have e1 : decide ((d : Int) < 0) = false := decide_eq_false (by omega)
  have e2 : decide ((D : Int) ≤ (d : Int)) = false := decide_eq_false (by omega)
  have e3 : decide ((i : Int) < 0) = false := decide_eq_false (by omega)
  have e4 : decide ((N : Int) ≤ (i : Int)) = false := decide_eq_false (by omega)
  have e2' : decide (D ≤ d) = false := decide_eq_false (by omega)
  have e4' : decide (N ≤ i) = false := decide_eq_false (by omega)
  have i0 : (0 : Int) ≤ (d : Int) := by omega
  have i1 : (d : Int) < (D : Int) := by omega
  have i2 : (0 : Int) ≤ (i : Int) := by omega
  have i3 : (i : Int) < (N : Int) := by omega
  have n1 : D ≤ 9223372036854775807 := by omega
  have n2 : N ≤ 9223372036854775807 := by omega
  clear hA hN ht htb r1
  go_enter Try.func10, Try.ntmps10
  go_wp2
  go_ret2
  exact ⟨rfl, Below.refl _ _⟩
set_option maxRecDepth 100000 in
theorem at10_out {v : Value} (ps : List Int) (ls : List Lk) (L : List Ru) (d i : Int) (w : World) (hs : ps.length ≤ 8) (hb : (Tr.bnds (rgL L)).length ≤ 4000) (hd : isI d) (_hi : isI i) (hno : ¬ ((0 ≤ d ∧ d < ps.length) ∧ 0 ≤ i ∧ i < (Tr.bnds (rgL L)).length)) (h : LbM w v ps ls L) : Calls Try.prog 10 #[v, .int .i64 d, .int .i64 i] w fun e w' => e = .returned (.tuple #[.int .i64 0, .bool false]) ∧ Below w.heap.size w w' := by
  obtain ⟨B, vp, vl, vr, vt, g, rfl, hA, hN, ht, htb⟩ := h
  have c4 := (hA.cell 4).trans rfl
  by_cases h1 : 0 ≤ d ∧ d < ps.length
  · obtain ⟨d, rfl⟩ := Int.eq_ofNat_of_zero_le h1.1
    have h2 : ¬ (0 ≤ i ∧ i < (Tr.bnds (rgL L)).length) := fun h => hno ⟨h1, h⟩
    obtain ⟨gd, r0, _⟩ := htb.row (d := d) (by omega)
    generalize (Tr.bnds (rgL L)).length = N at *
    generalize ps.length = D at *
    have e1 : decide ((d : Int) < 0) = false := decide_eq_false (by omega)
    have e2 : decide ((D : Int) ≤ (d : Int)) = false := decide_eq_false (by omega)
    have e2' : decide (D ≤ d) = false := decide_eq_false (by omega)
    have i0 : (0 : Int) ≤ (d : Int) := by omega
    have i1 : (d : Int) < (D : Int) := by omega
    have n1 : D ≤ 9223372036854775807 := by omega
    have n2 : N ≤ 9223372036854775807 := by omega
    by_cases h3 : i < 0
    · have e3 : decide (i < 0) = true := decide_eq_true h3
      clear hA hN ht htb hno h1 h2
      go_enter Try.func10, Try.ntmps10
      go_wp2
      go_ret2
      exact ⟨rfl, Below.refl _ _⟩
    · have e3 : decide (i < 0) = false := decide_eq_false h3
      have e4 : decide ((N : Int) ≤ i) = true := decide_eq_true (by omega)
      clear hA hN ht htb hno h1 h2
      go_enter Try.func10, Try.ntmps10
      go_wp2
      go_ret2
      exact ⟨rfl, Below.refl _ _⟩
  · generalize ps.length = D at *
    by_cases h3 : d < 0
    · have e3 : decide (d < 0) = true := decide_eq_true h3
      clear hA hN ht htb hno h1
      go_enter Try.func10, Try.ntmps10
      go_wp2
      go_ret2
      exact ⟨rfl, Below.refl _ _⟩
    · have e3 : decide (d < 0) = false := decide_eq_false h3
      have e4 : decide ((D : Int) ≤ d) = true := decide_eq_true (by omega)
      clear hA hN ht htb hno h1
      go_enter Try.func10, Try.ntmps10
      go_wp2
      go_ret2
      exact ⟨rfl, Below.refl _ _⟩
theorem atNil_any (d i : Int) (w : World) : Calls Try.prog 10 #[.pointer none, .int .i64 d, .int .i64 i] w fun e w' => (∃ x : Int, e = .returned (.tuple #[.int .i64 x, .bool false])) ∧ Below w.heap.size w w' := by
  go_enter Try.func10, Try.ntmps10
  go_wp2
  go_ret2
  exact ⟨⟨0, rfl⟩, Below.refl _ _⟩
end Go.Proofs.Ytlhfaildeemngaa
/- Contracts of package label: Insert, Delete. -/
namespace Go.Proofs.Ytlhfaildeemngaa
open Go.RowKit Go.Shelf

theorem idAt_cons (x : Ru) (L : List Ru) (j : Nat) : idAt (x :: L) (j + 1) = idAt L j := by
  unfold idAt
  by_cases h : j < L.length
  · rw [dif_pos h, dif_pos (by simpa using h)]; rfl
  · rw [dif_neg h, dif_neg (by simpa using h)]
/-- The list with a rule put in at its place. -/
theorem ins_plc {r : Ru} : ∀ {L : List Ru} {i : Nat}, Plc L r.id i → (∀ x ∈ L, x.id ≠ r.id) → L.take i ++ [r] ++ L.drop i = insL r L
  | [], i, h, _ => by
    have : i = 0 := by have := h.le; simpa using this
    subst this
    rfl
  | x :: L, 0, h, hn => by
    have h1 := h.high 0 (Nat.le_refl _) (by simp)
    rw [idAt_in (by simp)] at h1
    have h2 := hn x (by simp)
    have h3 : r.id < x.id := by
      have : r.id ≤ x.id := h1
      omega
    rw [insL, if_pos h3]
    rfl
  | x :: L, i + 1, h, hn => by
    have h1 := h.low 0 (by omega)
    rw [idAt_in (by simp)] at h1
    have h3 : ¬ r.id < x.id := by
      have : x.id < r.id := h1
      omega
    have ih := ins_plc (L := L) (i := i) ⟨by have := h.le; simp at this; omega, fun j hj => by rw [← idAt_cons x]; exact h.low (j + 1) (by omega), fun j h1 h2 => by rw [← idAt_cons x]; exact h.high (j + 1) (by omega) (by simpa using h2)⟩ (fun y hy => hn y (by simp [hy]))
    rw [insL, if_neg h3, ← ih]
    rfl
/-- .. and without the one at its place. -/
theorem del_plc {L : List Ru} {id : Int} {i : Nat} (hp : L.Pairwise (fun a b => a.id < b.id)) (hi : i < L.length) (he : idAt L i = id) : L.take i ++ L.drop (i + 1) = delL id L := by
  have e : L = L.take i ++ L[i] :: L.drop (i + 1) := by rw [← List.drop_eq_getElem_cons, List.take_append_drop]
  rw [idAt_in hi] at he
  have hpp := hp
  rw [e, List.pairwise_append] at hpp
  obtain ⟨p1, p2, p3⟩ := hpp
  have q1 : (L.take i).filter (fun x => decide (x.id ≠ id)) = L.take i := List.filter_eq_self.2 fun x hx => decide_eq_true (by have := p3 x hx L[i] List.mem_cons_self; omega)
  have q2 : (L.drop (i + 1)).filter (fun x => decide (x.id ≠ id)) = L.drop (i + 1) := List.filter_eq_self.2 fun x hx => decide_eq_true (by have := (List.pairwise_cons.1 p2).1 x hx; omega)
  unfold delL
  conv => rhs; rw [e]
  rw [List.filter_append, List.filter_cons, if_neg (by simp [he]), q1, q2]
/-- A row does not lie in a block of another type. -/
theorem row_at_ne {w : World} {base : Nat} {e : TypeId} {n : Nat} {v : Value} {k : Nat} {xs : List Value} (h : w.ownsRow base e n v k xs) {B : Nat} {cs : Array Value} {t : TypeId} (hA : At w B cs t) (ht : e ≠ t) : ∀ g, v.ownBlock = some g → g ≠ B := by
  intro g hg hB
  rw [hB] at hg
  rcases h.2 with ⟨rfl, _⟩ | ⟨g', cap, cur, rfl, _, hgg, _⟩
  · cases hg
  · have e3 : g' = B := by simpa [Value.ownBlock] using hg
    rw [e3] at hgg
    have e2 := hgg.symm.trans (show w.heap[B]? = _ from hA)
    simp only [Option.some.injEq, Obj.cells.injEq] at e2
    exact ht e2.2.1
theorem row_row_ne {w : World} {b1 b2 : Nat} {e1 e2 : TypeId} {n1 n2 : Nat} {v1 v2 : Value} {k1 k2 : Nat} {x1 x2 : List Value} (h1 : w.ownsRow b1 e1 n1 v1 k1 x1) (h2 : w.ownsRow b2 e2 n2 v2 k2 x2) (ht : e1 ≠ e2) : v1.ownBlock = none ∨ v1.ownBlock ≠ v2.ownBlock := by
  rcases h2.2 with ⟨rfl, _⟩ | ⟨g, cap, cur, rfl, _, hgg, _⟩
  · cases hv : v1.ownBlock with
    | none => exact .inl rfl
    | some c => exact .inr (by intro e; cases e)
  · cases hv : v1.ownBlock with
    | none => exact .inl rfl
    | some c => exact .inr fun e => row_at_ne h1 (B := g) hgg ht c hv (by cases e; rfl)
theorem At.ne_row {w w' : World} {base : Nat} {e : TypeId} {n : Nat} {v : Value} {k : Nat} {xs : List Value} (h : w.ownsRow base e n v k xs) {B : Nat} {cs : Array Value} {t : TypeId} (hA : At w B cs t) (ht : e ≠ t) (hg : w.grownBy w' v.ownBlock) : At w' B cs t :=
  hA.kept hg fun hh => row_at_ne h hA ht B hh.symm rfl
set_option maxRecDepth 100000 in
set_option maxHeartbeats 2000000 in
theorem insert10_any {v : Value} (H : Nat → Prop) (ps : List Int) (ls : List Lk) (L : List Ru) (r : Ru) (w : World) (hH : ∀ b, H b → ∃ cs, At w b cs 28) (hR : RN ps ls L) (hW : NW ps ls L) (hr : r.wf) (h : LbM w v ps ls L) : Calls Try.prog 14 #[v, .agg (ruA r)] w fun e w' =>
    ((insE ps ls L r = 0 ∧ ∃ p, e = .returned (.tuple #[p, .int .i64 0]) ∧ Lb10 H w' p ps ls (insL r L)) ∨ (insE ps ls L r ≠ 0 ∧ e = .returned (.tuple #[.pointer none, .int .i64 (insE ps ls L r)]))) ∧ Below w.heap.size w w' := by
  have hsh := hR.short
  have hpw := ((allB_pw L).1 hR.rules).2.2
  obtain ⟨w1, hw1⟩ : ∃ w1, w1 = w.alloc (.cells (ruA r) 50) := ⟨_, rfl⟩
  have b1 : Below w.heap.size w w1 := by rw [hw1]; exact (Below.refl _ w).alloc (Nat.le_refl _) _
  have R1 : At w1 w.heap.size (ruA r) 50 := by rw [hw1]; exact At.new w _ _
  have s1 : w1.heap.size = w.heap.size + 1 := by rw [hw1]; simp
  have hL1 : LbM w1 v ps ls L := by
    obtain ⟨B, vp, vl, vr, vt, g, e, hA, hN, ht, htb⟩ := h
    exact ⟨B, vp, vl, vr, vt, g, e, hA.belows b1, hN.belows b1, ht.belows b1, htb.belows b1⟩
  have KN := network10_any ps ls L w1 hR hL1
  obtain ⟨B, vp, vl, vr, vt, g, rfl, _⟩ := h
  have HB1 := Lib.hid b1
  have HR1 := Lib.hid R1
  have HS1 := Lib.hid s1
  have HR := Lib.hid hR
  have HW := Lib.hid hW
  have HH := Lib.hid hH
  have HP := Lib.hid hpw
  have HI : Hid (hasId r.id L = true → insE ps ls L r = 142) := Lib.hid fun h => by unfold insE; rw [if_pos h]
  have HI2 : Hid (hasId r.id L = false → insE ps ls L r = if rightN ps ls (insL r L) then 0 else 71) := Lib.hid fun h => by unfold insE; rw [if_neg (by rw [h]; decide)]
  have HRW := Lib.hid hr
  obtain ⟨r', hr'⟩ : ∃ r', r' = r := ⟨_, rfl⟩
  have HRR := Lib.hid hr'
  obtain ⟨id, dv, pr, kd, f, t, pt⟩ := r
  rw [ruA_mk] at hw1
  have R1c := R1
  rw [ruA_mk] at R1c ⊢
  clear hr' R1 hH hL1 hpw hW hR b1 s1 hr
  go_enter Try.func14, Try.ntmps14
  go_upto_region 1 with (fail)
  rw [← hw1]
  clear hw1
  go_upto_region 4 with (go_at_call 16; refine KN.mono ?_; rintro e w2 ⟨vp', vl', vr', rfl, o2, b2⟩; obtain ⟨B1, e1, rfl, _, _⟩ := row_slice o2.p; obtain ⟨B2, e2, rfl, _, _⟩ := row_slice o2.l; obtain ⟨B3, e3, rfl, e4, e5⟩ := row_slice o2.r)
  obtain ⟨w3, hw3⟩ : ∃ w3, w3 = w2.alloc (.cells #[.slice B1 ps.length e1, .slice B2 ls.length e2, .slice B3 L.length e3] 28) := ⟨_, rfl⟩
  have b3 : Below w1.heap.size w1 w3 := by rw [hw3]; exact b2.alloc b2.size _
  have N3 : At w3 w2.heap.size #[.slice B1 ps.length e1, .slice B2 ls.length e2, .slice B3 L.length e3] 28 := by rw [hw3]; exact At.new w2 _ _
  have O3 : Rows3 w3 w1.heap.size (.slice B1 ps.length e1) (.slice B2 ls.length e2) (.slice B3 L.length e3) ps ls L := by rw [hw3]; exact ⟨o2.p.alloc _, o2.l.alloc _, o2.r.alloc _⟩
  obtain ⟨NB, hNB⟩ : ∃ NB, NB = w2.heap.size := ⟨_, rfl⟩
  have KP := place_any L id w3 HP.out (by omega) e4 e5 (by
    obtain ⟨_, _, e, _, _, z⟩ := O3.isN.2
    cases e
    exact z)
  rw [← hNB] at N3 ⊢
  rw [← hw3]
  have R3 := R1c.belows b3
  have y2 := (N3.cell 2).trans rfl
  have q0 := (R3.cell 0).trans rfl
  have HN3 := Lib.hid N3
  have HO3 := Lib.hid O3
  have HB3 := Lib.hid b3
  have HR3 := Lib.hid R3
  have HNB : Hid (w1.heap.size ≤ NB) := Lib.hid (by rw [hNB]; exact b2.size)
  clear hw3 hNB KN o2 b2 b3 N3 O3 R3 R1c
  go_upto_region 5 with (go_at_call 29; refine KP.mono ?_; rintro e w4 ⟨i, rfl, hpl, b4⟩)
  have HPL := Lib.hid hpl
  have HB4 := Lib.hid (HB3.out.trans (b4.mono HB3.out.size))
  have HN4 := Lib.hid (HN3.out.belows b4)
  have HO4 := Lib.hid (HO3.out.belows b4)
  have R4 := HR3.out.belows b4
  have hile := hpl.le
  clear KP b4 hpl y2 q0
  cases hq : hasId id L with
  | true =>
    have hE := Lib.hid (HI.out hq)
    clear HI HI2 hq
    go_wp2
    go_ret2
    rw [hE.out]
    exact ⟨.inr ⟨by decide, rfl⟩, HB1.out.trans (HB4.out.mono HB1.out.size)⟩
  | false =>
    have hE := Lib.hid (HI2.out hq)
    have hno := hasId_no.1 hq
    have HL := Lib.hid (ins_plc (r := ⟨id, dv, pr, kd, f, t, pt⟩) HPL.out hno)
    clear HI HI2 hq hno
    have y2 := (HN4.out.cell 2).trans rfl
    have r0 := (R4.cell 0).trans rfl; have r1 := (R4.cell 1).trans rfl; have r2 := (R4.cell 2).trans rfl; have r3 := (R4.cell 3).trans rfl; have r4 := (R4.cell 4).trans rfl; have r5 := (R4.cell 5).trans rfl; have r6 := (R4.cell 6).trans rfl
    obtain ⟨w5, hw5⟩ : ∃ w5, w5 = w4.alloc (.cells #[.int .i64 id, .int .i64 dv, .int .i64 pr, .int .i64 kd, .int .u32 f, .int .u32 t, .int .i64 pt] 50) := ⟨_, rfl⟩
    have V5 : At w5 w4.heap.size (ruA ⟨id, dv, pr, kd, f, t, pt⟩) 50 := by rw [hw5]; exact At.new w4 _ _
    have b45 : Below w4.heap.size w4 w5 := by rw [hw5]; exact (Below.refl _ _).alloc (Nat.le_refl _) _
    have O5 := HO4.out.belows b45
    have N5 := HN4.out.belows b45
    have B5 : Below w1.heap.size w1 w5 := HB4.out.trans (b45.mono HB4.out.size)
    have KI := insert_any L i ⟨id, dv, pr, kd, f, t, pt⟩ w4.heap.size w5 hile (by omega) O5.r B5.size V5 (fun e => by
      have := (HO4.out.r.lt _ e).2
      omega)
    rw [HL.out] at KI
    have HO5 := Lib.hid O5
    have HN5 := Lib.hid N5
    have HB5 := Lib.hid B5
    obtain ⟨VB, hVB⟩ : ∃ VB, VB = w4.heap.size := ⟨_, rfl⟩
    rw [← hVB] at KI
    rw [hw5] at KI
    have HE5 := Lib.hid hw5
    have HVB := Lib.hid hVB
    clear hw5 V5 b45 O5 N5 B5
    go_upto_region 8 with (rw [← hVB]; go_at_call 30; refine KI.mono ?_; rintro e w6 ⟨v6, rfl, o6, g6⟩; rw [← HE5.out] at g6; have N6 := At.ne_row HO5.out.r HN5.out (by decide) g6; have z2 := (N6.cell 2).trans rfl; have z2f := N6.frozen 2; obtain ⟨B6, d6, rfl, _, _⟩ := row_slice o6)
    obtain ⟨w7, hw7⟩ : ∃ w7, w7 = w6.setCell ⟨NB, 2, none⟩ (.slice B6 (insL ⟨id, dv, pr, kd, f, t, pt⟩ L).length d6) := ⟨_, rfl⟩
    have N7 : At w7 NB #[.slice B1 ps.length e1, .slice B2 ls.length e2, .slice B6 (insL ⟨id, dv, pr, kd, f, t, pt⟩ L).length d6] 28 := by rw [hw7]; exact N6.set0 2 _
    have p6 := HO5.out.p.kept g6 (row_row_ne HO5.out.p HO5.out.r (by decide))
    have l6 := HO5.out.l.kept g6 (row_row_ne HO5.out.l HO5.out.r (by decide))
    have gs : w6.grownBy w7 (some NB) := by rw [hw7]; exact grownBy_set _ _ _ _
    have I7 : IsN w7 (.slice B1 ps.length e1) (.slice B2 ls.length e2) (.slice B6 (insL ⟨id, dv, pr, kd, f, t, pt⟩ L).length d6) ps ls (insL ⟨id, dv, pr, kd, f, t, pt⟩ L) :=
      (Rows3.mk (row_not p6 gs (row_at_ne p6 N6 (by decide))) (row_not l6 gs (row_at_ne l6 N6 (by decide))) (row_not o6 gs (row_at_ne o6 N6 (by decide)))).isN
    have b7 : Below w.heap.size w w7 := by
      have b6 := HB5.out.grown g6 HB5.out.size (fun k hk => (HO5.out.r.lt k hk).1)
      rw [hw7]
      exact (HB1.out.trans (b6.mono HB1.out.size)).setCell (p := ⟨NB, 2, none⟩) (by show w.heap.size ≤ NB; have := HNB.out; have := HS1.out; omega) _
    have KO := of10_any H ps ls (insL ⟨id, dv, pr, kd, f, t, pt⟩ L) w7 (Nets.belows (W := w) HH.out b7) (ins_w HW.out HRW.out (by omega)) I7
    have KO2 : Calls Try.prog 8 #[.agg #[.slice B1 ps.length e1, .slice B2 ls.length e2, .slice B6 (insL ⟨id, dv, pr, kd, f, t, pt⟩ L).length d6]] w7 fun e w' => ∃ (p : Value) (n : Int), e = .returned (.tuple #[p, .int .i64 n]) ∧ Hid ((insE ps ls L ⟨id, dv, pr, kd, f, t, pt⟩ = 0 ∧ n = 0 ∧ Lb10 H w' p ps ls (insL ⟨id, dv, pr, kd, f, t, pt⟩ L)) ∨ (insE ps ls L ⟨id, dv, pr, kd, f, t, pt⟩ ≠ 0 ∧ p = .pointer none ∧ n = insE ps ls L ⟨id, dv, pr, kd, f, t, pt⟩)) ∧ Below w7.heap.size w7 w' := KO.mono fun e w' h => by
      obtain ⟨h, hb⟩ := h
      rcases h with ⟨h1, p, rfl, h3⟩ | ⟨h1, rfl⟩
      · exact ⟨p, 0, rfl, Lib.hid (.inl ⟨by rw [hE.out, if_pos ((rightN_iff _ _ _).2 h1)], rfl, h3⟩), hb⟩
      · have h2 : rightN ps ls (insL ⟨id, dv, pr, kd, f, t, pt⟩ L) = false := by
          cases hq : rightN ps ls (insL ⟨id, dv, pr, kd, f, t, pt⟩ L) with
          | false => rfl
          | true => exact absurd ((rightN_iff _ _ _).1 hq) h1
        have h3 : insE ps ls L ⟨id, dv, pr, kd, f, t, pt⟩ = 71 := by rw [hE.out, h2]; rfl
        exact ⟨_, _, rfl, Lib.hid (.inr ⟨by rw [h3]; decide, rfl, h3.symm⟩), hb⟩
    have HB7 := Lib.hid b7
    have d0 := (N7.cell 0).trans rfl
    have d1 := (N7.cell 1).trans rfl
    have d2 := (N7.cell 2).trans rfl
    rw [← hw7]
    clear hw7 N6 N7 z2 z2f o6 p6 l6 gs I7 b7 KO g6 y2 r0 r1 r2 r3 r4 r5 r6 R4 hile
    go_wp2_with (go_at_call 8; refine KO2.mono ?_; rintro e w8 ⟨p, n, rfl, h8, b8⟩)
    go_ret2
    have hb8 := HB7.out.trans (b8.mono HB7.out.size)
    rcases h8.out with ⟨h1, rfl, h3⟩ | ⟨h1, rfl, rfl⟩
    · exact ⟨.inl ⟨h1, p, rfl, h3⟩, hb8⟩
    · exact ⟨.inr ⟨h1, rfl⟩, hb8⟩
end Go.Proofs.Ytlhfaildeemngaa
/- Contracts of package label: Delete; nil labels. -/
namespace Go.Proofs.Ytlhfaildeemngaa
open Go.RowKit Go.Shelf

theorem delete_any {v : Value} {base : Nat} (L : List Ru) (i : Nat) (w : World) (hi : i < L.length) (hl : L.length ≤ 100000) (hrow : w.ownsRow base 50 7 v L.length (fcs ruA L)) :
    Calls Try.prog 31 #[v, .int .i64 (i : Int), .int .i64 ((i : Int) + 1)] w (RowOut w base v (L.take i ++ L.drop (i + 1))) := by
  rcases hrow.2 with ⟨_, h0⟩ | ⟨g, cap, cur, rfl, hb, hA, hnc, hm, hs, hx⟩
  · omega
  · obtain ⟨M, hM⟩ : ∃ M, L.length = M + 1 := ⟨L.length - 1, by omega⟩
    have := delete_row L i w hM (by omega) (by omega) hb hA (by omega) hm hs hx
    rw [← hM] at this
    exact this
set_option maxRecDepth 100000 in
set_option maxHeartbeats 2000000 in
theorem delete10_any {v : Value} (H : Nat → Prop) (ps : List Int) (ls : List Lk) (L : List Ru) (id : Int) (w : World) (hH : ∀ b, H b → ∃ cs, At w b cs 28) (hR : RN ps ls L) (hW : NW ps ls L) (h : LbM w v ps ls L) : Calls Try.prog 15 #[v, .int .i64 id] w fun e w' =>
    ((delE L id = 0 ∧ ∃ p, e = .returned (.tuple #[p, .int .i64 0]) ∧ Lb10 H w' p ps ls (delL id L)) ∨ (delE L id ≠ 0 ∧ e = .returned (.tuple #[.pointer none, .int .i64 (delE L id)]))) ∧ Below w.heap.size w w' := by
  have hsh := hR.short
  have hpw := ((allB_pw L).1 hR.rules).2.2
  have KN := network10_any ps ls L w hR h
  obtain ⟨B, vp, vl, vr, vt, g, rfl, _⟩ := h
  have HW := Lib.hid hW
  have HH := Lib.hid hH
  have HP := Lib.hid hpw
  have HD : Hid (RN ps ls (delL id L)) := Lib.hid (del_right hR id)
  have HE1 : Hid (hasId id L = true → delE L id = 0) := Lib.hid fun h => by unfold delE; rw [if_pos h]
  have HE2 : Hid (hasId id L = false → delE L id = 143) := Lib.hid fun h => by unfold delE; rw [if_neg (by rw [h]; decide)]
  clear hH hpw hW hR
  go_enter Try.func15, Try.ntmps15
  go_upto_region 4 with (go_at_call 16; refine KN.mono ?_; rintro e w2 ⟨vp', vl', vr', rfl, o2, b2⟩; obtain ⟨B1, e1, rfl, _, _⟩ := row_slice o2.p; obtain ⟨B2, e2, rfl, _, _⟩ := row_slice o2.l; obtain ⟨B3, e3, rfl, e4, e5⟩ := row_slice o2.r)
  obtain ⟨w3, hw3⟩ : ∃ w3, w3 = w2.alloc (.cells #[.slice B1 ps.length e1, .slice B2 ls.length e2, .slice B3 L.length e3] 28) := ⟨_, rfl⟩
  have b3 : Below w.heap.size w w3 := by rw [hw3]; exact b2.alloc b2.size _
  have N3 : At w3 w2.heap.size #[.slice B1 ps.length e1, .slice B2 ls.length e2, .slice B3 L.length e3] 28 := by rw [hw3]; exact At.new w2 _ _
  have O3 : Rows3 w3 w.heap.size (.slice B1 ps.length e1) (.slice B2 ls.length e2) (.slice B3 L.length e3) ps ls L := by rw [hw3]; exact ⟨o2.p.alloc _, o2.l.alloc _, o2.r.alloc _⟩
  obtain ⟨NB, hNB⟩ : ∃ NB, NB = w2.heap.size := ⟨_, rfl⟩
  have KP := place_any L id w3 HP.out (by omega) e4 e5 (by
    obtain ⟨_, _, e, _, _, z⟩ := O3.isN.2
    cases e
    exact z)
  rw [← hNB] at N3 ⊢
  rw [← hw3]
  have y2 := (N3.cell 2).trans rfl
  have HN3 := Lib.hid N3
  have HO3 := Lib.hid O3
  have HB3 := Lib.hid b3
  have HNB : Hid (w.heap.size ≤ NB) := Lib.hid (by rw [hNB]; exact b2.size)
  clear hw3 hNB KN o2 b2 b3 N3 O3
  go_upto_region 5 with (go_at_call 29; refine KP.mono ?_; rintro e w4 ⟨i, rfl, hpl, b4⟩)
  have HPL := Lib.hid hpl
  have HB4 := Lib.hid (HB3.out.trans (b4.mono HB3.out.size))
  have HN4 := Lib.hid (HN3.out.belows b4)
  have HO4 := Lib.hid (HO3.out.belows b4)
  have hile := hpl.le
  clear KP b4 hpl y2
  cases hq : hasId id L with
  | false =>
    have hE := Lib.hid (HE2.out hq)
    clear HE1 HE2 hq
    go_wp2
    go_ret2
    rw [hE.out]
    exact ⟨.inr ⟨by decide, rfl⟩, HB4.out⟩
  | true =>
    have hE := Lib.hid (HE1.out hq)
    have hat := of_decide_eq_true ((HPL.out.has HP.out).symm.trans hq)
    have HL := Lib.hid (del_plc HP.out hat.1 hat.2)
    have hlt := hat.1
    clear HE1 HE2 hq hat
    have y2 := (HN4.out.cell 2).trans rfl
    have KI := delete_any L i w4 hlt (by omega) HO4.out.r
    rw [HL.out] at KI
    have j1 : IntKind.i64.wrap ((i : Int) + 1) = (i : Int) + 1 := IntWalk.i64_in _ (by omega)
    go_upto_region 8 with (go_at_call 31; refine KI.mono ?_; rintro e w6 ⟨v6, rfl, o6, g6⟩; have N6 := At.ne_row HO4.out.r HN4.out (by decide) g6; have z2 := (N6.cell 2).trans rfl; have z2f := N6.frozen 2; obtain ⟨B6, d6, rfl, _, _⟩ := row_slice o6)
    obtain ⟨w7, hw7⟩ : ∃ w7, w7 = w6.setCell ⟨NB, 2, none⟩ (.slice B6 (delL id L).length d6) := ⟨_, rfl⟩
    have N7 : At w7 NB #[.slice B1 ps.length e1, .slice B2 ls.length e2, .slice B6 (delL id L).length d6] 28 := by rw [hw7]; exact N6.set0 2 _
    have p6 := HO4.out.p.kept g6 (row_row_ne HO4.out.p HO4.out.r (by decide))
    have l6 := HO4.out.l.kept g6 (row_row_ne HO4.out.l HO4.out.r (by decide))
    have gs : w6.grownBy w7 (some NB) := by rw [hw7]; exact grownBy_set _ _ _ _
    have I7 : IsN w7 (.slice B1 ps.length e1) (.slice B2 ls.length e2) (.slice B6 (delL id L).length d6) ps ls (delL id L) :=
      (Rows3.mk (row_not p6 gs (row_at_ne p6 N6 (by decide))) (row_not l6 gs (row_at_ne l6 N6 (by decide))) (row_not o6 gs (row_at_ne o6 N6 (by decide)))).isN
    have b7 : Below w.heap.size w w7 := by
      have b6 := HB4.out.grown g6 HB4.out.size (fun k hk => (HO4.out.r.lt k hk).1)
      rw [hw7]
      exact b6.setCell (p := ⟨NB, 2, none⟩) HNB.out _
    have KO := of10_any H ps ls (delL id L) w7 (Nets.belows (W := w) HH.out b7) (del_w HW.out id) I7
    have KO2 : Calls Try.prog 8 #[.agg #[.slice B1 ps.length e1, .slice B2 ls.length e2, .slice B6 (delL id L).length d6]] w7 fun e w' => ∃ (p : Value), e = .returned (.tuple #[p, .int .i64 0]) ∧ Hid (Lb10 H w' p ps ls (delL id L)) ∧ Below w7.heap.size w7 w' := KO.mono fun e w' h => by
      obtain ⟨h, hb⟩ := h
      rcases h with ⟨h1, p, rfl, h3⟩ | ⟨h1, rfl⟩
      · exact ⟨p, rfl, Lib.hid h3, hb⟩
      · exact absurd HD.out h1
    have HB7 := Lib.hid b7
    have d0 := (N7.cell 0).trans rfl
    have d1 := (N7.cell 1).trans rfl
    have d2 := (N7.cell 2).trans rfl
    rw [← hw7]
    clear hw7 N6 N7 z2 z2f o6 p6 l6 gs I7 b7 KO g6 y2 hile hlt
    go_wp2_with (go_at_call 8; refine KO2.mono ?_; rintro e w8 ⟨p, rfl, h8, b8⟩)
    go_ret2
    exact ⟨.inl ⟨hE.out, p, rfl, h8.out⟩, HB7.out.trans (b8.mono HB7.out.size)⟩
set_option maxRecDepth 100000 in
theorem insertNil_any (r : Ru) (w : World) : Calls Try.prog 14 #[.pointer none, .agg (ruA r)] w fun e w' => e = .returned (.tuple #[.pointer none, .int .i64 1]) ∧ Below w.heap.size w w' := by
  obtain ⟨id, dv, pr, kd, f, t, pt⟩ := r
  rw [ruA_mk]
  have b1 : Below w.heap.size w (w.alloc (.cells #[.int .i64 id, .int .i64 dv, .int .i64 pr, .int .i64 kd, .int .u32 f, .int .u32 t, .int .i64 pt] 50)) := (Below.refl _ w).alloc (Nat.le_refl _) _
  go_enter Try.func14, Try.ntmps14
  go_wp2
  go_ret2
  exact ⟨rfl, b1⟩
theorem deleteNil_any (i : Int) (w : World) : Calls Try.prog 15 #[.pointer none, .int .i64 i] w fun e w' => e = .returned (.tuple #[.pointer none, .int .i64 1]) ∧ Below w.heap.size w w' := by
  go_enter Try.func15, Try.ntmps15
  go_wp2
  go_ret2
  exact ⟨rfl, Below.refl _ _⟩
end Go.Proofs.Ytlhfaildeemngaa
/- The program's calls of stage 10, as the laws ask them. -/
namespace Go.Proofs.Ytlhfaildeemngaa
open Go.RowKit Go.Shelf

theorem bnds_few {w : World} {v : Value} {ps : List Int} {ls : List Lk} {L : List Ru} (h : LbM w v ps ls L) : (Tr.bnds (rgL L)).length ≤ 4000 := by
  obtain ⟨B, vp, vl, vr, vt, g, rfl, hA, hN, ht, htb⟩ := h
  obtain ⟨h1, B, vr, vc, R, C, e, ha, hr, hc, tr, tc⟩ := ht
  have e1 := Tr.bnds_len h1 tc
  have e2 := Tr.tal_len tc
  have e3 := h1.2
  omega
def ownCalls10 : Own10 where
  Lb := Lb10
  keep := fun h hx W' hW => h W' (hx.trans hW)
  sub := fun h hs W' hx => h W' (hx.sub hs)
  ptr := fun h => by
    obtain ⟨B, vp, vl, vr, vt, g, rfl, _⟩ := h.now
    exact ⟨_, rfl⟩
  of := fun H ps ls L w hH hW h => of10_any H ps ls L w hH hW h.isN
  network := fun H ps ls L w hR hW h => (network10_any ps ls L w hR h.now).mono fun e w' ⟨vp, vl, vr, he, o, hb⟩ => ⟨⟨vp, vl, vr, he, o.isN⟩, hb⟩
  atoms := fun H ps ls L w hR hW h => atoms10_any ps ls L w h.now
  atom := fun H ps ls L i w hR hW hi h => atom10_any ps ls L i w h.now
  at' := fun H ps ls L d i w hR hW hd hi h => by
    have hb := bnds_few h.now
    by_cases hin : (0 ≤ d ∧ d < ps.length) ∧ 0 ≤ i ∧ i < (Tr.bnds (rgL L)).length
    · obtain ⟨⟨d0, d1⟩, i0, i1⟩ := hin
      obtain ⟨d, rfl⟩ := Int.eq_ofNat_of_zero_le d0
      obtain ⟨i, rfl⟩ := Int.eq_ofNat_of_zero_le i0
      refine (at10_in ps ls L d i w (by omega) (by omega) hR.short.1 hb h.now).mono fun e w' ⟨he, hbb⟩ => ⟨.inl ⟨⟨d0, d1⟩, i0, by simp [atm_len]; omega, ?_⟩, hbb⟩
      rw [he]
      simp [tellQ, atmL, Tr.atomsL_at]
    · refine (at10_out ps ls L d i w hR.short.1 hb hd hi hin h.now).mono fun e w' ⟨he, hbb⟩ => ⟨.inr ⟨fun hh => hin ⟨hh.1, hh.2.1, by have := hh.2.2; rw [atm_len] at this; omega⟩, 0, he⟩, hbb⟩
  insert := fun H ps ls L r w hH hR hW hr h => insert10_any H ps ls L r w hH hR hW hr h.now
  delete := fun H ps ls L i w hH hR hW hi h => delete10_any H ps ls L i w hH hR hW h.now
  networkNil := networkNil_any
  atomsNil := atomsNil_any
  atomNil := fun i w _ => atomNil_any i w
  atNil := fun d i w _ _ => atNil_any d i w
  insertNil := fun r w _ => insertNil_any r w
  deleteNil := fun i w _ => deleteNil_any i w
end Go.Proofs.Ytlhfaildeemngaa
/- Arguments: a topology, a port, rules, arrays of two and three: what lies in memory, element by element. -/
namespace Go.Proofs.Ytlhfaildeemngaa
open Go.ChangeShapes Go.WideShapes Go.ChangeAt Go.RowKit

theorem addr_block (a : Addr) (n : Nat) : (a.add n).block = a.block := by unfold Addr.add; split <;> rfl
theorem addr_add (a : Addr) (i j : Nat) : (a.add i).add j = a.add (i + j) := by
  unfold Addr.add
  by_cases hi : i = 0 <;> by_cases hj : j = 0 <;> simp [hi, hj, Nat.add_assoc]
theorem list_of_fun {α : Type} [Inhabited α] (n : Nat) (p : Nat → α → Prop) (h : ∀ i, i < n → ∃ x, p i x) : ∃ l : List α, l.length = n ∧ ∀ i x, l[i]? = some x → p i x := by
  induction n with
  | zero => exact ⟨[], rfl, by simp⟩
  | succ n ih =>
    obtain ⟨l, hl, hp⟩ := ih (fun i hi => h i (by omega))
    obtain ⟨x, hx⟩ := h n (by omega)
    refine ⟨l ++ [x], by simp [hl], fun i y hy => ?_⟩
    rw [List.getElem?_append] at hy
    split at hy
    · exact hp i y hy
    · rename_i hge
      have : i = n := by
        rcases Nat.lt_or_ge (i - l.length) 1 with h1 | h1
        · omega
        · rw [List.getElem?_eq_none (by simpa using h1)] at hy; cases hy
      subst this
      rw [hl] at hy
      simp at hy
      subst hy
      exact hx
theorem u32_wf {a : Int} (h : (Lit.int .u32 a).wf = true) : ∃ n : Nat, a = n ∧ n < 4294967296 := by
  simp [Lit.wf, IntKind.min, IntKind.max, IntKind.signed, IntKind.bits] at h
  exact ⟨a.toNat, by omega, by omega⟩
theorem i64_wf {a : Int} (h : (Lit.int .i64 a).wf = true) : isI a := by
  simp [Lit.wf, IntKind.min, IntKind.max, IntKind.signed, IntKind.bits] at h
  unfold isI; omega
section
variable {H : Type} {enc : TypeId × Value → H} {P : Program} {w : World}
/-- Of a slice: each element's cells and its own reading. -/
theorem slice_elems {t e : TypeId} {C : Nat} {v : Value} {d : DataW H} {p : List MemPlace} (ht : P.underlying t = some (.slice e)) (hC : P.cellsOf e = C) (_ : 0 < C) (h : DataW.Trod enc P w 0 (fun _ => true) true t v d p) (hv : ∃ A n c, v = .slice A n c) :
    ∃ A n c, v = .slice A n c ∧ n ≤ c ∧ c ≤ maxLen ∧ (n = 0 ∨ ∃ a : Addr, A = some a ∧ ∀ i, i < n → ∃ (cs : List Value) (m : Nat) (y : DataW H × List MemPlace), cs.length = C ∧ (∀ j, j < C → w.cell? (a.add (i * C + j)) = cs[j]?) ∧ DataW.trod enc P w 0 (fun _ => true) true m e cs = some y) := by
  obtain ⟨A, n, c, rfl⟩ := hv
  obtain ⟨fuel, hf⟩ := h
  rcases Deep.open_slice ht hf with ⟨hcs, _⟩ | ⟨a, len, cap, m, k, D, Pl, hcs, _, hl, hm, hmm, hx, hi⟩
  · simp [Value.cells] at hcs
    obtain ⟨rfl, rfl, rfl⟩ := hcs
    exact ⟨none, 0, 0, rfl, Nat.le_refl _, by simp, .inl rfl⟩
  · simp [Value.cells] at hcs
    obtain ⟨rfl, rfl, rfl⟩ := hcs
    simp at hmm
    subst hmm
    refine ⟨_, n, m, rfl, hl, hm, .inr ⟨a, rfl, fun i hin => ?_⟩⟩
    obtain ⟨cs, hc, ht'⟩ := hi i (by omega)
    rw [hC] at hc
    obtain ⟨_, hcl, hat⟩ := World.cells?_some hc
    exact ⟨cs, _, _, by omega, fun j hj => by rw [← addr_add]; exact hat j hj, ht'⟩
end
section
variable {H : Type} {enc : TypeId × Value → H} {P : Program} {w : World} {α : Type} [Inhabited α] {f : α → Array Value}
/-- Of a slice that is a field: each element's cells and its own reading. -/
theorem slice_elems1 {t e : TypeId} {C m : Nat} {v : Value} {y : DataW H × List MemPlace} (ht : P.underlying t = some (.slice e)) (hC : P.cellsOf e = C) (h : DataW.trod enc P w 0 (fun _ => true) true m t [v] = some y) :
    ∃ A n c, v = .slice A n c ∧ n ≤ c ∧ c ≤ maxLen ∧ (n = 0 ∨ ∃ a : Addr, A = some a ∧ ∀ i, i < n → ∃ (cs : List Value) (m : Nat) (y : DataW H × List MemPlace), cs.length = C ∧ (∀ j, j < C → w.cell? (a.add (i * C + j)) = cs[j]?) ∧ DataW.trod enc P w 0 (fun _ => true) true m e cs = some y) := by
  rcases Deep.open_slice ht h with ⟨hcs, _⟩ | ⟨a, len, cap, m, k, D, Pl, hcs, _, hl, hm, hmm, hx, hi⟩
  · injection hcs with hcs
    subst hcs
    exact ⟨none, 0, 0, rfl, Nat.le_refl _, by simp, .inl rfl⟩
  · injection hcs with hcs
    subst hcs
    simp at hmm
    subst hmm
    refine ⟨_, len, _, rfl, hl, hm, .inr ⟨a, rfl, fun i hin => ?_⟩⟩
    obtain ⟨cs, hc, ht'⟩ := hi i (by omega)
    rw [hC] at hc
    obtain ⟨_, hcl, hat⟩ := World.cells?_some hc
    exact ⟨cs, _, _, by omega, fun j hj => by rw [← addr_add]; exact hat j hj, ht'⟩
/-- Such a slice reads as a list. -/
theorem open_vec {Q : α → Prop} {t e : TypeId} {n m : Nat} {v : Value} {y : DataW H × List MemPlace} (hf : ∀ x, (f x).size = n) (hn : 0 < n) (ht : P.underlying t = some (.slice e)) (hC : P.cellsOf e = n)
    (hr : ∀ (m : Nat) (cs : List Value) (y : DataW H × List MemPlace), DataW.trod enc P w 0 (fun _ => true) true m e cs = some y → cs.length = n → ∃ x, Q x ∧ cs = (f x).toList)
    (h : DataW.trod enc P w 0 (fun _ => true) true m t [v] = some y) : ∃ L : List α, IsF n f w v L ∧ ∀ x ∈ L, Q x := by
  obtain ⟨A, k, c, rfl, hnc, hcm, hh⟩ := slice_elems1 ht hC h
  rcases hh with rfl | ⟨a, rfl, hc⟩
  · exact ⟨[], ⟨A, c, rfl, hnc, hcm, fun h => absurd h (by simp)⟩, by simp⟩
  · obtain ⟨l, hl, hp⟩ := list_of_fun k (fun i (x : α) => Q x ∧ ∀ j, j < n → w.cell? (a.add (i * n + j)) = (f x)[j]?) (fun i hi => by
      obtain ⟨cs, m, y, hlen, hat, hy⟩ := hc i hi
      obtain ⟨r, hq, rfl⟩ := hr m cs y hy hlen
      exact ⟨r, hq, fun j hj => by rw [hat j hj]; simp⟩)
    subst hl
    refine ⟨l, ⟨_, c, rfl, hnc, hcm, fun h0 => ?_⟩, fun x hx => by obtain ⟨k, hk, rfl⟩ := List.getElem_of_mem hx; exact (hp k _ (List.getElem?_eq_getElem hk)).1⟩
    have f0 := (hp 0 _ (List.getElem?_eq_getElem h0)).2 0 hn
    have hs : 0 < (f l[0]).size := by rw [hf]; exact hn
    rw [Array.getElem?_eq_getElem hs] at f0
    have hB := World.block_lt_of_cell? w _ f0
    rw [addr_block] at hB
    have hsp : a.spot = none := by
      cases hs : a.spot with
      | none => rfl
      | some s =>
        rw [show a.add (0 * n + 0) = a by simp [Addr.add]] at f0
        unfold World.cell? at f0
        rw [hs] at f0
        split at f0 <;> simp at f0
    obtain ⟨b, o, sp⟩ := a
    obtain rfl : sp = none := hsp
    refine ⟨b, o, rfl, hB, fun k hk j hj => ?_⟩
    have f1 := (hp k _ (List.getElem?_eq_getElem hk)).2 j hj
    rw [addr_off, ← Nat.add_assoc] at f1
    exact f1
end
theorem cells3 : Try.prog.cellsOf 3 = 1 := by kernel_rfl
theorem cellsKind : Try.prog.cellsOf 48 = 1 := by kernel_rfl
theorem cellsU32 : Try.prog.cellsOf 41 = 1 := by kernel_rfl
theorem cellsRange : Try.prog.cellsOf 43 = 2 := by kernel_rfl
theorem cellsRule : Try.prog.cellsOf 50 = 7 := by kernel_rfl
theorem cellsPort : Try.prog.cellsOf 68 = 2 := by kernel_rfl
theorem cellsLink : Try.prog.cellsOf 75 = 4 := by kernel_rfl
theorem cellsTwo : Try.prog.cellsOf 29 = 2 := by kernel_rfl
instance : Inhabited Pt := ⟨⟨0, 0⟩⟩
instance : Inhabited Lk := ⟨⟨⟨0, 0⟩, ⟨0, 0⟩⟩⟩
section
variable {H : Type} {enc : TypeId × Value → H} {W : World} {base : Nat} {spare : Nat → Bool} {held : Bool}
set_option maxRecDepth 100000 in
/-- A rule, by its cells. -/
theorem trod_rule {m : Nat} {cs : List Value} {y : DataW H × List MemPlace} (h : DataW.trod enc Try.prog W base spare held m 50 cs = some y) : ∃ r : Ru, r.wf ∧ cs = (ruA r).toList := by
  obtain ⟨xs, n, _, _, hl, hxl, hf⟩ := DataW.trod_struct Try.underlying50 h
  rw [cellsRule] at hl
  have g : ∀ i, i < 6 → ∃ x, xs[i]? = some x := fun i hi => ⟨xs[i]'(by rw [hxl]; exact hi), List.getElem?_eq_getElem _⟩
  obtain ⟨x0, g0⟩ := g 0 (by decide)
  obtain ⟨x1, g1⟩ := g 1 (by decide)
  obtain ⟨x2, g2⟩ := g 2 (by decide)
  obtain ⟨x3, g3⟩ := g 3 (by decide)
  obtain ⟨x4, g4⟩ := g 4 (by decide)
  obtain ⟨x5, g5⟩ := g 5 (by decide)
  have h0 : DataW.trod enc Try.prog W base spare held n 3 ((cs.drop 0).take (Try.prog.cellsOf 3)) = some x0 := (hf 0 _ rfl).trans g0
  have h1 : DataW.trod enc Try.prog W base spare held n 3 ((cs.drop 1).take (Try.prog.cellsOf 3)) = some x1 := (hf 1 _ rfl).trans g1
  have h2 : DataW.trod enc Try.prog W base spare held n 3 ((cs.drop 2).take (Try.prog.cellsOf 3)) = some x2 := (hf 2 _ rfl).trans g2
  have h3 : DataW.trod enc Try.prog W base spare held n 48 ((cs.drop 3).take (Try.prog.cellsOf 48)) = some x3 := (hf 3 _ rfl).trans g3
  have h4 : DataW.trod enc Try.prog W base spare held n 43 ((cs.drop 4).take (Try.prog.cellsOf 43)) = some x4 := (hf 4 _ rfl).trans g4
  have h5 : DataW.trod enc Try.prog W base spare held n 3 ((cs.drop 6).take (Try.prog.cellsOf 3)) = some x5 := (hf 5 _ rfl).trans g5
  match cs, hl with
  | [c0, c1, c2, c3, c4, c5, c6], _ =>
    simp only [cells3, cellsKind, cellsRange, List.drop_zero, List.take_succ_cons, List.take_zero, List.drop_succ_cons] at h0 h1 h2 h3 h4 h5
    obtain ⟨y2, y3, m2, _, _, h6, h7⟩ := trod_struct2 Try.underlying43 h4
    simp only [cellsU32, List.drop_zero, List.take_succ_cons, List.take_zero, List.drop_succ_cons] at h6 h7
    obtain ⟨z0, q0, _, w0⟩ := DataW.trod_int Try.underlying3 h0
    obtain ⟨z1, q1, _, w1⟩ := DataW.trod_int Try.underlying3 h1
    obtain ⟨z2, q2, _, w2⟩ := DataW.trod_int Try.underlying3 h2
    obtain ⟨z3, q3, _, w3⟩ := DataW.trod_int Try.underlying48 h3
    obtain ⟨z4, q4, _, w4⟩ := DataW.trod_int Try.underlying41 h6
    obtain ⟨z5, q5, _, w5⟩ := DataW.trod_int Try.underlying41 h7
    obtain ⟨z6, q6, _, w6⟩ := DataW.trod_int Try.underlying3 h5
    injection q0 with q0; injection q1 with q1; injection q2 with q2; injection q3 with q3; injection q4 with q4; injection q5 with q5; injection q6 with q6
    subst q0 q1 q2 q3 q4 q5 q6
    obtain ⟨n4, rfl, b4⟩ := u32_wf w4
    obtain ⟨n5, rfl, b5⟩ := u32_wf w5
    exact ⟨⟨z0, z1, z2, z3, n4, n5, z6⟩, ⟨i64_wf w0, i64_wf w1, i64_wf w2, i64_wf w3, b4, b5, i64_wf w6⟩, rfl⟩
set_option maxRecDepth 100000 in
/-- An argument that is a rule. -/
theorem open_rule {r : Reach} {b0 : Nat} {v : Value} {d : DataW H} {p : List MemPlace} (hv : Value.okWide Try.prog W r b0 50 v) (h : DataW.Trod enc Try.prog W base spare held 50 v d p) : ∃ x : Ru, v = .agg (ruA x) ∧ x.wf := by
  obtain ⟨cs, rfl, hsz⟩ := okWide_struct Try.underlying50 hv
  obtain ⟨fuel, hf⟩ := h
  obtain ⟨x, hw, e⟩ := trod_rule hf
  refine ⟨x, ?_, hw⟩
  have e' : cs.toList = (ruA x).toList := by simpa [Value.cells] using e
  rw [Array.toList_inj.1 e']
set_option maxRecDepth 100000 in
/-- An argument that is a slice of rules. -/
theorem open_rules {v : Value} {d : DataW H} {p : List MemPlace} (h : DataW.Trod enc Try.prog W 0 (fun _ => true) true 26 v d p) (hv : ∃ A n c, v = .slice A n c) :
    ∃ L : List Ru, IsR W v L ∧ ∀ r ∈ L, r.wf := by
  obtain ⟨A, n, c, rfl, hnc, hcm, hr⟩ := slice_elems Try.underlying26 cellsRule (by decide) h hv
  rcases hr with rfl | ⟨a, rfl, hc⟩
  · exact ⟨[], ⟨A, c, rfl, hnc, hcm, Rs.nil _ _⟩, fun r hr => by simp at hr⟩
  · obtain ⟨l, hl, hp⟩ := list_of_fun n (fun i (x : Ru) => (∀ j, j < 7 → W.cell? (a.add (i * 7 + j)) = (ruA x)[j]?) ∧ x.wf) (fun i hi => by
      obtain ⟨cs, m, y, hlen, hat, hy⟩ := hc i hi
      obtain ⟨r, hw, rfl⟩ := trod_rule hy
      exact ⟨r, fun j hj => by rw [hat j hj]; simp, hw⟩)
    subst hl
    refine ⟨l, ⟨_, c, rfl, hnc, hcm, fun h0 => ?_⟩, fun r hr => ?_⟩
    · have f0 := (hp 0 _ (List.getElem?_eq_getElem h0)).1 0 (by decide)
      have f0' : W.cell? (a.add (0 * 7 + 0)) = some (.int .i64 l[0].id) := f0
      have hB := World.block_lt_of_cell? W _ f0'
      rw [addr_block] at hB
      have hsp : a.spot = none := by
        cases hs : a.spot with
        | none => rfl
        | some s =>
          rw [show a.add (0 * 7 + 0) = a by simp [Addr.add]] at f0'
          unfold World.cell? at f0'
          rw [hs] at f0'
          split at f0' <;> simp at f0'
      obtain ⟨b, o, sp⟩ := a
      obtain rfl : sp = none := hsp
      refine ⟨b, o, rfl, hB, fun k hk j hj => ?_⟩
      have f1 := (hp k _ (List.getElem?_eq_getElem hk)).1 j hj
      rw [addr_off, ← Nat.add_assoc] at f1
      exact f1
    · obtain ⟨k, hk, rfl⟩ := List.getElem_of_mem hr
      exact (hp k _ (List.getElem?_eq_getElem hk)).2
/-- A number, by its cell. -/
theorem trod_num {m : Nat} {cs : List Value} {y : DataW H × List MemPlace} (h : DataW.trod enc Try.prog W base spare held m 3 cs = some y) (hl : cs.length = 1) : ∃ x : Int, isI x ∧ cs = (intA x).toList := by
  match cs, hl with
  | [c0], _ =>
    obtain ⟨z0, q0, _, w0⟩ := DataW.trod_int Try.underlying3 h
    injection q0 with q0
    subst q0
    exact ⟨z0, i64_wf w0, rfl⟩
set_option maxRecDepth 100000 in
/-- A port, by its cells. -/
theorem trod_port {m : Nat} {cs : List Value} {y : DataW H × List MemPlace} (h : DataW.trod enc Try.prog W base spare held m 68 cs = some y) (hl : cs.length = 2) : ∃ p : Pt, isPt p ∧ cs = (ptA p).toList := by
  match cs, hl with
  | [c0, c1], _ =>
    obtain ⟨y2, y3, m2, _, _, h6, h7⟩ := trod_struct2 Try.underlying68 h
    simp only [cells3, List.drop_zero, List.take_succ_cons, List.take_zero, List.drop_succ_cons] at h6 h7
    obtain ⟨z0, q0, _, w0⟩ := DataW.trod_int Try.underlying3 h6
    obtain ⟨z1, q1, _, w1⟩ := DataW.trod_int Try.underlying3 h7
    injection q0 with q0; injection q1 with q1
    subst q0 q1
    exact ⟨⟨z0, z1⟩, ⟨i64_wf w0, i64_wf w1⟩, rfl⟩
set_option maxRecDepth 100000 in
/-- A link, by its cells. -/
theorem trod_link {m : Nat} {cs : List Value} {y : DataW H × List MemPlace} (h : DataW.trod enc Try.prog W base spare held m 75 cs = some y) (hl : cs.length = 4) : ∃ l : Lk, (isPt l.a ∧ isPt l.b) ∧ cs = (lkA l).toList := by
  match cs, hl with
  | [c0, c1, c2, c3], _ =>
    obtain ⟨y2, y3, m2, _, _, h6, h7⟩ := trod_struct2 Try.underlying75 h
    simp only [cellsPort, List.drop_zero, List.take_succ_cons, List.take_zero, List.drop_succ_cons] at h6 h7
    obtain ⟨p, hp, e0⟩ := trod_port h6 rfl
    obtain ⟨q, hq, e1⟩ := trod_port h7 rfl
    injection e0 with e0 e2
    injection e2 with e2
    injection e1 with e1 e3
    injection e3 with e3
    subst e0 e1 e2 e3
    exact ⟨⟨p, q⟩, ⟨hp, hq⟩, rfl⟩
set_option maxRecDepth 100000 in
/-- An argument that is a port. -/
theorem open_port {r : Reach} {b0 : Nat} {v : Value} {d : DataW H} {p : List MemPlace} (hv : Value.okWide Try.prog W r b0 68 v) (h : DataW.Trod enc Try.prog W base spare held 68 v d p) : ∃ x : Pt, v = .agg (ptA x) ∧ isPt x := by
  obtain ⟨cs, rfl, hsz⟩ := okWide_struct Try.underlying68 hv
  rw [cellsPort] at hsz
  obtain ⟨fuel, hf⟩ := h
  obtain ⟨x, hx, e⟩ := trod_port hf (by simpa [Value.cells] using hsz)
  refine ⟨x, ?_, hx⟩
  have e' : cs.toList = (ptA x).toList := by simpa [Value.cells] using e
  rw [Array.toList_inj.1 e']
set_option maxRecDepth 100000 in
/-- An argument that is a topology. -/
theorem open_topo {r : Reach} {b0 : Nat} {v : Value} {d : DataW H} {p : List MemPlace} (hv : Value.okWide Try.prog W r b0 25 v) (h : DataW.Trod enc Try.prog W 0 (fun _ => true) true 25 v d p) : ∃ (v0 v1 : Value) (ps : List Int) (ls : List Lk), v = .agg #[v0, v1] ∧ IsT W v0 v1 ps ls ∧ TW ps ls := by
  obtain ⟨v0, v1, y0, y1, n, rfl, _, _, h0, h1⟩ := Joins.open_agg2 Try.underlying25 (by kernel_rfl) (by kernel_rfl) hv h
  obtain ⟨L, hL, qL⟩ := open_vec intA_size (by decide) Try.underlying22 cells3 (fun m cs y hy hl => trod_num hy hl) h0
  obtain ⟨M, hM, qM⟩ := open_vec lkA_size (by decide) Try.underlying23 cellsLink (fun m cs y hy hl => trod_link hy hl) h1
  exact ⟨v0, v1, L, M, rfl, ⟨hL, hM⟩, qL, qM⟩
set_option maxRecDepth 100000 in
/-- An array of two numbers. -/
theorem open_arr2 {r : Reach} {b0 : Nat} {v : Value} {d : DataW H} {p : List MemPlace} (hv : Value.okWide Try.prog W r b0 29 v) (h : DataW.Trod enc Try.prog W 0 (fun _ => true) true 29 v d p) : ∃ (a b : Int), v = .agg #[.int .i64 a, .int .i64 b] ∧ isI a ∧ isI b := by
  simp only [Value.okWide, Try.underlying29] at hv
  obtain ⟨cs, rfl, hsz, _⟩ := hv
  rw [cellsTwo] at hsz
  obtain ⟨fuel, hf⟩ := h
  obtain ⟨xs, m, _, _, hcl, hxl, hi⟩ := DataW.trod_array Try.underlying29 hf
  obtain ⟨c0, c1, rfl⟩ : ∃ c0 c1, cs = #[c0, c1] := Joins.array2 hsz
  have h0 := hi 0 (by decide)
  have h1 := hi 1 (by decide)
  rw [List.getElem?_eq_getElem (by omega)] at h0 h1
  simp only [cells3, Value.cells, Nat.zero_mul, Nat.one_mul, List.drop_zero, List.take_succ_cons, List.take_zero, List.drop_succ_cons] at h0 h1
  obtain ⟨z0, q0, _, w0⟩ := DataW.trod_int Try.underlying3 h0
  obtain ⟨z1, q1, _, w1⟩ := DataW.trod_int Try.underlying3 h1
  injection q0 with q0
  injection q1 with q1
  subst q0 q1
  exact ⟨z0, z1, rfl, i64_wf w0, i64_wf w1⟩
theorem array3 {α : Type} {cs : Array α} (h : cs.size = 3) : ∃ a b c, cs = #[a, b, c] := by
  obtain ⟨l⟩ := cs
  match l, h with
  | [a, b, c], _ => exact ⟨a, b, c, rfl⟩
set_option maxRecDepth 100000 in
end
end Go.Proofs.Ytlhfaildeemngaa
/- Arguments: a network. -/
namespace Go.Proofs.Ytlhfaildeemngaa
open Go.RowKit Go.Shelf Go.ChangeShapes Go.WideShapes Go.ChangeAt
open Go.ChangeMaps (open_string)

theorem cellsNet : Try.prog.cellsOf 28 = 3 := by kernel_rfl
theorem cellsTopo : Try.prog.cellsOf 25 = 2 := by kernel_rfl
theorem cellsInts : Try.prog.cellsOf 22 = 1 := by kernel_rfl
theorem cellsLinks : Try.prog.cellsOf 23 = 1 := by kernel_rfl
theorem cellsRules : Try.prog.cellsOf 26 = 1 := by kernel_rfl
section
variable {H : Type} {enc : TypeId × Value → H} {W : World}
theorem net_room {d : DataW H} {ts : List TypeId} {ds : List (DataW H)} (h : (DataW.weightsEach Try.prog (28 :: ts) (d :: ds)).all (· ≤ reachBytes) = true) : (d.weights Try.prog 28).all (· ≤ reachBytes) = true := by
  rw [DataW.weightsEach, List.all_append, Bool.and_eq_true] at h
  exact h.1
theorem bytesRule : Try.prog.bytesOf 50 = 48 := by kernel_rfl
set_option maxRecDepth 100000 in
theorem open_net {r : Reach} {b0 : Nat} {v : Value} {d : DataW H} {p : List MemPlace} (hv : Value.okWide Try.prog W r b0 28 v) (h : DataW.Trod enc Try.prog W 0 (fun _ => true) true 28 v d p) (hz : (d.weights Try.prog 28).all (· ≤ reachBytes) = true) :
    ∃ (v0 v1 v2 : Value) (ps : List Int) (ls : List Lk) (L : List Ru), v = .agg #[v0, v1, v2] ∧ IsN W v0 v1 v2 ps ls L ∧ NW ps ls L := by
  obtain ⟨cs, rfl, hsz⟩ := okWide_struct Try.underlying28 hv
  rw [cellsNet] at hsz
  obtain ⟨c0, c1, c2, rfl⟩ := array3 hsz
  obtain ⟨fuel, hf⟩ := h
  obtain ⟨y0, y1, n, hd, _, h6, h7⟩ := trod_struct2 Try.underlying28 hf
  simp only [Value.cells, cellsTopo, cellsRules, List.drop_zero, List.take_succ_cons, List.take_zero, List.drop_succ_cons] at h6 h7
  obtain ⟨z0, z1, n2, _, _, h8, h9⟩ := trod_struct2 Try.underlying25 h6
  simp only [cellsInts, cellsLinks, List.drop_zero, List.take_succ_cons, List.take_zero, List.drop_succ_cons] at h8 h9
  obtain ⟨ps, hP, qP⟩ := open_vec intA_size (by decide) Try.underlying22 cells3 (fun m cs y hy hl => trod_num hy hl) h8
  obtain ⟨ls, hM, qM⟩ := open_vec lkA_size (by decide) Try.underlying23 cellsLink (fun m cs y hy hl => trod_link hy hl) h9
  obtain ⟨A, k, c, e, _⟩ := slice_elems1 Try.underlying26 cellsRule h7
  subst e
  obtain ⟨L, hL, qL⟩ := open_rules (enc := enc) (W := W) (v := .slice A k c) (d := y1.1) (p := y1.2) ⟨n, h7⟩ ⟨_, _, _, rfl⟩
  have hk : L.length = k := by obtain ⟨_, _, e', _⟩ := hL; injection e' with _ h _; exact h.symm
  have hroom : L.length ≤ 4000000000000 := by
    obtain ⟨rfl, _⟩ := Prod.mk.inj hd
    rw [hk]
    rcases Deep.open_slice Try.underlying26 h7 with ⟨hcs, _⟩ | ⟨a, len, cap, m, _, D, Pl, hcs, _, _, _, _, hx, _⟩
    · simp only [List.cons.injEq, and_true] at hcs
      injection hcs with _ h _
      omega
    · simp only [List.cons.injEq, and_true] at hcs
      injection hcs with _ h _
      subst hx
      simp only [DataW.weights, Try.underlying28, Try.underlying26, DataW.weightsEach, List.all_append, List.all_cons, List.map_cons, List.length_map, List.length_range, Bool.and_eq_true, bytesRule, reachBytes] at hz
      have hh := of_decide_eq_true hz.2.1.1
      omega
  exact ⟨c0, c1, _, ps, ls, L, rfl, ⟨⟨hP, hM⟩, hL⟩, ⟨⟨qP, qM⟩, qL, hroom⟩⟩
end
end Go.Proofs.Ytlhfaildeemngaa
/- Contract: the document's Insert: the walk. -/
namespace Go.Proofs.Ytlhfaildeemngaa
open Go.RowKit Go.Shelf

end Go.Proofs.Ytlhfaildeemngaa
/- LabelBack, over the program's calls. -/
namespace Go.Proofs.Ytlhfaildeemngaa
open Go.RowKit Go.Shelf

theorem insE_zero {ps : List Int} {ls : List Lk} {L : List Ru} {r : Ru} : insE ps ls L r = 0 ↔ hasId r.id L = false ∧ rightN ps ls (insL r L) = true := by
  unfold insE
  cases hasId r.id L <;> cases rightN ps ls (insL r L) <;> simp
theorem delE_zero {L : List Ru} {i : Int} : delE L i = 0 ↔ hasId i L = true := by
  unfold delE
  cases hasId i L <;> simp
theorem hasId_mem {L : List Ru} {x : Ru} (h : x ∈ L) : hasId x.id L = true := List.any_eq_true.2 ⟨x, h, by simp⟩
theorem hasId_del {L : List Ru} {i : Int} : hasId i (delL i L) = false := hasId_no.2 fun x hx => by simpa using (List.mem_filter.1 hx).2
theorem back_del {ps : List Int} {ls : List Lk} {L : List Ru} (hR : RN ps ls L) {x : Ru} (hx : x ∈ L) : insE ps ls (delL x.id L) x = 0 ∧ insL x (delL x.id L) = L := by
  have e := ins_del ((allB_pw L).1 hR.rules).2.2 hx
  exact ⟨insE_zero.2 ⟨hasId_del, by rw [e]; exact (rightN_iff _ _ _).2 hR⟩, e⟩
end Go.Proofs.Ytlhfaildeemngaa
/- Contract: the document's Delete. -/
namespace Go.Proofs.Ytlhfaildeemngaa
open Go.RowKit Go.Shelf

theorem del_take {L : List Ru} {k : Nat} (hk : k < L.length) (i : Int) : delL i (L.take (k + 1)) = delL i (L.take k) ++ (if L[k].id = i then [] else [L[k]]) := by
  unfold delL
  rw [List.take_succ_eq_append_getElem hk, List.filter_append]
  congr 1
  by_cases h : L[k].id = i <;> simp [h]
end Go.Proofs.Ytlhfaildeemngaa
/- LabelEdits, over the program's calls. -/
namespace Go.Proofs.Ytlhfaildeemngaa
open Go.RowKit Go.Shelf

theorem grown_trans {A B C : World} {r : Option Nat} (h : A.grownBy B r) (k : B.grownBy C r) : A.grownBy C r := ⟨k.os.trans h.os, k.tape.trans h.tape, k.output.trans h.output, Nat.le_trans h.size k.size, fun i hi hr => (k.block i (Nat.lt_of_lt_of_le hi h.size) hr).trans (h.block i hi hr)⟩
/-- An act as cells. -/
def actA (x : Bool × Ru) : Array Value := #[.bool x.1, .int .i64 x.2.id, .int .i64 x.2.dv, .int .i64 x.2.pr, .int .i64 x.2.kd, .int .u32 x.2.f, .int .u32 x.2.t, .int .i64 x.2.pt]
theorem actA_size (x : Bool × Ru) : (actA x).size = 8 := rfl
/-- What an edit tells: a pointer or none, an error. -/
def PtrOut (O : Own10) (H : Nat → Prop) (er : Int) (ps : List Int) (ls : List Lk) (M : List Ru) (w : World) (e : Ending) (w' : World) : Prop :=
  (∃ p : Option Addr, e = .returned (.tuple #[.pointer p, .int .i64 er]) ∧ (er = 0 → p.isSome = true ∧ O.Lb H w' (.pointer p) ps ls M) ∧ (er ≠ 0 → p = none)) ∧ Below w.heap.size w w'
theorem insert_out (O : Own10) {v : Value} (H : Nat → Prop) (ps : List Int) (ls : List Lk) (L : List Ru) (r : Ru) (w : World) (hH : ∀ b, H b → ∃ cs, At w b cs 28) (hR : RN ps ls L) (hW : NW ps ls L) (hr : r.wf) (h : O.Lb H w v ps ls L) :
    Calls Try.prog 14 #[v, .agg (ruA r)] w (PtrOut O H (insE ps ls L r) ps ls (insL r L) w) :=
  (O.insert H ps ls L r w hH hR hW hr h).mono fun e w' ⟨h, b⟩ => by
    refine ⟨?_, b⟩
    rcases h with ⟨h0, p, e, hl⟩ | ⟨h0, e⟩
    · obtain ⟨bp, rfl⟩ := O.ptr hl
      exact ⟨some bp, by rw [h0]; exact e, fun _ => ⟨rfl, hl⟩, fun h => absurd h0 h⟩
    · exact ⟨none, e, fun h => absurd h h0, fun _ => rfl⟩
theorem delete_out (O : Own10) {v : Value} (H : Nat → Prop) (ps : List Int) (ls : List Lk) (L : List Ru) (i : Int) (w : World) (hH : ∀ b, H b → ∃ cs, At w b cs 28) (hR : RN ps ls L) (hW : NW ps ls L) (hi : isI i) (h : O.Lb H w v ps ls L) :
    Calls Try.prog 15 #[v, .int .i64 i] w (PtrOut O H (delE L i) ps ls (delL i L) w) :=
  (O.delete H ps ls L i w hH hR hW hi h).mono fun e w' ⟨h, b⟩ => by
    refine ⟨?_, b⟩
    rcases h with ⟨h0, p, e, hl⟩ | ⟨h0, e⟩
    · obtain ⟨bp, rfl⟩ := O.ptr hl
      exact ⟨some bp, by rw [h0]; exact e, fun _ => ⟨rfl, hl⟩, fun h => absurd h0 h⟩
    · exact ⟨none, e, fun h => absurd h h0, fun _ => rfl⟩
/-- The document's network behind an edit, by its cells. -/
structure NetIs (er : Int) (M : List Ru) (A1 A2 : Option Addr) (n1 c1 n2 c2 : Nat) (w : World) (B1 B2 B3 : Option Addr) (m1 d1 m2 d2 m3 d3 : Nat) (w' : World) : Prop where
  bel : Below w.heap.size w w'
  ok : er = 0 → B1 = A1 ∧ m1 = n1 ∧ d1 = c1 ∧ B2 = A2 ∧ m2 = n2 ∧ d2 = c2 ∧ ∃ base, w.heap.size ≤ base ∧ w'.ownsRow base 50 7 (.slice B3 m3 d3) M.length (rcs M)
theorem newOut_cells {er : Int} {M : List Ru} {A1 A2 : Option Addr} {n1 c1 n2 c2 : Nat} {w w' : World} {e : Ending} (h : NewOut er M (.slice A1 n1 c1) (.slice A2 n2 c2) w e w') :
    ∃ B1 m1 d1 B2 m2 d2 B3 m3 d3, e = .returned (.tuple #[.agg #[.slice B1 m1 d1, .slice B2 m2 d2, .slice B3 m3 d3], .int .i64 er]) ∧ NetIs er M A1 A2 n1 c1 n2 c2 w B1 B2 B3 m1 d1 m2 d2 m3 d3 w' := by
  obtain ⟨h, b⟩ := h
  rcases h with ⟨h0, e⟩ | ⟨h0, v, base, hb, e, hrow⟩
  · exact ⟨none, 0, 0, none, 0, 0, none, 0, 0, e, b, fun h => absurd h h0⟩
  · obtain ⟨A8, n8, c8, rfl⟩ : ∃ A8 n8 c8, v = .slice A8 n8 c8 := by
      rcases hrow.2 with ⟨e, _⟩ | ⟨g, cap, cur, e, _⟩
      · exact ⟨_, _, _, e⟩
      · exact ⟨_, _, _, e⟩
    exact ⟨A1, n1, c1, A2, n2, c2, A8, n8, c8, by rw [h0]; exact e, b, fun _ => ⟨rfl, rfl, rfl, rfl, rfl, rfl, base, hb, hrow⟩⟩
/-- A network whose rules are a new row. -/
theorem isNo_new {H : Nat} {w W : World} {vp vl vr v : Value} {ps : List Int} {ls : List Lk} {L M : List Ru} {base : Nat} (h : IsNo (oneH H) w vp vl vr ps ls L) (hg : Exc (oneH H) w W) (hrow : W.ownsRow base 50 7 v M.length (rcs M)) (hH : H < base) : IsNo (oneH H) W vp vl v ps ls M :=
  fun W' hW => ⟨(h W' (hg.trans hW)).1, isR_of_row (row_far hrow hW.grown hH)⟩
/-- Where LabelEdits stands. -/
structure EdI (O : Own10) (A1 A2 : Option Addr) (c1 c2 : Nat) (ps : List Int) (ls : List Lk) (w : World) (bp : Addr) (M : List Ru) (A3 : Option Addr) (c3 : Nat) (W : World) : Prop where
  right : RN ps ls M
  wide : NW ps ls M
  lab : O.Lb (oneH w.heap.size) W (.pointer (some bp)) ps ls M
  net : At W w.heap.size #[.slice A1 ps.length c1, .slice A2 ls.length c2, .slice A3 M.length c3] 28
  no : IsNo (oneH w.heap.size) W (.slice A1 ps.length c1) (.slice A2 ls.length c2) (.slice A3 M.length c3) ps ls M
  bel : Below w.heap.size w W
theorem EdI.on {O : Own10} {A1 A2 : Option Addr} {c1 c2 : Nat} {ps : List Int} {ls : List Lk} {w : World} {bp : Addr} {M : List Ru} {A3 : Option Addr} {c3 : Nat} {W U : World} (h : EdI O A1 A2 c1 c2 ps ls w bp M A3 c3 W) (hb : Below W.heap.size W U) : EdI O A1 A2 c1 c2 ps ls w bp M A3 c3 U :=
  ⟨h.right, h.wide, O.keep h.lab (exc_of hb _), h.net.belows hb, h.no.keep (exc_of hb _), h.bel.trans (hb.mono h.bel.size)⟩
/-- What an edit leaves to take over. -/
structure Nxt (O : Own10) (A1 A2 : Option Addr) (c1 c2 : Nat) (ps : List Int) (ls : List Lk) (w : World) (er : Int) (M : List Ru) (p : Option Addr) (B1 B2 B3 : Option Addr) (m1 d1 m2 d2 m3 d3 : Nat) (XB : Nat) (W : World) : Prop where
  right : er = 0 → RN ps ls M ∧ NW ps ls M
  some' : er = 0 → p.isSome = true ∧ O.Lb (oneH w.heap.size) W (.pointer p) ps ls M
  none' : er ≠ 0 → p = none
  box : At W XB #[.slice B1 m1 d1, .slice B2 m2 d2, .slice B3 m3 d3] 28
  far : w.heap.size < XB
  cells : er = 0 → B1 = A1 ∧ m1 = ps.length ∧ d1 = c1 ∧ B2 = A2 ∧ m2 = ls.length ∧ d2 = c2
  row : er = 0 → ∃ base, w.heap.size < base ∧ W.ownsRow base 50 7 (.slice B3 m3 d3) M.length (rcs M)
theorem Nxt.on {O : Own10} {A1 A2 : Option Addr} {c1 c2 : Nat} {ps : List Int} {ls : List Lk} {w : World} {er : Int} {M : List Ru} {p : Option Addr} {B1 B2 B3 : Option Addr} {m1 d1 m2 d2 m3 d3 XB : Nat} {W U : World}
    (h : Nxt O A1 A2 c1 c2 ps ls w er M p B1 B2 B3 m1 d1 m2 d2 m3 d3 XB W) (hb : Below W.heap.size W U) : Nxt O A1 A2 c1 c2 ps ls w er M p B1 B2 B3 m1 d1 m2 d2 m3 d3 XB U :=
  ⟨h.right, fun h0 => ⟨(h.some' h0).1, O.keep (h.some' h0).2 (exc_of hb _)⟩, h.none', h.box.belows hb, h.far, h.cells, fun h0 => by obtain ⟨b, h1, h2⟩ := h.row h0; exact ⟨b, h1, row_belows h2 hb⟩⟩
/-- It is taken over. -/
theorem Nxt.take {O : Own10} {A1 A2 : Option Addr} {c1 c2 : Nat} {ps : List Int} {ls : List Lk} {w : World} {M : List Ru} {bq : Addr} {B1 B2 B3 : Option Addr} {m1 d1 m2 d2 m3 d3 XB : Nat} {W : World} {bp : Addr} {L : List Ru} {A3 : Option Addr} {c3 : Nat}
    (h : Nxt O A1 A2 c1 c2 ps ls w 0 M (some bq) B1 B2 B3 m1 d1 m2 d2 m3 d3 XB W) (hE : EdI O A1 A2 c1 c2 ps ls w bp L A3 c3 W) :
    EdI O A1 A2 c1 c2 ps ls w bq M B3 d3 (((W.setCell ⟨w.heap.size, 0, none⟩ (.slice B1 m1 d1)).setCell ⟨w.heap.size, 1, none⟩ (.slice B2 m2 d2)).setCell ⟨w.heap.size, 2, none⟩ (.slice B3 m3 d3)) := by
  obtain ⟨rfl, rfl, rfl, rfl, rfl, rfl⟩ := h.cells rfl
  obtain ⟨base, hb, hrow⟩ := h.row rfl
  have hm : m3 = M.length := by
    rcases hrow.2 with ⟨e, h0⟩ | ⟨g, cap, cur, e, _⟩
    · cases e; exact h0.symm
    · cases e; rfl
  subst hm
  have hg : W.grownBy (((W.setCell ⟨w.heap.size, 0, none⟩ (.slice B1 ps.length d1)).setCell ⟨w.heap.size, 1, none⟩ (.slice B2 ls.length d2)).setCell ⟨w.heap.size, 2, none⟩ (.slice B3 M.length d3)) (some w.heap.size) := grown_trans (grown_trans (grownBy_set _ _ 0 _) (grownBy_set _ _ 1 _)) (grownBy_set _ _ 2 _)
  refine ⟨(h.right rfl).1, (h.right rfl).2, O.keep (h.some' rfl).2 (exc_grown hg rfl), net_set hE.net, ?_, ?_⟩
  · exact (isNo_new hE.no (exc_of (Below.refl _ _) _) hrow hb).keep (exc_grown hg rfl)
  · exact ((hE.bel.setCell (p := ⟨w.heap.size, 0, none⟩) (Nat.le_refl _) _).setCell (p := ⟨w.heap.size, 1, none⟩) (Nat.le_refl _) _).setCell (p := ⟨w.heap.size, 2, none⟩) (Nat.le_refl _) _
end Go.Proofs.Ytlhfaildeemngaa
/- Arguments: acts (stage 10). -/
namespace Go.Proofs.Ytlhfaildeemngaa
open Go.RowKit Go.Shelf Go.ChangeShapes Go.WideShapes Go.ChangeAt
open Go.ChangeMaps (open_string)

theorem cellsB : Try.prog.cellsOf 4 = 1 := by kernel_rfl
instance : Inhabited Ru := ⟨ru0⟩
section
variable {H : Type} {enc : TypeId × Value → H} {W : World}
end
end Go.Proofs.Ytlhfaildeemngaa
/- From a law's walk to the row: the arguments read as before where nothing below the first world's heap has turned. Over any program. -/
namespace Go.Proofs.Ytlhfaildeemngaa
open Go.ChangeShapes Go.WideShapes Go.ChangeAt Go.RowKit

section
variable {H : Type} {enc : TypeId × Value → H} {P : Program}
theorem trodAll_below (hl : laidOutB P = true) {W W' : World} (bel : Below W.heap.size W W') : ∀ (ts : List TypeId) (vs : List Value) (ds : List (DataW H)) (ps : List MemPlace),
    (ts.all fun t => P.readableRec t && decide (t < P.types.size)) = true → DataW.TrodAll enc P W 0 (fun _ => true) true ts vs ds ps → DataW.TrodAll enc P W' 0 (fun b => decide (b < W.heap.size)) true ts vs ds ps := by
  intro ts
  induction ts with
  | nil =>
    intro vs ds ps _ h
    obtain ⟨rfl, rfl, rfl⟩ := trodAll_nil h
    exact trodAll_mk0
  | cons t ts ih =>
    intro vs ds ps hts h
    obtain ⟨v, vs', d, ds', p, q, rfl, rfl, rfl, h1, h2⟩ := trodAll_cons h
    simp only [List.all_cons, Bool.and_eq_true, decide_eq_true_eq] at hts
    have lt : ∀ x ∈ p, x.block < W.heap.size := by obtain ⟨m, hm⟩ := h1; exact DataW.trod_lt m _ _ _ hm
    exact trodAll_cons_mk (Below.trod hl hts.1.1 hts.1.2 h1 bel lt) (ih _ _ _ hts.2 h2)

theorem post_law {f : Func} {s : ChangeSpec} {tb : TypeId} (hl : laidOutB P = true) (hts : (f.params.toList.all fun t => P.readableRec t && decide (t < P.types.size)) = true)
    (hres : f.resultTypes = #[tb]) (htb : P.underlying tb = some .bool) (hvars : s.vars = []) {W W' : World} {args : Array Value} {ds gs : List (DataW H)} {before : List MemPlace}
    (hW : DataW.Whole enc P f.params.toList s.vars false W args.toList ds gs before) (hspec : s.fn H (ds ++ gs) = { results := [.lit (.bool true)], args := ds }) (bel : Below W.heap.size W W') :
    s.post enc P f false true false false W args (.bool true) W' := by
  have hW' := hW
  obtain ⟨p, q, hA, hV, _, _, _⟩ := hW
  refine ⟨ds, gs, before, [], p, [], hW', ?_, ?_, ?_, bel.frame _, fun h => by cases h⟩
  · rw [hspec, hres]
    exact trodAll_mk1 (shut_bool htb true)
  · rw [hspec]
    exact trodAll_below hl bel _ _ _ _ hts hA
  · rw [hspec, hvars]
    rfl
end
end Go.Proofs.Ytlhfaildeemngaa
