/- Contracts: the program's Right. -/
import Derived.Test.YtmndgbpfophniaaM1
import Derived.Test.YtmndgbpfophniaaN1
import Derived.Test.YtmndgbpfophniaaT7
namespace Go.Proofs.Ytmndgbpfophniaa
open Go.RowKit Go.Shelf Go.Maps

theorem right_fin {ps : List Int} {ls : List Lk} (h1 : 1 ≤ ps.length) (h2 : ps.length ≤ 8) (h3 : ls.length ≤ 16) (hp : ∀ k (hk : k < ps.length), 1 ≤ ps[k] ∧ ps[k] ≤ 4)
    (hh : ∀ k (hk : k < ls.length), hasT ps ls[k].a = true ∧ hasT ps ls[k].b = true) : rightT ps ls = decide ((cntL ls : Int) = 2 * (ls.length : Int)) := by
  have hn := cntL_nodup ls
  cases hr : rightT ps ls with
  | true =>
    have := hn.2 ((rightT_iff _ _).1 hr).nodup
    symm
    rw [decide_eq_true_eq]
    omega
  | false =>
    symm
    rw [decide_eq_false_iff_not]
    intro e
    have hnd := hn.1 (by omega)
    have : rightT ps ls = true := by
      rw [rightT_iff]
      refine ⟨h1, h2, h3, fun x hx => ?_, fun p hp' => ?_, hnd⟩
      · obtain ⟨k, hk, rfl⟩ := List.getElem_of_mem hx; exact hp k hk
      · obtain ⟨l, hl, hh'⟩ := mem_ends.1 hp'
        obtain ⟨k, hk, rfl⟩ := List.getElem_of_mem hl
        rcases hh' with rfl | rfl
        · exact (hh k hk).1
        · exact (hh k hk).2
    rw [this] at hr; cases hr
theorem right_no5 {ps : List Int} {ls : List Lk} (k : Nat) (hk : k < ls.length) (h : hasT ps ls[k].a = false ∨ hasT ps ls[k].b = false) : rightT ps ls = false := by
  cases hr : rightT ps ls with
  | false => rfl
  | true =>
    have hR := (rightT_iff _ _).1 hr
    have h1 := hR.has _ (mem_ends.2 ⟨_, List.getElem_mem hk, .inl rfl⟩)
    have h2 := hR.has _ (mem_ends.2 ⟨_, List.getElem_mem hk, .inr rfl⟩)
    rw [h1, h2] at h
    rcases h with h | h <;> cases h
set_option maxRecDepth 100000 in
set_option maxHeartbeats 4000000 in
/-- Right, of any topology. -/
theorem right_any {vp vl : Value} (ps : List Int) (ls : List Lk) (w : World) (hT : TW ps ls) (h : IsT w vp vl ps ls) : Calls Try.prog 24 #[.agg #[vp, vl]] w fun e w' => e = .returned (.bool (rightT ps ls)) ∧ Below w.heap.size w w' := by
  have HT : Hid (∀ u, Below w.heap.size w u → IsT u vp vl ps ls) := Lib.hid fun u hu => h.belows hu
  have KJ : Hid (ls.length ≤ 16 → ∀ u, Below w.heap.size w u → Calls Try.prog 39 #[.agg #[vp, vl]] u (JOut ls u)) := Lib.hid fun h16 u hu => joined_any ps ls u hT h16 (h.belows hu)
  obtain ⟨⟨A1, c1, rfl, n1, m1, z1⟩, ⟨A2, c2, rfl, n2, m2, z2⟩⟩ := h
  have hM : ps.length ≤ 9223372036854775807 := Nat.le_trans n1 m1
  have hL : ls.length ≤ 9223372036854775807 := Nat.le_trans n2 m2
  have D0 := At.new w #[.slice A1 ps.length c1, .slice A2 ls.length c2] 25
  have b0 : Below w.heap.size w (w.alloc (.cells #[.slice A1 ps.length c1, .slice A2 ls.length c2] 25)) := (Below.refl _ w).alloc (Nat.le_refl _) _
  have H1 := Lib.hid (z1.belows b0)
  have H2 := Lib.hid (z2.belows b0)
  obtain ⟨V, hV⟩ : ∃ V, V = rightT ps ls := ⟨_, rfl⟩
  rw [← hV]
  have HV := Lib.hid hV
  clear z1 z2 hV n1 n2 m1 m2 hT
  go_enter Try.func24, Try.ntmps24
  obtain ⟨w0, hw0⟩ : ∃ w0, w0 = w.alloc (.cells #[.slice A1 ps.length c1, .slice A2 ls.length c2] 25) := ⟨_, rfl⟩
  rw [← hw0] at D0 b0 H1 H2
  have x0 := (D0.cell 0).trans rfl
  have x1 := (D0.cell 1).trans rfl
  have x1lt : w.heap.size < w0.heap.size := by rw [hw0]; simp
  go_upto_region 1 with (fail)
  rw [← hw0]
  clear hw0
  by_cases h1 : ps.length < 1
  · have hf := HV.out.trans (right_no1 (ps := ps) (ls := ls) (by omega))
    subst hf
    have e1 : decide ((ps.length : Int) < 1) = true := decide_eq_true (by omega)
    have e1n : decide (ps.length < 1) = true := decide_eq_true (by omega)
    have e0 : ps = [] := by cases ps with
      | nil => rfl
      | cons x l => simp at h1
    subst e0
    clear h1 e1 e1n
    go_wp2
    go_ret
    exact ⟨rfl, b0⟩
  have e1 : decide ((ps.length : Int) < 1) = false := decide_eq_false (by omega)
  have e1n : decide (ps.length < 1) = false := decide_eq_false (by omega)
  have hne : ps ≠ [] := fun e => by rw [e] at h1; simp at h1
  by_cases h2 : 8 < ps.length
  · have hf := HV.out.trans (right_no1 (ps := ps) (ls := ls) (by omega))
    subst hf
    have e2 : decide ((8 : Int) < (ps.length : Int)) = true := by simp; omega
    clear h1
    go_wp2
    go_ret
    exact ⟨rfl, b0⟩
  have e2 : decide ((8 : Int) < (ps.length : Int)) = false := by simp; omega
  by_cases h3 : 16 < ls.length
  · have hf := HV.out.trans (right_no1 (ps := ps) (ls := ls) (by omega))
    subst hf
    have e3 : decide ((16 : Int) < (ls.length : Int)) = true := by simp; omega
    clear h1
    go_wp2
    go_ret
    exact ⟨rfl, b0⟩
  have e3 : decide ((16 : Int) < (ls.length : Int)) = false := by simp; omega
  have h16 : ls.length ≤ 16 := by omega
  have hn1 : 1 ≤ ps.length := by omega
  have hn8 : ps.length ≤ 8 := by omega
  clear h1 h2 h3
  go_wp2
  go_loopw [26] (fun i wr => ∃ k : Nat, i = .int .i64 k ∧ k ≤ ps.length ∧ Hid (∀ j (hj : j < ps.length), j < k → 1 ≤ ps[j] ∧ ps[j] ≤ 4) ∧ wr = w0) (fun i _ => ps.length - (intOf i).toNat)
  case atStart => exact ⟨0, rfl, by omega, Lib.hid (fun j _ hj => by omega), rfl⟩
  case round =>
    obtain ⟨k, rfl, hk, HK, rfl⟩ := hrel
    by_cases hlt : k < ps.length
    · obtain ⟨g, o, f1, _, r⟩ := H1.out.at k hlt
      subst f1
      have r0 : wr.cell? ⟨g, o + k, none⟩ = some (.int .i64 ps[k]) := by have := r 0 (by decide); simpa [intA] using this
      have HX : Hid ((1 ≤ ps[k] ∧ ps[k] ≤ 4) → ∀ j (hj : j < ps.length), j < k + 1 → 1 ≤ ps[j] ∧ ps[j] ≤ 4) := Lib.hid fun e j hj hjk => by
        by_cases hjk' : j = k
        · subst hjk'; exact e
        · exact HK.out j hj (by omega)
      have HY : Hid (¬ (1 ≤ ps[k] ∧ ps[k] ≤ 4) → V = false) := Lib.hid fun e => HV.out.trans (right_no2 k hlt e)
      clear r
      generalize ps[k] = x at r0 HX HY
      have i0 : (0 : Int) ≤ (k : Int) := by omega
      have i1 : (k : Int) < (ps.length : Int) := by omega
      by_cases hx1 : x < 1
      · have hf := HY.out (by omega)
        subst hf
        have d1 : decide (x < 1) = true := decide_eq_true hx1
        clear HX HY hx1
        go_wp2
        go_ret
        exact ⟨rfl, b0⟩
      · have d1 : decide (x < 1) = false := decide_eq_false hx1
        by_cases hx4 : 4 < x
        · have hf := HY.out (by omega)
          subst hf
          have d4 : decide (4 < x) = true := decide_eq_true hx4
          clear HX HY hx1 hx4
          go_wp2
          go_ret
          exact ⟨rfl, b0⟩
        · have d4 : decide (4 < x) = false := decide_eq_false hx4
          have HN := Lib.hid (HX.out (by omega))
          clear HX HY hx1 hx4
          go_wp2
          go_roundw
          case rel => exact ⟨k + 1, by go_num, by omega, HN, (by first | rfl | trivial)⟩
          case measure => simp [intOf]; omega
    · have hki : ¬ (k : Int) < (ps.length : Int) := by omega
      have HPO : Hid (∀ j (hj : j < ps.length), 1 ≤ ps[j] ∧ ps[j] ≤ 4) := Lib.hid fun j hj => HK.out j hj (by omega)
      clear HK
      obtain ⟨w1, rfl⟩ : ∃ w1, w1 = wr := ⟨_, rfl⟩
      go_wp2
      go_loopw [40] (fun i wr => ∃ j : Nat, i = .int .i64 j ∧ j ≤ ls.length ∧ Hid (∀ m (hm : m < ls.length), m < j → hasT ps ls[m].a = true ∧ hasT ps ls[m].b = true) ∧ Below w1.heap.size w1 wr) (fun i => fun _ => ls.length - (intOf i).toNat)
      case atStart => exact ⟨0, rfl, by omega, Lib.hid (fun m _ hm => by omega), Below.refl _ _⟩
      case round =>
        obtain ⟨j, rfl, hj, HJ, hb⟩ := hrel
        have Dq := D0.belows hb
        have hbw : Below w.heap.size w wr := b0.trans (hb.mono b0.size)
        have hszr := hb.size
        by_cases hjl : j < ls.length
        · obtain ⟨g, o, f1, hg, r⟩ := H2.out.at j hjl
          subst f1
          have r0 := (hb.cell (p := ⟨g, o + j * 4 + 0, none⟩) hg).trans (r 0 (by decide))
          have r1 := (hb.cell (p := ⟨g, o + j * 4 + 1, none⟩) hg).trans (r 1 (by decide))
          have r2 := (hb.cell (p := ⟨g, o + j * 4 + 2, none⟩) hg).trans (r 2 (by decide))
          have r3 := (hb.cell (p := ⟨g, o + j * 4 + 3, none⟩) hg).trans (r 3 (by decide))
          have HX : Hid (hasT ps ls[j].a = true → hasT ps ls[j].b = true → ∀ m (hm : m < ls.length), m < j + 1 → hasT ps ls[m].a = true ∧ hasT ps ls[m].b = true) := Lib.hid fun ea eb m hm hmj => by
            by_cases hmj' : m = j
            · subst hmj'; exact ⟨ea, eb⟩
            · exact HJ.out m hm (by omega)
          have HY : Hid (hasT ps ls[j].a = false ∨ hasT ps ls[j].b = false → V = false) := Lib.hid fun e => HV.out.trans (right_no5 j hjl e)
          have ka : ∀ u, Below w.heap.size w u → Calls Try.prog 38 #[.agg #[.slice A1 ps.length c1, .slice (some ⟨g, o, none⟩) ls.length c2], .agg (ptA ls[j].a)] u fun e w' => e = .returned (.bool (hasT ps ls[j].a)) ∧ Below u.heap.size u w' := fun u hu => has_any ps ls ls[j].a u (HT.out u hu)
          have kb : ∀ u, Below w.heap.size w u → Calls Try.prog 38 #[.agg #[.slice A1 ps.length c1, .slice (some ⟨g, o, none⟩) ls.length c2], .agg (ptA ls[j].b)] u fun e w' => e = .returned (.bool (hasT ps ls[j].b)) ∧ Below u.heap.size u w' := fun u hu => has_any ps ls ls[j].b u (HT.out u hu)
          have i0 : (0 : Int) ≤ (j : Int) := by omega
          have i1 : (j : Int) < (ls.length : Int) := by omega
          clear r
          generalize ls[j] = l at r0 r1 r2 r3 HX HY ka kb
          obtain ⟨⟨a, b⟩, ⟨c, d⟩⟩ := l
          simp only [lkA, Nat.add_zero] at r0 r1 r2 r3
          dsimp only at HX HY ka kb
          unfold ptA at ka kb
          dsimp only at ka kb
          generalize hasT ps ⟨a, b⟩ = qa at ka HX HY
          generalize hasT ps ⟨c, d⟩ = qb at kb HX HY
          have L1 := At.new wr #[.int .i64 a, .int .i64 b, .int .i64 c, .int .i64 d] 67
          have D1 := Dq.alloc (.cells #[.int .i64 a, .int .i64 b, .int .i64 c, .int .i64 d] 67)
          have hb1 : Below w1.heap.size w1 (wr.alloc (.cells #[.int .i64 a, .int .i64 b, .int .i64 c, .int .i64 d] 67)) := hb.alloc hb.size _
          have hbw1 : Below w.heap.size w (wr.alloc (.cells #[.int .i64 a, .int .i64 b, .int .i64 c, .int .i64 d] 67)) := hbw.alloc hbw.size _
          have kaa := ka _ hbw1
          have HKB := Lib.hid kb
          have y0 := (Dq.cell 0).trans rfl
          have y1 := (Dq.cell 1).trans rfl
          have hlt1 : w.heap.size < wr.heap.size := by omega
          clear ka kb
          go_upto_region 12 with (fail)
          obtain ⟨w2, hw2⟩ : ∃ w2, w2 = (wr.alloc (.cells #[.int .i64 a, .int .i64 b, .int .i64 c, .int .i64 d] 67)) := ⟨_, rfl⟩
          rw [← hw2] at L1 D1 hb1 hbw1 kaa ⊢
          clear hw2 y0 y1
          have y0 := (D1.cell 0).trans rfl
          have y1 := (D1.cell 1).trans rfl
          have l0 := (L1.cell 0).trans rfl
          have l1 := (L1.cell 1).trans rfl
          cases qa with
          | false =>
            have hf := HY.out (.inl rfl)
            subst hf
            clear HX HY
            go_wp2_with fail
            refine kaa.mono ?_
            rintro e w3 ⟨rfl, b3⟩
            go_wp2
            go_ret
            exact ⟨rfl, hbw1.trans (b3.mono hbw1.size)⟩
          | true =>
            go_wp2_with fail
            refine kaa.mono ?_
            rintro e w3 ⟨rfl, b3⟩
            have hbw3 := hbw1.trans (b3.mono hbw1.size)
            have hb3 := hb1.trans (b3.mono hb1.size)
            have kbb := HKB.out w3 hbw3
            have D3 := D1.belows b3
            have L3 := L1.belows b3
            clear y0 y1 l0 l1 kaa
            have y0 := (D3.cell 0).trans rfl
            have y1 := (D3.cell 1).trans rfl
            have l2 := (L3.cell 2).trans rfl
            have l3 := (L3.cell 3).trans rfl
            cases qb with
            | false =>
              have hf := HY.out (.inr rfl)
              subst hf
              clear HX HY
              go_wp2_with fail
              refine kbb.mono ?_
              rintro e w4 ⟨rfl, b4⟩
              go_wp2
              go_ret
              exact ⟨rfl, hbw3.trans (b4.mono hbw3.size)⟩
            | true =>
              have HN := Lib.hid (HX.out (by trivial) (by trivial))
              clear HX HY
              go_wp2_with fail
              refine kbb.mono ?_
              rintro e w4 ⟨rfl, b4⟩
              have hb4 := hb3.trans (b4.mono hb3.size)
              go_wp2
              go_roundw
              case rel => exact ⟨j + 1, by go_num, by omega, HN, hb4⟩
              case measure => simp [intOf]; omega
        · have hji : ¬ (j : Int) < (ls.length : Int) := by omega
          have hV : V = decide ((cntL ls : Int) = 2 * (ls.length : Int)) := HV.out.trans (right_fin hn1 hn8 h16 HPO.out fun m hm => HJ.out m hm (by omega))
          clear HJ
          have HVV := Lib.hid hV
          have kj := KJ.out h16
          have hwr : ∀ u, Below wr.heap.size wr u → Below w.heap.size w u := fun u hu => hbw.trans (hu.mono hbw.size)
          have hml := fun u b n s M (h : JMap u b n s M) => MapAt.run_len h Try.underlying71 3
          have hwm : IntKind.i64.wrap (2 * (ls.length : Int)) = 2 * (ls.length : Int) := IntWalk.i64_in _ (by omega)
          have y0 := (Dq.cell 0).trans rfl
          have y1 := (Dq.cell 1).trans rfl
          clear hV y0 y1 hml
          have x0 : ∀ x : Sub wr, x.u.cell? ⟨w.heap.size, 0, none⟩ = some (.slice A1 ps.length c1) := fun x => ((Dq.belows x.h).cell 0).trans rfl
          have x1 : ∀ x : Sub wr, x.u.cell? ⟨w.heap.size, 1, none⟩ = some (.slice A2 ls.length c2) := fun x => ((Dq.belows x.h).cell 1).trans rfl
          go_wp2_with fail
          refine wp_region_seg 1 8 (by kernel_rfl) (by kernel_rfl) rfl (by kernel_rfl) (by kernel_rfl) ?_
          show wpQuiet _ _ _ _ [_] ⟨List.toArray (_ :: _ :: _ :: _ :: _ :: _ :: _ :: _ :: _ :: _ :: _ :: _ :: _ :: _ :: _ :: _ :: _ :: _ :: _ :: _ :: _ :: _ :: _ :: _ :: _ :: _ :: _ :: _ :: _ :: _ :: _ :: _ :: _ :: _ :: _ :: _ :: _ :: _ :: _ :: _ :: _ :: _ :: _ :: _ :: _ :: _ :: _ :: _ :: _ :: _ :: _ :: _ :: _ :: _ :: _ :: _ :: _ :: _ :: _ :: _ :: _ :: _ :: _ :: _ :: _ :: []), _⟩
          repeat (go_big_quiet_step (fail))
          refine wpQuiet_nil ?_
          intro u1 hu1
          refine held_more 4 4 3 (by kernel_rfl) (by kernel_rfl) (by kernel_rfl) hu1 ?_
          show wpQuiet _ _ _ _ [_, _, _, _] ⟨List.toArray (_ :: _ :: _ :: _ :: _ :: _ :: _ :: _ :: _ :: _ :: _ :: _ :: _ :: _ :: _ :: _ :: _ :: _ :: _ :: _ :: _ :: _ :: _ :: _ :: _ :: _ :: _ :: _ :: _ :: _ :: _ :: _ :: _ :: _ :: _ :: _ :: _ :: _ :: _ :: _ :: _ :: _ :: _ :: _ :: _ :: _ :: _ :: _ :: _ :: _ :: _ :: _ :: _ :: _ :: _ :: _ :: _ :: _ :: _ :: _ :: _ :: _ :: _ :: _ :: _ :: []), _⟩
          repeat (go_big_quiet_step (fail))
          refine wpQuiet_nil ?_
          intro u2 hu2
          clear x0 x1
          refine held_call (k := 1) (ys := #[.agg #[.slice A1 ps.length c1, .slice A2 ls.length c2]]) (by kernel_rfl) rfl (by kernel_rfl) rfl Try.func39 (by kernel_rfl) (by kernel_rfl) hu2 (by simp only [List.map_toArray, List.map_cons, List.map_nil, Act.eval] <;> rfl) (fun v => rfl) ?_
          refine (kj u2 (hwr u2 hu2)).mono ?_
          rintro e w5 ⟨bq, rfl, hbq, J5, b5⟩
          refine ⟨_, rfl, b5, ?_⟩
          have hlen : ∀ x : Sub w5, (Builtin.len_ #[71] 3 #[.map (some bq)]).run Try.prog x.u = .ok (.int .i64 (cntL ls)) x.u := fun x => MapAt.run_len (J5.belows x.h) Try.underlying71 3
          have hbw5 := (hwr u2 hu2).trans (b5.mono (hwr u2 hu2).size)
          clear J5 b5 hbq
          generalize cntL ls = cn at hlen HVV
          have hwm2 : IntKind.i64.wrap (2 * (ls.length : Int)) = 2 * (ls.length : Int) := hwm
          refine held_more 1 2 2 (by kernel_rfl) (by kernel_rfl) (by kernel_rfl) (Below.refl _ _) ?_
          show wpQuiet _ _ _ _ [_] ⟨List.toArray (_ :: _ :: _ :: _ :: _ :: _ :: _ :: _ :: _ :: _ :: _ :: _ :: _ :: _ :: _ :: _ :: _ :: _ :: _ :: _ :: _ :: _ :: _ :: _ :: _ :: _ :: _ :: _ :: _ :: _ :: _ :: _ :: _ :: _ :: _ :: _ :: _ :: _ :: _ :: _ :: _ :: _ :: _ :: _ :: _ :: _ :: _ :: _ :: _ :: _ :: _ :: _ :: _ :: _ :: _ :: _ :: _ :: _ :: _ :: _ :: _ :: _ :: _ :: _ :: _ :: []), _⟩
          repeat (go_big_quiet_step (fail))
          refine wpQuiet_nil ?_
          intro u3 hu3
          clear hlen
          refine held_more 2 0 7 (by kernel_rfl) (by kernel_rfl) (by kernel_rfl) hu3 ?_
          show wpQuiet _ _ _ _ [_, _] ⟨List.toArray (_ :: _ :: _ :: _ :: _ :: _ :: _ :: _ :: _ :: _ :: _ :: _ :: _ :: _ :: _ :: _ :: _ :: _ :: _ :: _ :: _ :: _ :: _ :: _ :: _ :: _ :: _ :: _ :: _ :: _ :: _ :: _ :: _ :: _ :: _ :: _ :: _ :: _ :: _ :: _ :: _ :: _ :: _ :: _ :: _ :: _ :: _ :: _ :: _ :: _ :: _ :: _ :: _ :: _ :: _ :: _ :: _ :: _ :: _ :: _ :: _ :: _ :: _ :: _ :: _ :: []), _⟩
          repeat (go_big_quiet_step (fail))
          refine wpQuiet_nil ?_
          intro u4 hu4
          refine held_end (by kernel_rfl) ?_
          have hbw6 := hbw5.trans (hu4.mono hbw5.size)
          go_wp2
          go_ret
          exact ⟨by rw [HVV.out]; rfl, hbw6⟩
end Go.Proofs.Ytmndgbpfophniaa
