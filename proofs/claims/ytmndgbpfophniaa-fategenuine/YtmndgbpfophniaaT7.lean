/- Contracts: the document's Right. -/
import Derived.Test.YtmndgbpfophniaaT1
namespace Go.Proofs.Ytmndgbpfophniaa
open Go.RowKit Go.Shelf

section
variable {α : Type} {n : Nat} {f : α → Array Value}
/-- Append of new elements onto a row of one's own, nil or not, as a step of a region that draws. -/
theorem step_app_new {P : Program} {T e : TypeId} {z : Value} {by' : Nat} (hf : ∀ r, (f r).size = n) (h1 : ∀ r, ∀ u ∈ (f r).toList, u.oneCell' = true) (ht : P.underlying T = some (.slice e)) (hinfo : (P.info? e).map (fun i => (i.zero, i.size, i.bytes)) = some (some z, n, by')) (hzs : z.cells.size = n) (hn : 0 < n)
    {ops : Array Oper} {o : Oper} {a : Act} {w : World} {K : Act → World → Prop} {Q : Exit → Act → World → Prop} {E : Prop} (hgd : o.guard = none) (s x : Operand)
    (ho : o.op = .call { callee := .builtin .append, args := #[s, x], argTypes := #[T, T] })
    (base : Nat) (v : Value) (L : List α) (hs : a.eval s = v) (hrow : w.ownsRow base e n v L.length (fcs f L)) (ad : Addr) (c : Nat) (M : List α) (hx : a.eval x = .slice (some ad) M.length c) (hM : ∀ j u, (fcs f M)[j]? = some u → w.cell? (ad.add j) = some u)
    (hlen : L.length + M.length ≤ maxLen) (hby : (L.length + M.length) * by' ≤ 140737488355328) (hbase : base ≤ w.heap.size)
    (h : ∀ v' w', w'.ownsRow base e n v' (L ++ M).length (fcs f (L ++ M)) → Below base w w' → K (a.put o.dst v') w') : if Region.wanted o (yielded ops a.tmps) = true then Oper.wp P o a w K Q else E := by
  obtain ⟨i0, hi, hz0, hz1, hz2⟩ := info_parts hinfo
  rw [if_pos (by simp [Region.wanted, hgd])]
  refine wp_append_own w s x T ho base e i0 z n by' ht hi hz0 hz1 hz2 hzs hn _ _ _ hs hrow ad M.length c (fcs f M) hx (fcs_length hf M) hM (fcs_one h1 M) hlen hby hbase ?_
  intro v' w' g1 g2 _
  exact h v' w' (by rw [fcs_append, List.length_append]; exact g1) ((Below.refl _ _).grown g2 hbase (fun k hk => (hrow.lt k hk).1))
end
theorem ends_take (ls : List Lk) (k : Nat) (hk : k < ls.length) : ends (ls.take (k + 1)) = ends (ls.take k) ++ [ls[k].a, ls[k].b] := by
  rw [List.take_succ_eq_append_getElem hk, ends_append]; rfl
theorem right_no1 {ps : List Int} {ls : List Lk} (h : ¬ (1 ≤ ps.length ∧ ps.length ≤ 8 ∧ ls.length ≤ 16)) : rightT ps ls = false := by
  cases hr : rightT ps ls with
  | false => rfl
  | true => have := (rightT_iff _ _).1 hr; exact absurd ⟨this.n1, this.n8, this.l16⟩ h
theorem right_no2 {ps : List Int} {ls : List Lk} (k : Nat) (hk : k < ps.length) (h : ¬ (1 ≤ ps[k] ∧ ps[k] ≤ 4)) : rightT ps ls = false := by
  cases hr : rightT ps ls with
  | false => rfl
  | true => have := (rightT_iff _ _).1 hr; exact absurd (this.ports _ (List.getElem_mem hk)) h
theorem right_no3 {ps : List Int} {ls : List Lk} (k : Nat) (hk : k < (ends ls).length) (h : hasT ps (ends ls)[k] = false) : rightT ps ls = false := by
  cases hr : rightT ps ls with
  | false => rfl
  | true => have := ((rightT_iff _ _).1 hr).has _ (List.getElem_mem hk); rw [h] at this; cases this
theorem right_no4 {ps : List Int} {ls : List Lk} (i k : Nat) (hi : i < (ends ls).length) (hk : k < i) (h : (ends ls)[k]'(by omega) = (ends ls)[i]) : rightT ps ls = false := by
  cases hr : rightT ps ls with
  | false => rfl
  | true =>
    have := ((rightT_iff _ _).1 hr).nodup
    exact absurd h (List.pairwise_iff_getElem.1 this k i (by omega) hi hk)
theorem right_yes {ps : List Int} {ls : List Lk} (h1 : 1 ≤ ps.length) (h2 : ps.length ≤ 8) (h3 : ls.length ≤ 16) (hp : ∀ k (hk : k < ps.length), 1 ≤ ps[k] ∧ ps[k] ≤ 4)
    (hh : ∀ k (hk : k < (ends ls).length), hasT ps (ends ls)[k] = true) (hn : ∀ i k (hi : i < (ends ls).length) (hk : k < i), (ends ls)[k]'(by omega) ≠ (ends ls)[i]) : rightT ps ls = true := by
  rw [rightT_iff]
  refine ⟨h1, h2, h3, fun x hx => ?_, fun p hp' => ?_, ?_⟩
  · obtain ⟨k, hk, rfl⟩ := List.getElem_of_mem hx; exact hp k hk
  · obtain ⟨k, hk, rfl⟩ := List.getElem_of_mem hp'; exact hh k hk
  · rw [List.Nodup, List.pairwise_iff_getElem]
    exact fun i j hi hj hij => hn j i hj hij
set_option maxRecDepth 100000 in
set_option maxHeartbeats 4000000 in
/-- The document's Right. -/
theorem rrightT_any {vp vl : Value} (ps : List Int) (ls : List Lk) (w : World) (h : IsT w vp vl ps ls) : Calls Try.prog 21 #[.agg #[vp, vl]] w fun e w' => e = .returned (.bool (rightT ps ls)) ∧ Below w.heap.size w w' := by
  have HT : Hid (∀ u, Below w.heap.size w u → IsT u vp vl ps ls) := Lib.hid fun u hu => h.belows hu
  obtain ⟨⟨A1, c1, rfl, n1, m1, z1⟩, ⟨A2, c2, rfl, n2, m2, z2⟩⟩ := h
  have hM : ps.length ≤ 9223372036854775807 := Nat.le_trans n1 m1
  have hL : ls.length ≤ 9223372036854775807 := Nat.le_trans n2 m2
  have D0 := At.new w #[.slice A1 ps.length c1, .slice A2 ls.length c2] 25
  have b0 : Below w.heap.size w (w.alloc (.cells #[.slice A1 ps.length c1, .slice A2 ls.length c2] 25)) := (Below.refl _ w).alloc (Nat.le_refl _) _
  have H1 := Lib.hid (z1.belows b0)
  have H2 := Lib.hid (z2.belows b0)
  obtain ⟨V, hV⟩ : ∃ V, V = rightT ps ls := ⟨_, rfl⟩
  rw [← hV]
  have HV := Lib.hid hV
  clear z1 z2 hV n1 n2 m1 m2
  go_enter Try.func21, Try.ntmps21
  obtain ⟨w0, hw0⟩ : ∃ w0, w0 = w.alloc (.cells #[.slice A1 ps.length c1, .slice A2 ls.length c2] 25) := ⟨_, rfl⟩
  rw [← hw0] at D0 b0 H1 H2
  have x0 := (D0.cell 0).trans rfl
  have x1 := (D0.cell 1).trans rfl
  have x1lt : w.heap.size < w0.heap.size := by rw [hw0]; simp
  go_upto_region 1 with (fail)
  rw [← hw0]
  clear hw0
  by_cases h1 : ps.length < 1
  · have hf := HV.out.trans (right_no1 (ps := ps) (ls := ls) (by omega))
    subst hf
    have e1 : decide ((ps.length : Int) < 1) = true := decide_eq_true (by omega)
    have e1n : decide (ps.length < 1) = true := decide_eq_true (by omega)
    have e0 : ps = [] := by cases ps with
      | nil => rfl
      | cons x l => simp at h1
    subst e0
    clear h1 e1 e1n
    go_wp2
    go_ret
    exact ⟨rfl, b0⟩
  have e1 : decide ((ps.length : Int) < 1) = false := decide_eq_false (by omega)
  have e1n : decide (ps.length < 1) = false := decide_eq_false (by omega)
  have hne : ps ≠ [] := fun e => by rw [e] at h1; simp at h1
  by_cases h2 : 8 < ps.length
  · have hf := HV.out.trans (right_no1 (ps := ps) (ls := ls) (by omega))
    subst hf
    have e2 : decide ((8 : Int) < (ps.length : Int)) = true := by simp; omega
    clear h1
    go_wp2
    go_ret
    exact ⟨rfl, b0⟩
  have e2 : decide ((8 : Int) < (ps.length : Int)) = false := by simp; omega
  by_cases h3 : 16 < ls.length
  · have hf := HV.out.trans (right_no1 (ps := ps) (ls := ls) (by omega))
    subst hf
    have e3 : decide ((16 : Int) < (ls.length : Int)) = true := by simp; omega
    clear h1
    go_wp2
    go_ret
    exact ⟨rfl, b0⟩
  have e3 : decide ((16 : Int) < (ls.length : Int)) = false := by simp; omega
  have h16 : ls.length ≤ 16 := by omega
  have hn1 : 1 ≤ ps.length := by omega
  have hn8 : ps.length ≤ 8 := by omega
  clear h1 h2 h3
  go_wp2
  go_loopw [3] (fun i wr => ∃ k : Nat, i = .int .i64 k ∧ k ≤ ps.length ∧ Hid (∀ j (hj : j < ps.length), j < k → 1 ≤ ps[j] ∧ ps[j] ≤ 4) ∧ wr = w0) (fun i _ => ps.length - (intOf i).toNat)
  case atStart => exact ⟨0, rfl, by omega, Lib.hid (fun j _ hj => by omega), rfl⟩
  case round =>
    obtain ⟨k, rfl, hk, HK, rfl⟩ := hrel
    by_cases hlt : k < ps.length
    · obtain ⟨g, o, f1, _, r⟩ := H1.out.at k hlt
      subst f1
      have r0 : wr.cell? ⟨g, o + k, none⟩ = some (.int .i64 ps[k]) := by have := r 0 (by decide); simpa [intA] using this
      have HX : Hid ((1 ≤ ps[k] ∧ ps[k] ≤ 4) → ∀ j (hj : j < ps.length), j < k + 1 → 1 ≤ ps[j] ∧ ps[j] ≤ 4) := Lib.hid fun e j hj hjk => by
        by_cases hjk' : j = k
        · subst hjk'; exact e
        · exact HK.out j hj (by omega)
      have HY : Hid (¬ (1 ≤ ps[k] ∧ ps[k] ≤ 4) → V = false) := Lib.hid fun e => HV.out.trans (right_no2 k hlt e)
      clear r
      generalize ps[k] = x at r0 HX HY
      have i0 : (0 : Int) ≤ (k : Int) := by omega
      have i1 : (k : Int) < (ps.length : Int) := by omega
      by_cases hx1 : x < 1
      · have hf := HY.out (by omega)
        subst hf
        have d1 : decide (x < 1) = true := decide_eq_true hx1
        clear HX HY hx1
        go_wp2
        go_ret
        exact ⟨rfl, b0⟩
      · have d1 : decide (x < 1) = false := decide_eq_false hx1
        by_cases hx4 : 4 < x
        · have hf := HY.out (by omega)
          subst hf
          have d4 : decide (4 < x) = true := decide_eq_true hx4
          clear HX HY hx1 hx4
          go_wp2
          go_ret
          exact ⟨rfl, b0⟩
        · have d4 : decide (4 < x) = false := decide_eq_false hx4
          have HN := Lib.hid (HX.out (by omega))
          clear HX HY hx1 hx4
          go_wp2
          go_roundw
          case rel => exact ⟨k + 1, by go_num, by omega, HN, (by first | rfl | trivial)⟩
          case measure => simp [intOf]; omega
    · have hki : ¬ (k : Int) < (ps.length : Int) := by omega
      have HPO : Hid (∀ j (hj : j < ps.length), 1 ≤ ps[j] ∧ ps[j] ≤ 4) := Lib.hid fun j hj => HK.out j hj (by omega)
      clear HK
      obtain ⟨w1, rfl⟩ : ∃ w1, w1 = wr := ⟨_, rfl⟩
      go_wp2
      go_loopw [4, 5] (fun out i wr => ∃ j : Nat, i = .int .i64 j ∧ j ≤ ls.length ∧ Hid (wr.ownsRow w1.heap.size 34 2 out (ends (ls.take j)).length (fcs ptA (ends (ls.take j))) ∧ Below w1.heap.size w1 wr)) (fun _ i => fun _ => ls.length - (intOf i).toNat)
      case atStart => exact ⟨0, rfl, by omega, Lib.hid ⟨⟨by simp [ends, fcs], .inl ⟨rfl, by simp [ends]⟩⟩, Below.refl _ _⟩⟩
      case round =>
        obtain ⟨j, rfl, hj, HJ⟩ := hrel
        obtain ⟨hrow, hb⟩ := HJ.out
        have Dq := D0.belows hb
        have y0 := (Dq.cell 0).trans rfl
        have y1 := (Dq.cell 1).trans rfl
        clear HJ
        by_cases hjl : j < ls.length
        · obtain ⟨g, o, f1, hg, r⟩ := H2.out.at j hjl
          subst f1
          have HE := Lib.hid (ends_take ls j hjl)
          have r0 := (hb.cell (p := ⟨g, o + j * 4 + 0, none⟩) hg).trans (r 0 (by decide))
          have r1 := (hb.cell (p := ⟨g, o + j * 4 + 1, none⟩) hg).trans (r 1 (by decide))
          have r2 := (hb.cell (p := ⟨g, o + j * 4 + 2, none⟩) hg).trans (r 2 (by decide))
          have r3 := (hb.cell (p := ⟨g, o + j * 4 + 3, none⟩) hg).trans (r 3 (by decide))
          have hwlt : w.heap.size < w1.heap.size := x1lt
          have hle : (ends (ls.take j)).length ≤ 32 := by
            have h1 := ends_length (ls.take j)
            have h2 : (ls.take j).length ≤ j := List.length_take_le _ _
            omega
          clear r
          generalize ls[j] = l at r0 r1 r2 r3 HE
          generalize hfl : ends (ls.take j) = fl at hrow HE hle
          clear hfl
          obtain ⟨⟨a, b⟩, ⟨c, d⟩⟩ := l
          simp only [lkA, Nat.add_zero] at r0 r1 r2 r3
          dsimp only at HE
          have i0 : (0 : Int) ≤ (j : Int) := by omega
          have i1 : (j : Int) < (ls.length : Int) := by omega
          have HRW := Lib.hid hrow
          have HBB := Lib.hid hb
          clear hrow
          go_wp2_with fail
          go_region_held3 (fun W => W.cell? ⟨g, o + j * 4, none⟩ = some (.int .i64 a) ∧ W.cell? ⟨g, o + j * 4 + 1, none⟩ = some (.int .i64 b) ∧ W.cell? ⟨g, o + j * 4 + 2, none⟩ = some (.int .i64 c) ∧ W.cell? ⟨g, o + j * 4 + 3, none⟩ = some (.int .i64 d) ∧ W.cell? ⟨w.heap.size, 1, none⟩ = some (.slice (some ⟨g, o, none⟩) ls.length c2)) (first | go_keep)
            ((refine step_app_new ptA_size ptA_one Try.underlying68 infoPt rfl (by decide) rfl (.tmp 53) (.tmp 66) rfl w1.heap.size u4 fl (by simp [Act.eval]) (HRW.out.alloc _) ⟨wr.heap.size, 0, none⟩ 2 [⟨a, b⟩, ⟨c, d⟩] (by simp [Act.eval]) (by first | exact f_new ptA_size wr [(⟨a, b⟩ : Pt), ⟨c, d⟩] #[.int .i64 a, .int .i64 b, .int .i64 c, .int .i64 d] 34 rfl | exact f_new ptA_size wr.drew [(⟨a, b⟩ : Pt), ⟨c, d⟩] #[.int .i64 a, .int .i64 b, .int .i64 c, .int .i64 d] 34 rfl) (by simp only [maxLen, List.length_cons, List.length_nil]; omega) (by simp only [List.length_cons, List.length_nil]; omega) (by have := HBB.out.size; simp; omega) ?_; intro v' w5 hown' b5; have c5 : Below w1.heap.size wr w5 := Below.trans (by first | exact ((Below.refl w1.heap.size wr).alloc HBB.out.size _).drew | exact (Below.refl w1.heap.size wr).drew.alloc HBB.out.size _ | exact (Below.refl w1.heap.size wr).alloc HBB.out.size _) b5; have z0 := (c5.cell (p := ⟨g, _, none⟩) hg).trans r0; have z1 := (c5.cell (p := ⟨g, _, none⟩) hg).trans r1; have z2 := (c5.cell (p := ⟨g, _, none⟩) hg).trans r2; have z3 := (c5.cell (p := ⟨g, _, none⟩) hg).trans r3; have z4 := (c5.cell (p := ⟨w.heap.size, 1, none⟩) hwlt).trans y1))
          rename_i hHeld
          clear hHeld
          go_wp2
          go_roundw
          case rel => exact ⟨j + 1, by go_num, by omega, Lib.hid ⟨by rw [HE.out]; exact hown', HBB.out.trans c5⟩⟩
          case measure => simp [intOf]; omega
        · have hji : ¬ (j : Int) < (ls.length : Int) := by omega
          obtain rfl : j = ls.length := by omega
          rw [List.take_length] at hrow
          have hE := isF_of_row ptA_size hrow
          have hlen : (ends ls).length ≤ 32 := by have := ends_length ls; omega
          clear hrow
          obtain ⟨E, hEE⟩ : ∃ E, E = ends ls := ⟨_, rfl⟩
          rw [← hEE] at hE hlen
          obtain ⟨A9, c9, rfl, n9, m9, z9⟩ := hE
          have HZ9 : Hid (∀ u, Below wr.heap.size wr u → Fs 2 ptA u A9 E) := Lib.hid fun u hu => z9.belows hu
          have HN3 : Hid (∀ k (hk : k < E.length), hasT ps E[k] = false → V = false) := Lib.hid (by subst hEE; exact fun k hk e => HV.out.trans (right_no3 k hk e))
          have HN4 : Hid (∀ i k (hi : i < E.length) (hk : k < i), E[k]'(by omega) = E[i] → V = false) := Lib.hid (by subst hEE; exact fun i k hi hk e => HV.out.trans (right_no4 i k hi hk e))
          have HY5 : Hid ((∀ k (hk : k < E.length), hasT ps E[k] = true) → (∀ i k (hi : i < E.length) (hk : k < i), E[k]'(by omega) ≠ E[i]) → V = true) := Lib.hid (by subst hEE; exact fun e1 e2 => HV.out.trans (right_yes hn1 hn8 h16 HPO.out e1 e2))
          clear hEE z9
          obtain ⟨w3, rfl⟩ : ∃ w3, w3 = wr := ⟨_, rfl⟩
          simp only [maxLen] at m9
          have hEl : E.length ≤ 9223372036854775807 := by omega
          go_wp2
          go_loopw [6] (fun i wr => ∃ k : Nat, i = .int .i64 k ∧ k ≤ E.length ∧ Hid ((∀ j (hj : j < E.length), j < k → hasT ps E[j] = true) ∧ (∀ i j (hi : i < E.length) (hj : j < i), i < k → E[j]'(by omega) ≠ E[i])) ∧ Below w3.heap.size w3 wr) (fun i _ => E.length - (intOf i).toNat)
          case atStart => exact ⟨0, rfl, by omega, Lib.hid ⟨fun j _ hj => by omega, fun i j _ _ hi => by omega⟩, Below.refl _ _⟩
          case round =>
            obtain ⟨k, rfl, hk, HK, hbk⟩ := hrel
            by_cases hkl : k < E.length
            · obtain ⟨g, o, f1, hg, r⟩ := (HZ9.out wr hbk).at k hkl
              subst f1
              have r0 := r 0 (by decide); have r1 := r 1 (by decide)
              have Dk := Dq.belows hbk
              have bw : Below w.heap.size w wr := (b0.trans (hb.mono b0.size)).trans (hbk.mono (Nat.le_trans b0.size hb.size))
              have kc : ∀ x : Sub wr, Calls Try.prog 36 #[.agg #[.slice A1 ps.length c1, .slice A2 ls.length c2], .agg (ptA E[k])] x.u fun e w' => e = .returned (.bool (hasT ps E[k])) ∧ Below x.u.heap.size x.u w' := fun x => rhas_any ps ls E[k] x.u (HT.out _ (bw.trans (x.h.mono bw.size)))
              have HX3 := Lib.hid (HN3.out k hkl)
              have HKa : Hid (hasT ps E[k] = true → ∀ j (hj : j < E.length), j < k + 1 → hasT ps E[j] = true) := Lib.hid fun e j hj hjk => by
                by_cases hjk' : j = k
                · subst hjk'; exact e
                · exact HK.out.1 j hj (by omega)
              have HP : Hid (∃ p, p = E[k]) := Lib.hid ⟨_, rfl⟩
              obtain ⟨p, hp⟩ := HP.out
              rw [← hp] at r0 r1 kc HX3 HKa
              have HPk : Hid (p = E[k]) := Lib.hid hp
              clear hp HP r
              obtain ⟨pd, pp⟩ := p
              simp only [ptA, Nat.add_zero] at r0 r1 kc
              have s0 : ∀ x : Sub wr, x.u.cell? ⟨g, o + k * 2, none⟩ = some (.int .i64 pd) := fun x => (x.h.cell (p := ⟨g, _, none⟩) hg).trans r0
              have s1 : ∀ x : Sub wr, x.u.cell? ⟨g, o + k * 2 + 1, none⟩ = some (.int .i64 pp) := fun x => (x.h.cell (p := ⟨g, _, none⟩) hg).trans r1
              have v0 : ∀ x : Sub wr, x.u.cell? ⟨w.heap.size, 0, none⟩ = some (.slice A1 ps.length c1) := fun x => ((Dk.belows x.h).cell 0).trans rfl
              have v1 : ∀ x : Sub wr, x.u.cell? ⟨w.heap.size, 1, none⟩ = some (.slice A2 ls.length c2) := fun x => ((Dk.belows x.h).cell 1).trans rfl
              have i0 : (0 : Int) ≤ (k : Int) := by omega
              have i1 : (k : Int) < (E.length : Int) := by omega
              generalize hasT ps ⟨pd, pp⟩ = q at kc HX3 HKa
              go_upto_region 16 with (fail)
              refine wp_region_cls (by kernel_rfl) (by kernel_rfl) ?_
              repeat (go_big_quiet_step ((go_at_call 36; exact Calls.cls_of (kc _))))
              refine wpQuiet_nil ?_
              rintro w7 ⟨x7, hx⟩
              have b7 := x7.h
              rw [← hx] at b7
              clear hx x7 s0 s1 v0 v1 kc
              have hb7 := hbk.trans (b7.mono hbk.size)
              have bw7 := bw.trans (b7.mono bw.size)
              cases q with
              | false =>
                have hf := HX3.out rfl
                subst hf
                clear HKa HX3
                go_wp2
                go_ret
                exact ⟨rfl, bw7⟩
              | true =>
                have HKb := Lib.hid (HKa.out rfl)
                clear HKa HX3 r0 r1 Dk bw b7
                go_wp2
                go_loopw [8] (fun i wr => ∃ m : Nat, i = .int .i64 m ∧ m ≤ k ∧ Hid (∀ j (hj : j < k), j < m → E[j]'(by omega) ≠ E[k]) ∧ ∃ n, wr = w7.drewN n) (fun i _ => k - (intOf i).toNat)
                case atStart => exact ⟨0, rfl, by omega, Lib.hid (fun j _ hj => by omega), 0, rfl⟩
                case round =>
                  obtain ⟨m, rfl, hm, HM, nd, rfl⟩ := hrel
                  by_cases hmk : m < k
                  · have hmE : m < E.length := by omega
                    obtain ⟨g', o', f1, hg', r⟩ := (HZ9.out w7 hb7).at k hkl
                    cases f1
                    obtain ⟨g'', o'', f1, _, r'⟩ := (HZ9.out w7 hb7).at m hmE
                    cases f1
                    have r0 := r 0 (by decide); have r1 := r 1 (by decide)
                    have t0 := r' 0 (by decide); have t1 := r' 1 (by decide)
                    have hq := eql_pt E[m] E[k]
                    have HN := Lib.hid (HN4.out k m hkl hmk)
                    have HMM : Hid (E[m] ≠ E[k] → ∀ j (hj : j < k), j < m + 1 → E[j]'(by omega) ≠ E[k]) := Lib.hid fun e j hj hjm => by
                      by_cases hjm' : j = m
                      · subst hjm'; exact e
                      · exact HM.out j hj (by omega)
                    clear r r'
                    generalize E[k] = x at r0 r1 hq HN HMM
                    generalize E[m] = y at t0 t1 hq HN HMM
                    have j0 : (0 : Int) ≤ (m : Int) := by omega
                    have j1 : (m : Int) < (E.length : Int) := by omega
                    have j2 : (m : Int) < (k : Int) := by omega
                    obtain ⟨xd, xp⟩ := x
                    obtain ⟨yd, yp⟩ := y
                    simp only [ptA, Nat.add_zero] at r0 r1 t0 t1 hq
                    by_cases he : (⟨yd, yp⟩ : Pt) = ⟨xd, xp⟩
                    · have hf := HN.out he
                      subst hf
                      rw [decide_eq_true he] at hq
                      clear HN HMM he
                      go_wp2_with fail
                      go_quiet (fail)
                      go_wp2
                      go_ret
                      exact ⟨rfl, bdrewN (bdrewN bw7 _) _⟩
                    · have HNN := Lib.hid (HMM.out he)
                      rw [decide_eq_false he] at hq
                      clear HN HMM he
                      go_wp2_with fail
                      go_quiet (fail)
                      go_wp2
                      go_roundw
                      case rel => exact ⟨m + 1, by go_num, by omega, HNN, nd + nq, rfl⟩
                      case measure => simp [intOf]; omega
                  · have hmi : ¬ (m : Int) < (k : Int) := by omega
                    have HKK : Hid (∀ i j (hi : i < E.length) (hj : j < i), i < k + 1 → E[j]'(by omega) ≠ E[i]) := Lib.hid fun i j hi hj hik => by
                      by_cases hik' : i = k
                      · subst hik'; exact HM.out j hj (by omega)
                      · exact HK.out.2 i j hi hj (by omega)
                    go_wp2
                    go_roundw
                    case rel => exact ⟨k + 1, by go_num, by omega, Lib.hid ⟨HKb.out, HKK.out⟩, bdrewN hb7 _⟩
                    case measure => simp [intOf]; omega
            · have hki : ¬ (k : Int) < (E.length : Int) := by omega
              have hf := HY5.out (fun j hj => HK.out.1 j hj (by omega)) (fun i j hi hj => HK.out.2 i j hi hj (by omega))
              subst hf
              have bw : Below w.heap.size w wr := (b0.trans (hb.mono b0.size)).trans (hbk.mono (Nat.le_trans b0.size hb.size))
              clear HK
              go_wp2
              go_ret
              exact ⟨rfl, bw⟩
end Go.Proofs.Ytmndgbpfophniaa
