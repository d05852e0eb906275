/- Contracts: the document's With, List, Ints. -/
import Derived.Test.YtkglaoagiifejaaDoorR1
namespace Go.Proofs.YtkglaoagiifejaaDoor
open Go.RowKit Go.Shelf

theorem bl_one (p : Nat → Bool) (n : Nat) : ∀ u ∈ bl p n, u.oneCell' = true := by
  intro u hu
  obtain ⟨x, _, rfl⟩ := List.mem_map.1 hu
  rfl
theorem wpList_app_b {ops : Array Oper} {rest : List Oper} {o : Oper} {a : Act} {Q : Exit → Act → World → Prop} {w : World} (hgd : o.guard = none) (s x : Operand)
    (ho : o.op = .call { callee := .builtin .append, args := #[s, x], argTypes := #[29, 29] })
    (base g0 : Nat) (hs : a.eval s = .slice (some ⟨g0, 0, none⟩) 0 0) (hown : w.ownsRow base 4 1 (.slice (some ⟨g0, 0, none⟩) 0 0) 0 []) (A : Option Addr) (c n : Nat) (p : Nat → Bool) (hx : a.eval x = .slice A n c) (hM : Vs w A (bl p n))
    (hlen : n ≤ 1024) (hbase : base ≤ w.heap.size)
    (h : ∀ g cap w', w'.ownsRow base 4 1 (.slice (some ⟨g, 0, none⟩) n cap) n (bl p n) → Below base w w' → wpList Tryd.prog ops Q rest (a.put o.dst (.slice (some ⟨g, 0, none⟩) n cap)) w') : wpList Tryd.prog ops Q (o :: rest) a w := by
  obtain ⟨i0, hi, hz0, hz1, hz2⟩ := info_parts info4
  cases A with
  | some ad =>
    refine wpList_append_own w hgd s x 29 ho base 4 i0 (.bool false) 1 1 Tryd.underlying29 hi hz0 hz1 hz2 rfl (by decide) _ _ _ hs hown ad n c (bl p n) hx (by rw [bl_len]; omega) hM.news (bl_one p n) (by simp only [maxLen]; omega) (by omega) hbase ?_
    intro v' w' h1 h2 h3
    have hnn : v' ≠ .slice none 0 0 := fun e => by have := (h3.1 e).1; cases this
    rcases h1.2 with ⟨e, _⟩ | ⟨g', cap', cur, e, _⟩
    · exact absurd e hnn
    · rw [Nat.zero_add] at e h1
      subst e
      exact h g' cap' w' (by simpa using h1) ((Below.refl _ _).grown h2 hbase (fun k hk => (hown.lt k hk).1))
  | none =>
    have h0 : n = 0 := by
      have := hM.none rfl
      have e := bl_len p n
      rw [this] at e
      exact e.symm
    subst h0
    refine wpList_plain hgd fun K hK => ?_
    have hr := run_append_room_src (P := Tryd.prog) w 29 29 o.type 4 i0 Tryd.underlying29 hi g0 0 0 0 (.slice none 0 c) 0 [] (by rw [hz1]; exact Src.ofNil w Tryd.underlying29 c) (by omega) (by simp) (by simp)
    unfold Oper.wp execOp
    simp only [ho, resolve, invoke, builtin, Sem.run_bind, Sem.run_pure, Result.andThen_ok, List.map_toArray, List.map_cons, List.map_nil, hs, hx, List.length_nil, hr]
    exact hK _ _ (h g0 0 w hown (Below.refl _ _))

theorem bl_at {p : Nat → Bool} {n m : Nat} (h : m < n) : (bl p n)[m]? = some (.bool (p m)) := by simp [bl, h]
theorem addW_none (p : Nat → Bool) (i : Int) : addW p i i = p := by
  funext m
  unfold addW
  cases blw i m <;> simp
theorem addW_put (p : Nat → Bool) (n i m : Nat) (hi : i ≤ m) : (bl (addW p i m) n).set m (.bool true) = bl (addW p i ((m : Int) + 1)) n := by
  apply List.ext_getElem?
  intro j
  rw [List.getElem?_set]
  by_cases hj : j < n
  · by_cases e : m = j
    · subst e
      have h1 : blw ((m : Int) + 1) m = true := by simp [blw]; omega
      have h2 : blw (i : Int) m = false := by simp [blw]; omega
      simp [bl, hj, addW, h1, h2]
    · have h1 : blw ((m : Int) + 1) j = blw (m : Int) j := by
        unfold blw; apply decide_eq_decide.2; omega
      simp [bl, hj, e, addW, h1]
  · by_cases e : m = j <;> simp [bl, hj, e]
/-- What the document's With answers. -/
def RWithOut (w : World) (n : Nat) (p : Nat → Bool) (i j : Int) (e : Ending) (w' : World) : Prop := ((0 ≤ i ∧ i ≤ j ∧ j ≤ n) ∧ ∃ v', e = .returned (.tuple #[v', .int .i64 0]) ∧ IsV w' v' (bl (addW p i j) n) ∧ Below w.heap.size w w') ∨ (¬ (0 ≤ i ∧ i ≤ j ∧ j ≤ n) ∧ e = .returned (.tuple #[.slice none 0 0, .int .i64 61]) ∧ Below w.heap.size w w')
set_option maxRecDepth 100000 in
set_option maxHeartbeats 1000000 in
/-- The document's With. -/
theorem rwith_any {v : Value} (n : Nat) (p : Nat → Bool) (i j : Int) (w : World) (hn : n ≤ 1024) (h : IsV w v (bl p n)) : Calls Tryd.prog 12 #[v, .int .i64 i, .int .i64 j] w (RWithOut w n p i j) := by
  obtain ⟨A, c, rfl, h1, h2, h3⟩ := h
  rw [bl_len] at *
  simp only [maxLen] at h2
  have H3 := Lib.hid h3
  clear h3
  by_cases d1 : i < 0
  · have g1 : decide (i < 0) = true := by simpa using d1
    go_enter Tryd.func12, Tryd.ntmps12
    go_wp2
    go_ret2
    exact .inr ⟨by omega, rfl, Below.refl _ _⟩
  · have g1 : decide (i < 0) = false := by simpa using d1
    by_cases d2 : j < i
    · have g2 : decide (j < i) = true := by simpa using d2
      go_enter Tryd.func12, Tryd.ntmps12
      go_wp2
      go_ret2
      exact .inr ⟨by omega, rfl, Below.refl _ _⟩
    · have g2 : decide (j < i) = false := by simpa using d2
      by_cases d3 : (n : Int) < j
      · have g3 : decide ((n : Int) < j) = true := by simpa using d3
        go_enter Tryd.func12, Tryd.ntmps12
        go_wp2
        go_ret2
        exact .inr ⟨by omega, rfl, Below.refl _ _⟩
      · have g3 : decide ((n : Int) < j) = false := by simpa using d3
        obtain ⟨i, rfl⟩ := Int.eq_ofNat_of_zero_le (show 0 ≤ i by omega)
        obtain ⟨j, rfl⟩ := Int.eq_ofNat_of_zero_le (show 0 ≤ j by omega)
        have hij : i ≤ j := by omega
        have hjn : j ≤ n := by omega
        have b0 : Below w.heap.size w (w.alloc (.cells #[] 4)) := (Below.refl _ w).alloc (Nat.le_refl _) _
        have HV : Hid (Vs (w.alloc (.cells #[] 4)) A (bl p n)) := Lib.hid (H3.out.below (Nat.le_refl _) b0)
        have HR0 : Hid ((w.alloc (.cells #[] 4)).ownsRow w.heap.size 4 1 (.slice (some ⟨w.heap.size, 0, none⟩) 0 0) 0 []) := Lib.hid (World.ownsRow_lit w #[] 0 (Nat.le_refl _) (by simp) rfl)
        go_enter Tryd.func12, Tryd.ntmps12
        go_wp2_with (at_builtin; refine wpList_app_b rfl (.tmp 23) (.tmp 24) rfl w.heap.size w.heap.size rfl HR0.out A c n p rfl HV.out hn (by simp) ?_; intro g cap w1 hrow b1)
        have bb1 : Below w.heap.size w w1 := b0.trans b1
        clear b1 b0 HV HR0
        have HROW := Lib.hid hrow
        clear hrow
        go_loopw [9] (fun k wr => ∃ m : Nat, k = .int .i64 (m : Nat) ∧ i ≤ m ∧ m ≤ j ∧ Hid (wr.ownsRow w.heap.size 4 1 (.slice (some ⟨g, 0, none⟩) n cap) n (bl (addW p i m) n)) ∧ Below w.heap.size w wr) (fun k _ => j - (intOf k).toNat)
        case atStart => exact ⟨i, rfl, Nat.le_refl _, hij, Lib.hid (by rw [addW_none]; exact HROW.out), bb1⟩
        case round =>
          obtain ⟨m, rfl, hm1, hm2, HM, hb⟩ := hrel
          by_cases hlt : m < j
          · have hrow := HM.out
            have hc : wr.cell? ⟨g, m, none⟩ = some (.bool (addW p i m m)) := (World.ownsRow.cellAt hrow m (by omega)).trans (bl_at (by omega))
            have hf := World.ownsRow.frozenAt hrow m
            have i0 : (0 : Int) ≤ (m : Int) := by omega
            have i1 : (m : Int) < (n : Int) := by omega
            have i2 : (m : Int) < (j : Int) := by omega
            have hlt0 := (hrow.lt g rfl).1
            have HST := Lib.hid (World.ownsRow.stored hrow m (.bool true))
            clear hrow
            go_wp2
            go_roundw
            case rel =>
              refine ⟨m + 1, by go_num, by omega, by omega, Lib.hid ?_, hb.setCell (p := ⟨g, m, none⟩) hlt0 _⟩
              have := HST.out.1
              rw [addW_put p n i m hm1] at this
              exact_mod_cast this
            case measure => simp [intOf]; omega
          · obtain rfl : m = j := by omega
            have i2 : ¬ (m : Int) < (m : Int) := by omega
            have hv := isV_of_row (cs := bl (addW p i m) n) (by rw [bl_len]; exact HM.out)
            rw [show Value.slice (some ⟨g, 0, none⟩) n cap = Value.slice (some ⟨g, 0, none⟩) n cap from rfl] at hv
            have HVV := Lib.hid hv
            clear hv
            go_wp2
            go_ret2
            exact .inl ⟨⟨by omega, by omega, by omega⟩, _, rfl, HVV.out, hb⟩

theorem lst_le (p : Nat → Bool) (n : Nat) : (lst p n).length ≤ n := by rw [lst_len]; exact cnt_le p n
set_option maxRecDepth 100000 in
set_option maxHeartbeats 1000000 in
/-- The document's List. -/
theorem rlist_any {v : Value} (n : Nat) (p : Nat → Bool) (w : World) (hn : n ≤ 1024) (h : IsV w v (bl p n)) : Calls Tryd.prog 30 #[v] w fun e w' => ∃ v', e = .returned v' ∧ IsV w' v' (nats (lst p n)) ∧ Below w.heap.size w w' := by
  obtain ⟨A, c, rfl, h1, h2, h3⟩ := h
  rw [bl_len] at *
  simp only [maxLen] at h2
  obtain ⟨i0, hi, hz0, hz1, hz2⟩ := info_parts info3
  have H3 := Lib.hid h3
  clear h3
  go_enter Tryd.func30, Tryd.ntmps30
  go_wp2
  go_loopw [3, 4] (fun l i wr => ∃ k : Nat, i = .int .i64 (k : Nat) ∧ k ≤ n ∧ Hid (wr.ownsRow w.heap.size 3 1 l (lst p k).length (nats (lst p k))) ∧ Below w.heap.size w wr) (fun _ i _ => n - (intOf i).toNat)
  case atStart => exact ⟨0, rfl, by omega, Lib.hid (World.ownsRow_nil _ _ _ _), Below.refl _ _⟩
  case round =>
    obtain ⟨k, rfl, hk, HR, hb⟩ := hrel
    by_cases hlt : k < n
    · obtain ⟨g, o, rfl, hg, hc⟩ := H3.out (by rw [bl_len]; omega)
      have hcell := (hb.cell (p := ⟨g, o + k, none⟩) hg).trans (hc k (by rw [bl_len]; omega))
      rw [bl_get] at hcell
      have HL := Lib.hid (lst_succ p k)
      have hle := lst_le p k
      have hrow := HR.out
      clear hc HR
      have i1 : (0 : Int) ≤ (k : Int) := by omega
      have i2 : (k : Int) < (n : Int) := by omega
      generalize hQ : lst p k = Q at *
      clear hQ
      cases hpk : p k with
      | true =>
        rw [hpk] at hcell HL
        go_wp2_with (at_builtin; refine wpList_append_own _ rfl (.tmp 15) (.tmp 17) 22 rfl w.heap.size 3 i0 (.int .i64 0) 1 8 Tryd.underlying22 hi hz0 hz1 hz2 rfl (by decide) _ _ _ rfl (hrow.alloc _) ⟨wr.heap.size, 0, none⟩ 1 1 [.int .i64 (k : Nat)] rfl rfl (cell_one_new _ _ _) (by simp [Value.oneCell']) (by simp only [maxLen]; omega) (by omega) (by have := hb.size; simp; omega) ?_; intro v' w4 hown' hgrow _)
        have b4 : Below w.heap.size w w4 := (hb.alloc hb.size _).grown hgrow (by have := hb.size; simp; omega) (fun k hk => (hrow.lt k hk).1)
        clear hgrow
        go_wp2
        go_roundw
        case rel =>
          refine ⟨k + 1, by go_num, by omega, Lib.hid ?_, b4⟩
          have e := HL.out
          rw [if_pos rfl] at e
          rw [e]
          simpa [nats] using hown'
        case measure => simp [intOf]; omega
      | false =>
        rw [hpk] at hcell HL
        have HROW := Lib.hid hrow
        clear hrow
        go_wp2
        go_roundw
        case rel =>
          refine ⟨k + 1, by go_num, by omega, Lib.hid ?_, hb⟩
          have e := HL.out
          simp only [Bool.false_eq_true, if_false, List.append_nil] at e
          rw [e]
          exact HROW.out
        case measure => simp [intOf]; omega
    · obtain rfl : k = n := by omega
      have HVV := Lib.hid (isV_of_row (cs := nats (lst p k)) (by rw [nats_len]; exact HR.out))
      have i2 : ¬ (k : Int) < (k : Int) := by omega
      clear HR
      go_wp2
      go_ret
      exact ⟨_, rfl, HVV.out, hb⟩

set_option maxRecDepth 100000 in
set_option maxHeartbeats 1000000 in
/-- The document's Ints, of one list twice. -/
theorem rints_any {v1 v2 : Value} (L : List Nat) (w : World) (h1 : IsV w v1 (nats L)) (h2 : IsV w v2 (nats L)) : Calls Tryd.prog 22 #[v1, v2] w fun e w' => e = .returned (.bool true) ∧ Below w.heap.size w w' := by
  obtain ⟨A1, c1, rfl, n1, m1, z1⟩ := h1
  obtain ⟨A2, c2, rfl, n2, m2, z2⟩ := h2
  have hlen := nats_len L
  rw [hlen] at n1 n2 ⊢
  have H1 := Lib.hid z1
  have H2 := Lib.hid z2
  simp only [maxLen] at m1 m2
  clear z1 z2
  go_enter Tryd.func22, Tryd.ntmps22
  go_wp2
  go_loopw [5] (fun i wr => ∃ k : Nat, i = .int .i64 k ∧ k ≤ L.length ∧ Below w.heap.size w wr) (fun i _ => L.length - (intOf i).toNat)
  case atStart => exact ⟨0, rfl, by omega, Below.refl _ _⟩
  case round =>
    obtain ⟨k, rfl, hk, hb⟩ := hrel
    by_cases hlt : k < L.length
    · obtain ⟨g1, o1, e1, q1, r1⟩ := H1.out (by omega)
      obtain ⟨g2, o2, e2, q2, r2⟩ := H2.out (by omega)
      subst e1 e2
      have hx : (nats L)[k]'(by omega) = .int .i64 (L[k] : Nat) := by simp [nats]
      have c10 := (hb.cell (p := ⟨g1, o1 + k, none⟩) q1).trans (r1 k (by omega))
      have c20 := (hb.cell (p := ⟨g2, o2 + k, none⟩) q2).trans (r2 k (by omega))
      rw [hx] at c10 c20
      clear r1 r2 hx
      generalize L[k] = x at c10 c20
      have i0 : (0 : Int) ≤ (k : Int) := by omega
      have i1 : (k : Int) < (L.length : Int) := by omega
      go_wp2_with fail
      go_quiet (fail)
      go_wp2
      go_roundw
      case rel => exact ⟨k + 1, by go_num, by omega, bdrewN hb _⟩
      case measure => simp [intOf]; omega
    · obtain rfl : k = L.length := by omega
      go_wp2
      go_ret
      exact ⟨rfl, hb⟩
end Go.Proofs.YtkglaoagiifejaaDoor
