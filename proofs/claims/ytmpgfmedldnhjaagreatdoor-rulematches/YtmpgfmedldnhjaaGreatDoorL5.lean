/- RuleMatches, walked. -/
import Derived.Test.YtmpgfmedldnhjaaGreatDoorA1
import Derived.Test.YtmpgfmedldnhjaaGreatDoorR7
import Derived.RangeFuncBox
import Derived.OwnWalk
import Derived.Laws.AppendOwn
import Derived.Maps.AppendAt
import Derived.Deep.AppendSrc
namespace Go.Proofs.YtmpgfmedldnhjaaGreatDoor
open Go.RowKit Go.Shelf

theorem infoRu : (Tryz.prog.info? 31).map (fun i => (i.zero, i.size, i.bytes)) = some (some (.agg (ruA ru0)), 7, 48) := by kernel_rfl
theorem addr_off' (g o j : Nat) : (⟨g, o, none⟩ : Addr).add j = ⟨g, o + j, none⟩ := by unfold Addr.add; split <;> simp_all
theorem Rs.news {w : World} {ad : Addr} {L : List Ru} (h : Rs w (some ad) L) : ∀ j u, (rcs L)[j]? = some u → w.cell? (ad.add j) = some u := by
  intro j u hj
  have hlt : j < L.length * 7 := by
    rw [← rcs_length]
    exact (List.getElem?_eq_some_iff.1 hj).1
  obtain ⟨g, o, e, _, hc⟩ := h (by omega)
  cases e
  have hk : j / 7 < L.length := by omega
  have hm : j % 7 < 7 := Nat.mod_lt _ (by decide)
  have p := rcs_at L (j / 7) (j % 7) hk hm
  have q := hc (j / 7) hk (j % 7) hm
  rw [show j / 7 * 7 + j % 7 = j by omega, hj] at p
  rw [addr_off', show o + j = o + j / 7 * 7 + j % 7 by omega, q, ← p]
/-- A row of one's own that is not nil. -/
def Row (w : World) (base : Nat) (v : Value) (L : List Ru) : Prop := w.ownsRow base 31 7 v L.length (rcs L) ∧ ∃ g cap, v = .slice (some ⟨g, 0, none⟩) L.length cap
theorem Row.isR {w : World} {base : Nat} {v : Value} {L : List Ru} (h : Row w base v L) : IsR w v L := isR_of_row h.1
theorem Row.empty (w : World) : Row (w.alloc (.cells #[] 31)) w.heap.size (.slice (some ⟨w.heap.size, 0, none⟩) 0 0) [] :=
  ⟨World.ownsRow_made w #[] 0 (Nat.le_refl _) (Nat.zero_le _) (by simp), _, _, rfl⟩
theorem wpList_app_z {ops : Array Oper} {rest : List Oper} {o : Oper} {a : Act} {Q : Exit → Act → World → Prop} {w : World} (hgd : o.guard = none) (s x : Operand)
    (ho : o.op = .call { callee := .builtin .append, args := #[s, x], argTypes := #[22, 22] })
    (base : Nat) (v : Value) (L : List Ru) (hs : a.eval s = v) (hrow : Row w base v L) (A : Option Addr) (c : Nat) (M : List Ru) (hx : a.eval x = .slice A M.length c) (hM : Rs w A M)
    (hA : A = none → M = []) (hlen : L.length + M.length ≤ 1000) (hbase : base ≤ w.heap.size)
    (h : ∀ g cap w', Row w' base (.slice (some ⟨g, 0, none⟩) (L.length + M.length) cap) (L ++ M) → Below base w w' → wpList Tryz.prog ops Q rest (a.put o.dst (.slice (some ⟨g, 0, none⟩) (L.length + M.length) cap)) w') : wpList Tryz.prog ops Q (o :: rest) a w := by
  obtain ⟨i0, hi, hz0, hz1, hz2⟩ := info_parts infoRu
  obtain ⟨hown, g, cap, rfl⟩ := hrow
  cases A with
  | some ad =>
    refine wpList_append_own w hgd s x 22 ho base 31 i0 (.agg (ruA ru0)) 7 48 Tryz.underlying22 hi hz0 hz1 hz2 rfl (by decide) _ _ _ hs hown ad M.length c (rcs M) hx (rcs_length M) hM.news (rcs_one M) (by simp only [maxLen]; omega) (by omega) hbase ?_
    intro v' w' h1 h2 h3
    have hnn : v' ≠ .slice none 0 0 := fun e => by have := (h3.1 e).1; cases this
    rcases h1.2 with ⟨e, _⟩ | ⟨g', cap', cur, rfl, _⟩
    · exact absurd e hnn
    · refine h g' cap' w' ⟨?_, g', cap', by simp⟩ ((Below.refl _ _).grown h2 hbase (fun k hk => (hown.lt k hk).1))
      rw [rcs_append]
      simpa using h1
  | none =>
    obtain rfl := hA rfl
    refine wpList_plain hgd fun K hK => ?_
    have hr := run_append_room_src (P := Tryz.prog) w 22 22 o.type 31 i0 Tryz.underlying22 hi g 0 L.length cap (.slice none 0 c) 0 [] (by rw [hz1]; exact Src.ofNil w Tryz.underlying22 c) (by
      rcases hown.2 with ⟨e, _⟩ | ⟨g', cap', cur, e, _, _, hnc, _⟩
      · cases e
      · cases e; exact hnc) (by simp) (by simp)
    unfold Oper.wp execOp
    simp only [ho, resolve, invoke, builtin, Sem.run_bind, Sem.run_pure, Result.andThen_ok, List.map_toArray, List.map_cons, List.map_nil, hs, hx, List.length_nil, hr]
    exact hK _ _ (h g cap w ⟨by simpa using hown, g, cap, by simp⟩ (Below.refl _ _))

set_option maxRecDepth 100000 in
set_option maxHeartbeats 4000000 in
theorem matches_walk {v : Value} (L : List Ru) (i d : Int) (a : Nat) (w : World) (h : IsR w v L) (hwf : ∀ r ∈ L, r.wf) (_ha : a < 4294967296) (hT : Tb w) : Calls Tryz.prog 3 #[v, .agg #[.int .i64 i, .int .i64 d], .int .u32 a] w fun e w' => e = .returned (.bool true) ∧ Below w.heap.size w w' := by
  obtain ⟨A1, c1, rfl, n1, m1, z1⟩ := h
  have hL : L.length ≤ 9223372036854775807 := Nat.le_trans n1 m1
  have hAn : A1 = none → L = [] := fun e => by
    cases L with
    | nil => rfl
    | cons r L => obtain ⟨g, o, e', _⟩ := z1 (by simp); rw [e] at e'; cases e'
  have ZX : Hid (∀ u, Below w.heap.size w u → Rs u A1 L) := Lib.hid fun u hu => z1.belows hu
  have HX : Hid (∀ u, Below w.heap.size w u → IsR u (.slice A1 L.length c1) L) := Lib.hid fun u hu => ⟨A1, c1, rfl, n1, m1, z1.belows hu⟩
  have HT : Hid (∀ u, Below w.heap.size w u → Tb u) := Lib.hid fun u hu => hT.below hu
  have HAN := Lib.hid hAn
  have O0 := At.new w #[.int .i64 i, .int .i64 d] 23
  have b0 : Below w.heap.size w (w.alloc (.cells #[.int .i64 i, .int .i64 d] 23)) := (Below.refl _ _).alloc (Nat.le_refl _) _
  have h1 := rall_any L _ hwf (HX.out _ b0)
  clear z1 hT hwf hAn n1 m1
  go_enter Tryz.func3, Tryz.ntmps3
  go_wp2_with fail
  refine h1.mono ?_
  rintro e w1 ⟨rfl, b1⟩
  have bb1 := b0.trans (b1.mono b0.size)
  have O1 := O0.belows b1
  clear h1 b1 b0 O0
  by_cases hm : 60 < L.length
  · have hm' : decide ((60 : Int) < (L.length : Int)) = true := by simp; omega
    have ha := alive_any w1 (HT.out _ bb1)
    go_wp2_with fail
    refine ha.mono ?_
    rintro e w2 ⟨rfl, b2⟩
    go_wp2
    go_ret
    exact ⟨rfl, bb1.trans (b2.mono bb1.size)⟩
  · have hm' : decide ((60 : Int) < (L.length : Int)) = false := by simp; omega
    cases hal : allB L with
    | false =>
      have ha := alive_any w1 (HT.out _ bb1)
      clear hal
      go_wp2_with fail
      refine ha.mono ?_
      rintro e w2 ⟨rfl, b2⟩
      go_wp2
      go_ret
      exact ⟨rfl, bb1.trans (b2.mono bb1.size)⟩
    | true =>
      have HR := Lib.hid (rr_of hal)
      clear hal
      have bb2 := bb1.alloc bb1.size (.cells #[] 31)
      have O2 := O1.alloc (.cells #[] 31)
      have HROW : Hid (Row (w1.alloc (.cells #[] 31)) w1.heap.size (.slice (some ⟨w1.heap.size, 0, none⟩) 0 0) []) := Lib.hid (Row.empty w1)
      have HB1 := Lib.hid bb1
      have hL60 : L.length ≤ 60 := by omega
      go_wp2_with (at_builtin; refine wpList_app_z rfl (.tmp 28) (.tmp 29) rfl w1.heap.size _ [] rfl HROW.out A1 c1 L rfl (ZX.out _ bb2) HAN.out (by simp; omega) (by simp) ?_; intro g9 cap9 w3 hrow3 b3; have b13 : Below w1.heap.size w1 w3 := ((Below.refl _ w1).alloc (Nat.le_refl _) _).trans b3; have O3 := O1.belows b13; have o0 := (O3.cell 0).trans rfl; have o1 := (O3.cell 1).trans rfl)
      have hR3 := hrow3.isR
      have n9 : L.length ≤ cap9 := by
        obtain ⟨A', c', e', q1, q2, _⟩ := hR3
        simp at e'; simp at q1; omega
      have m9 : cap9 ≤ 9223372036854775807 := by
        obtain ⟨A', c', e', q1, q2, _⟩ := hR3
        simp only [maxLen] at q2
        simp at e'; omega
      have bb3 := HB1.out.trans (b13.mono HB1.out.size)
      have HM : Hid (∀ u, Below w3.heap.size w3 u → IsR u (.slice (some ⟨g9, 0, none⟩) L.length cap9) L) := Lib.hid fun u hu => by
        have := hR3.belows hu
        simpa using this
      clear hR3 hrow3 b3 b13 HROW bb2 O2 bb1 O1 HB1
      have k1 := find_any L i w3 (HX.out _ bb3)
      have k2 := fun u (hu : Below w3.heap.size w3 u) => rfind_any L i u HR.out (HX.out _ (bb3.trans (hu.mono bb3.size)))
      have k3 := fun u (hu : Below w3.heap.size w3 u) => match_any L d a u (HX.out _ (bb3.trans (hu.mono bb3.size)))
      have k4 := fun u (hu : Below w3.heap.size w3 u) => rmatch_any L d a u HR.out (HX.out _ (bb3.trans (hu.mono bb3.size)))
      have k5 := fun u (hu : Below w3.heap.size w3 u) => rsame_any L L u (HX.out _ (bb3.trans (hu.mono bb3.size))) (HM.out _ hu)
      have k6 := fun u (hu : Below w3.heap.size w3 u) => denies_any L d a u (HX.out _ (bb3.trans (hu.mono bb3.size)))
      have k7 := fun u (hu : Below w3.heap.size w3 u) => rdenies_any L d a u HR.out (HX.out _ (bb3.trans (hu.mono bb3.size)))
      rw [show decide (L = L) = true from decide_eq_true rfl] at k5
      have e1 : firstV (firstL (fun r => decide (r.id = i)) L) = .tuple #[.agg (ruA ((firstL (fun r => decide (r.id = i)) L).getD ru0)), .bool (firstL (fun r => decide (r.id = i)) L).isSome] := rfl
      have e2 : firstV (firstL (tk d 0 1 a) L) = .tuple #[.agg (ruA ((firstL (tk d 0 1 a) L).getD ru0)), .bool (firstL (tk d 0 1 a) L).isSome] := rfl
      rw [e1] at k1 k2
      rw [e2] at k3 k4
      clear e1 e2
      generalize (firstL (fun r => decide (r.id = i)) L).getD ru0 = x at k1 k2
      generalize (firstL (fun r => decide (r.id = i)) L).isSome = bx at k1 k2
      generalize (firstL (tk d 0 1 a) L).getD ru0 = y at k3 k4
      generalize (firstL (tk d 0 1 a) L).isSome = bY at k3 k4
      generalize ((firstL (tk d 2 3 a) L).isSome && decide (((firstL (tk d 2 3 a) L).getD ru0).kd = 3)) = dn at k6 k7
      have hex := eql_ru x x
      have hey := eql_ru y y
      rw [show decide (x = x) = true from decide_eq_true rfl] at hex
      rw [show decide (y = y) = true from decide_eq_true rfl] at hey
      have dx : (bx == bx) = true := by simp
      have dy : (bY == bY) = true := by simp
      have dd : (dn == dn) = true := by simp
      obtain ⟨id, dv, pr, kd, f, t, pt⟩ := x
      obtain ⟨id', dv', pr', kd', f', t', pt'⟩ := y
      simp only [ruA_mk] at k1 k2 k3 k4 hex hey
      have K2 := Lib.hid k2
      have K3 := Lib.hid k3
      have K4 := Lib.hid k4
      have K5 := Lib.hid k5
      have K6 := Lib.hid k6
      have K7 := Lib.hid k7
      clear k2 k3 k4 k5 k6 k7
      refine k1.mono ?_
      rintro e w4 ⟨rfl, b4⟩
      have c4 := b4.alloc b4.size (.cells #[.int .i64 id, .int .i64 dv, .int .i64 pr, .int .i64 kd, .int .u32 f, .int .u32 t, .int .i64 pt] 31)
      have P4 := At.new w4 #[.int .i64 id, .int .i64 dv, .int .i64 pr, .int .i64 kd, .int .u32 f, .int .u32 t, .int .i64 pt] 31
      have O4 := (O3.belows b4).alloc (.cells #[.int .i64 id, .int .i64 dv, .int .i64 pr, .int .i64 kd, .int .u32 f, .int .u32 t, .int .i64 pt] 31)
      have hs4 : w.heap.size < w4.heap.size := (O3.belows b4).lt
      have u4 := (O3.belows b4)
      have o0 := (u4.cell 0).trans rfl
      have o1 := (u4.cell 1).trans rfl
      have k2 := K2.out _ c4
      clear k1 b4 K2 O3
      go_wp2_with fail
      refine k2.mono ?_
      rintro e w5 ⟨rfl, b5⟩
      have c5 := c4.trans (b5.mono c4.size)
      have c5' := c5.alloc c5.size (.cells #[.int .i64 id, .int .i64 dv, .int .i64 pr, .int .i64 kd, .int .u32 f, .int .u32 t, .int .i64 pt] 31)
      have P5 := (P4.belows b5).alloc (.cells #[.int .i64 id, .int .i64 dv, .int .i64 pr, .int .i64 kd, .int .u32 f, .int .u32 t, .int .i64 pt] 31)
      have Q5 := At.new w5 #[.int .i64 id, .int .i64 dv, .int .i64 pr, .int .i64 kd, .int .u32 f, .int .u32 t, .int .i64 pt] 31
      have O5 := (O4.belows b5).alloc (.cells #[.int .i64 id, .int .i64 dv, .int .i64 pr, .int .i64 kd, .int .u32 f, .int .u32 t, .int .i64 pt] 31)
      have hs5 : w.heap.size < w5.heap.size := (O4.belows b5).lt
      have hs45 : w4.heap.size < w5.heap.size := (P4.belows b5).lt
      have u5 := (O4.belows b5)
      clear o0 o1 u4
      have o0 := (u5.cell 0).trans rfl
      have o1 := (u5.cell 1).trans rfl
      have k3 := K3.out _ c5'
      clear k2 b5 c4 c5 K3 P4 O4
      go_wp2_with fail
      refine k3.mono ?_
      rintro e w6 ⟨rfl, b6⟩
      have c6 := c5'.trans (b6.mono c5'.size)
      have c6' := c6.alloc c6.size (.cells #[.int .i64 id', .int .i64 dv', .int .i64 pr', .int .i64 kd', .int .u32 f', .int .u32 t', .int .i64 pt'] 31)
      have P6 := (P5.belows b6).alloc (.cells #[.int .i64 id', .int .i64 dv', .int .i64 pr', .int .i64 kd', .int .u32 f', .int .u32 t', .int .i64 pt'] 31)
      have Q6 := (Q5.belows b6).alloc (.cells #[.int .i64 id', .int .i64 dv', .int .i64 pr', .int .i64 kd', .int .u32 f', .int .u32 t', .int .i64 pt'] 31)
      have R6 := At.new w6 #[.int .i64 id', .int .i64 dv', .int .i64 pr', .int .i64 kd', .int .u32 f', .int .u32 t', .int .i64 pt'] 31
      have O6 := (O5.belows b6).alloc (.cells #[.int .i64 id', .int .i64 dv', .int .i64 pr', .int .i64 kd', .int .u32 f', .int .u32 t', .int .i64 pt'] 31)
      have hs6 : w.heap.size < w6.heap.size := (O5.belows b6).lt
      have u6 := (O5.belows b6)
      clear o0 o1 u5
      have o0 := (u6.cell 0).trans rfl
      have o1 := (u6.cell 1).trans rfl
      have k4 := K4.out _ c6'
      clear k3 b6 c5' c6 K4 P5 Q5 O5
      go_wp2_with fail
      refine k4.mono ?_
      rintro e w7 ⟨rfl, b7⟩
      have c7 := c6'.trans (b7.mono c6'.size)
      have c7' := c7.alloc c7.size (.cells #[.int .i64 id', .int .i64 dv', .int .i64 pr', .int .i64 kd', .int .u32 f', .int .u32 t', .int .i64 pt'] 31)
      have P7 := (P6.belows b7).alloc (.cells #[.int .i64 id', .int .i64 dv', .int .i64 pr', .int .i64 kd', .int .u32 f', .int .u32 t', .int .i64 pt'] 31)
      have Q7 := (Q6.belows b7).alloc (.cells #[.int .i64 id', .int .i64 dv', .int .i64 pr', .int .i64 kd', .int .u32 f', .int .u32 t', .int .i64 pt'] 31)
      have R7 := (R6.belows b7).alloc (.cells #[.int .i64 id', .int .i64 dv', .int .i64 pr', .int .i64 kd', .int .u32 f', .int .u32 t', .int .i64 pt'] 31)
      have S7 := At.new w7 #[.int .i64 id', .int .i64 dv', .int .i64 pr', .int .i64 kd', .int .u32 f', .int .u32 t', .int .i64 pt'] 31
      have O7 := (O6.belows b7).alloc (.cells #[.int .i64 id', .int .i64 dv', .int .i64 pr', .int .i64 kd', .int .u32 f', .int .u32 t', .int .i64 pt'] 31)
      have k5 := K5.out _ c7'
      clear k4 b7 c6' c7 K5 P6 Q6 R6 O6 o0 o1 u6
      go_wp2_with fail
      refine k5.mono ?_
      rintro e w8 ⟨rfl, b8⟩
      have c8 := c7'.trans (b8.mono c7'.size)
      have P8 := P7.belows b8
      have Q8 := Q7.belows b8
      have R8 := R7.belows b8
      have S8 := S7.belows b8
      have O8 := O7.belows b8
      clear k5 b8 c7' P7 Q7 R7 S7 O7
      have ka : ∀ x : Sub w8, Calls Tryz.prog 6 #[] x.u fun e w' => e = .returned (.bool true) ∧ Below x.u.heap.size x.u w' := fun x => alive_any x.u (HT.out _ (bb3.trans ((c8.trans (x.h.mono c8.size)).mono bb3.size)))
      have kd1 : ∀ x : Sub w8, Calls Tryz.prog 12 #[.slice A1 L.length c1, .int .i64 d, .int .u32 a] x.u fun e w' => e = .returned (.bool dn) ∧ Below x.u.heap.size x.u w' := fun x => K6.out x.u (c8.trans (x.h.mono c8.size))
      have kd2 : ∀ x : Sub w8, Calls Tryz.prog 13 #[.slice A1 L.length c1, .int .i64 d, .int .u32 a] x.u fun e w' => e = .returned (.bool dn) ∧ Below x.u.heap.size x.u w' := fun x => K7.out x.u (c8.trans (x.h.mono c8.size))
      have a0 : ∀ x : Sub w8, x.u.cell? ⟨w4.heap.size, 0, none⟩ = some (.int .i64 id) := fun x => ((P8.belows x.h).cell 0).trans rfl
      have a1 : ∀ x : Sub w8, x.u.cell? ⟨w4.heap.size, 1, none⟩ = some (.int .i64 dv) := fun x => ((P8.belows x.h).cell 1).trans rfl
      have a2 : ∀ x : Sub w8, x.u.cell? ⟨w4.heap.size, 2, none⟩ = some (.int .i64 pr) := fun x => ((P8.belows x.h).cell 2).trans rfl
      have a3 : ∀ x : Sub w8, x.u.cell? ⟨w4.heap.size, 3, none⟩ = some (.int .i64 kd) := fun x => ((P8.belows x.h).cell 3).trans rfl
      have a4 : ∀ x : Sub w8, x.u.cell? ⟨w4.heap.size, 4, none⟩ = some (.int .u32 f) := fun x => ((P8.belows x.h).cell 4).trans rfl
      have a5 : ∀ x : Sub w8, x.u.cell? ⟨w4.heap.size, 5, none⟩ = some (.int .u32 t) := fun x => ((P8.belows x.h).cell 5).trans rfl
      have a6 : ∀ x : Sub w8, x.u.cell? ⟨w4.heap.size, 6, none⟩ = some (.int .i64 pt) := fun x => ((P8.belows x.h).cell 6).trans rfl
      have b0 : ∀ x : Sub w8, x.u.cell? ⟨w5.heap.size, 0, none⟩ = some (.int .i64 id) := fun x => ((Q8.belows x.h).cell 0).trans rfl
      have b1 : ∀ x : Sub w8, x.u.cell? ⟨w5.heap.size, 1, none⟩ = some (.int .i64 dv) := fun x => ((Q8.belows x.h).cell 1).trans rfl
      have b2 : ∀ x : Sub w8, x.u.cell? ⟨w5.heap.size, 2, none⟩ = some (.int .i64 pr) := fun x => ((Q8.belows x.h).cell 2).trans rfl
      have b3 : ∀ x : Sub w8, x.u.cell? ⟨w5.heap.size, 3, none⟩ = some (.int .i64 kd) := fun x => ((Q8.belows x.h).cell 3).trans rfl
      have b4 : ∀ x : Sub w8, x.u.cell? ⟨w5.heap.size, 4, none⟩ = some (.int .u32 f) := fun x => ((Q8.belows x.h).cell 4).trans rfl
      have b5 : ∀ x : Sub w8, x.u.cell? ⟨w5.heap.size, 5, none⟩ = some (.int .u32 t) := fun x => ((Q8.belows x.h).cell 5).trans rfl
      have b6 : ∀ x : Sub w8, x.u.cell? ⟨w5.heap.size, 6, none⟩ = some (.int .i64 pt) := fun x => ((Q8.belows x.h).cell 6).trans rfl
      have c0 : ∀ x : Sub w8, x.u.cell? ⟨w6.heap.size, 0, none⟩ = some (.int .i64 id') := fun x => ((R8.belows x.h).cell 0).trans rfl
      have c1 : ∀ x : Sub w8, x.u.cell? ⟨w6.heap.size, 1, none⟩ = some (.int .i64 dv') := fun x => ((R8.belows x.h).cell 1).trans rfl
      have c2 : ∀ x : Sub w8, x.u.cell? ⟨w6.heap.size, 2, none⟩ = some (.int .i64 pr') := fun x => ((R8.belows x.h).cell 2).trans rfl
      have c3 : ∀ x : Sub w8, x.u.cell? ⟨w6.heap.size, 3, none⟩ = some (.int .i64 kd') := fun x => ((R8.belows x.h).cell 3).trans rfl
      have c4 : ∀ x : Sub w8, x.u.cell? ⟨w6.heap.size, 4, none⟩ = some (.int .u32 f') := fun x => ((R8.belows x.h).cell 4).trans rfl
      have c5 : ∀ x : Sub w8, x.u.cell? ⟨w6.heap.size, 5, none⟩ = some (.int .u32 t') := fun x => ((R8.belows x.h).cell 5).trans rfl
      have c6 : ∀ x : Sub w8, x.u.cell? ⟨w6.heap.size, 6, none⟩ = some (.int .i64 pt') := fun x => ((R8.belows x.h).cell 6).trans rfl
      have e0 : ∀ x : Sub w8, x.u.cell? ⟨w7.heap.size, 0, none⟩ = some (.int .i64 id') := fun x => ((S8.belows x.h).cell 0).trans rfl
      have e1 : ∀ x : Sub w8, x.u.cell? ⟨w7.heap.size, 1, none⟩ = some (.int .i64 dv') := fun x => ((S8.belows x.h).cell 1).trans rfl
      have e2 : ∀ x : Sub w8, x.u.cell? ⟨w7.heap.size, 2, none⟩ = some (.int .i64 pr') := fun x => ((S8.belows x.h).cell 2).trans rfl
      have e3 : ∀ x : Sub w8, x.u.cell? ⟨w7.heap.size, 3, none⟩ = some (.int .i64 kd') := fun x => ((S8.belows x.h).cell 3).trans rfl
      have e4 : ∀ x : Sub w8, x.u.cell? ⟨w7.heap.size, 4, none⟩ = some (.int .u32 f') := fun x => ((S8.belows x.h).cell 4).trans rfl
      have e5 : ∀ x : Sub w8, x.u.cell? ⟨w7.heap.size, 5, none⟩ = some (.int .u32 t') := fun x => ((S8.belows x.h).cell 5).trans rfl
      have e6 : ∀ x : Sub w8, x.u.cell? ⟨w7.heap.size, 6, none⟩ = some (.int .i64 pt') := fun x => ((S8.belows x.h).cell 6).trans rfl
      have v1 : ∀ x : Sub w8, x.u.cell? ⟨w.heap.size, 1, none⟩ = some (.int .i64 d) := fun x => ((O8.belows x.h).cell 1).trans rfl
      have HBB := Lib.hid (bb3.trans (c8.mono bb3.size))
      clear P8 Q8 R8 S8 O8 c8 bb3 K6 K7 HT HX ZX HM HAN HR
      go_wp2_with fail
      refine wp_region_cls (by kernel_rfl) (by kernel_rfl) ?_
      repeat (go_big_quiet_step ((first | (go_at_call 6; exact Calls.cls_of (ka _)) | (go_at_call 12; exact Calls.cls_of (kd1 _)) | (go_at_call 13; exact Calls.cls_of (kd2 _)))))
      refine wpQuiet_nil ?_
      rintro w9 ⟨x9, hx⟩
      have b9 := x9.h
      rw [← hx] at b9
      clear hx x9
      go_wp2
      go_ret
      exact ⟨rfl, HBB.out.trans (b9.mono HBB.out.size)⟩
end Go.Proofs.YtmpgfmedldnhjaaGreatDoor
