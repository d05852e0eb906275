/- RuleApart, walked. -/
import Derived.Test.YtmpgfmedldnhjaaDoorA1
import Derived.RangeFuncBox
import Derived.OwnWalk
import Derived.Laws.AppendOwn
import Derived.Maps.AppendAt
namespace Go.Proofs.YtmpgfmedldnhjaaDoor
open Go.RowKit Go.Shelf

theorem infoRu : (Tryd.prog.info? 30).map (fun i => (i.zero, i.size, i.bytes)) = some (some (.agg (ruA ru0)), 7, 48) := by kernel_rfl
/-- Whether a rule is a device's and takes an address. -/
def ownB (d : Int) (a : Nat) (r : Ru) : Bool := decide (r.dv = d) && (decide (r.f ≤ a) && decide (a ≤ r.t))
theorem own_tk {d one oth : Int} {a : Nat} (r : Ru) (h : tk d one oth a r = true) : ownB d a r = true := by
  simp only [tk, takesB, ownB, Bool.and_eq_true] at h ⊢
  exact ⟨h.1, h.2.2⟩
theorem filter_snoc (p : Ru → Bool) (L : List Ru) (k : Nat) (hk : k < L.length) : (L.take (k + 1)).filter p = (L.take k).filter p ++ (if p L[k] then [L[k]] else []) := by
  rw [List.take_succ_eq_append_getElem hk, List.filter_append]
  cases h : p L[k] <;> simp [h]
theorem ru_new (w : World) (r : Ru) : ∀ (j : Nat) (u : Value), (rcs [r])[j]? = some u → (w.alloc (.cells (ruA r) 30)).cell? ((⟨w.heap.size, 0, none⟩ : Addr).add j) = some u := by
  intro j u h
  rw [add_none, (At.new w (ruA r) 30).cell j]
  simpa [rcs] using h
/-- Where the law's loop stands. -/
def ApI (p : Ru → Bool) (L : List Ru) (w : World) (s i : Value) (k : Nat) (W : World) : Prop := i = .int .i64 k ∧ k ≤ L.length ∧ W.ownsRow w.heap.size 30 7 s ((L.take k).filter p).length (rcs ((L.take k).filter p)) ∧ Below w.heap.size w W

set_option maxRecDepth 100000 in
set_option maxHeartbeats 4000000 in
theorem apart_walk {v : Value} (L : List Ru) (d : Int) (a : Nat) (w : World) (h : IsR w v L) (hT : Tb w) : Calls Tryd.prog 6 #[v, .int .i64 d, .int .u32 a] w fun e w' => e = .returned (.bool true) ∧ Below w.heap.size w w' := by
  obtain ⟨ii, hi, hz0, hz1, hz2⟩ := info_parts infoRu
  obtain ⟨A1, c1, rfl, n1, m1, z1⟩ := h
  have hL : L.length ≤ 9223372036854775807 := Nat.le_trans n1 m1
  have ZX : Hid (∀ u, Below w.heap.size w u → Rs u A1 L) := Lib.hid fun u hu => z1.belows hu
  have HX : Hid (∀ u, Below w.heap.size w u → IsR u (.slice A1 L.length c1) L) := Lib.hid fun u hu => ⟨A1, c1, rfl, n1, m1, z1.belows hu⟩
  have HT : Hid (∀ u, Below w.heap.size w u → Tb u) := Lib.hid fun u hu => hT.below hu
  have ha0 := alive_any w hT
  have h1 := all_any L w (HX.out _ (Below.refl _ _))
  clear z1 hT n1 m1
  by_cases hm : 60 < L.length
  · have hm' : decide ((60 : Int) < (L.length : Int)) = true := by simp; omega
    clear h1
    go_enter Tryd.func6, Tryd.ntmps6
    go_wp2_with fail
    refine ha0.mono ?_
    rintro e w1 ⟨rfl, b1⟩
    go_wp2
    go_ret
    exact ⟨rfl, b1⟩
  · have hm' : decide ((60 : Int) < (L.length : Int)) = false := by simp; omega
    clear ha0
    cases hal : allB L with
    | false =>
      rw [hal] at h1
      go_enter Tryd.func6, Tryd.ntmps6
      go_wp2_with fail
      refine h1.mono ?_
      rintro e w1 ⟨rfl, b1⟩
      have ha := alive_any w1 (HT.out _ b1)
      go_wp2_with fail
      refine ha.mono ?_
      rintro e w2 ⟨rfl, b2⟩
      go_wp2
      go_ret
      exact ⟨rfl, b1.trans (b2.mono b1.size)⟩
    | true =>
      rw [hal] at h1
      clear hal
      go_enter Tryd.func6, Tryd.ntmps6
      go_wp2_with fail
      refine h1.mono ?_
      rintro e w1 ⟨rfl, b1⟩
      clear h1
      go_wp2
      go_loopw [7, 8] (fun s i wr => ∃ k : Nat, Hid (ApI (ownB d a) L w s i k wr)) (fun _ i => fun _ => L.length - (intOf i).toNat)
      case atStart => exact ⟨0, Lib.hid ⟨rfl, by omega, ⟨by simp [rcs], .inl ⟨rfl, by simp⟩⟩, b1⟩⟩
      case round =>
        obtain ⟨k, HI⟩ := hrel
        obtain ⟨rfl, hk, hrow, hb⟩ := HI.out
        clear HI
        by_cases hlt : k < L.length
        · obtain ⟨g1, o1, e1, _, r0, r1, r2, r3, r4, r5, r6⟩ := (ZX.out wr hb).at k hlt
          subst e1
          have HS := Lib.hid (filter_snoc (ownB d a) L k hlt)
          have hle : ((L.take k).filter (ownB d a)).length ≤ 60 := by
            have h1 := List.length_filter_le (ownB d a) (L.take k)
            have h2 : (L.take k).length ≤ k := List.length_take_le _ _
            omega
          generalize L[k] = r at r0 r1 r2 r3 r4 r5 r6 HS
          obtain ⟨id, dv, pr, kd, f, t, pt⟩ := r
          dsimp only at r0 r1 r2 r3 r4 r5 r6
          have i0 : (0 : Int) ≤ (k : Int) := by omega
          have i1 : (k : Int) < (L.length : Int) := by omega
          generalize hfl : (L.take k).filter (ownB d a) = fl at HS hrow hle
          clear hfl
          have hat := World.ownsRow.lt hrow
          have HROW := Lib.hid hrow
          clear hrow
          by_cases h1 : dv = d
          · have q1 : (dv == d) = true := by simp [h1]
            by_cases h2 : f ≤ a
            · have q2 : decide ((f : Int) ≤ (a : Int)) = true := by simp; omega
              have q2n : decide (f ≤ a) = true := by simp; omega
              by_cases h3 : a ≤ t
              · have q3 : decide ((a : Int) ≤ (t : Int)) = true := by simp; omega
                have q3n : decide (a ≤ t) = true := by simp; omega
                have HN : Hid ((L.take (k + 1)).filter (ownB d a) = fl ++ [⟨id, dv, pr, kd, f, t, pt⟩]) := Lib.hid (by rw [HS.out]; simp [ownB, h1, h2, h3])
                clear HS h1 h2 h3
                go_wp2_with (at_builtin; refine wpList_append_own _ rfl (.tmp 55) (.tmp 60) 22 rfl w.heap.size 30 ii (.agg (ruA ru0)) 7 48 Tryd.underlying22 hi hz0 hz1 hz2 rfl (by decide) _ _ _ rfl (HROW.out.alloc _) ⟨wr.heap.size, 0, none⟩ 1 1 (rcs [⟨id, dv, pr, kd, f, t, pt⟩]) rfl rfl (ru_new _ _) (rcs_one _) (by simp only [maxLen]; omega) (by omega) (by have := hb.size; simp; omega) ?_; intro v' w3 hown' hgrow _)
                have hgrow' : (wr.alloc (.cells #[.int .i64 id, .int .i64 dv, .int .i64 pr, .int .i64 kd, .int .u32 f, .int .u32 t, .int .i64 pt] 30)).grownBy w3 u7.ownBlock := hgrow
                refine ⟨⟨k + 1, Lib.hid ⟨by go_num, by omega, ?_, (hb.alloc hb.size _).grown hgrow' (by simp; have := hb.size; omega) (fun j e => (hat j e).1)⟩⟩, by simp [intOf]; omega⟩
                rw [HN.out, rcs_append, List.length_append]
                exact hown'
              · have q3 : decide ((a : Int) ≤ (t : Int)) = false := by simp; omega
                have q3n : decide (a ≤ t) = false := by simp; omega
                have HN : Hid ((L.take (k + 1)).filter (ownB d a) = fl) := Lib.hid (by rw [HS.out]; simp [ownB]; omega)
                clear HS
                go_wp2_with fail
                go_roundw
                case rel => exact ⟨k + 1, Lib.hid ⟨by go_num, by omega, by rw [HN.out]; exact HROW.out, hb⟩⟩
                case measure => simp [intOf]; omega
            · have q2 : decide ((f : Int) ≤ (a : Int)) = false := by simp; omega
              have q2n : decide (f ≤ a) = false := by simp; omega
              have HN : Hid ((L.take (k + 1)).filter (ownB d a) = fl) := Lib.hid (by rw [HS.out]; simp [ownB]; omega)
              clear HS
              go_wp2_with fail
              go_roundw
              case rel => exact ⟨k + 1, Lib.hid ⟨by go_num, by omega, by rw [HN.out]; exact HROW.out, hb⟩⟩
              case measure => simp [intOf]; omega
          · have q1 : (dv == d) = false := by simp [h1]
            have HN : Hid ((L.take (k + 1)).filter (ownB d a) = fl) := Lib.hid (by rw [HS.out]; simp [ownB]; omega)
            clear HS
            go_wp2_with fail
            go_roundw
            case rel => exact ⟨k + 1, Lib.hid ⟨by go_num, by omega, by rw [HN.out]; exact HROW.out, hb⟩⟩
            case measure => simp [intOf]; omega
        · have hkl : k = L.length := by omega
          rw [hkl, List.take_length] at hrow
          have hR := isR_of_row hrow
          have hki : ¬ (k : Int) < (L.length : Int) := by omega
          have hkn : ¬ k < L.length := hlt
          have e1 := firstL_filter (tk d 0 1 a) (ownB d a) L (own_tk (d := d) (one := 0) (oth := 1) (a := a))
          have e2 := firstL_filter (tk d 2 3 a) (ownB d a) L (own_tk (d := d) (one := 2) (oth := 3) (a := a))
          have HM : Hid (∀ u, Below wr.heap.size wr u → IsR u u7 (L.filter (ownB d a))) := Lib.hid fun u hu => hR.belows hu
          have k1 := match_any L d a wr (HX.out _ hb)
          have k2 := fun u (hu : Below wr.heap.size wr u) => match_any (L.filter (ownB d a)) d a u (HM.out _ hu)
          have k3 := fun u (hu : Below wr.heap.size wr u) => denies_any L d a u (HX.out _ (hb.trans (hu.mono hb.size)))
          have k4 := fun u (hu : Below wr.heap.size wr u) => denies_any (L.filter (ownB d a)) d a u (HM.out _ hu)
          rw [e1] at k2
          rw [e2] at k4
          obtain ⟨fo, hfo⟩ : ∃ fo, fo = firstL (tk d 0 1 a) L := ⟨_, rfl⟩
          rw [← hfo] at k1 k2
          have hfv : firstV fo = .tuple #[.agg (ruA (fo.getD ru0)), .bool fo.isSome] := rfl
          rw [hfv] at k1 k2
          generalize fo.getD ru0 = y at k1 k2
          generalize fo.isSome = hs at k1 k2
          generalize ((firstL (tk d 2 3 a) L).isSome && decide (((firstL (tk d 2 3 a) L).getD ru0).kd = 3)) = dn at k3 k4
          have heq := eql_ru y y
          rw [show decide (y = y) = true from decide_eq_true rfl] at heq
          clear hfo hfv e1 e2 hkl hlt
          obtain ⟨A9, c9, rfl, n9, m9, _⟩ := hR
          simp only [maxLen] at m9
          clear hrow
          obtain ⟨id, dv, pr, kd, f, t, pt⟩ := y
          simp only [ruA_mk] at k1 k2 heq
          have dq1 : (hs == hs) = true := by simp
          have dq2 : (dn == dn) = true := by simp
          go_wp2_with fail
          refine k1.mono ?_
          rintro e w3 ⟨rfl, b3⟩
          have c3 := b3.alloc b3.size (.cells #[.int .i64 id, .int .i64 dv, .int .i64 pr, .int .i64 kd, .int .u32 f, .int .u32 t, .int .i64 pt] 30)
          have X3 := At.new w3 #[.int .i64 id, .int .i64 dv, .int .i64 pr, .int .i64 kd, .int .u32 f, .int .u32 t, .int .i64 pt] 30
          have k2' := k2 _ c3
          clear k1 k2 b3
          go_wp2_with fail
          refine k2'.mono ?_
          rintro e w4 ⟨rfl, b4⟩
          have X4 := (X3.belows b4).alloc (.cells #[.int .i64 id, .int .i64 dv, .int .i64 pr, .int .i64 kd, .int .u32 f, .int .u32 t, .int .i64 pt] 30)
          have Y4 := At.new w4 #[.int .i64 id, .int .i64 dv, .int .i64 pr, .int .i64 kd, .int .u32 f, .int .u32 t, .int .i64 pt] 30
          have c4 := c3.trans (b4.mono c3.size)
          have c5 := c4.alloc c4.size (.cells #[.int .i64 id, .int .i64 dv, .int .i64 pr, .int .i64 kd, .int .u32 f, .int .u32 t, .int .i64 pt] 30)
          have ha := alive_any _ (HT.out _ (hb.trans (c5.mono hb.size)))
          clear k2' X3 b4 c3 c4
          go_wp2_with fail
          refine ha.mono ?_
          rintro e w5 ⟨rfl, b5⟩
          have X5 := X4.belows b5
          have Y5 := Y4.belows b5
          have c6 := c5.trans (b5.mono c5.size)
          have x0 := (X5.cell 0).trans rfl; have x1 := (X5.cell 1).trans rfl; have x2 := (X5.cell 2).trans rfl; have x3 := (X5.cell 3).trans rfl; have x4 := (X5.cell 4).trans rfl; have x5 := (X5.cell 5).trans rfl; have x6 := (X5.cell 6).trans rfl
          have y0 := (Y5.cell 0).trans rfl; have y1 := (Y5.cell 1).trans rfl; have y2 := (Y5.cell 2).trans rfl; have y3 := (Y5.cell 3).trans rfl; have y4 := (Y5.cell 4).trans rfl; have y5 := (Y5.cell 5).trans rfl; have y6 := (Y5.cell 6).trans rfl
          have k3' := k3 _ c6
          clear ha X4 Y4 X5 Y5 b5 c5 k3
          go_wp2_with fail
          refine k3'.mono ?_
          rintro e w6 ⟨rfl, b6⟩
          have c7 := c6.trans (b6.mono c6.size)
          have k4' := k4 _ c7
          clear k3' k4 b6 x0 x1 x2 x3 x4 x5 x6 y0 y1 y2 y3 y4 y5 y6
          go_wp2_with fail
          refine k4'.mono ?_
          rintro e w7 ⟨rfl, b7⟩
          have HBB := Lib.hid (hb.trans ((c7.trans (b7.mono c7.size)).mono hb.size))
          clear k4' b7 c6 c7
          go_wp2
          go_ret
          exact ⟨rfl, HBB.out⟩
end Go.Proofs.YtmpgfmedldnhjaaDoor
