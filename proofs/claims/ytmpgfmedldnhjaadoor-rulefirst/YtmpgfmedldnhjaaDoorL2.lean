/- RuleFirst, walked. -/
import Derived.Test.YtmpgfmedldnhjaaDoorA1
namespace Go.Proofs.YtmpgfmedldnhjaaDoor
open Go.RowKit Go.Shelf

theorem any_snoc (p : Ru → Bool) (L : List Ru) (k : Nat) (hk : k < L.length) : (L.take (k + 1)).any p = ((L.take k).any p || p L[k]) := by
  rw [List.take_succ_eq_append_getElem hk, List.any_append]; simp
/-- What the laws know of the rule that is matched. -/
def FirstIs (d : Int) (a : Nat) (L : List Ru) (x : Ru) (b : Bool) : Prop := (∀ r ∈ L, tk d 0 1 a r = true → aheadB r x = false ∧ b = true) ∧ (b = true → x ∈ L ∧ tk d 0 1 a x = true) 
theorem first_is (d : Int) (a : Nat) (L : List Ru) : FirstIs d a L ((firstL (tk d 0 1 a) L).getD ru0) (firstL (tk d 0 1 a) L).isSome := by
  rcases firstL_is (tk d 0 1 a) L with ⟨h, h1⟩ | ⟨x, h, h1, h2, h3⟩
  · rw [h]; exact ⟨fun r hr hp => (by rw [h1 r hr] at hp; cases hp), fun e => (by cases e)⟩
  · rw [h]; exact ⟨fun r hr hp => ⟨h3 r hr hp, rfl⟩, fun _ => ⟨h1, h2⟩⟩
theorem FirstIs.any {d : Int} {a : Nat} {L : List Ru} {x : Ru} {b : Bool} (h : FirstIs d a L x b) : L.any (tk d 0 1 a) = b := by
  cases b with
  | true => rw [List.any_eq_true]; exact ⟨x, (h.2 rfl).1, (h.2 rfl).2⟩
  | false => rw [List.any_eq_false]; intro r hr hp; have := (h.1 r hr hp).2; cases this
/-- Where the law's loop stands. -/
def FiI (d : Int) (a : Nat) (L : List Ru) (x : Ru) (B : Nat) (w : World) (s i : Value) (k : Nat) (W : World) : Prop := i = .int .i64 k ∧ s = .bool ((L.take k).any (tk d 0 1 a)) ∧ k ≤ L.length ∧ Below w.heap.size w W ∧ At W B (ruA x) 30

set_option maxRecDepth 100000 in
set_option maxHeartbeats 4000000 in
theorem first_walk {v : Value} (L : List Ru) (d : Int) (a : Nat) (w : World) (h : IsR w v L) (hT : Tb w) : Calls Tryd.prog 4 #[v, .int .i64 d, .int .u32 a] w fun e w' => e = .returned (.bool true) ∧ Below w.heap.size w w' := by
  obtain ⟨A1, c1, rfl, n1, m1, z1⟩ := h
  have hL : L.length ≤ 9223372036854775807 := Nat.le_trans n1 m1
  have ZX : Hid (∀ u, Below w.heap.size w u → Rs u A1 L) := Lib.hid fun u hu => z1.belows hu
  have HX : Hid (∀ u, Below w.heap.size w u → IsR u (.slice A1 L.length c1) L) := Lib.hid fun u hu => ⟨A1, c1, rfl, n1, m1, z1.belows hu⟩
  have HT : Hid (∀ u, Below w.heap.size w u → Tb u) := Lib.hid fun u hu => hT.below hu
  have ha0 := alive_any w hT
  have h1 := all_any L w (HX.out _ (Below.refl _ _))
  clear z1 hT n1 m1
  by_cases hm : 60 < L.length
  · have hm' : decide ((60 : Int) < (L.length : Int)) = true := by simp; omega
    clear h1
    go_enter Tryd.func4, Tryd.ntmps4
    go_wp2_with fail
    refine ha0.mono ?_
    rintro e w1 ⟨rfl, b1⟩
    go_wp2
    go_ret
    exact ⟨rfl, b1⟩
  · have hm' : decide ((60 : Int) < (L.length : Int)) = false := by simp; omega
    clear ha0
    cases hal : allB L with
    | false =>
      rw [hal] at h1
      go_enter Tryd.func4, Tryd.ntmps4
      go_wp2_with fail
      refine h1.mono ?_
      rintro e w1 ⟨rfl, b1⟩
      have ha := alive_any w1 (HT.out _ b1)
      go_wp2_with fail
      refine ha.mono ?_
      rintro e w2 ⟨rfl, b2⟩
      go_wp2
      go_ret
      exact ⟨rfl, b1.trans (b2.mono b1.size)⟩
    | true =>
      rw [hal] at h1
      have HR := Lib.hid (rr_of hal)
      clear hal
      obtain ⟨x, hx⟩ : ∃ x, x = (firstL (tk d 0 1 a) L).getD ru0 := ⟨_, rfl⟩
      obtain ⟨b, hb0⟩ : ∃ b, b = (firstL (tk d 0 1 a) L).isSome := ⟨_, rfl⟩
      have hfi := first_is d a L
      rw [← hx, ← hb0] at hfi
      have HF := Lib.hid hfi
      have HV : Hid (firstV (firstL (tk d 0 1 a) L) = .tuple #[.agg (ruA x), .bool b]) := Lib.hid (by rw [hx, hb0]; rfl)
      clear hx hb0 hfi
      go_enter Tryd.func4, Tryd.ntmps4
      go_wp2_with fail
      refine h1.mono ?_
      rintro e w1 ⟨rfl, b1⟩
      have h2 := match_any L d a w1 (HX.out _ b1)
      rw [HV.out] at h2
      clear h1
      go_wp2_with fail
      refine h2.mono ?_
      rintro e w2 ⟨rfl, b2⟩
      have bb2 := b1.trans (b2.mono b1.size)
      have X3 := At.new w2 (ruA x) 30
      have bb3 := bb2.alloc bb2.size (.cells (ruA x) 30)
      have HX3 := Lib.hid X3
      have HB3 := Lib.hid bb3
      have hs2 : w.heap.size ≤ w2.heap.size := bb2.size
      clear h2 b1 b2 bb2 X3 bb3
      have hxa : ∃ (i1 i2 i3 i4 : Int) (f1 f2 : Nat) (i5 : Int), ruA x = #[.int .i64 i1, .int .i64 i2, .int .i64 i3, .int .i64 i4, .int .u32 f1, .int .u32 f2, .int .i64 i5] ∧ x = ⟨i1, i2, i3, i4, f1, f2, i5⟩ := ⟨_, _, _, _, _, _, _, rfl, rfl⟩
      obtain ⟨i1, i2, i3, i4, f1, f2, i5, hxa, rfl⟩ := hxa
      rw [hxa] at HX3 HB3 ⊢
      generalize hgB : w2.heap.size = B at *
      go_wp2
      go_loopw [9, 10] (fun s i wr => ∃ k : Nat, Hid (FiI d a L ⟨i1, i2, i3, i4, f1, f2, i5⟩ B w s i k wr)) (fun _ i => fun _ => L.length - (intOf i).toNat)
      case atStart => exact ⟨0, Lib.hid ⟨rfl, by simp, by omega, HB3.out, HX3.out⟩⟩
      case round =>
        obtain ⟨k, HI⟩ := hrel
        obtain ⟨rfl, rfl, hk, hb, hA⟩ := HI.out
        clear HI
        by_cases hlt : k < L.length
        · obtain ⟨g1, o1, e1, _, r0, r1, r2, r3, r4, r5, r6⟩ := (ZX.out wr hb).at k hlt
          subst e1
          have hin : L[k] ∈ L := List.getElem_mem hlt
          have HS := Lib.hid (any_snoc (tk d 0 1 a) L k hlt)
          have hrt := (ruB_iff _).1 (HR.out.right _ hin)
          have HP : Hid (tk d 0 1 a L[k] = true → aheadB L[k] ⟨i1, i2, i3, i4, f1, f2, i5⟩ = false ∧ b = true) := Lib.hid (HF.out.1 _ hin)
          clear hin
          generalize L[k] = r at r0 r1 r2 r3 r4 r5 r6 HS HP hrt
          obtain ⟨id, dv, pr, kd, f, t, pt⟩ := r
          dsimp only at r0 r1 r2 r3 r4 r5 r6 hrt
          have hk0 := hrt.2.2.2.1
          have hk3 := hrt.2.2.2.2.1
          clear hrt
          have i0 : (0 : Int) ≤ (k : Int) := by omega
          have ii1 : (k : Int) < (L.length : Int) := by omega
          have hA1 := hA.alloc (.cells #[.int .i64 id, .int .i64 dv, .int .i64 pr, .int .i64 kd, .int .u32 f, .int .u32 t, .int .i64 pt] 30)
          have hBlt := hA.lt
          have x0 := (hA.cell 0).trans rfl
          have x2 := (hA.cell 2).trans rfl
          generalize hsv : (L.take k).any (tk d 0 1 a) = sv at HS ⊢
          clear hsv
          by_cases h1 : dv = d
          · have q1 : (dv != d) = false := by simp [h1]
            have q1b : (dv == d) = true := by simp [h1]
            by_cases h2 : a < f
            · have q2 : decide ((a : Int) < (f : Int)) = true := by simp; omega
              have q2n : decide (a < f) = true := by simp; omega
              have HN : Hid ((L.take (k + 1)).any (tk d 0 1 a) = sv) := Lib.hid (by rw [HS.out]; simp [tk, takesB]; omega)
              clear h1 h2 HS HP
              go_wp2_with fail
              go_roundw
              case rel => exact ⟨k + 1, Lib.hid ⟨by go_num, by rw [HN.out], by omega, hb.alloc hb.size _, hA1⟩⟩
              case measure => simp [intOf]; omega
            · have q2 : decide ((a : Int) < (f : Int)) = false := by simp; omega
              have q2n : decide (a < f) = false := by simp; omega
              by_cases h3 : t < a
              · have q3 : decide ((t : Int) < (a : Int)) = true := by simp; omega
                have q3n : decide (t < a) = true := by simp; omega
                have HN : Hid ((L.take (k + 1)).any (tk d 0 1 a) = sv) := Lib.hid (by rw [HS.out]; simp [tk, takesB]; omega)
                clear h1 h2 h3 HS HP
                go_wp2_with fail
                go_roundw
                case rel => exact ⟨k + 1, Lib.hid ⟨by go_num, by rw [HN.out], by omega, hb.alloc hb.size _, hA1⟩⟩
                case measure => simp [intOf]; omega
              · have q3 : decide ((t : Int) < (a : Int)) = false := by simp; omega
                have q3n : decide (t < a) = false := by simp; omega
                by_cases h4 : kd = 2
                · have q4 : (kd == 2) = true := by simp [h4]
                  have HN : Hid ((L.take (k + 1)).any (tk d 0 1 a) = sv) := Lib.hid (by rw [HS.out]; simp [tk, takesB]; omega)
                  clear h1 h2 h3 h4 HS HP
                  go_wp2_with fail
                  go_roundw
                  case rel => exact ⟨k + 1, Lib.hid ⟨by go_num, by rw [HN.out], by omega, hb.alloc hb.size _, hA1⟩⟩
                  case measure => simp [intOf]; omega
                · have q4 : (kd == 2) = false := by simp [h4]
                  by_cases h5 : kd = 3
                  · have q5 : (kd == 3) = true := by simp [h5]
                    have HN : Hid ((L.take (k + 1)).any (tk d 0 1 a) = sv) := Lib.hid (by rw [HS.out]; simp [tk, takesB]; omega)
                    clear h1 h2 h3 h4 h5 HS HP
                    go_wp2_with fail
                    go_roundw
                    case rel => exact ⟨k + 1, Lib.hid ⟨by go_num, by rw [HN.out], by omega, hb.alloc hb.size _, hA1⟩⟩
                    case measure => simp [intOf]; omega
                  · have q5 : (kd == 3) = false := by simp [h5]
                    have htk : tk d 0 1 a ⟨id, dv, pr, kd, f, t, pt⟩ = true := by simp [tk, takesB]; omega
                    have HN : Hid ((L.take (k + 1)).any (tk d 0 1 a) = true) := Lib.hid (by rw [HS.out, htk, Bool.or_true])
                    have hah := (ahead_no _ _).1 (HP.out htk).1
                    dsimp only at hah
                    clear h1 h2 h3 h4 h5 HS HP htk
                    have q6 : decide (i3 < pr) = false := by simp; omega
                    by_cases h7 : pr = i3
                    · have q7 : (pr == i3) = true := by simp [h7]
                      have q8 : decide (id < i1) = false := by simp; omega
                      clear h7 hah
                      go_wp2_with fail
                      go_roundw
                      case rel => exact ⟨k + 1, Lib.hid ⟨by go_num, by rw [HN.out], by omega, hb.alloc hb.size _, hA1⟩⟩
                      case measure => simp [intOf]; omega
                    · have q7 : (pr == i3) = false := by simp [h7]
                      clear h7 hah
                      go_wp2_with fail
                      go_roundw
                      case rel => exact ⟨k + 1, Lib.hid ⟨by go_num, by rw [HN.out], by omega, hb.alloc hb.size _, hA1⟩⟩
                      case measure => simp [intOf]; omega
          · have q1 : (dv != d) = true := by simp [h1]
            have q1b : (dv == d) = false := by simp [h1]
            have HN : Hid ((L.take (k + 1)).any (tk d 0 1 a) = sv) := Lib.hid (by rw [HS.out]; simp [tk, takesB, h1])
            clear h1 HS HP
            go_wp2_with fail
            go_roundw
            case rel => exact ⟨k + 1, Lib.hid ⟨by go_num, by rw [HN.out], by omega, hb.alloc hb.size _, hA1⟩⟩
            case measure => simp [intOf]; omega
        · have hkl : k = L.length := by omega
          have hany : (L.take k).any (tk d 0 1 a) = b := by rw [hkl, List.take_length]; exact HF.out.any
          rw [hany]
          have hki : ¬ (k : Int) < (L.length : Int) := by omega
          have hkn : ¬ k < L.length := hlt
          clear hany hkl hlt
          have x0 := (hA.cell 0).trans rfl
          have hf := find_any L i1 wr (HX.out _ hb)
          have HFD : Hid (b = true → firstV (firstL (fun r => decide (r.id = i1)) L) = .tuple #[.agg #[.int .i64 i1, .int .i64 i2, .int .i64 i3, .int .i64 i4, .int .u32 f1, .int .u32 f2, .int .i64 i5], .bool true]) := Lib.hid fun e => by
            have := HR.out.find (HF.out.2 e).1
            rw [show (fun r : Ru => decide (r.id = (⟨i1, i2, i3, i4, f1, f2, i5⟩ : Ru).id)) = fun r => decide (r.id = i1) from rfl] at this
            rw [this]; rfl
          have HD : Hid (b = true → i2 = d) := Lib.hid fun e => by
            have := (HF.out.2 e).2
            simp [tk, takesB] at this
            exact this.1
          have heq := eql_ru ⟨i1, i2, i3, i4, f1, f2, i5⟩ ⟨i1, i2, i3, i4, f1, f2, i5⟩
          rw [show decide ((⟨i1, i2, i3, i4, f1, f2, i5⟩ : Ru) = ⟨i1, i2, i3, i4, f1, f2, i5⟩) = true from decide_eq_true rfl, ruA_mk] at heq
          cases b with
          | false =>
            obtain ⟨fo, hfo⟩ : ∃ fo, fo = firstL (fun r => decide (r.id = i1)) L := ⟨_, rfl⟩
            rw [← hfo] at hf
            have hfv : firstV fo = .tuple #[.agg (ruA (fo.getD ru0)), .bool fo.isSome] := rfl
            rw [hfv] at hf
            generalize fo.getD ru0 = y at hf
            generalize fo.isSome = hs at hf
            clear hfo hfv HFD HD heq
            obtain ⟨id, dv, pr, kd, f, t, pt⟩ := y
            rw [ruA_mk] at hf
            go_wp2_with fail
            refine hf.mono ?_
            rintro e w3 ⟨rfl, b3⟩
            have bb3 := hb.trans (b3.mono hb.size)
            have bb4 := bb3.alloc bb3.size (.cells #[.int .i64 id, .int .i64 dv, .int .i64 pr, .int .i64 kd, .int .u32 f, .int .u32 t, .int .i64 pt] 30)
            have ha := alive_any _ (HT.out _ bb4)
            clear hf
            go_wp2_with fail
            refine ha.mono ?_
            rintro e w4 ⟨rfl, b4⟩
            go_wp2
            go_ret
            exact ⟨rfl, bb4.trans (b4.mono bb4.size)⟩
          | true =>
            rw [HFD.out rfl] at hf
            have hd := HD.out rfl
            have hd1 : (i2 == d) = true := by simp [hd]
            clear HD HFD hd
            go_wp2_with fail
            refine hf.mono ?_
            rintro e w3 ⟨rfl, b3⟩
            have bb3 := hb.trans (b3.mono hb.size)
            have bb4 := bb3.alloc bb3.size (.cells #[.int .i64 i1, .int .i64 i2, .int .i64 i3, .int .i64 i4, .int .u32 f1, .int .u32 f2, .int .i64 i5] 30)
            have X4 := (hA.belows b3).alloc (.cells #[.int .i64 i1, .int .i64 i2, .int .i64 i3, .int .i64 i4, .int .u32 f1, .int .u32 f2, .int .i64 i5] 30)
            have Y4 := At.new w3 #[.int .i64 i1, .int .i64 i2, .int .i64 i3, .int .i64 i4, .int .u32 f1, .int .u32 f2, .int .i64 i5] 30
            have ha := alive_any _ (HT.out _ bb4)
            clear hf x0 b3 bb3
            go_wp2_with fail
            refine ha.mono ?_
            rintro e w4 ⟨rfl, b4⟩
            have X5 := X4.belows b4
            have Y5 := Y4.belows b4
            have x0 := (X5.cell 0).trans rfl; have x1 := (X5.cell 1).trans rfl; have x2 := (X5.cell 2).trans rfl; have x3 := (X5.cell 3).trans rfl; have x4 := (X5.cell 4).trans rfl; have x5 := (X5.cell 5).trans rfl; have x6 := (X5.cell 6).trans rfl
            have y0 := (Y5.cell 0).trans rfl; have y1 := (Y5.cell 1).trans rfl; have y2 := (Y5.cell 2).trans rfl; have y3 := (Y5.cell 3).trans rfl; have y4 := (Y5.cell 4).trans rfl; have y5 := (Y5.cell 5).trans rfl; have y6 := (Y5.cell 6).trans rfl
            have HBB := Lib.hid (bb4.trans (b4.mono bb4.size))
            clear ha X4 Y4 X5 Y5 b4 bb4 hb hA
            go_wp2
            go_ret
            exact ⟨rfl, HBB.out⟩
end Go.Proofs.YtmpgfmedldnhjaaDoor
