/- ZoneHas, walked. -/
import Derived.Test.YtonhmppobdbidaaL2
import Derived.Test.YtonhmppobdbidaaD4
namespace Go.Proofs.Ytonhmppobdbidaa
open Go.RowKit Go.Shelf

theorem has_take {L : List (Nat × Nat)} {k a : Nat} (hk : k < L.length) : has (L.take (k + 1)) a = (has (L.take k) a || (decide (L[k].1 ≤ a) && decide (a ≤ L[k].2))) := by
  rw [List.take_succ_eq_append_getElem hk, has_append, has_cons, has_nil, Bool.or_false]
theorem ok_append {X Y : List (Nat × Nat)} (hX : Zn X) (hY : Zn Y) : okB (X ++ Y) = true := by
  have key : ∀ {L : List (Nat × Nat)}, Zn L → ∀ r ∈ L, r.1 ≤ r.2 := fun h r hr => by
    obtain ⟨k, hk, rfl⟩ := List.getElem_of_mem hr
    exact h.1.each k hk
  refine List.all_eq_true.2 fun r hr => ?_
  rcases List.mem_append.1 hr with h | h
  · simpa using key hX r h
  · simpa using key hY r h

set_option maxRecDepth 100000 in
set_option maxHeartbeats 10000000 in
theorem zoneHas_walk {v1 v2 : Value} (X Y : List (Nat × Nat)) (a : Nat) (w : World) (ha : a < 4294967296) (ux : U32 X) (uy : U32 Y) (zx : IsZ w v1 X) (zy : IsZ w v2 Y) : Calls Try.prog 7 #[v1, v2, .int .u32 a] w fun e w' => e = .returned (.bool true) ∧ Below w.heap.size w w' := by
  have HX := Lib.hid (fun (W : World) (hW : Below w.heap.size w W) => zx.belows hW)
  have HY := Lib.hid (fun (W : World) (hW : Below w.heap.size w W) => zy.belows hW)
  obtain ⟨A1, c1, rfl, n1, m1, z1⟩ := zx
  obtain ⟨A2, c2, rfl, n2, m2, z2⟩ := zy
  have H1 := Lib.hid z1
  have H2 := Lib.hid z2
  clear z1 z2
  go_enter Try.func7, Try.ntmps7
  go_wp2_with fail
  refine (fits_any X w ux (HX.out w (Below.refl _ _))).mono ?_
  rintro e w1 ⟨rfl, b1⟩
  go_wp2_with fail
  refine (fits_any Y w1 uy (HY.out w1 b1)).mono ?_
  rintro e w2 ⟨rfl, b2⟩
  have bb2 : Below w.heap.size w w2 := b1.trans (b2.mono b1.size)
  cases hp : fitsB X with
  | false =>
    generalize fitsB Y = fy
    go_wp2_with (go_at_call 8; refine (alive_any _).mono ?_; rintro e w4 ⟨rfl, b4⟩)
    go_ret
    exact ⟨rfl, bb2.trans (b4.mono bb2.size)⟩
  | true =>
    cases hq : fitsB Y with
    | false =>
      go_wp2_with (go_at_call 8; refine (alive_any _).mono ?_; rintro e w4 ⟨rfl, b4⟩)
      go_ret
      exact ⟨rfl, bb2.trans (b4.mono bb2.size)⟩
    | true =>
      obtain ⟨hX, lx⟩ := fits_zn ux hp
      obtain ⟨hY, ly⟩ := fits_zn uy hq
      go_wp2_with fail
      refine (has_any X a w2 hX.1 hX.2 (HX.out w2 bb2)).mono ?_
      rintro e w3 ⟨rfl, b3⟩
      have bb3 : Below w.heap.size w w3 := bb2.trans (b3.mono bb2.size)
      go_wp2_with fail
      refine (has_any Y a w3 hY.1 hY.2 (HY.out w3 bb3)).mono ?_
      rintro e w4 ⟨rfl, b4⟩
      have bb4 : Below w.heap.size w w4 := bb3.trans (b4.mono bb3.size)
      obtain ⟨s, hs⟩ : ∃ s, s = has X a := ⟨_, rfl⟩
      obtain ⟨t, ht⟩ : ∃ t, t = has Y a := ⟨_, rfl⟩
      rw [← hs, ← ht]
      have HS := Lib.hid hs
      have HT := Lib.hid ht
      clear hs ht
      have ba : Below w.heap.size w (w4.alloc (.cells #[] 33)) := bb4.alloc bb4.size _
      go_wp2_with (first | (at_builtin; refine wpList_app_z rfl _ _ rfl w4.heap.size _ [] rfl (Row.empty w4) _ _ Y rfl (H2.out.belows ba) (H2.out.none) (by simp; omega) (by simp) ?_; intro g cap w5 hrow b5; simp only [List.length_nil, Nat.zero_add, List.nil_append] at hrow; have b45 : Below w4.heap.size w4 w5 := ((Below.refl _ w4).alloc (Nat.le_refl _) _).trans b5; have bb5 : Below w.heap.size w w5 := bb4.trans (b45.mono bb4.size)) | (at_builtin; refine wpList_app_z rfl _ _ rfl w4.heap.size _ Y rfl hrow _ _ X rfl (H1.out.belows bb5) (H1.out.none) (by omega) b45.size ?_; intro g6 cap6 w6 hrow6 b6; have bb6 : Below w.heap.size w w6 := bb5.trans (b6.mono bb4.size); have hr6 := hrow6.isZ; clear hrow hrow6))
      have hlen : (Y ++ X).length ≤ 1000000 := by simp; omega
      have hof := of_any (Y ++ X) w6 (u32_append uy ux) hlen hr6
      have hof' : Calls Try.prog 9 #[.slice (some ⟨g6, 0, none⟩) (Y.length + X.length) cap6] w6 fun e w' => ∃ v', e = .returned (.tuple #[v', .int .i64 0]) ∧ IsZ w' v' (docOf (Y ++ X)) ∧ Below w6.heap.size w6 w' := hof.mono fun e w' ⟨v', h1, h2, h3⟩ => by
        rw [ok_append hY hX] at h1 h2
        exact ⟨v', h1, h2, h3⟩
      clear hof
      refine hof'.mono ?_
      rintro e w7 ⟨v7, rfl, z7, b7⟩
      have bb7 : Below w.heap.size w w7 := bb6.trans (b7.mono bb6.size)
      have hr7 := hr6.belows b7
      obtain ⟨d1, d2⟩ := docOf_zn (Y ++ X)
      have HD := Lib.hid (d2 a ha)
      have HZ7 := Lib.hid z7
      obtain ⟨P6, k6, e6, n6, m6, q6⟩ := hr7
      simp only [Value.slice.injEq] at e6
      obtain ⟨rfl, e6, rfl⟩ := e6
      have HQ6 := Lib.hid q6
      obtain ⟨all, hall⟩ : ∃ all, all = Y ++ X := ⟨_, rfl⟩
      have HALL := Lib.hid hall
      rw [← hall] at HD HQ6 hlen e6 HZ7 d1
      clear hr6 z7 d2 q6 hof' n6 hall
      go_wp2
      go_loopw [14, 15] (fun iv i wr => ∃ k : Nat, i = .int .i64 k ∧ iv = .bool (has (all.take k) a) ∧ k ≤ all.length ∧ wr = w7) (fun _ i _ => all.length - (intOf i).toNat)
      case atStart => exact ⟨0, rfl, rfl, by omega, rfl⟩
      case round =>
        obtain ⟨k, rfl, rfl, hk, hw⟩ := hrel
        subst hw
        by_cases hlt : k < all.length
        · obtain ⟨g1, o1, e1, hg1, r1⟩ := HQ6.out (by omega)
          cases e1
          obtain ⟨c10, c11⟩ := r1 k hlt
          have e0 := has_take (a := a) hlt
          clear r1
          generalize all[k] = x at c10 c11 e0
          simp only [Nat.zero_add] at c10 c11
          have i0 : (0 : Int) ≤ (k : Int) := by omega
          have i1 : (k : Int) < (Y.length : Int) + (X.length : Int) := by omega
          have i2 : (k : Int) < ((Y.length + X.length : Nat) : Int) := by omega
          have HE := Lib.hid e0
          clear e0
          generalize hin : has (all.take k) a = inb at HE ⊢
          clear hin
          cases inb with
          | true =>
            go_wp2
            go_roundw
            case rel => exact ⟨k + 1, by go_num, by rw [HE.out]; rfl, by omega, trivial⟩
            case measure => simp [intOf]; omega
          | false =>
            by_cases h1 : x.1 ≤ a
            · by_cases h2 : a ≤ x.2
              · go_wp2
                go_roundw
                case rel => exact ⟨k + 1, by go_num, by rw [HE.out]; simp [h1, h2], by omega, trivial⟩
                case measure => simp [intOf]; omega
              · go_wp2
                go_roundw
                case rel => exact ⟨k + 1, by go_num, by rw [HE.out]; simp [h2], by omega, trivial⟩
                case measure => simp [intOf]; omega
            · go_wp2
              go_roundw
              case rel => exact ⟨k + 1, by go_num, by rw [HE.out]; simp [h1], by omega, trivial⟩
              case measure => simp [intOf]; omega
        · obtain rfl : k = all.length := by omega
          rw [List.take_length]
          have i1 : ¬ (all.length : Int) < (Y.length : Int) + (X.length : Int) := by omega
          have i2 : ¬ (all.length : Int) < ((Y.length + X.length : Nat) : Int) := by omega
          generalize hin : has all a = inb at HD ⊢
          clear hin
          have hD := HD.out
          have hxa := HS.out
          have hya := HT.out
          have HXA := Lib.hid hxa
          have HYA := Lib.hid hya
          clear hxa hya HS HT
          cases s <;> cases t
          all_goals
            go_wp2_with fail
            refine (alive_any wr).mono ?_
            rintro e w8 ⟨rfl, b8⟩
            have bb8 : Below w.heap.size w w8 := bb7.trans (b8.mono bb7.size)
            go_wp2_with fail
            refine (has_any (docOf all) a w8 d1.1 d1.2 (HZ7.out.belows b8)).mono ?_
            rintro e w9 ⟨rfl, b9⟩
            rw [hD]
            have bb9 : Below w.heap.size w w9 := bb8.trans (b9.mono bb8.size)
            go_wp2_with fail
            refine (and_any X Y w9 hX hY (HX.out w9 bb9) (HY.out w9 bb9)).mono ?_
            rintro e w10 ⟨v10, L10, rfl, z10, q10, h10, b10⟩
            have bb10 : Below w.heap.size w w10 := bb9.trans (b10.mono bb9.size)
            have g10 := h10 a ha
            dsimp only at g10
            rw [← HXA.out, ← HYA.out] at g10
            go_wp2_with fail
            refine (has_any L10 a w10 q10.1 q10.2 z10).mono ?_
            rintro e w11 ⟨rfl, b11⟩
            rw [g10]
            clear z10 h10
            have bb11 : Below w.heap.size w w11 := bb10.trans (b11.mono bb10.size)
            go_wp2_with fail
            refine (or_any X Y w11 hX hY (HX.out w11 bb11) (HY.out w11 bb11)).mono ?_
            rintro e w12 ⟨v12, L12, rfl, z12, q12, h12, b12⟩
            have bb12 : Below w.heap.size w w12 := bb11.trans (b12.mono bb11.size)
            have g12 := h12 a ha
            dsimp only at g12
            rw [← HXA.out, ← HYA.out] at g12
            go_wp2_with fail
            refine (has_any L12 a w12 q12.1 q12.2 z12).mono ?_
            rintro e w13 ⟨rfl, b13⟩
            rw [g12]
            clear z12 h12
            have bb13 : Below w.heap.size w w13 := bb12.trans (b13.mono bb12.size)
            go_wp2_with fail
            refine (minus_any X Y w13 hX hY (HX.out w13 bb13) (HY.out w13 bb13)).mono ?_
            rintro e w14 ⟨v14, L14, rfl, z14, q14, h14, b14⟩
            have bb14 : Below w.heap.size w w14 := bb13.trans (b14.mono bb13.size)
            have g14 := h14 a ha
            dsimp only at g14
            rw [← HXA.out, ← HYA.out] at g14
            go_wp2_with fail
            refine (has_any L14 a w14 q14.1 q14.2 z14).mono ?_
            rintro e w15 ⟨rfl, b15⟩
            rw [g14]
            clear z14 h14
            have bb15 : Below w.heap.size w w15 := bb14.trans (b15.mono bb14.size)
            go_wp2_with fail
            refine (all_any w15).mono ?_
            rintro e w16 ⟨v16, rfl, z16, b16⟩
            have bb16 : Below w.heap.size w w16 := bb15.trans (b16.mono bb15.size)
            go_wp2_with fail
            refine (has_any all0 a w16 all0_zn.1 all0_zn.2 z16).mono ?_
            rintro e w17 ⟨rfl, b17⟩
            rw [has_all0 a ha]
            have bb17 : Below w.heap.size w w17 := bb16.trans (b17.mono bb16.size)
            go_wp2
            go_ret
            exact ⟨rfl, bb17⟩
end Go.Proofs.Ytonhmppobdbidaa
