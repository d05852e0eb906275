/- ZoneLaws, walked. -/
import Derived.Test.YtonhmppobdbidaaL2
namespace Go.Proofs.Ytonhmppobdbidaa
open Go.RowKit Go.Shelf

/-- Two zones of the same addresses are one. -/
theorem same_zn {v1 v2 : Value} {L M : List (Nat × Nat)} {w : World} (h1 : IsZ w v1 L) (h2 : IsZ w v2 M) (hL : Zn L) (hM : Zn M) (hh : ∀ a, a < 4294967296 → has L a = has M a) : Calls Try.prog 11 #[v1, v2] w fun e w' => e = .returned (.bool true) ∧ Below w.heap.size w w' := by
  have e : L = M := Zn.eq hL hM hh
  subst e
  exact same_any _ w h1 h2
theorem count_both {X Y A O : List (Nat × Nat)} (hX : Zn X) (hY : Zn Y) (hA : Zn A) (hO : Zn O) (ha : ∀ a, a < 4294967296 → has A a = (has X a && has Y a)) (ho : ∀ a, a < 4294967296 → has O a = (has X a || has Y a)) : count A + count O = count X + count Y := by
  rw [count_is A 0 _ hA.1 hA.2, count_is O 0 _ hO.1 hO.2, count_is X 0 _ hX.1 hX.2, count_is Y 0 _ hY.1 hY.2, cnt_congr ha, cnt_congr ho]
  exact cnt_and_or _ _ _

set_option maxRecDepth 100000 in
set_option maxHeartbeats 10000000 in
theorem zoneLaws_walk {v1 v2 v3 : Value} (X Y Z : List (Nat × Nat)) (w : World) (ux : U32 X) (uy : U32 Y) (uz : U32 Z) (zx : IsZ w v1 X) (zy : IsZ w v2 Y) (zz : IsZ w v3 Z) : Calls Try.prog 6 #[v1, v2, v3] w fun e w' => e = .returned (.bool true) ∧ Below w.heap.size w w' := by
  have HX := Lib.hid (fun (W : World) (hW : Below w.heap.size w W) => zx.belows hW)
  have HY := Lib.hid (fun (W : World) (hW : Below w.heap.size w W) => zy.belows hW)
  have HZ := Lib.hid (fun (W : World) (hW : Below w.heap.size w W) => zz.belows hW)
  clear zx zy zz
  go_enter Try.func6, Try.ntmps6
  go_wp2_with fail
  refine (fits_any X w ux (HX.out w (Below.refl _ _))).mono ?_
  rintro e w1 ⟨rfl, b1⟩
  go_wp2_with fail
  refine (fits_any Y w1 uy (HY.out w1 b1)).mono ?_
  rintro e w2 ⟨rfl, b2⟩
  have bb2 : Below w.heap.size w w2 := b1.trans (b2.mono b1.size)
  go_wp2_with fail
  refine (fits_any Z w2 uz (HZ.out w2 bb2)).mono ?_
  rintro e w3 ⟨rfl, b3⟩
  have bb3 : Below w.heap.size w w3 := bb2.trans (b3.mono bb2.size)
  cases hp : fitsB X with
  | false =>
    generalize fitsB Y = fy
    generalize fitsB Z = fz
    go_wp2_with (go_at_call 8; refine (alive_any _).mono ?_; rintro e w4 ⟨rfl, b4⟩)
    go_ret
    exact ⟨rfl, bb3.trans (b4.mono bb3.size)⟩
  | true =>
    cases hq : fitsB Y with
    | false =>
      generalize fitsB Z = fz
      go_wp2_with (go_at_call 8; refine (alive_any _).mono ?_; rintro e w4 ⟨rfl, b4⟩)
      go_ret
      exact ⟨rfl, bb3.trans (b4.mono bb3.size)⟩
    | true =>
     cases hr : fitsB Z with
     | false =>
      go_wp2_with (go_at_call 8; refine (alive_any _).mono ?_; rintro e w4 ⟨rfl, b4⟩)
      go_ret
      exact ⟨rfl, bb3.trans (b4.mono bb3.size)⟩
     | true =>
      obtain ⟨hX, _⟩ := fits_zn ux hp
      obtain ⟨hY, _⟩ := fits_zn uy hq
      obtain ⟨hZ, _⟩ := fits_zn uz hr
      go_wp2_with fail
      refine (and_any X Y w3 hX hY (HX.out w3 bb3) (HY.out w3 bb3)).mono ?_
      rintro e w4 ⟨va1, La1, rfl, za1, qa1, ha1, b4⟩
      have bb4 : Below w.heap.size w w4 := bb3.trans (b4.mono bb3.size)
      go_wp2_with fail
      refine (and_any Y X w4 hY hX (HY.out w4 bb4) (HX.out w4 bb4)).mono ?_
      rintro e w5 ⟨va2, La2, rfl, za2, qa2, ha2, b5⟩
      have bb5 : Below w.heap.size w w5 := bb4.trans (b5.mono bb4.size)
      have za1 := za1.belows b5
      go_wp2_with fail
      refine (same_zn za1 za2 qa1 qa2 (fun a ha => by simp only [ha1 a ha, ha2 a ha]; cases has X a <;> cases has Y a <;> cases has Z a <;> rfl)).mono ?_
      rintro e w6 ⟨rfl, b6⟩
      have bb6 : Below w.heap.size w w6 := bb5.trans (b6.mono bb5.size)
      have za1 := za1.belows b6
      have za2 := za2.belows b6
      clear za1 za2
      go_wp2_with fail
      refine (or_any X Y w6 hX hY (HX.out w6 bb6) (HY.out w6 bb6)).mono ?_
      rintro e w7 ⟨vo1, Lo1, rfl, zo1, qo1, ho1, b7⟩
      have bb7 : Below w.heap.size w w7 := bb6.trans (b7.mono bb6.size)
      go_wp2_with fail
      refine (or_any Y X w7 hY hX (HY.out w7 bb7) (HX.out w7 bb7)).mono ?_
      rintro e w8 ⟨vo2, Lo2, rfl, zo2, qo2, ho2, b8⟩
      have bb8 : Below w.heap.size w w8 := bb7.trans (b8.mono bb7.size)
      have zo1 := zo1.belows b8
      go_wp2_with fail
      refine (same_zn zo1 zo2 qo1 qo2 (fun a ha => by simp only [ho1 a ha, ho2 a ha]; cases has X a <;> cases has Y a <;> cases has Z a <;> rfl)).mono ?_
      rintro e w9 ⟨rfl, b9⟩
      have bb9 : Below w.heap.size w w9 := bb8.trans (b9.mono bb8.size)
      have zo1 := zo1.belows b9
      have zo2 := zo2.belows b9
      clear zo1 zo2
      go_wp2_with fail
      refine (or_any Y Z w9 hY hZ (HY.out w9 bb9) (HZ.out w9 bb9)).mono ?_
      rintro e w10 ⟨vo3, Lo3, rfl, zo3, qo3, ho3, b10⟩
      have bb10 : Below w.heap.size w w10 := bb9.trans (b10.mono bb9.size)
      go_wp2_with fail
      refine (and_any X Lo3 w10 hX qo3 (HX.out w10 bb10) zo3).mono ?_
      rintro e w11 ⟨va3, La3, rfl, za3, qa3, ha3, b11⟩
      have bb11 : Below w.heap.size w w11 := bb10.trans (b11.mono bb10.size)
      have zo3 := zo3.belows b11
      go_wp2_with fail
      refine (and_any X Y w11 hX hY (HX.out w11 bb11) (HY.out w11 bb11)).mono ?_
      rintro e w12 ⟨va4, La4, rfl, za4, qa4, ha4, b12⟩
      have bb12 : Below w.heap.size w w12 := bb11.trans (b12.mono bb11.size)
      have zo3 := zo3.belows b12
      have za3 := za3.belows b12
      go_wp2_with fail
      refine (and_any X Z w12 hX hZ (HX.out w12 bb12) (HZ.out w12 bb12)).mono ?_
      rintro e w13 ⟨va5, La5, rfl, za5, qa5, ha5, b13⟩
      have bb13 : Below w.heap.size w w13 := bb12.trans (b13.mono bb12.size)
      have zo3 := zo3.belows b13
      have za3 := za3.belows b13
      have za4 := za4.belows b13
      go_wp2_with fail
      refine (or_any La4 La5 w13 qa4 qa5 za4 za5).mono ?_
      rintro e w14 ⟨vo4, Lo4, rfl, zo4, qo4, ho4, b14⟩
      have bb14 : Below w.heap.size w w14 := bb13.trans (b14.mono bb13.size)
      have zo3 := zo3.belows b14
      have za3 := za3.belows b14
      have za4 := za4.belows b14
      have za5 := za5.belows b14
      go_wp2_with fail
      refine (same_zn za3 zo4 qa3 qo4 (fun a ha => by simp only [ha3 a ha, ho3 a ha, ho4 a ha, ha4 a ha, ha5 a ha]; cases has X a <;> cases has Y a <;> cases has Z a <;> rfl)).mono ?_
      rintro e w15 ⟨rfl, b15⟩
      have bb15 : Below w.heap.size w w15 := bb14.trans (b15.mono bb14.size)
      have zo3 := zo3.belows b15
      have za3 := za3.belows b15
      have za4 := za4.belows b15
      have za5 := za5.belows b15
      have zo4 := zo4.belows b15
      clear zo3 za3 za4 za5 zo4
      go_wp2_with fail
      refine (minus_any X Y w15 hX hY (HX.out w15 bb15) (HY.out w15 bb15)).mono ?_
      rintro e w16 ⟨vm1, Lm1, rfl, zm1, qm1, hm1, b16⟩
      have bb16 : Below w.heap.size w w16 := bb15.trans (b16.mono bb15.size)
      go_wp2_with fail
      refine (and_any X Y w16 hX hY (HX.out w16 bb16) (HY.out w16 bb16)).mono ?_
      rintro e w17 ⟨va6, La6, rfl, za6, qa6, ha6, b17⟩
      have bb17 : Below w.heap.size w w17 := bb16.trans (b17.mono bb16.size)
      have zm1 := zm1.belows b17
      go_wp2_with fail
      refine (or_any Lm1 La6 w17 qm1 qa6 zm1 za6).mono ?_
      rintro e w18 ⟨vo5, Lo5, rfl, zo5, qo5, ho5, b18⟩
      have bb18 : Below w.heap.size w w18 := bb17.trans (b18.mono bb17.size)
      have zm1 := zm1.belows b18
      have za6 := za6.belows b18
      go_wp2_with fail
      refine (same_zn zo5 (HX.out w18 bb18) qo5 hX (fun a ha => by simp only [ho5 a ha, hm1 a ha, ha6 a ha]; cases has X a <;> cases has Y a <;> cases has Z a <;> rfl)).mono ?_
      rintro e w19 ⟨rfl, b19⟩
      have bb19 : Below w.heap.size w w19 := bb18.trans (b19.mono bb18.size)
      have zm1 := zm1.belows b19
      have za6 := za6.belows b19
      have zo5 := zo5.belows b19
      clear zm1 za6 zo5
      go_wp2_with fail
      refine (minus_any X X w19 hX hX (HX.out w19 bb19) (HX.out w19 bb19)).mono ?_
      rintro e w20 ⟨vm2, Lm2, rfl, zm2, qm2, hm2, b20⟩
      have bb20 : Below w.heap.size w w20 := bb19.trans (b20.mono bb19.size)
      have em2 : Lm2 = [] := Zn.eq qm2 ⟨trivial, fun r hr => by simp at hr⟩ (fun a ha => by simp only [hm2 a ha, has_nil]; cases has X a <;> rfl)
      subst em2
      obtain ⟨Pm2, km2, rfl, _⟩ := zm2
      go_wp2_with fail
      refine (all_any w20).mono ?_
      rintro e w21 ⟨vall1, rfl, zall1, b21⟩
      have bb21 : Below w.heap.size w w21 := bb20.trans (b21.mono bb20.size)
      go_wp2_with fail
      refine (or_any X Y w21 hX hY (HX.out w21 bb21) (HY.out w21 bb21)).mono ?_
      rintro e w22 ⟨vo6, Lo6, rfl, zo6, qo6, ho6, b22⟩
      have bb22 : Below w.heap.size w w22 := bb21.trans (b22.mono bb21.size)
      have zall1 := zall1.belows b22
      go_wp2_with fail
      refine (minus_any all0 Lo6 w22 all0_zn qo6 zall1 zo6).mono ?_
      rintro e w23 ⟨vm3, Lm3, rfl, zm3, qm3, hm3, b23⟩
      have bb23 : Below w.heap.size w w23 := bb22.trans (b23.mono bb22.size)
      have zall1 := zall1.belows b23
      have zo6 := zo6.belows b23
      go_wp2_with fail
      refine (all_any w23).mono ?_
      rintro e w24 ⟨vall2, rfl, zall2, b24⟩
      have bb24 : Below w.heap.size w w24 := bb23.trans (b24.mono bb23.size)
      have zall1 := zall1.belows b24
      have zo6 := zo6.belows b24
      have zm3 := zm3.belows b24
      go_wp2_with fail
      refine (minus_any all0 X w24 all0_zn hX zall2 (HX.out w24 bb24)).mono ?_
      rintro e w25 ⟨vm4, Lm4, rfl, zm4, qm4, hm4, b25⟩
      have bb25 : Below w.heap.size w w25 := bb24.trans (b25.mono bb24.size)
      have zall1 := zall1.belows b25
      have zo6 := zo6.belows b25
      have zm3 := zm3.belows b25
      have zall2 := zall2.belows b25
      go_wp2_with fail
      refine (all_any w25).mono ?_
      rintro e w26 ⟨vall3, rfl, zall3, b26⟩
      have bb26 : Below w.heap.size w w26 := bb25.trans (b26.mono bb25.size)
      have zall1 := zall1.belows b26
      have zo6 := zo6.belows b26
      have zm3 := zm3.belows b26
      have zall2 := zall2.belows b26
      have zm4 := zm4.belows b26
      go_wp2_with fail
      refine (minus_any all0 Y w26 all0_zn hY zall3 (HY.out w26 bb26)).mono ?_
      rintro e w27 ⟨vm5, Lm5, rfl, zm5, qm5, hm5, b27⟩
      have bb27 : Below w.heap.size w w27 := bb26.trans (b27.mono bb26.size)
      have zall1 := zall1.belows b27
      have zo6 := zo6.belows b27
      have zm3 := zm3.belows b27
      have zall2 := zall2.belows b27
      have zm4 := zm4.belows b27
      have zall3 := zall3.belows b27
      go_wp2_with fail
      refine (and_any Lm4 Lm5 w27 qm4 qm5 zm4 zm5).mono ?_
      rintro e w28 ⟨va7, La7, rfl, za7, qa7, ha7, b28⟩
      have bb28 : Below w.heap.size w w28 := bb27.trans (b28.mono bb27.size)
      have zall1 := zall1.belows b28
      have zo6 := zo6.belows b28
      have zm3 := zm3.belows b28
      have zall2 := zall2.belows b28
      have zm4 := zm4.belows b28
      have zall3 := zall3.belows b28
      have zm5 := zm5.belows b28
      go_wp2_with fail
      refine (same_zn zm3 za7 qm3 qa7 (fun a ha => by simp only [hm3 a ha, ho6 a ha, ha7 a ha, hm4 a ha, hm5 a ha, has_all0 a ha]; cases has X a <;> cases has Y a <;> rfl)).mono ?_
      rintro e w29 ⟨rfl, b29⟩
      have bb29 : Below w.heap.size w w29 := bb28.trans (b29.mono bb28.size)
      have zall1 := zall1.belows b29
      have zo6 := zo6.belows b29
      have zm3 := zm3.belows b29
      have zall2 := zall2.belows b29
      have zm4 := zm4.belows b29
      have zall3 := zall3.belows b29
      have zm5 := zm5.belows b29
      have za7 := za7.belows b29
      clear zall1 zo6 zm3 zall2 zm4 zall3 zm5 za7
      go_wp2_with fail
      refine (and_any X Y w29 hX hY (HX.out w29 bb29) (HY.out w29 bb29)).mono ?_
      rintro e w30 ⟨va8, La8, rfl, za8, qa8, ha8, b30⟩
      have bb30 : Below w.heap.size w w30 := bb29.trans (b30.mono bb29.size)
      go_wp2_with fail
      refine (count_any La8 w30 qa8.1 qa8.2 za8).mono ?_
      rintro e w31 ⟨rfl, b31⟩
      have bb31 : Below w.heap.size w w31 := bb30.trans (b31.mono bb30.size)
      have za8 := za8.belows b31
      go_wp2_with fail
      refine (or_any X Y w31 hX hY (HX.out w31 bb31) (HY.out w31 bb31)).mono ?_
      rintro e w32 ⟨vo7, Lo7, rfl, zo7, qo7, ho7, b32⟩
      have bb32 : Below w.heap.size w w32 := bb31.trans (b32.mono bb31.size)
      have za8 := za8.belows b32
      go_wp2_with fail
      refine (count_any Lo7 w32 qo7.1 qo7.2 zo7).mono ?_
      rintro e w33 ⟨rfl, b33⟩
      have bb33 : Below w.heap.size w w33 := bb32.trans (b33.mono bb32.size)
      have za8 := za8.belows b33
      have zo7 := zo7.belows b33
      go_wp2_with fail
      refine (count_any X w33 hX.1 hX.2 (HX.out w33 bb33)).mono ?_
      rintro e w34 ⟨rfl, b34⟩
      have bb34 : Below w.heap.size w w34 := bb33.trans (b34.mono bb33.size)
      have za8 := za8.belows b34
      have zo7 := zo7.belows b34
      go_wp2_with fail
      refine (count_any Y w34 hY.1 hY.2 (HY.out w34 bb34)).mono ?_
      rintro e w35 ⟨rfl, b35⟩
      have bb35 : Below w.heap.size w w35 := bb34.trans (b35.mono bb34.size)
      have za8 := za8.belows b35
      have zo7 := zo7.belows b35
      have hcnt : count La8 + count Lo7 = count X + count Y := count_both hX hY qa8 qo7 ha8 ho7
      have l1 := count_le qa8.1 qa8.2
      have l2 := count_le qo7.1 qo7.2
      have l3 := count_le hX.1 hX.2
      have l4 := count_le hY.1 hY.2
      generalize count La8 = n1 at hcnt l1 ⊢
      generalize count Lo7 = n2 at hcnt l2 ⊢
      generalize count X = n3 at hcnt l3 ⊢
      generalize count Y = n4 at hcnt l4 ⊢
      have hd : ((n1 : Int) + (n2 : Int) == (n3 : Int) + (n4 : Int)) = true := by rw [beq_iff_eq]; omega
      have hd2 : (n1 + n2 == n3 + n4) = true := by rw [beq_iff_eq]; omega
      clear hcnt
      clear za8 zo7
      go_wp2_with fail
      refine (alive_any w35).mono ?_
      rintro e w36 ⟨rfl, b36⟩
      have bb36 : Below w.heap.size w w36 := bb35.trans (b36.mono bb35.size)
      go_wp2_with fail
      refine (or_any X Y w36 hX hY (HX.out w36 bb36) (HY.out w36 bb36)).mono ?_
      rintro e w37 ⟨vo8, Lo8, rfl, zo8, qo8, ho8, b37⟩
      have bb37 : Below w.heap.size w w37 := bb36.trans (b37.mono bb36.size)
      go_wp2_with fail
      refine (right_any Lo8 w37 qo8.u32 zo8).mono ?_
      rintro e w38 ⟨rfl, b38⟩
      rw [rzB_iff.2 qo8.1]
      have bb38 : Below w.heap.size w w38 := bb37.trans (b38.mono bb37.size)
      have zo8 := zo8.belows b38
      go_wp2_with fail
      refine (minus_any X Y w38 hX hY (HX.out w38 bb38) (HY.out w38 bb38)).mono ?_
      rintro e w39 ⟨vm6, Lm6, rfl, zm6, qm6, hm6, b39⟩
      have bb39 : Below w.heap.size w w39 := bb38.trans (b39.mono bb38.size)
      have zo8 := zo8.belows b39
      go_wp2_with fail
      refine (right_any Lm6 w39 qm6.u32 zm6).mono ?_
      rintro e w40 ⟨rfl, b40⟩
      rw [rzB_iff.2 qm6.1]
      have bb40 : Below w.heap.size w w40 := bb39.trans (b40.mono bb39.size)
      have zo8 := zo8.belows b40
      have zm6 := zm6.belows b40
      go_wp2_with fail
      refine (and_any X Y w40 hX hY (HX.out w40 bb40) (HY.out w40 bb40)).mono ?_
      rintro e w41 ⟨va9, La9, rfl, za9, qa9, ha9, b41⟩
      have bb41 : Below w.heap.size w w41 := bb40.trans (b41.mono bb40.size)
      have zo8 := zo8.belows b41
      have zm6 := zm6.belows b41
      go_wp2_with fail
      refine (right_any La9 w41 qa9.u32 za9).mono ?_
      rintro e w42 ⟨rfl, b42⟩
      rw [rzB_iff.2 qa9.1]
      have bb42 : Below w.heap.size w w42 := bb41.trans (b42.mono bb41.size)
      have zo8 := zo8.belows b42
      have zm6 := zm6.belows b42
      have za9 := za9.belows b42
      go_wp2
      go_ret
      exact ⟨rfl, bb42⟩
end Go.Proofs.Ytonhmppobdbidaa
