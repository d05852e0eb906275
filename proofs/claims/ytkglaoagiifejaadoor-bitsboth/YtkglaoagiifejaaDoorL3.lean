/- BitsBoth, walked. -/
import Derived.Test.YtkglaoagiifejaaDoorA2
import Derived.Test.YtkglaoagiifejaaDoorR3
namespace Go.Proofs.YtkglaoagiifejaaDoor
open Go.RowKit Go.Shelf

theorem sup_and {n : Nat} {p q : Nat → Bool} (h : Sup n p) : Sup n (fun i => p i && q i) := fun j hj => by simp [h j hj]
theorem sup_or {n : Nat} {p q : Nat → Bool} (h : Sup n p) (h' : Sup n q) : Sup n (fun i => p i || q i) := fun j hj => by simp [h j hj, h' j hj]
theorem sup_minus {n : Nat} {p q : Nat → Bool} (h : Sup n p) : Sup n (fun i => p i && !q i) := fun j hj => by simp [h j hj]
set_option maxRecDepth 100000 in
set_option maxHeartbeats 3000000 in
theorem both_walk {v v' : Value} (size : Int) (L M : List Int) (other : Int) (w : World) (hL : IsV w v (ints L)) (hM : IsV w v' (ints M)) (hT : Tb w) : Calls Tryd.prog 5 #[.int .i64 size, .agg #[v, v'], .int .i64 other] w fun e w' => e = .returned (.bool true) ∧ Below w.heap.size w w' := by
  have HX : Hid (∀ u, Below w.heap.size w u → Tb u) := Lib.hid fun u hu => hT.belows hu
  have HL := Lib.hid hL
  have HM := Lib.hid hM
  obtain ⟨A, c, rfl, h1, h2, _⟩ := hL
  obtain ⟨A', c', rfl, h1', h2', _⟩ := hM
  have hl1 : (ints L).length = L.length := by simp [ints]
  have hl2 : (ints M).length = M.length := by simp [ints]
  rw [hl1] at h1 HL ⊢
  rw [hl2] at h1' HM ⊢
  clear hl1 hl2
  simp only [maxLen] at h2 h2'
  have b0 : Below w.heap.size w (w.alloc (.cells #[.slice A L.length c, .slice A' M.length c'] 41)) := (Below.refl _ w).alloc (Nat.le_refl _) _
  have HD : Hid (At (w.alloc (.cells #[.slice A L.length c, .slice A' M.length c'] 41)) w.heap.size #[.slice A L.length c, .slice A' M.length c'] 41) := Lib.hid (At.new w _ _)
  replace HL := Lib.hid (HL.out.belows b0)
  replace HM := Lib.hid (HM.out.belows b0)
  have HT := Lib.hid (HX.out _ b0)
  clear hT
  have c0 := (HD.out.cell 0).trans rfl
  have c1 := (HD.out.cell 1).trans rfl
  have hal := alive_any _ HT.out
  by_cases hm : 200 < L.length
  · have hm' : decide ((200 : Int) < (L.length : Int)) = true := by simp; omega
    go_enter Tryd.func5, Tryd.ntmps5
    go_wp2_with fail
    refine hal.mono ?_
    rintro e w1 ⟨rfl, b1⟩
    go_wp2
    go_ret
    exact ⟨rfl, b0.trans (b1.mono b0.size)⟩
  have hm1 : decide ((200 : Int) < (L.length : Int)) = false := by simp; omega
  by_cases hm2 : 200 < M.length
  · have hm' : decide ((200 : Int) < (M.length : Int)) = true := by simp; omega
    go_enter Tryd.func5, Tryd.ntmps5
    go_wp2_with fail
    refine hal.mono ?_
    rintro e w1 ⟨rfl, b1⟩
    go_wp2
    go_ret
    exact ⟨rfl, b0.trans (b1.mono b0.size)⟩
  have hm2' : decide ((200 : Int) < (M.length : Int)) = false := by simp; omega
  have hof := of_any size L _ HL.out
  go_enter Tryd.func5, Tryd.ntmps5
  go_wp2_with fail
  clear hal
  generalize w.alloc (.cells #[.slice A L.length c, .slice A' M.length c'] 41) = w0 at *
  refine hof.mono ?_
  clear hof
  rintro e w1 (⟨hg, v1, n, hn, rfl, hf, b1⟩ | ⟨hg, rfl, b1⟩)
  rotate_left
  · have bb1 := b0.trans (b1.mono b0.size)
    have ho := of_any size M w1 (HM.out.belows b1)
    have d1 := ((HD.out.belows b1).cell 1).trans rfl
    clear hg
    go_wp2_with fail
    refine ho.mono ?_
    rintro e w2 (⟨hg2, v2, n2, hn2, rfl, hf2, b2⟩ | ⟨hg2, rfl, b2⟩)
    · have bb2 := bb1.trans (b2.mono bb1.size)
      obtain ⟨B2, C2, rfl, _⟩ := hf2
      clear hn2
      go_wp2_with fail
      refine (alive_any _ (HX.out _ bb2)).mono ?_
      rintro e w3 ⟨rfl, b3⟩
      go_wp2
      go_ret
      exact ⟨rfl, bb2.trans (b3.mono bb2.size)⟩
    · have bb2 := bb1.trans (b2.mono bb1.size)
      go_wp2_with fail
      refine (alive_any _ (HX.out _ bb2)).mono ?_
      rintro e w3 ⟨rfl, b3⟩
      go_wp2
      go_ret
      exact ⟨rfl, bb2.trans (b3.mono bb2.size)⟩
  subst hn
  have hn1 : n ≤ 1024 := by have := hg.2.1; omega
  have hsup := inL_sup hg.2.2
  have HG := Lib.hid hg
  clear hg c0 c1
  have bb1 := b0.trans (b1.mono b0.size)
  replace HL := Lib.hid (HL.out.belows b1)
  replace HM := Lib.hid (HM.out.belows b1)
  replace HD := Lib.hid (HD.out.belows b1)
  replace HT := Lib.hid (HT.out.belows b1)
  clear b1
  have s0 := hf.isSet hsup hn1
  obtain ⟨As, rfl⟩ := s0.ptr
  have Hs := Lib.hid s0
  clear s0 hf
  have d1 := (HD.out.cell 1).trans rfl
  go_wp2_with fail
  refine (of_any (n : Int) M _ HM.out).mono ?_
  rintro e w2 (⟨hg2, v2, n2, hn2, rfl, hf, b2⟩ | ⟨hg2, rfl, b2⟩)
  rotate_left
  · have bb2 := bb1.trans (b2.mono bb1.size)
    go_wp2_with fail
    refine (alive_any _ (HX.out _ bb2)).mono ?_
    rintro e w3 ⟨rfl, b3⟩
    go_wp2
    go_ret
    exact ⟨rfl, bb2.trans (b3.mono bb2.size)⟩
  obtain rfl : n2 = n := by omega
  have hsup2 := inL_sup hg2.2.2
  have HG2 := Lib.hid hg2
  clear hg2 hn2 d1
  have bb2 := bb1.trans (b2.mono bb1.size)
  replace HL := Lib.hid (HL.out.belows b2)
  replace HM := Lib.hid (HM.out.belows b2)
  replace HD := Lib.hid (HD.out.belows b2)
  replace HT := Lib.hid (HT.out.belows b2)
  replace Hs := Lib.hid (Hs.out.belows b2)
  clear b2
  have s0 := hf.isSet hsup2 hn1
  obtain ⟨At, rfl⟩ := s0.ptr
  have Ht := Lib.hid s0
  clear s0 hf
  clear hm1 hm2'
  have c0 := (HD.out.cell 0).trans rfl
  go_wp2_with fail
  refine (rof_any (n2 : Int) L _ HL.out).mono ?_
  rintro e w3 (⟨_, v3, n3, hn3, rfl, hv, b3⟩ | ⟨hg3, _⟩)
  rotate_left
  · exact absurd HG.out hg3
  obtain rfl : n3 = n2 := by omega
  clear hn3 c0
  have bb3 := bb2.trans (b3.mono bb2.size)
  replace HL := Lib.hid (HL.out.belows b3)
  replace HM := Lib.hid (HM.out.belows b3)
  replace HD := Lib.hid (HD.out.belows b3)
  replace HT := Lib.hid (HT.out.belows b3)
  replace Hs := Lib.hid (Hs.out.belows b3)
  replace Ht := Lib.hid (Ht.out.belows b3)
  clear b3
  have Hm := Lib.hid hv
  obtain ⟨Am, cm, rfl, _, _, _⟩ := hv
  have c1 := (HD.out.cell 1).trans rfl
  go_wp2_with fail
  refine (rof_any (n3 : Int) M _ HM.out).mono ?_
  rintro e w4 (⟨_, v4, n4, hn4, rfl, hv, b4⟩ | ⟨hg4, _⟩)
  rotate_left
  · exact absurd HG2.out hg4
  obtain rfl : n4 = n3 := by omega
  clear hn4 c1
  have bb4 := bb3.trans (b4.mono bb3.size)
  replace HL := Lib.hid (HL.out.belows b4)
  replace HM := Lib.hid (HM.out.belows b4)
  replace HD := Lib.hid (HD.out.belows b4)
  replace HT := Lib.hid (HT.out.belows b4)
  replace Hs := Lib.hid (Hs.out.belows b4)
  replace Ht := Lib.hid (Ht.out.belows b4)
  replace Hm := Lib.hid (Hm.out.belows b4)
  clear b4
  have Hn := Lib.hid hv
  obtain ⟨An, cn, rfl, _, _, _⟩ := hv
  clear HD HL HM HG HG2
  generalize inL L = p at *
  generalize inL M = q at *
  go_wp2_with fail
  refine (and_any n4 n4 _ _ _ Hs.out Ht.out).mono ?_
  rintro e w5 (⟨_, v5, rfl, hf, b5⟩ | ⟨hne, _⟩)
  rotate_left
  · exact absurd rfl hne
  have bb5 := bb4.trans (b5.mono bb4.size)
  replace HT := Lib.hid (HT.out.belows b5)
  replace Hs := Lib.hid (Hs.out.belows b5)
  replace Ht := Lib.hid (Ht.out.belows b5)
  replace Hm := Lib.hid (Hm.out.belows b5)
  replace Hn := Lib.hid (Hn.out.belows b5)
  clear b5
  have s0 := hf.isSet (sup_and hsup) hn1
  obtain ⟨Aa, rfl⟩ := s0.ptr
  have Ha := Lib.hid s0
  clear s0 hf
  go_wp2_with fail
  refine (or_any n4 n4 _ _ _ Hs.out Ht.out).mono ?_
  rintro e w6 (⟨_, v6, rfl, hf, b6⟩ | ⟨hne, _⟩)
  rotate_left
  · exact absurd rfl hne
  have bb6 := bb5.trans (b6.mono bb5.size)
  replace HT := Lib.hid (HT.out.belows b6)
  replace Hs := Lib.hid (Hs.out.belows b6)
  replace Ht := Lib.hid (Ht.out.belows b6)
  replace Hm := Lib.hid (Hm.out.belows b6)
  replace Hn := Lib.hid (Hn.out.belows b6)
  replace Ha := Lib.hid (Ha.out.belows b6)
  clear b6
  have s0 := hf.isSet (sup_or hsup hsup2) hn1
  obtain ⟨Ab, rfl⟩ := s0.ptr
  have Hb := Lib.hid s0
  clear s0 hf
  go_wp2_with fail
  refine (minus_any n4 n4 _ _ _ Hs.out Ht.out).mono ?_
  rintro e w7 (⟨_, v7, rfl, hf, b7⟩ | ⟨hne, _⟩)
  rotate_left
  · exact absurd rfl hne
  have bb7 := bb6.trans (b7.mono bb6.size)
  replace HT := Lib.hid (HT.out.belows b7)
  replace Hs := Lib.hid (Hs.out.belows b7)
  replace Ht := Lib.hid (Ht.out.belows b7)
  replace Hm := Lib.hid (Hm.out.belows b7)
  replace Hn := Lib.hid (Hn.out.belows b7)
  replace Ha := Lib.hid (Ha.out.belows b7)
  replace Hb := Lib.hid (Hb.out.belows b7)
  clear b7
  have s0 := hf.isSet (sup_minus hsup) hn1
  obtain ⟨Ac, rfl⟩ := s0.ptr
  have Hc := Lib.hid s0
  clear s0 hf
  go_wp2_with fail
  refine (rwith_any n4 _ 0 (n4 : Int) _ hn1 Hm.out).mono ?_
  rintro e w8 (⟨_, v8, rfl, hv, b8⟩ | ⟨hne, _⟩)
  rotate_left
  · exact absurd ⟨by omega, by omega, by omega⟩ hne
  have bb8 := bb7.trans (b8.mono bb7.size)
  replace HT := Lib.hid (HT.out.belows b8)
  replace Hs := Lib.hid (Hs.out.belows b8)
  replace Ht := Lib.hid (Ht.out.belows b8)
  replace Hm := Lib.hid (Hm.out.belows b8)
  replace Hn := Lib.hid (Hn.out.belows b8)
  replace Ha := Lib.hid (Ha.out.belows b8)
  replace Hb := Lib.hid (Hb.out.belows b8)
  replace Hc := Lib.hid (Hc.out.belows b8)
  clear b8
  have Hall := Lib.hid hv
  obtain ⟨Aall, call, rfl, _, _, _⟩ := hv
  go_wp2_with fail
  refine (rand_any n4 _ _ _ hn1 Hm.out Hn.out).mono ?_
  rintro e w9 ⟨v9, rfl, hv, b9⟩
  have bb9 := bb8.trans (b9.mono bb8.size)
  replace HT := Lib.hid (HT.out.belows b9)
  replace Hs := Lib.hid (Hs.out.belows b9)
  replace Ht := Lib.hid (Ht.out.belows b9)
  replace Hm := Lib.hid (Hm.out.belows b9)
  replace Hn := Lib.hid (Hn.out.belows b9)
  replace Ha := Lib.hid (Ha.out.belows b9)
  replace Hb := Lib.hid (Hb.out.belows b9)
  replace Hc := Lib.hid (Hc.out.belows b9)
  replace Hall := Lib.hid (Hall.out.belows b9)
  clear b9
  have Hx1 := Lib.hid hv
  obtain ⟨Ax1, cx1, rfl, _, _, _⟩ := hv
  go_wp2_with fail
  refine (same_any n4 _ _ Ha.out Hx1.out HT.out).mono ?_
  rintro e w10 ⟨rfl, b10⟩
  have bb10 := bb9.trans (b10.mono bb9.size)
  replace HT := Lib.hid (HT.out.belows b10)
  replace Hs := Lib.hid (Hs.out.belows b10)
  replace Ht := Lib.hid (Ht.out.belows b10)
  replace Hm := Lib.hid (Hm.out.belows b10)
  replace Hn := Lib.hid (Hn.out.belows b10)
  replace Ha := Lib.hid (Ha.out.belows b10)
  replace Hb := Lib.hid (Hb.out.belows b10)
  replace Hc := Lib.hid (Hc.out.belows b10)
  replace Hall := Lib.hid (Hall.out.belows b10)
  replace Hx1 := Lib.hid (Hx1.out.belows b10)
  clear b10
  go_wp2_with fail
  refine (ror_any n4 _ _ _ hn1 Hm.out Hn.out).mono ?_
  rintro e w11 ⟨v11, rfl, hv, b11⟩
  have bb11 := bb10.trans (b11.mono bb10.size)
  replace HT := Lib.hid (HT.out.belows b11)
  replace Hs := Lib.hid (Hs.out.belows b11)
  replace Ht := Lib.hid (Ht.out.belows b11)
  replace Hm := Lib.hid (Hm.out.belows b11)
  replace Hn := Lib.hid (Hn.out.belows b11)
  replace Ha := Lib.hid (Ha.out.belows b11)
  replace Hb := Lib.hid (Hb.out.belows b11)
  replace Hc := Lib.hid (Hc.out.belows b11)
  replace Hall := Lib.hid (Hall.out.belows b11)
  replace Hx1 := Lib.hid (Hx1.out.belows b11)
  clear b11
  have Hx2 := Lib.hid hv
  obtain ⟨Ax2, cx2, rfl, _, _, _⟩ := hv
  go_wp2_with fail
  refine (same_any n4 _ _ Hb.out Hx2.out HT.out).mono ?_
  rintro e w12 ⟨rfl, b12⟩
  have bb12 := bb11.trans (b12.mono bb11.size)
  replace HT := Lib.hid (HT.out.belows b12)
  replace Hs := Lib.hid (Hs.out.belows b12)
  replace Ht := Lib.hid (Ht.out.belows b12)
  replace Hm := Lib.hid (Hm.out.belows b12)
  replace Hn := Lib.hid (Hn.out.belows b12)
  replace Ha := Lib.hid (Ha.out.belows b12)
  replace Hb := Lib.hid (Hb.out.belows b12)
  replace Hc := Lib.hid (Hc.out.belows b12)
  replace Hall := Lib.hid (Hall.out.belows b12)
  replace Hx1 := Lib.hid (Hx1.out.belows b12)
  replace Hx2 := Lib.hid (Hx2.out.belows b12)
  clear b12
  go_wp2_with fail
  refine (rminus_any n4 _ _ _ hn1 Hm.out Hn.out).mono ?_
  rintro e w13 ⟨v13, rfl, hv, b13⟩
  have bb13 := bb12.trans (b13.mono bb12.size)
  replace HT := Lib.hid (HT.out.belows b13)
  replace Hs := Lib.hid (Hs.out.belows b13)
  replace Ht := Lib.hid (Ht.out.belows b13)
  replace Hm := Lib.hid (Hm.out.belows b13)
  replace Hn := Lib.hid (Hn.out.belows b13)
  replace Ha := Lib.hid (Ha.out.belows b13)
  replace Hb := Lib.hid (Hb.out.belows b13)
  replace Hc := Lib.hid (Hc.out.belows b13)
  replace Hall := Lib.hid (Hall.out.belows b13)
  replace Hx1 := Lib.hid (Hx1.out.belows b13)
  replace Hx2 := Lib.hid (Hx2.out.belows b13)
  clear b13
  have Hx3 := Lib.hid hv
  obtain ⟨Ax3, cx3, rfl, _, _, _⟩ := hv
  go_wp2_with fail
  refine (same_any n4 _ _ Hc.out Hx3.out HT.out).mono ?_
  rintro e w14 ⟨rfl, b14⟩
  have bb14 := bb13.trans (b14.mono bb13.size)
  replace HT := Lib.hid (HT.out.belows b14)
  replace Hs := Lib.hid (Hs.out.belows b14)
  replace Ht := Lib.hid (Ht.out.belows b14)
  replace Hm := Lib.hid (Hm.out.belows b14)
  replace Hn := Lib.hid (Hn.out.belows b14)
  replace Ha := Lib.hid (Ha.out.belows b14)
  replace Hb := Lib.hid (Hb.out.belows b14)
  replace Hc := Lib.hid (Hc.out.belows b14)
  replace Hall := Lib.hid (Hall.out.belows b14)
  replace Hx1 := Lib.hid (Hx1.out.belows b14)
  replace Hx2 := Lib.hid (Hx2.out.belows b14)
  replace Hx3 := Lib.hid (Hx3.out.belows b14)
  clear b14
  go_wp2_with fail
  refine (not_any n4 _ _ Hs.out).mono ?_
  rintro e w15 ⟨v15, rfl, hf, b15⟩
  have bb15 := bb14.trans (b15.mono bb14.size)
  replace HT := Lib.hid (HT.out.belows b15)
  replace Hs := Lib.hid (Hs.out.belows b15)
  replace Ht := Lib.hid (Ht.out.belows b15)
  replace Hm := Lib.hid (Hm.out.belows b15)
  replace Hn := Lib.hid (Hn.out.belows b15)
  replace Ha := Lib.hid (Ha.out.belows b15)
  replace Hb := Lib.hid (Hb.out.belows b15)
  replace Hc := Lib.hid (Hc.out.belows b15)
  replace Hall := Lib.hid (Hall.out.belows b15)
  replace Hx1 := Lib.hid (Hx1.out.belows b15)
  replace Hx2 := Lib.hid (Hx2.out.belows b15)
  replace Hx3 := Lib.hid (Hx3.out.belows b15)
  clear b15
  have s0 := hf.isSet (notP_sup _ _) hn1
  obtain ⟨Ans, rfl⟩ := s0.ptr
  have Hns := Lib.hid s0
  clear s0 hf
  go_wp2_with fail
  refine (rminus_any n4 _ _ _ hn1 Hall.out Hm.out).mono ?_
  rintro e w16 ⟨v16, rfl, hv, b16⟩
  have bb16 := bb15.trans (b16.mono bb15.size)
  replace HT := Lib.hid (HT.out.belows b16)
  replace Hs := Lib.hid (Hs.out.belows b16)
  replace Ht := Lib.hid (Ht.out.belows b16)
  replace Hm := Lib.hid (Hm.out.belows b16)
  replace Hn := Lib.hid (Hn.out.belows b16)
  replace Ha := Lib.hid (Ha.out.belows b16)
  replace Hb := Lib.hid (Hb.out.belows b16)
  replace Hc := Lib.hid (Hc.out.belows b16)
  replace Hall := Lib.hid (Hall.out.belows b16)
  replace Hx1 := Lib.hid (Hx1.out.belows b16)
  replace Hx2 := Lib.hid (Hx2.out.belows b16)
  replace Hx3 := Lib.hid (Hx3.out.belows b16)
  replace Hns := Lib.hid (Hns.out.belows b16)
  clear b16
  rw [bl_congr (p := fun i => addW p 0 (n4 : Int) i && !p i) (q := notP p n4) (fun j hj => by
    have h1 : blw (n4 : Int) j = true := by simp [blw]; omega
    have h2 : blw 0 j = false := by simp [blw]
    simp [addW, notP, h1, h2])] at hv
  have Hx5 := Lib.hid hv
  obtain ⟨Ax5, cx5, rfl, _, _, _⟩ := hv
  go_wp2_with fail
  refine (same_any n4 _ _ Hns.out Hx5.out HT.out).mono ?_
  rintro e w17 ⟨rfl, b17⟩
  have bb17 := bb16.trans (b17.mono bb16.size)
  replace HT := Lib.hid (HT.out.belows b17)
  replace Hs := Lib.hid (Hs.out.belows b17)
  replace Ht := Lib.hid (Ht.out.belows b17)
  replace Hm := Lib.hid (Hm.out.belows b17)
  replace Hn := Lib.hid (Hn.out.belows b17)
  replace Ha := Lib.hid (Ha.out.belows b17)
  replace Hb := Lib.hid (Hb.out.belows b17)
  replace Hc := Lib.hid (Hc.out.belows b17)
  replace Hall := Lib.hid (Hall.out.belows b17)
  replace Hx1 := Lib.hid (Hx1.out.belows b17)
  replace Hx2 := Lib.hid (Hx2.out.belows b17)
  replace Hx3 := Lib.hid (Hx3.out.belows b17)
  replace Hns := Lib.hid (Hns.out.belows b17)
  replace Hx5 := Lib.hid (Hx5.out.belows b17)
  clear b17
  go_wp2_with fail
  refine (same_any n4 _ _ Hs.out Hm.out HT.out).mono ?_
  rintro e w18 ⟨rfl, b18⟩
  have bb18 := bb17.trans (b18.mono bb17.size)
  replace HT := Lib.hid (HT.out.belows b18)
  replace Hs := Lib.hid (Hs.out.belows b18)
  replace Ht := Lib.hid (Ht.out.belows b18)
  replace Hm := Lib.hid (Hm.out.belows b18)
  replace Hn := Lib.hid (Hn.out.belows b18)
  replace Ha := Lib.hid (Ha.out.belows b18)
  replace Hb := Lib.hid (Hb.out.belows b18)
  replace Hc := Lib.hid (Hc.out.belows b18)
  replace Hall := Lib.hid (Hall.out.belows b18)
  replace Hx1 := Lib.hid (Hx1.out.belows b18)
  replace Hx2 := Lib.hid (Hx2.out.belows b18)
  replace Hx3 := Lib.hid (Hx3.out.belows b18)
  replace Hns := Lib.hid (Hns.out.belows b18)
  replace Hx5 := Lib.hid (Hx5.out.belows b18)
  clear b18
  go_wp2_with fail
  refine (same_any n4 _ _ Ht.out Hn.out HT.out).mono ?_
  rintro e w19 ⟨rfl, b19⟩
  have bb19 := bb18.trans (b19.mono bb18.size)
  replace HT := Lib.hid (HT.out.belows b19)
  replace Hs := Lib.hid (Hs.out.belows b19)
  replace Ht := Lib.hid (Ht.out.belows b19)
  replace Hm := Lib.hid (Hm.out.belows b19)
  replace Hn := Lib.hid (Hn.out.belows b19)
  replace Ha := Lib.hid (Ha.out.belows b19)
  replace Hb := Lib.hid (Hb.out.belows b19)
  replace Hc := Lib.hid (Hc.out.belows b19)
  replace Hall := Lib.hid (Hall.out.belows b19)
  replace Hx1 := Lib.hid (Hx1.out.belows b19)
  replace Hx2 := Lib.hid (Hx2.out.belows b19)
  replace Hx3 := Lib.hid (Hx3.out.belows b19)
  replace Hns := Lib.hid (Hns.out.belows b19)
  replace Hx5 := Lib.hid (Hx5.out.belows b19)
  clear b19
  go_wp2_with fail
  refine (new_any other _).mono ?_
  rintro e w20 (⟨hgo, v20, no, hno, rfl, hf, b20⟩ | ⟨hgo, rfl, b20⟩)
  · subst hno
    have hno1 : no ≤ 1024 := by have := hgo.2.1; omega
    have hsup3 := inL_sup hgo.2.2
    clear hgo
    have bb20 := bb19.trans (b20.mono bb19.size)
    replace HT := Lib.hid (HT.out.belows b20)
    replace Hs := Lib.hid (Hs.out.belows b20)
    replace Ht := Lib.hid (Ht.out.belows b20)
    replace Hm := Lib.hid (Hm.out.belows b20)
    replace Hn := Lib.hid (Hn.out.belows b20)
    replace Ha := Lib.hid (Ha.out.belows b20)
    replace Hb := Lib.hid (Hb.out.belows b20)
    replace Hc := Lib.hid (Hc.out.belows b20)
    replace Hall := Lib.hid (Hall.out.belows b20)
    replace Hx1 := Lib.hid (Hx1.out.belows b20)
    replace Hx2 := Lib.hid (Hx2.out.belows b20)
    replace Hx3 := Lib.hid (Hx3.out.belows b20)
    replace Hns := Lib.hid (Hns.out.belows b20)
    replace Hx5 := Lib.hid (Hx5.out.belows b20)
    clear b20
    have s0 := hf.isSet hsup3 hno1
    obtain ⟨Au, rfl⟩ := s0.ptr
    have Hu := Lib.hid s0
    clear s0 hf
    go_wp2_with fail
    refine (and_any n4 no _ _ _ Hs.out Hu.out).mono ?_
    rintro e w21 (⟨heq, v21, rfl, hf, b21⟩ | ⟨hne, rfl, b21⟩)
    · have bb21 := bb20.trans (b21.mono bb20.size)
      replace HT := Lib.hid (HT.out.belows b21)
      replace Hs := Lib.hid (Hs.out.belows b21)
      replace Ht := Lib.hid (Ht.out.belows b21)
      replace Hm := Lib.hid (Hm.out.belows b21)
      replace Hn := Lib.hid (Hn.out.belows b21)
      replace Ha := Lib.hid (Ha.out.belows b21)
      replace Hb := Lib.hid (Hb.out.belows b21)
      replace Hc := Lib.hid (Hc.out.belows b21)
      replace Hall := Lib.hid (Hall.out.belows b21)
      replace Hx1 := Lib.hid (Hx1.out.belows b21)
      replace Hx2 := Lib.hid (Hx2.out.belows b21)
      replace Hx3 := Lib.hid (Hx3.out.belows b21)
      replace Hns := Lib.hid (Hns.out.belows b21)
      replace Hx5 := Lib.hid (Hx5.out.belows b21)
      replace Hu := Lib.hid (Hu.out.belows b21)
      clear b21
      subst heq
      obtain ⟨Bz, Cz, rfl, _⟩ := hf
      go_wp2_with fail
      refine (alive_any _ HT.out).mono ?_
      rintro e w22 ⟨rfl, b22⟩
      have bb22 := bb21.trans (b22.mono bb21.size)
      replace HT := Lib.hid (HT.out.belows b22)
      replace Hs := Lib.hid (Hs.out.belows b22)
      replace Ht := Lib.hid (Ht.out.belows b22)
      replace Hm := Lib.hid (Hm.out.belows b22)
      replace Hn := Lib.hid (Hn.out.belows b22)
      replace Ha := Lib.hid (Ha.out.belows b22)
      replace Hb := Lib.hid (Hb.out.belows b22)
      replace Hc := Lib.hid (Hc.out.belows b22)
      replace Hall := Lib.hid (Hall.out.belows b22)
      replace Hx1 := Lib.hid (Hx1.out.belows b22)
      replace Hx2 := Lib.hid (Hx2.out.belows b22)
      replace Hx3 := Lib.hid (Hx3.out.belows b22)
      replace Hns := Lib.hid (Hns.out.belows b22)
      replace Hx5 := Lib.hid (Hx5.out.belows b22)
      replace Hu := Lib.hid (Hu.out.belows b22)
      clear b22
      go_wp2
      go_ret
      exact ⟨rfl, bb22⟩
    · have bb21 := bb20.trans (b21.mono bb20.size)
      replace HT := Lib.hid (HT.out.belows b21)
      replace Hs := Lib.hid (Hs.out.belows b21)
      replace Ht := Lib.hid (Ht.out.belows b21)
      replace Hm := Lib.hid (Hm.out.belows b21)
      replace Hn := Lib.hid (Hn.out.belows b21)
      replace Ha := Lib.hid (Ha.out.belows b21)
      replace Hb := Lib.hid (Hb.out.belows b21)
      replace Hc := Lib.hid (Hc.out.belows b21)
      replace Hall := Lib.hid (Hall.out.belows b21)
      replace Hx1 := Lib.hid (Hx1.out.belows b21)
      replace Hx2 := Lib.hid (Hx2.out.belows b21)
      replace Hx3 := Lib.hid (Hx3.out.belows b21)
      replace Hns := Lib.hid (Hns.out.belows b21)
      replace Hx5 := Lib.hid (Hx5.out.belows b21)
      replace Hu := Lib.hid (Hu.out.belows b21)
      clear b21
      have e1 : ((no : Int) == (n4 : Int)) = false := by simp; omega
      have e2 : (no == n4) = false := by simp; omega
      clear hne
      go_wp2_with fail
      refine (alive_any _ HT.out).mono ?_
      rintro e w22 ⟨rfl, b22⟩
      have bb22 := bb21.trans (b22.mono bb21.size)
      replace HT := Lib.hid (HT.out.belows b22)
      replace Hs := Lib.hid (Hs.out.belows b22)
      replace Ht := Lib.hid (Ht.out.belows b22)
      replace Hm := Lib.hid (Hm.out.belows b22)
      replace Hn := Lib.hid (Hn.out.belows b22)
      replace Ha := Lib.hid (Ha.out.belows b22)
      replace Hb := Lib.hid (Hb.out.belows b22)
      replace Hc := Lib.hid (Hc.out.belows b22)
      replace Hall := Lib.hid (Hall.out.belows b22)
      replace Hx1 := Lib.hid (Hx1.out.belows b22)
      replace Hx2 := Lib.hid (Hx2.out.belows b22)
      replace Hx3 := Lib.hid (Hx3.out.belows b22)
      replace Hns := Lib.hid (Hns.out.belows b22)
      replace Hx5 := Lib.hid (Hx5.out.belows b22)
      replace Hu := Lib.hid (Hu.out.belows b22)
      clear b22
      go_wp2
      go_ret
      exact ⟨ret_bool (by rw [bne, e1]; rfl), bb22⟩
  · clear hgo
    have bb20 := bb19.trans (b20.mono bb19.size)
    replace HT := Lib.hid (HT.out.belows b20)
    replace Hs := Lib.hid (Hs.out.belows b20)
    replace Ht := Lib.hid (Ht.out.belows b20)
    replace Hm := Lib.hid (Hm.out.belows b20)
    replace Hn := Lib.hid (Hn.out.belows b20)
    replace Ha := Lib.hid (Ha.out.belows b20)
    replace Hb := Lib.hid (Hb.out.belows b20)
    replace Hc := Lib.hid (Hc.out.belows b20)
    replace Hall := Lib.hid (Hall.out.belows b20)
    replace Hx1 := Lib.hid (Hx1.out.belows b20)
    replace Hx2 := Lib.hid (Hx2.out.belows b20)
    replace Hx3 := Lib.hid (Hx3.out.belows b20)
    replace Hns := Lib.hid (Hns.out.belows b20)
    replace Hx5 := Lib.hid (Hx5.out.belows b20)
    clear b20
    go_wp2_with fail
    refine (and_any n4 0 _ _ _ Hs.out (isSet_nil _)).mono ?_
    rintro e w21 (⟨heq, v21, rfl, hf, b21⟩ | ⟨hne, rfl, b21⟩)
    · have bb21 := bb20.trans (b21.mono bb20.size)
      replace HT := Lib.hid (HT.out.belows b21)
      replace Hs := Lib.hid (Hs.out.belows b21)
      replace Ht := Lib.hid (Ht.out.belows b21)
      replace Hm := Lib.hid (Hm.out.belows b21)
      replace Hn := Lib.hid (Hn.out.belows b21)
      replace Ha := Lib.hid (Ha.out.belows b21)
      replace Hb := Lib.hid (Hb.out.belows b21)
      replace Hc := Lib.hid (Hc.out.belows b21)
      replace Hall := Lib.hid (Hall.out.belows b21)
      replace Hx1 := Lib.hid (Hx1.out.belows b21)
      replace Hx2 := Lib.hid (Hx2.out.belows b21)
      replace Hx3 := Lib.hid (Hx3.out.belows b21)
      replace Hns := Lib.hid (Hns.out.belows b21)
      replace Hx5 := Lib.hid (Hx5.out.belows b21)
      clear b21
      clear heq
      obtain ⟨Bz, Cz, rfl, _⟩ := hf
      go_wp2_with fail
      refine (alive_any _ HT.out).mono ?_
      rintro e w22 ⟨rfl, b22⟩
      have bb22 := bb21.trans (b22.mono bb21.size)
      replace HT := Lib.hid (HT.out.belows b22)
      replace Hs := Lib.hid (Hs.out.belows b22)
      replace Ht := Lib.hid (Ht.out.belows b22)
      replace Hm := Lib.hid (Hm.out.belows b22)
      replace Hn := Lib.hid (Hn.out.belows b22)
      replace Ha := Lib.hid (Ha.out.belows b22)
      replace Hb := Lib.hid (Hb.out.belows b22)
      replace Hc := Lib.hid (Hc.out.belows b22)
      replace Hall := Lib.hid (Hall.out.belows b22)
      replace Hx1 := Lib.hid (Hx1.out.belows b22)
      replace Hx2 := Lib.hid (Hx2.out.belows b22)
      replace Hx3 := Lib.hid (Hx3.out.belows b22)
      replace Hns := Lib.hid (Hns.out.belows b22)
      replace Hx5 := Lib.hid (Hx5.out.belows b22)
      clear b22
      go_wp2
      go_ret
      exact ⟨rfl, bb22⟩
    · have bb21 := bb20.trans (b21.mono bb20.size)
      replace HT := Lib.hid (HT.out.belows b21)
      replace Hs := Lib.hid (Hs.out.belows b21)
      replace Ht := Lib.hid (Ht.out.belows b21)
      replace Hm := Lib.hid (Hm.out.belows b21)
      replace Hn := Lib.hid (Hn.out.belows b21)
      replace Ha := Lib.hid (Ha.out.belows b21)
      replace Hb := Lib.hid (Hb.out.belows b21)
      replace Hc := Lib.hid (Hc.out.belows b21)
      replace Hall := Lib.hid (Hall.out.belows b21)
      replace Hx1 := Lib.hid (Hx1.out.belows b21)
      replace Hx2 := Lib.hid (Hx2.out.belows b21)
      replace Hx3 := Lib.hid (Hx3.out.belows b21)
      replace Hns := Lib.hid (Hns.out.belows b21)
      replace Hx5 := Lib.hid (Hx5.out.belows b21)
      clear b21
      clear hne
      go_wp2_with fail
      refine (alive_any _ HT.out).mono ?_
      rintro e w22 ⟨rfl, b22⟩
      have bb22 := bb21.trans (b22.mono bb21.size)
      replace HT := Lib.hid (HT.out.belows b22)
      replace Hs := Lib.hid (Hs.out.belows b22)
      replace Ht := Lib.hid (Ht.out.belows b22)
      replace Hm := Lib.hid (Hm.out.belows b22)
      replace Hn := Lib.hid (Hn.out.belows b22)
      replace Ha := Lib.hid (Ha.out.belows b22)
      replace Hb := Lib.hid (Hb.out.belows b22)
      replace Hc := Lib.hid (Hc.out.belows b22)
      replace Hall := Lib.hid (Hall.out.belows b22)
      replace Hx1 := Lib.hid (Hx1.out.belows b22)
      replace Hx2 := Lib.hid (Hx2.out.belows b22)
      replace Hx3 := Lib.hid (Hx3.out.belows b22)
      replace Hns := Lib.hid (Hns.out.belows b22)
      replace Hx5 := Lib.hid (Hx5.out.belows b22)
      clear b22
      go_wp2
      go_ret
      exact ⟨rfl, bb22⟩
end Go.Proofs.YtkglaoagiifejaaDoor
