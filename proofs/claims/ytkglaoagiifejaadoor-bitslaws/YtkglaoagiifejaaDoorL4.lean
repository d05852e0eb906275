/- BitsLaws, walked. -/
import Derived.Test.YtkglaoagiifejaaDoorA2
import Derived.Test.YtkglaoagiifejaaDoorR3
namespace Go.Proofs.YtkglaoagiifejaaDoor
open Go.RowKit Go.Shelf

theorem lsup_and {n : Nat} {p q : Nat → Bool} (h : Sup n p) : Sup n (fun i => p i && q i) := fun j hj => by simp [h j hj]
theorem lsup_or {n : Nat} {p q : Nat → Bool} (h : Sup n p) (h' : Sup n q) : Sup n (fun i => p i || q i) := fun j hj => by simp [h j hj, h' j hj]
theorem lsup_minus {n : Nat} {p q : Nat → Bool} (h : Sup n p) : Sup n (fun i => p i && !q i) := fun j hj => by simp [h j hj]
set_option maxRecDepth 100000 in
set_option maxHeartbeats 3000000 in
theorem laws_walk {v v' : Value} (size : Int) (L M : List Int) (w : World) (hL : IsV w v (ints L)) (hM : IsV w v' (ints M)) (hT : Tb w) : Calls Tryd.prog 6 #[.int .i64 size, .agg #[v, v']] w fun e w' => e = .returned (.bool true) ∧ Below w.heap.size w w' := by
  have HX : Hid (∀ u, Below w.heap.size w u → Tb u) := Lib.hid fun u hu => hT.belows hu
  have HL := Lib.hid hL
  have HM := Lib.hid hM
  obtain ⟨A, c, rfl, h1, h2, _⟩ := hL
  obtain ⟨A', c', rfl, h1', h2', _⟩ := hM
  have hl1 : (ints L).length = L.length := by simp [ints]
  have hl2 : (ints M).length = M.length := by simp [ints]
  rw [hl1] at h1 HL ⊢
  rw [hl2] at h1' HM ⊢
  clear hl1 hl2
  simp only [maxLen] at h2 h2'
  have b0 : Below w.heap.size w (w.alloc (.cells #[.slice A L.length c, .slice A' M.length c'] 41)) := (Below.refl _ w).alloc (Nat.le_refl _) _
  have HD : Hid (At (w.alloc (.cells #[.slice A L.length c, .slice A' M.length c'] 41)) w.heap.size #[.slice A L.length c, .slice A' M.length c'] 41) := Lib.hid (At.new w _ _)
  replace HL := Lib.hid (HL.out.belows b0)
  replace HM := Lib.hid (HM.out.belows b0)
  have HT := Lib.hid (HX.out _ b0)
  clear hT
  have c0 := (HD.out.cell 0).trans rfl
  have c1 := (HD.out.cell 1).trans rfl
  have hal := alive_any _ HT.out
  by_cases hm : 200 < L.length
  · have hm' : decide ((200 : Int) < (L.length : Int)) = true := by simp; omega
    go_enter Tryd.func6, Tryd.ntmps6
    go_wp2_with fail
    refine hal.mono ?_
    rintro e w1 ⟨rfl, b1⟩
    go_wp2
    go_ret
    exact ⟨rfl, b0.trans (b1.mono b0.size)⟩
  have hm1 : decide ((200 : Int) < (L.length : Int)) = false := by simp; omega
  by_cases hm2 : 200 < M.length
  · have hm' : decide ((200 : Int) < (M.length : Int)) = true := by simp; omega
    go_enter Tryd.func6, Tryd.ntmps6
    go_wp2_with fail
    refine hal.mono ?_
    rintro e w1 ⟨rfl, b1⟩
    go_wp2
    go_ret
    exact ⟨rfl, b0.trans (b1.mono b0.size)⟩
  have hm2' : decide ((200 : Int) < (M.length : Int)) = false := by simp; omega
  have hof := of_any size L _ HL.out
  go_enter Tryd.func6, Tryd.ntmps6
  go_wp2_with fail
  clear hal
  generalize w.alloc (.cells #[.slice A L.length c, .slice A' M.length c'] 41) = w0 at *
  refine hof.mono ?_
  clear hof
  rintro e w1 (⟨hg, v1, n, hn, rfl, hf, b1⟩ | ⟨hg, rfl, b1⟩)
  rotate_left
  · have bb1 := b0.trans (b1.mono b0.size)
    have ho := of_any size M w1 (HM.out.belows b1)
    have d1 := ((HD.out.belows b1).cell 1).trans rfl
    clear hg
    go_wp2_with fail
    refine ho.mono ?_
    rintro e w2 (⟨hg2, v2, n2, hn2, rfl, hf2, b2⟩ | ⟨hg2, rfl, b2⟩)
    · have bb2 := bb1.trans (b2.mono bb1.size)
      obtain ⟨B2, C2, rfl, _⟩ := hf2
      clear hn2
      go_wp2_with fail
      refine (alive_any _ (HX.out _ bb2)).mono ?_
      rintro e w3 ⟨rfl, b3⟩
      go_wp2
      go_ret
      exact ⟨rfl, bb2.trans (b3.mono bb2.size)⟩
    · have bb2 := bb1.trans (b2.mono bb1.size)
      go_wp2_with fail
      refine (alive_any _ (HX.out _ bb2)).mono ?_
      rintro e w3 ⟨rfl, b3⟩
      go_wp2
      go_ret
      exact ⟨rfl, bb2.trans (b3.mono bb2.size)⟩
  subst hn
  have hn1 : n ≤ 1024 := by have := hg.2.1; omega
  have hsup := inL_sup hg.2.2
  have HG := Lib.hid hg
  clear hg c0 c1
  have bb1 := b0.trans (b1.mono b0.size)
  replace HL := Lib.hid (HL.out.belows b1)
  replace HM := Lib.hid (HM.out.belows b1)
  replace HD := Lib.hid (HD.out.belows b1)
  replace HT := Lib.hid (HT.out.belows b1)
  clear b1
  have s0 := hf.isSet hsup hn1
  obtain ⟨As, rfl⟩ := s0.ptr
  have Hs := Lib.hid s0
  clear s0 hf
  have d1 := (HD.out.cell 1).trans rfl
  go_wp2_with fail
  refine (of_any (n : Int) M _ HM.out).mono ?_
  rintro e w2 (⟨hg2, v2, n2, hn2, rfl, hf, b2⟩ | ⟨hg2, rfl, b2⟩)
  rotate_left
  · have bb2 := bb1.trans (b2.mono bb1.size)
    go_wp2_with fail
    refine (alive_any _ (HX.out _ bb2)).mono ?_
    rintro e w3 ⟨rfl, b3⟩
    go_wp2
    go_ret
    exact ⟨rfl, bb2.trans (b3.mono bb2.size)⟩
  obtain rfl : n2 = n := by omega
  have hsup2 := inL_sup hg2.2.2
  have HG2 := Lib.hid hg2
  clear hg2 hn2 d1
  have bb2 := bb1.trans (b2.mono bb1.size)
  replace HL := Lib.hid (HL.out.belows b2)
  replace HM := Lib.hid (HM.out.belows b2)
  replace HD := Lib.hid (HD.out.belows b2)
  replace HT := Lib.hid (HT.out.belows b2)
  replace Hs := Lib.hid (Hs.out.belows b2)
  clear b2
  have s0 := hf.isSet hsup2 hn1
  obtain ⟨At, rfl⟩ := s0.ptr
  have Ht := Lib.hid s0
  clear s0 hf
  clear hm1 hm2'
  clear HD HL HM HG HG2
  generalize inL L = p at *
  generalize inL M = q at *
  go_wp2_with fail
  refine (and_any n2 n2 _ _ _ Hs.out Ht.out).mono ?_
  rintro e w3 (⟨_, v3, rfl, hf, b3⟩ | ⟨hne, _⟩)
  rotate_left
  · exact absurd rfl hne
  have bb3 := bb2.trans (b3.mono bb2.size)
  replace HT := Lib.hid (HT.out.belows b3)
  replace Hs := Lib.hid (Hs.out.belows b3)
  replace Ht := Lib.hid (Ht.out.belows b3)
  clear b3
  have s0 := hf.isSet (lsup_and hsup) hn1
  obtain ⟨Aa, rfl⟩ := s0.ptr
  have Ha := Lib.hid s0
  clear s0 hf
  go_wp2_with fail
  refine (or_any n2 n2 _ _ _ Hs.out Ht.out).mono ?_
  rintro e w4 (⟨_, v4, rfl, hf, b4⟩ | ⟨hne, _⟩)
  rotate_left
  · exact absurd rfl hne
  have bb4 := bb3.trans (b4.mono bb3.size)
  replace HT := Lib.hid (HT.out.belows b4)
  replace Hs := Lib.hid (Hs.out.belows b4)
  replace Ht := Lib.hid (Ht.out.belows b4)
  replace Ha := Lib.hid (Ha.out.belows b4)
  clear b4
  have s0 := hf.isSet (lsup_or hsup hsup2) hn1
  obtain ⟨Ab, rfl⟩ := s0.ptr
  have Hb := Lib.hid s0
  clear s0 hf
  go_wp2_with fail
  refine (minus_any n2 n2 _ _ _ Hs.out Ht.out).mono ?_
  rintro e w5 (⟨_, v5, rfl, hf, b5⟩ | ⟨hne, _⟩)
  rotate_left
  · exact absurd rfl hne
  have bb5 := bb4.trans (b5.mono bb4.size)
  replace HT := Lib.hid (HT.out.belows b5)
  replace Hs := Lib.hid (Hs.out.belows b5)
  replace Ht := Lib.hid (Ht.out.belows b5)
  replace Ha := Lib.hid (Ha.out.belows b5)
  replace Hb := Lib.hid (Hb.out.belows b5)
  clear b5
  have s0 := hf.isSet (lsup_minus hsup) hn1
  obtain ⟨Ac, rfl⟩ := s0.ptr
  have Hc := Lib.hid s0
  clear s0 hf
  go_wp2_with fail
  refine (or_any n2 n2 _ _ _ Hc.out Ha.out).mono ?_
  rintro e w6 (⟨_, v6, rfl, hf, b6⟩ | ⟨hne, _⟩)
  rotate_left
  · exact absurd rfl hne
  have bb6 := bb5.trans (b6.mono bb5.size)
  replace HT := Lib.hid (HT.out.belows b6)
  replace Hs := Lib.hid (Hs.out.belows b6)
  replace Ht := Lib.hid (Ht.out.belows b6)
  replace Ha := Lib.hid (Ha.out.belows b6)
  replace Hb := Lib.hid (Hb.out.belows b6)
  replace Hc := Lib.hid (Hc.out.belows b6)
  clear b6
  have s0 := hf.isSet (lsup_or (lsup_minus hsup) (lsup_and hsup)) hn1
  obtain ⟨Ad, rfl⟩ := s0.ptr
  have Hd := Lib.hid s0
  clear s0 hf
  go_wp2_with fail
  refine (not_any n2 _ _ Hs.out).mono ?_
  rintro e w7 ⟨v7, rfl, hf, b7⟩
  have bb7 := bb6.trans (b7.mono bb6.size)
  replace HT := Lib.hid (HT.out.belows b7)
  replace Hs := Lib.hid (Hs.out.belows b7)
  replace Ht := Lib.hid (Ht.out.belows b7)
  replace Ha := Lib.hid (Ha.out.belows b7)
  replace Hb := Lib.hid (Hb.out.belows b7)
  replace Hc := Lib.hid (Hc.out.belows b7)
  replace Hd := Lib.hid (Hd.out.belows b7)
  clear b7
  have s0 := hf.isSet (notP_sup _ _) hn1
  obtain ⟨Ans, rfl⟩ := s0.ptr
  have Hns := Lib.hid s0
  clear s0 hf
  go_wp2_with fail
  refine (not_any n2 _ _ Ht.out).mono ?_
  rintro e w8 ⟨v8, rfl, hf, b8⟩
  have bb8 := bb7.trans (b8.mono bb7.size)
  replace HT := Lib.hid (HT.out.belows b8)
  replace Hs := Lib.hid (Hs.out.belows b8)
  replace Ht := Lib.hid (Ht.out.belows b8)
  replace Ha := Lib.hid (Ha.out.belows b8)
  replace Hb := Lib.hid (Hb.out.belows b8)
  replace Hc := Lib.hid (Hc.out.belows b8)
  replace Hd := Lib.hid (Hd.out.belows b8)
  replace Hns := Lib.hid (Hns.out.belows b8)
  clear b8
  have s0 := hf.isSet (notP_sup _ _) hn1
  obtain ⟨Ant, rfl⟩ := s0.ptr
  have Hnt := Lib.hid s0
  clear s0 hf
  go_wp2_with fail
  refine (and_any n2 n2 _ _ _ Hns.out Hnt.out).mono ?_
  rintro e w9 (⟨_, v9, rfl, hf, b9⟩ | ⟨hne, _⟩)
  rotate_left
  · exact absurd rfl hne
  have bb9 := bb8.trans (b9.mono bb8.size)
  replace HT := Lib.hid (HT.out.belows b9)
  replace Hs := Lib.hid (Hs.out.belows b9)
  replace Ht := Lib.hid (Ht.out.belows b9)
  replace Ha := Lib.hid (Ha.out.belows b9)
  replace Hb := Lib.hid (Hb.out.belows b9)
  replace Hc := Lib.hid (Hc.out.belows b9)
  replace Hd := Lib.hid (Hd.out.belows b9)
  replace Hns := Lib.hid (Hns.out.belows b9)
  replace Hnt := Lib.hid (Hnt.out.belows b9)
  clear b9
  have s0 := hf.isSet (lsup_and (notP_sup _ _)) hn1
  obtain ⟨Ann, rfl⟩ := s0.ptr
  have Hnn := Lib.hid s0
  clear s0 hf
  go_wp2_with fail
  refine (list_any n2 _ _ Hd.out HT.out).mono ?_
  rintro e w10 ⟨v10, rfl, hv, b10⟩
  have bb10 := bb9.trans (b10.mono bb9.size)
  replace HT := Lib.hid (HT.out.belows b10)
  replace Hs := Lib.hid (Hs.out.belows b10)
  replace Ht := Lib.hid (Ht.out.belows b10)
  replace Ha := Lib.hid (Ha.out.belows b10)
  replace Hb := Lib.hid (Hb.out.belows b10)
  replace Hc := Lib.hid (Hc.out.belows b10)
  replace Hd := Lib.hid (Hd.out.belows b10)
  replace Hns := Lib.hid (Hns.out.belows b10)
  replace Hnt := Lib.hid (Hnt.out.belows b10)
  replace Hnn := Lib.hid (Hnn.out.belows b10)
  clear b10
  rw [lst_congr (p := fun i => (p i && !q i) || (p i && q i)) (q := p) (fun j hj => by cases p j <;> cases q j <;> rfl)] at hv
  have Hl1 := Lib.hid hv
  obtain ⟨Al1, cl1, rfl, _, _, _⟩ := hv
  go_wp2_with fail
  refine (list_any n2 _ _ Hs.out HT.out).mono ?_
  rintro e w11 ⟨v11, rfl, hv, b11⟩
  have bb11 := bb10.trans (b11.mono bb10.size)
  replace HT := Lib.hid (HT.out.belows b11)
  replace Hs := Lib.hid (Hs.out.belows b11)
  replace Ht := Lib.hid (Ht.out.belows b11)
  replace Ha := Lib.hid (Ha.out.belows b11)
  replace Hb := Lib.hid (Hb.out.belows b11)
  replace Hc := Lib.hid (Hc.out.belows b11)
  replace Hd := Lib.hid (Hd.out.belows b11)
  replace Hns := Lib.hid (Hns.out.belows b11)
  replace Hnt := Lib.hid (Hnt.out.belows b11)
  replace Hnn := Lib.hid (Hnn.out.belows b11)
  replace Hl1 := Lib.hid (Hl1.out.belows b11)
  clear b11
  have Hl2 := Lib.hid hv
  obtain ⟨Al2, cl2, rfl, _, _, _⟩ := hv
  go_wp2_with fail
  refine (rints_any (lst p n2) _ Hl1.out Hl2.out).mono ?_
  rintro e w12 ⟨rfl, b12⟩
  have bb12 := bb11.trans (b12.mono bb11.size)
  replace HT := Lib.hid (HT.out.belows b12)
  replace Hs := Lib.hid (Hs.out.belows b12)
  replace Ht := Lib.hid (Ht.out.belows b12)
  replace Ha := Lib.hid (Ha.out.belows b12)
  replace Hb := Lib.hid (Hb.out.belows b12)
  replace Hc := Lib.hid (Hc.out.belows b12)
  replace Hd := Lib.hid (Hd.out.belows b12)
  replace Hns := Lib.hid (Hns.out.belows b12)
  replace Hnt := Lib.hid (Hnt.out.belows b12)
  replace Hnn := Lib.hid (Hnn.out.belows b12)
  replace Hl1 := Lib.hid (Hl1.out.belows b12)
  replace Hl2 := Lib.hid (Hl2.out.belows b12)
  clear b12
  go_wp2_with fail
  refine (not_any n2 _ _ Hb.out).mono ?_
  rintro e w13 ⟨v13, rfl, hf, b13⟩
  have bb13 := bb12.trans (b13.mono bb12.size)
  replace HT := Lib.hid (HT.out.belows b13)
  replace Hs := Lib.hid (Hs.out.belows b13)
  replace Ht := Lib.hid (Ht.out.belows b13)
  replace Ha := Lib.hid (Ha.out.belows b13)
  replace Hb := Lib.hid (Hb.out.belows b13)
  replace Hc := Lib.hid (Hc.out.belows b13)
  replace Hd := Lib.hid (Hd.out.belows b13)
  replace Hns := Lib.hid (Hns.out.belows b13)
  replace Hnt := Lib.hid (Hnt.out.belows b13)
  replace Hnn := Lib.hid (Hnn.out.belows b13)
  replace Hl1 := Lib.hid (Hl1.out.belows b13)
  replace Hl2 := Lib.hid (Hl2.out.belows b13)
  clear b13
  have s0 := hf.isSet (notP_sup _ _) hn1
  obtain ⟨Anb, rfl⟩ := s0.ptr
  have Hnb := Lib.hid s0
  clear s0 hf
  go_wp2_with fail
  refine (list_any n2 _ _ Hnb.out HT.out).mono ?_
  rintro e w14 ⟨v14, rfl, hv, b14⟩
  have bb14 := bb13.trans (b14.mono bb13.size)
  replace HT := Lib.hid (HT.out.belows b14)
  replace Hs := Lib.hid (Hs.out.belows b14)
  replace Ht := Lib.hid (Ht.out.belows b14)
  replace Ha := Lib.hid (Ha.out.belows b14)
  replace Hb := Lib.hid (Hb.out.belows b14)
  replace Hc := Lib.hid (Hc.out.belows b14)
  replace Hd := Lib.hid (Hd.out.belows b14)
  replace Hns := Lib.hid (Hns.out.belows b14)
  replace Hnt := Lib.hid (Hnt.out.belows b14)
  replace Hnn := Lib.hid (Hnn.out.belows b14)
  replace Hl1 := Lib.hid (Hl1.out.belows b14)
  replace Hl2 := Lib.hid (Hl2.out.belows b14)
  replace Hnb := Lib.hid (Hnb.out.belows b14)
  clear b14
  rw [lst_congr (p := notP (fun i => p i || q i) n2) (q := fun i => notP p n2 i && notP q n2 i) (fun j hj => by simp only [notP]; cases blw n2 j <;> cases p j <;> cases q j <;> rfl)] at hv
  have Hl3 := Lib.hid hv
  obtain ⟨Al3, cl3, rfl, _, _, _⟩ := hv
  go_wp2_with fail
  refine (list_any n2 _ _ Hnn.out HT.out).mono ?_
  rintro e w15 ⟨v15, rfl, hv, b15⟩
  have bb15 := bb14.trans (b15.mono bb14.size)
  replace HT := Lib.hid (HT.out.belows b15)
  replace Hs := Lib.hid (Hs.out.belows b15)
  replace Ht := Lib.hid (Ht.out.belows b15)
  replace Ha := Lib.hid (Ha.out.belows b15)
  replace Hb := Lib.hid (Hb.out.belows b15)
  replace Hc := Lib.hid (Hc.out.belows b15)
  replace Hd := Lib.hid (Hd.out.belows b15)
  replace Hns := Lib.hid (Hns.out.belows b15)
  replace Hnt := Lib.hid (Hnt.out.belows b15)
  replace Hnn := Lib.hid (Hnn.out.belows b15)
  replace Hl1 := Lib.hid (Hl1.out.belows b15)
  replace Hl2 := Lib.hid (Hl2.out.belows b15)
  replace Hnb := Lib.hid (Hnb.out.belows b15)
  replace Hl3 := Lib.hid (Hl3.out.belows b15)
  clear b15
  have Hl4 := Lib.hid hv
  obtain ⟨Al4, cl4, rfl, _, _, _⟩ := hv
  go_wp2_with fail
  refine (rints_any (lst (fun i => notP p n2 i && notP q n2 i) n2) _ Hl3.out Hl4.out).mono ?_
  rintro e w16 ⟨rfl, b16⟩
  have bb16 := bb15.trans (b16.mono bb15.size)
  replace HT := Lib.hid (HT.out.belows b16)
  replace Hs := Lib.hid (Hs.out.belows b16)
  replace Ht := Lib.hid (Ht.out.belows b16)
  replace Ha := Lib.hid (Ha.out.belows b16)
  replace Hb := Lib.hid (Hb.out.belows b16)
  replace Hc := Lib.hid (Hc.out.belows b16)
  replace Hd := Lib.hid (Hd.out.belows b16)
  replace Hns := Lib.hid (Hns.out.belows b16)
  replace Hnt := Lib.hid (Hnt.out.belows b16)
  replace Hnn := Lib.hid (Hnn.out.belows b16)
  replace Hl1 := Lib.hid (Hl1.out.belows b16)
  replace Hl2 := Lib.hid (Hl2.out.belows b16)
  replace Hnb := Lib.hid (Hnb.out.belows b16)
  replace Hl3 := Lib.hid (Hl3.out.belows b16)
  replace Hl4 := Lib.hid (Hl4.out.belows b16)
  clear b16
  go_wp2_with fail
  refine (not_any n2 _ _ Hs.out).mono ?_
  rintro e w17 ⟨v17, rfl, hf, b17⟩
  have bb17 := bb16.trans (b17.mono bb16.size)
  replace HT := Lib.hid (HT.out.belows b17)
  replace Hs := Lib.hid (Hs.out.belows b17)
  replace Ht := Lib.hid (Ht.out.belows b17)
  replace Ha := Lib.hid (Ha.out.belows b17)
  replace Hb := Lib.hid (Hb.out.belows b17)
  replace Hc := Lib.hid (Hc.out.belows b17)
  replace Hd := Lib.hid (Hd.out.belows b17)
  replace Hns := Lib.hid (Hns.out.belows b17)
  replace Hnt := Lib.hid (Hnt.out.belows b17)
  replace Hnn := Lib.hid (Hnn.out.belows b17)
  replace Hl1 := Lib.hid (Hl1.out.belows b17)
  replace Hl2 := Lib.hid (Hl2.out.belows b17)
  replace Hnb := Lib.hid (Hnb.out.belows b17)
  replace Hl3 := Lib.hid (Hl3.out.belows b17)
  replace Hl4 := Lib.hid (Hl4.out.belows b17)
  clear b17
  have s0 := hf.isSet (notP_sup _ _) hn1
  obtain ⟨An1, rfl⟩ := s0.ptr
  have Hn1 := Lib.hid s0
  clear s0 hf
  go_wp2_with fail
  refine (not_any n2 _ _ Hn1.out).mono ?_
  rintro e w18 ⟨v18, rfl, hf, b18⟩
  have bb18 := bb17.trans (b18.mono bb17.size)
  replace HT := Lib.hid (HT.out.belows b18)
  replace Hs := Lib.hid (Hs.out.belows b18)
  replace Ht := Lib.hid (Ht.out.belows b18)
  replace Ha := Lib.hid (Ha.out.belows b18)
  replace Hb := Lib.hid (Hb.out.belows b18)
  replace Hc := Lib.hid (Hc.out.belows b18)
  replace Hd := Lib.hid (Hd.out.belows b18)
  replace Hns := Lib.hid (Hns.out.belows b18)
  replace Hnt := Lib.hid (Hnt.out.belows b18)
  replace Hnn := Lib.hid (Hnn.out.belows b18)
  replace Hl1 := Lib.hid (Hl1.out.belows b18)
  replace Hl2 := Lib.hid (Hl2.out.belows b18)
  replace Hnb := Lib.hid (Hnb.out.belows b18)
  replace Hl3 := Lib.hid (Hl3.out.belows b18)
  replace Hl4 := Lib.hid (Hl4.out.belows b18)
  replace Hn1 := Lib.hid (Hn1.out.belows b18)
  clear b18
  have s0 := hf.isSet (notP_sup _ _) hn1
  obtain ⟨An2, rfl⟩ := s0.ptr
  have Hn2 := Lib.hid s0
  clear s0 hf
  go_wp2_with fail
  refine (list_any n2 _ _ Hn2.out HT.out).mono ?_
  rintro e w19 ⟨v19, rfl, hv, b19⟩
  have bb19 := bb18.trans (b19.mono bb18.size)
  replace HT := Lib.hid (HT.out.belows b19)
  replace Hs := Lib.hid (Hs.out.belows b19)
  replace Ht := Lib.hid (Ht.out.belows b19)
  replace Ha := Lib.hid (Ha.out.belows b19)
  replace Hb := Lib.hid (Hb.out.belows b19)
  replace Hc := Lib.hid (Hc.out.belows b19)
  replace Hd := Lib.hid (Hd.out.belows b19)
  replace Hns := Lib.hid (Hns.out.belows b19)
  replace Hnt := Lib.hid (Hnt.out.belows b19)
  replace Hnn := Lib.hid (Hnn.out.belows b19)
  replace Hl1 := Lib.hid (Hl1.out.belows b19)
  replace Hl2 := Lib.hid (Hl2.out.belows b19)
  replace Hnb := Lib.hid (Hnb.out.belows b19)
  replace Hl3 := Lib.hid (Hl3.out.belows b19)
  replace Hl4 := Lib.hid (Hl4.out.belows b19)
  replace Hn1 := Lib.hid (Hn1.out.belows b19)
  replace Hn2 := Lib.hid (Hn2.out.belows b19)
  clear b19
  rw [lst_congr (p := notP (notP p n2) n2) (q := p) (fun j hj => by
    have h1 : blw (n2 : Int) j = true := by simp [blw]; omega
    unfold notP; rw [h1]; cases p j <;> rfl)] at hv
  have Hl5 := Lib.hid hv
  obtain ⟨Al5, cl5, rfl, _, _, _⟩ := hv
  go_wp2_with fail
  refine (list_any n2 _ _ Hs.out HT.out).mono ?_
  rintro e w20 ⟨v20, rfl, hv, b20⟩
  have bb20 := bb19.trans (b20.mono bb19.size)
  replace HT := Lib.hid (HT.out.belows b20)
  replace Hs := Lib.hid (Hs.out.belows b20)
  replace Ht := Lib.hid (Ht.out.belows b20)
  replace Ha := Lib.hid (Ha.out.belows b20)
  replace Hb := Lib.hid (Hb.out.belows b20)
  replace Hc := Lib.hid (Hc.out.belows b20)
  replace Hd := Lib.hid (Hd.out.belows b20)
  replace Hns := Lib.hid (Hns.out.belows b20)
  replace Hnt := Lib.hid (Hnt.out.belows b20)
  replace Hnn := Lib.hid (Hnn.out.belows b20)
  replace Hl1 := Lib.hid (Hl1.out.belows b20)
  replace Hl2 := Lib.hid (Hl2.out.belows b20)
  replace Hnb := Lib.hid (Hnb.out.belows b20)
  replace Hl3 := Lib.hid (Hl3.out.belows b20)
  replace Hl4 := Lib.hid (Hl4.out.belows b20)
  replace Hn1 := Lib.hid (Hn1.out.belows b20)
  replace Hn2 := Lib.hid (Hn2.out.belows b20)
  replace Hl5 := Lib.hid (Hl5.out.belows b20)
  clear b20
  have Hl6 := Lib.hid hv
  obtain ⟨Al6, cl6, rfl, _, _, _⟩ := hv
  go_wp2_with fail
  refine (rints_any (lst p n2) _ Hl5.out Hl6.out).mono ?_
  rintro e w21 ⟨rfl, b21⟩
  have bb21 := bb20.trans (b21.mono bb20.size)
  replace HT := Lib.hid (HT.out.belows b21)
  replace Hs := Lib.hid (Hs.out.belows b21)
  replace Ht := Lib.hid (Ht.out.belows b21)
  replace Ha := Lib.hid (Ha.out.belows b21)
  replace Hb := Lib.hid (Hb.out.belows b21)
  replace Hc := Lib.hid (Hc.out.belows b21)
  replace Hd := Lib.hid (Hd.out.belows b21)
  replace Hns := Lib.hid (Hns.out.belows b21)
  replace Hnt := Lib.hid (Hnt.out.belows b21)
  replace Hnn := Lib.hid (Hnn.out.belows b21)
  replace Hl1 := Lib.hid (Hl1.out.belows b21)
  replace Hl2 := Lib.hid (Hl2.out.belows b21)
  replace Hnb := Lib.hid (Hnb.out.belows b21)
  replace Hl3 := Lib.hid (Hl3.out.belows b21)
  replace Hl4 := Lib.hid (Hl4.out.belows b21)
  replace Hn1 := Lib.hid (Hn1.out.belows b21)
  replace Hn2 := Lib.hid (Hn2.out.belows b21)
  replace Hl5 := Lib.hid (Hl5.out.belows b21)
  replace Hl6 := Lib.hid (Hl6.out.belows b21)
  clear b21
  go_wp2_with fail
  refine (alive_any _ HT.out).mono ?_
  rintro e w22 ⟨rfl, b22⟩
  have bb22 := bb21.trans (b22.mono bb21.size)
  replace HT := Lib.hid (HT.out.belows b22)
  replace Hs := Lib.hid (Hs.out.belows b22)
  replace Ht := Lib.hid (Ht.out.belows b22)
  replace Ha := Lib.hid (Ha.out.belows b22)
  replace Hb := Lib.hid (Hb.out.belows b22)
  replace Hc := Lib.hid (Hc.out.belows b22)
  replace Hd := Lib.hid (Hd.out.belows b22)
  replace Hns := Lib.hid (Hns.out.belows b22)
  replace Hnt := Lib.hid (Hnt.out.belows b22)
  replace Hnn := Lib.hid (Hnn.out.belows b22)
  replace Hl1 := Lib.hid (Hl1.out.belows b22)
  replace Hl2 := Lib.hid (Hl2.out.belows b22)
  replace Hnb := Lib.hid (Hnb.out.belows b22)
  replace Hl3 := Lib.hid (Hl3.out.belows b22)
  replace Hl4 := Lib.hid (Hl4.out.belows b22)
  replace Hn1 := Lib.hid (Hn1.out.belows b22)
  replace Hn2 := Lib.hid (Hn2.out.belows b22)
  replace Hl5 := Lib.hid (Hl5.out.belows b22)
  replace Hl6 := Lib.hid (Hl6.out.belows b22)
  clear b22
  have e1 := cnt_both p q n2
  have e2 := cnt_not p n2
  have q1 := cnt_le (fun i => p i && q i) n2
  have q2 := cnt_le (fun i => p i || q i) n2
  have q3 := cnt_le p n2
  have q4 := cnt_le q n2
  have k1 := len_any n2 _ _ Ha.out
  have k2 := len_any n2 _ _ Hb.out
  have k3 := len_any n2 _ _ Hs.out
  have k4 := len_any n2 _ _ Ht.out
  change cnt p n2 + cnt (notP p n2) n2 = n2 at e2
  have q5 := cnt_le (notP p n2) n2
  have hno := not_any n2 _ _ Hs.out
  have H5 : Hid (∀ (u : World) (v : Value), IsSet u v n2 (notP p n2) → Calls Tryd.prog 24 #[v] u fun e w' => e = .returned (.int .i64 (cnt (notP p n2) n2 : Nat)) ∧ u = w') := Lib.hid fun u v h => len_any n2 _ u h
  generalize cnt (fun i => p i && q i) n2 = z1 at *
  generalize cnt (fun i => p i || q i) n2 = z2 at *
  generalize cnt p n2 = z3 at *
  generalize cnt q n2 = z4 at *
  generalize cnt (notP p n2) n2 = z5 at *
  have g1 : (((z1 : Int) + (z2 : Int)) == ((z3 : Int) + (z4 : Int))) = true := by simp; omega
  have g1' : (z1 : Int) + (z2 : Int) = (z3 : Int) + (z4 : Int) := by omega
  have g2' : (z3 : Int) + (z5 : Int) = (n2 : Int) := by omega
  have G1 := Lib.hid g1'
  have G2 := Lib.hid g2'
  have E1 := Lib.hid e1
  have E2 := Lib.hid e2
  clear e1 e2 g1 g1' g2'
  go_wp2_with fail
  refine (k1).mono ?_
  rintro e _ ⟨rfl, rfl⟩
  go_wp2_with fail
  refine (k2).mono ?_
  rintro e _ ⟨rfl, rfl⟩
  go_wp2_with fail
  refine (k3).mono ?_
  rintro e _ ⟨rfl, rfl⟩
  go_wp2_with fail
  refine (k4).mono ?_
  rintro e _ ⟨rfl, rfl⟩
  have g1 : (z1 : Int) + (z2 : Int) = (z3 : Int) + (z4 : Int) := G1.out
  go_wp2_with fail
  refine (k3).mono ?_
  rintro e _ ⟨rfl, rfl⟩
  go_wp2_with fail
  refine (hno).mono ?_
  rintro e w23 ⟨v23, rfl, hf, b23⟩
  have bb23 := bb22.trans (b23.mono bb22.size)
  replace HT := Lib.hid (HT.out.belows b23)
  replace Hs := Lib.hid (Hs.out.belows b23)
  replace Ht := Lib.hid (Ht.out.belows b23)
  replace Ha := Lib.hid (Ha.out.belows b23)
  replace Hb := Lib.hid (Hb.out.belows b23)
  replace Hc := Lib.hid (Hc.out.belows b23)
  replace Hd := Lib.hid (Hd.out.belows b23)
  replace Hns := Lib.hid (Hns.out.belows b23)
  replace Hnt := Lib.hid (Hnt.out.belows b23)
  replace Hnn := Lib.hid (Hnn.out.belows b23)
  replace Hl1 := Lib.hid (Hl1.out.belows b23)
  replace Hl2 := Lib.hid (Hl2.out.belows b23)
  replace Hnb := Lib.hid (Hnb.out.belows b23)
  replace Hl3 := Lib.hid (Hl3.out.belows b23)
  replace Hl4 := Lib.hid (Hl4.out.belows b23)
  replace Hn1 := Lib.hid (Hn1.out.belows b23)
  replace Hn2 := Lib.hid (Hn2.out.belows b23)
  replace Hl5 := Lib.hid (Hl5.out.belows b23)
  replace Hl6 := Lib.hid (Hl6.out.belows b23)
  clear b23
  have s0 := hf.isSet (notP_sup _ _) hn1
  obtain ⟨An9, rfl⟩ := s0.ptr
  have Hn9 := Lib.hid s0
  clear s0 hf
  have k9 := H5.out _ _ Hn9.out
  have g2 : (z3 : Int) + (z5 : Int) = (n2 : Int) := G2.out
  go_wp2_with fail
  refine (k9).mono ?_
  rintro e _ ⟨rfl, rfl⟩
  go_wp2
  go_ret
  exact ⟨rfl, bb23⟩
end Go.Proofs.YtkglaoagiifejaaDoor
