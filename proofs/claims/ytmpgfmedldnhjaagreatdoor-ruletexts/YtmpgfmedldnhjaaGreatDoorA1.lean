/- Contracts: some, alive. -/
import Derived.Test.YtmpgfmedldnhjaaGreatDoorS12
namespace Go.Proofs.YtmpgfmedldnhjaaGreatDoor
open Go.RowKit Go.Shelf

/-- A device's rules. -/
def sm : List Ru := [⟨1, 0, 5, 0, 0, 99, 2⟩, ⟨2, 0, 9, 1, 50, 59, 0⟩, ⟨3, 0, 1, 3, 70, 79, 0⟩, ⟨4, 0, 5, 0, 0, 9, 1⟩]
theorem isR_of_at {w : World} {B c : Nat} {L : List Ru} {cs : Array Value} {T : TypeId} (h : At w B cs T) (hc : cs.toList = rcs L) (h1 : L.length ≤ c) (h2 : c ≤ maxLen) : IsR w (.slice (some ⟨B, 0, none⟩) L.length c) L := by
  refine ⟨_, c, rfl, h1, h2, fun _ => ⟨B, 0, rfl, h.lt, fun k hk j hj => ?_⟩⟩
  rw [Nat.zero_add, h.cell, ← Array.getElem?_toList, hc, rcs_at L k j hk hj]
def SomeOut (w : World) (e : Ending) (w' : World) : Prop := ∃ v, e = .returned v ∧ IsR w' v sm ∧ Below w.heap.size w w'
set_option maxRecDepth 100000 in
theorem some_any (w : World) : Calls Tryz.prog 19 #[] w (SomeOut w) := by
  go_enter Tryz.func19, Tryz.ntmps19
  go_wp2
  go_ret
  exact ⟨_, rfl, isR_of_at (L := sm) (c := 4) (At.new w _ _) rfl (by decide) (by decide), (Below.refl _ _).alloc (Nat.le_refl _) _⟩
theorem mk1 : firstL (tk 0 0 1 5) sm = some ⟨1, 0, 5, 0, 0, 99, 2⟩ := by decide +kernel
theorem mk2 : firstL (tk 0 0 1 55) sm = some ⟨2, 0, 9, 1, 50, 59, 0⟩ := by decide +kernel
theorem mk3 : firstL (tk 1 0 1 55) sm = none := by decide +kernel
theorem dk1 : ((firstL (tk 0 2 3 75) sm).isSome && decide (((firstL (tk 0 2 3 75) sm).getD ru0).kd = 3)) = true := by decide +kernel
theorem dk2 : ((firstL (tk 0 2 3 5) sm).isSome && decide (((firstL (tk 0 2 3 5) sm).getD ru0).kd = 3)) = false := by decide +kernel
theorem ak : allB sm = true := by decide +kernel
theorem lm1 {v : Value} (u : World) (h : IsR u v sm) : Calls Tryz.prog 9 #[v, .int .i64 0, .int .u32 5] u fun e w' => e = .returned (.tuple #[.agg #[.int .i64 1, .int .i64 0, .int .i64 5, .int .i64 0, .int .u32 0, .int .u32 99, .int .i64 2], .bool true]) ∧ Below u.heap.size u w' := by
  have := match_any sm 0 5 u h; rw [mk1] at this; exact this
theorem lm2 {v : Value} (u : World) (h : IsR u v sm) : Calls Tryz.prog 9 #[v, .int .i64 0, .int .u32 55] u fun e w' => e = .returned (.tuple #[.agg #[.int .i64 2, .int .i64 0, .int .i64 9, .int .i64 1, .int .u32 50, .int .u32 59, .int .i64 0], .bool true]) ∧ Below u.heap.size u w' := by
  have := match_any sm 0 55 u h; rw [mk2] at this; exact this
theorem lm3 {v : Value} (u : World) (h : IsR u v sm) : Calls Tryz.prog 9 #[v, .int .i64 1, .int .u32 55] u fun e w' => e = .returned (.tuple #[.agg #[.int .i64 0, .int .i64 0, .int .i64 0, .int .i64 0, .int .u32 0, .int .u32 0, .int .i64 0], .bool false]) ∧ Below u.heap.size u w' := by
  have := match_any sm 1 55 u h; rw [mk3] at this; exact this
theorem ld1 {v : Value} (u : World) (h : IsR u v sm) : Calls Tryz.prog 12 #[v, .int .i64 0, .int .u32 75] u fun e w' => e = .returned (.bool true) ∧ Below u.heap.size u w' := by
  have := denies_any sm 0 75 u h; rw [dk1] at this; exact this
theorem ld2 {v : Value} (u : World) (h : IsR u v sm) : Calls Tryz.prog 12 #[v, .int .i64 0, .int .u32 5] u fun e w' => e = .returned (.bool false) ∧ Below u.heap.size u w' := by
  have := denies_any sm 0 5 u h; rw [dk2] at this; exact this
theorem la1 {v : Value} (u : World) (h : IsR u v sm) : Calls Tryz.prog 20 #[v] u fun e w' => e = .returned (.bool true) ∧ Below u.heap.size u w' := by
  have := all_any sm u h; rw [ak] at this; exact this
/-- The rule of alive's text. -/
def lr : Ru := ⟨7, 0, 10, 0, 167772160, 184549375, 3⟩
theorem lr_right : ruB lr = true := by decide +kernel
theorem lr_wf : lr.wf := by simp [Ru.wf, isI, lr]
def lt : ByteArray := ⟨#[55, 32, 48, 32, 49, 48, 32, 102, 111, 114, 119, 97, 114, 100, 32, 49, 48, 46, 48, 46, 48, 46, 48, 45, 49, 48, 46, 50, 53, 53, 46, 50, 53, 53, 46, 50, 53, 53, 32, 51]⟩
theorem lr_text : lt.data.toList = textL lr := by decide +kernel
theorem lp (u : World) (hT : Tb u) : Calls Tryz.prog 17 #[.string lt] u fun e w' => e = .returned (.tuple #[.agg #[.int .i64 7, .int .i64 0, .int .i64 10, .int .i64 0, .int .u32 167772160, .int .u32 184549375, .int .i64 3], .int .i64 0]) ∧ Below u.heap.size u w' := by
  refine (parse7_any lt u hT (by decide +kernel)).mono ?_
  rintro e w' ⟨r, er, rfl, hp, hb⟩
  obtain ⟨rfl, rfl⟩ := hp.back lr_right lr_wf lr_text
  exact ⟨rfl, hb⟩
theorem lx (u : World) (hT : Tb u) : Calls Tryz.prog 15 #[.agg #[.int .i64 7, .int .i64 0, .int .i64 10, .int .i64 0, .int .u32 167772160, .int .u32 184549375, .int .i64 3]] u fun e w' => e = .returned (.string lt) ∧ Below u.heap.size u w' := by
  have := text_right lr u hT lr_right lr_wf
  rw [← lr_text] at this
  exact this
theorem lt_eq : (lt.toList == lt.toList) = true := by simp
set_option maxRecDepth 100000 in
set_option maxHeartbeats 4000000 in
/-- alive. -/
theorem alive_any (w : World) (hT : Tb w) : Calls Tryz.prog 6 #[] w fun e w' => e = .returned (.bool true) ∧ Below w.heap.size w w' := by
  have HT : Hid (∀ u, Below w.heap.size w u → Tb u) := Lib.hid fun u hu => hT.below hu
  have heq := lt_eq
  have hlp := lp
  have hlx := lx
  unfold lt at heq hlp hlx
  clear hT
  go_enter Tryz.func6, Tryz.ntmps6
  go_wp2_with fail
  refine (some_any _).mono ?_
  rintro e w1 ⟨v1, rfl, hv, b1⟩
  have hm := lm1 _ hv
  obtain ⟨A1, c1, rfl, _, _, _⟩ := hv
  go_wp2_with fail
  refine hm.mono ?_
  rintro e w2 ⟨rfl, b2⟩
  have bb2 := b1.trans (b2.mono b1.size)
  clear hm b1 b2
  have X := At.new w2 #[.int .i64 1, .int .i64 0, .int .i64 5, .int .i64 0, .int .u32 0, .int .u32 99, .int .i64 2] 31
  have bb3 := bb2.alloc bb2.size (.cells #[.int .i64 1, .int .i64 0, .int .i64 5, .int .i64 0, .int .u32 0, .int .u32 99, .int .i64 2] 31)
  go_wp2_with fail
  refine (some_any _).mono ?_
  rintro e w3 ⟨v3, rfl, hv, b3⟩
  have hm := lm2 _ hv
  obtain ⟨A3, c3, rfl, _, _, _⟩ := hv
  go_wp2_with fail
  refine hm.mono ?_
  rintro e w4 ⟨rfl, b4⟩
  have b34 := b3.trans (b4.mono b3.size)
  have bb4 := bb3.trans (b34.mono bb3.size)
  have X4 := X.belows b34
  clear hm b3 b4 X b34 bb3 bb2
  have X5 := X4.alloc (.cells #[.int .i64 2, .int .i64 0, .int .i64 9, .int .i64 1, .int .u32 50, .int .u32 59, .int .i64 0] 31)
  have Y := At.new w4 #[.int .i64 2, .int .i64 0, .int .i64 9, .int .i64 1, .int .u32 50, .int .u32 59, .int .i64 0] 31
  have bb5 := bb4.alloc bb4.size (.cells #[.int .i64 2, .int .i64 0, .int .i64 9, .int .i64 1, .int .u32 50, .int .u32 59, .int .i64 0] 31)
  clear X4
  go_wp2_with fail
  refine (some_any _).mono ?_
  rintro e w5 ⟨v5, rfl, hv, b5⟩
  have hm := lm3 _ hv
  obtain ⟨A5, c5, rfl, _, _, _⟩ := hv
  go_wp2_with fail
  refine hm.mono ?_
  rintro e w6 ⟨rfl, b6⟩
  have b56 := b5.trans (b6.mono b5.size)
  have bb6 := bb5.trans (b56.mono bb5.size)
  have X6 := (X5.belows b56).alloc (.cells #[.int .i64 0, .int .i64 0, .int .i64 0, .int .i64 0, .int .u32 0, .int .u32 0, .int .i64 0] 31)
  have Y6 := (Y.belows b56).alloc (.cells #[.int .i64 0, .int .i64 0, .int .i64 0, .int .i64 0, .int .u32 0, .int .u32 0, .int .i64 0] 31)
  have bb7 := bb6.alloc bb6.size (.cells #[.int .i64 0, .int .i64 0, .int .i64 0, .int .i64 0, .int .u32 0, .int .u32 0, .int .i64 0] 31)
  have hpp := hlp _ (HT.out _ bb7)
  clear hm b5 b6 b56 X5 Y bb4 bb5 bb6
  go_wp2_with fail
  refine hpp.mono ?_
  rintro e w7 ⟨rfl, b7⟩
  have bb8 := bb7.trans (b7.mono bb7.size)
  have X8 := (X6.belows b7).alloc (.cells #[.int .i64 7, .int .i64 0, .int .i64 10, .int .i64 0, .int .u32 167772160, .int .u32 184549375, .int .i64 3] 31)
  have Y8 := (Y6.belows b7).alloc (.cells #[.int .i64 7, .int .i64 0, .int .i64 10, .int .i64 0, .int .u32 167772160, .int .u32 184549375, .int .i64 3] 31)
  have P8 := At.new w7 #[.int .i64 7, .int .i64 0, .int .i64 10, .int .i64 0, .int .u32 167772160, .int .u32 184549375, .int .i64 3] 31
  have bb9 := bb8.alloc bb8.size (.cells #[.int .i64 7, .int .i64 0, .int .i64 10, .int .i64 0, .int .u32 167772160, .int .u32 184549375, .int .i64 3] 31)
  clear hpp X6 Y6 b7 bb7 bb8 hlp
  go_wp2_with fail
  refine (some_any _).mono ?_
  rintro e w9 ⟨v9, rfl, hv, b9⟩
  have hm := la1 _ hv
  obtain ⟨A9, c9, rfl, _, _, _⟩ := hv
  go_wp2_with fail
  refine hm.mono ?_
  rintro e w10 ⟨rfl, b10⟩
  have b90 := b9.trans (b10.mono b9.size)
  have bb10 := bb9.trans (b90.mono bb9.size)
  have X10 := X8.belows b90
  have Y10 := Y8.belows b90
  have P10 := P8.belows b90
  have x0 := (X10.cell 0).trans rfl
  have y0 := (Y10.cell 0).trans rfl
  clear hm b9 b10 b90 X8 Y8 P8 bb9
  go_wp2_with fail
  refine (some_any _).mono ?_
  rintro e w11 ⟨v11, rfl, hv, b11⟩
  have hm := ld1 _ hv
  obtain ⟨A11, c11, rfl, _, _, _⟩ := hv
  go_wp2_with fail
  refine hm.mono ?_
  rintro e w12 ⟨rfl, b12⟩
  have b112 := b11.trans (b12.mono b11.size)
  have bb12 := bb10.trans (b112.mono bb10.size)
  have P12 := P10.belows b112
  clear hm b11 b12 b112 X10 Y10 x0 y0 P10 bb10
  go_wp2_with fail
  refine (some_any _).mono ?_
  rintro e w13 ⟨v13, rfl, hv, b13⟩
  have hm := ld2 _ hv
  obtain ⟨A13, c13, rfl, _, _, _⟩ := hv
  go_wp2_with fail
  refine hm.mono ?_
  rintro e w14 ⟨rfl, b14⟩
  have b134 := b13.trans (b14.mono b13.size)
  have bb14 := bb12.trans (b134.mono bb12.size)
  have P14 := P12.belows b134
  have p0 := (P14.cell 0).trans rfl
  have p1 := (P14.cell 1).trans rfl
  have p2 := (P14.cell 2).trans rfl
  have p3 := (P14.cell 3).trans rfl
  have p4 := (P14.cell 4).trans rfl
  have p5 := (P14.cell 5).trans rfl
  have p6 := (P14.cell 6).trans rfl
  have hxx := hlx _ (HT.out _ bb14)
  clear hm b13 b14 b134 P12 bb12 P14 hlx
  go_wp2_with fail
  refine hxx.mono ?_
  rintro e w15 ⟨rfl, b15⟩
  go_wp2
  go_ret
  exact ⟨rfl, bb14.trans (b15.mono bb14.size)⟩
end Go.Proofs.YtmpgfmedldnhjaaGreatDoor
