/- alive (stage 9). -/
import Derived.Test.YtmndgbpfophniaaG1
namespace Go.Proofs.Ytmndgbpfophniaa
open Go.RowKit Go.Shelf

def T3Out (f pd pp : Int) (w : World) (e : Ending) (w' : World) : Prop := ∃ A c, e = .returned (.tuple #[.agg #[.slice A 3 c, .int .i64 f, .int .i64 pd, .int .i64 pp], .int .i64 0]) ∧ Below w.heap.size w w'
theorem lt_some (O : Own9) {A1 A2 A3 : Option Addr} {c1 c2 c3 : Nat} (a : Nat) (ha : a < 4294967296) {ds : List Int} {f pd pp : Int} (ht : trcN netP netK netR a 0 = ⟨ds, f, ⟨pd, pp⟩⟩) (hl : ds.length = 3) (u : World) (h : IsN u (.slice A1 3 c1) (.slice A2 2 c2) (.slice A3 5 c3) netP netK netR) : Calls Try.prog 10 #[.agg #[.slice A1 3 c1, .slice A2 2 c2, .slice A3 5 c3], .int .i64 0, .int .u32 a] u (T3Out f pd pp u) := by
  refine (O.trace netP netK netR 0 a u net_right net_w (by simp [isI]) ha h).mono ?_
  rintro e w' (⟨_, v, rfl, hv, _, hb⟩ | ⟨hno, _⟩)
  · rw [ht] at hv ⊢
    obtain ⟨A, c, rfl, _⟩ := hv
    unfold tcV
    dsimp only
    rw [hl]
    exact ⟨A, c, rfl, hb⟩
  · exact absurd (by decide) hno
theorem lt_none (O : Own9) {A1 A2 A3 : Option Addr} {c1 c2 c3 : Nat} (u : World) (h : IsN u (.slice A1 3 c1) (.slice A2 2 c2) (.slice A3 5 c3) netP netK netR) : Calls Try.prog 10 #[.agg #[.slice A1 3 c1, .slice A2 2 c2, .slice A3 5 c3], .int .i64 3, .int .u32 22] u (TrNo u) := by
  refine (O.trace netP netK netR 3 22 u net_right net_w (by simp [isI]) (by decide) h).mono ?_
  rintro e w' (⟨hi, _⟩ | ⟨_, h⟩)
  · exact absurd hi (by decide)
  · exact h
theorem lr_net (O : Own9) {A1 A2 A3 : Option Addr} {c1 c2 c3 : Nat} (u : World) (h : IsN u (.slice A1 3 c1) (.slice A2 2 c2) (.slice A3 5 c3) netP netK netR) : Calls Try.prog 9 #[.agg #[.slice A1 3 c1, .slice A2 2 c2, .slice A3 5 c3]] u fun e w' => e = .returned (.bool true) ∧ Below u.heap.size u w' := by
  have := O.right netP netK netR u net_w h
  rwa [(rightN_iff _ _ _).2 net_right] at this
set_option maxRecDepth 100000 in
set_option maxHeartbeats 4000000 in
/-- alive. -/
theorem alive9_any (O : Own9) (w : World) : Calls Try.prog 7 #[] w fun e w' => e = .returned (.bool true) ∧ Below w.heap.size w w' := by
  have hq : ∀ u : World, (binOp .eql 34 (.agg #[.int .i64 2, .int .i64 1]) (.agg #[.int .i64 2, .int .i64 1])).run Try.prog u = .ok (.bool true) u := fun u => eql_pt ⟨2, 1⟩ ⟨2, 1⟩ u
  go_enter Try.func7, Try.ntmps7
  go_wp2_with fail
  refine (net_any _).mono ?_
  rintro e w1 ⟨A1, c1, A2, c2, A3, c3, rfl, hN, b1⟩
  have hm := lt_some O 10 (by decide) net_10 rfl _ hN
  clear hN
  go_wp2_with fail
  refine hm.mono ?_
  rintro e w2 ⟨AX, cX, rfl, b2⟩
  have bs1 := b1.trans (b2.mono b1.size)
  have bb1 := bs1
  have ba1 := bb1.alloc bb1.size (.cells #[.slice AX 3 cX, .int .i64 3, .int .i64 2, .int .i64 1] 36)
  have X1 := At.new w2 #[.slice AX 3 cX, .int .i64 3, .int .i64 2, .int .i64 1] 36
  clear hm b1 b2
  go_wp2_with fail
  refine (net_any _).mono ?_
  rintro e w3 ⟨A1, c1, A2, c2, A3, c3, rfl, hN, b3⟩
  have hm := lt_some O 55 (by decide) net_55 rfl _ hN
  clear hN
  go_wp2_with fail
  refine hm.mono ?_
  rintro e w4 ⟨AY, cY, rfl, b4⟩
  have bs2 := b3.trans (b4.mono b3.size)
  have bb2 := ba1.trans (bs2.mono ba1.size)
  have ba2 := bb2.alloc bb2.size (.cells #[.slice AY 3 cY, .int .i64 4, .int .i64 0, .int .i64 0] 36)
  have X2 := (X1.belows bs2).alloc (.cells #[.slice AY 3 cY, .int .i64 4, .int .i64 0, .int .i64 0] 36)
  have Y2 := At.new w4 #[.slice AY 3 cY, .int .i64 4, .int .i64 0, .int .i64 0] 36
  clear hm b3 b4 X1
  go_wp2_with fail
  refine (net_any _).mono ?_
  rintro e w5 ⟨A1, c1, A2, c2, A3, c3, rfl, hN, b5⟩
  have hm := lt_some O 22 (by decide) net_22 rfl _ hN
  clear hN
  go_wp2_with fail
  refine hm.mono ?_
  rintro e w6 ⟨AZ, cZ, rfl, b6⟩
  have bs3 := b5.trans (b6.mono b5.size)
  have bb3 := ba2.trans (bs3.mono ba2.size)
  have ba3 := bb3.alloc bb3.size (.cells #[.slice AZ 3 cZ, .int .i64 2, .int .i64 0, .int .i64 0] 36)
  have X3 := (X2.belows bs3).alloc (.cells #[.slice AZ 3 cZ, .int .i64 2, .int .i64 0, .int .i64 0] 36)
  have Y3 := (Y2.belows bs3).alloc (.cells #[.slice AZ 3 cZ, .int .i64 2, .int .i64 0, .int .i64 0] 36)
  have Z3 := At.new w6 #[.slice AZ 3 cZ, .int .i64 2, .int .i64 0, .int .i64 0] 36
  clear hm b5 b6 X2 Y2
  go_wp2_with fail
  refine (net_any _).mono ?_
  rintro e w7 ⟨A1, c1, A2, c2, A3, c3, rfl, hN, b7⟩
  have hm := lt_none O _ hN
  clear hN
  go_wp2_with fail
  refine hm.mono ?_
  rintro e w8 ⟨AN, cN, _, rfl, b8⟩
  have bs4 := b7.trans (b8.mono b7.size)
  have bb4 := ba3.trans (bs4.mono ba3.size)
  have ba4 := bb4.alloc bb4.size (.cells #[.slice AN 0 cN, .int .i64 0, .int .i64 0, .int .i64 0] 36)
  have X4 := (X3.belows bs4).alloc (.cells #[.slice AN 0 cN, .int .i64 0, .int .i64 0, .int .i64 0] 36)
  have Y4 := (Y3.belows bs4).alloc (.cells #[.slice AN 0 cN, .int .i64 0, .int .i64 0, .int .i64 0] 36)
  have Z4 := (Z3.belows bs4).alloc (.cells #[.slice AN 0 cN, .int .i64 0, .int .i64 0, .int .i64 0] 36)
  have N4 := At.new w8 #[.slice AN 0 cN, .int .i64 0, .int .i64 0, .int .i64 0] 36
  clear hm b7 b8 X3 Y3 Z3
  go_wp2_with fail
  refine (net_any _).mono ?_
  rintro e w9 ⟨A1, c1, A2, c2, A3, c3, rfl, hN, b9⟩
  have hm := lr_net O _ hN
  clear hN
  go_wp2_with fail
  refine hm.mono ?_
  rintro e w10 ⟨rfl, b10⟩
  have bs5 := b9.trans (b10.mono b9.size)
  have bb5 := ba4.trans (bs5.mono ba4.size)
  have X5 := X4.belows bs5; have Y5 := Y4.belows bs5; have Z5 := Z4.belows bs5
  have x0 := (X5.cell 0).trans rfl; have x1 := (X5.cell 1).trans rfl; have x2 := (X5.cell 2).trans rfl; have x3 := (X5.cell 3).trans rfl
  have y0 := (Y5.cell 0).trans rfl; have y1 := (Y5.cell 1).trans rfl
  have z1 := (Z5.cell 1).trans rfl
  clear hm b9 b10 X4 Y4 Z4 N4
  go_wp2
  go_ret
  exact ⟨rfl, bb5⟩
end Go.Proofs.Ytmndgbpfophniaa
