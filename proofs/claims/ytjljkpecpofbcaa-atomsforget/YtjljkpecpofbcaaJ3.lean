/- Contracts: level, join. -/
import Derived.Test.YtjljkpecpofbcaaJ2
namespace Go.Proofs.Ytjljkpecpofbcaa
open Go.RowKit

set_option maxRecDepth 100000 in
set_option maxHeartbeats 2000000 in
theorem level_any {vl vr : Value} (l r : Bt) (x : Int × Int) (w : World) (hl : IsT w vl l) (hr : IsT w vr r) (el : l.even) (er : r.even) (h1 : l.ht ≤ r.ht + 2) (h2 : r.ht ≤ l.ht + 2) (hz : l.size + r.size ≤ 100000) :
    Calls Try.prog 54 #[vl, pv x, vr] w (Levd w l x r) := by
  obtain ⟨pl, rfl⟩ := hl.ptr
  obtain ⟨pr, rfl⟩ := hr.ptr
  have zz := And.intro l.ht_size r.ht_size
  have hbox : Below w.heap.size w (w.alloc (.cells #[.int .u64 x.1, .int .i64 x.2] 68)) := (Below.refl _ w).alloc (Nat.le_refl _) _
  have hX := At.new w #[.int .u64 x.1, .int .i64 x.2] 68
  have hl0 := hl.belows hbox
  have hr0 := hr.belows hbox
  have HE := Lib.hid (And.intro el er)
  clear hl hr el er
  have k0 := (hX.cell 0).trans rfl
  have k1 := (hX.cell 1).trans rfl
  by_cases hc : r.ht + 1 < l.ht
  · go_enter Try.func54, Try.ntmps54
    go_wp2_with (first
      | (go_at_call_of 53 pl; refine (high_any l _ hl0).mono ?_; rintro e w1 ⟨rfl, rfl⟩)
      | (go_at_call_of 53 pr; refine (high_any r _ hr0).mono ?_; rintro e w1 ⟨rfl, rfl⟩)
      | (go_at_call 59; refine (turnRight_any l r x _ hl0 hr0 HE.out.1 HE.out.2 (by omega) hz).mono ?_; rintro e w1 ⟨v1, t1, rfl, i1, L1, b1⟩; obtain ⟨p1, rfl⟩ := i1.ptr))
    go_ret
    exact ⟨_, _, rfl, i1, L1, hbox.trans (b1.mono hbox.size)⟩
  · have d1 : decide ((r.ht : Int) + 1 < (l.ht : Int)) = false := by simp; omega
    by_cases hd : l.ht + 1 < r.ht
    · go_enter Try.func54, Try.ntmps54
      go_wp2_with (first
        | (go_at_call_of 53 pl; refine (high_any l _ hl0).mono ?_; rintro e w1 ⟨rfl, rfl⟩)
        | (go_at_call_of 53 pr; refine (high_any r _ hr0).mono ?_; rintro e w1 ⟨rfl, rfl⟩)
        | (go_at_call 60; refine (turnLeft_any l r x _ hl0 hr0 HE.out.1 HE.out.2 (by omega) hz).mono ?_; rintro e w1 ⟨v1, t1, rfl, i1, L1, b1⟩; obtain ⟨p1, rfl⟩ := i1.ptr))
      go_ret
      exact ⟨_, _, rfl, i1, L1, hbox.trans (b1.mono hbox.size)⟩
    · have d2 : decide ((l.ht : Int) + 1 < (r.ht : Int)) = false := by simp; omega
      go_enter Try.func54, Try.ntmps54
      go_wp2_with (first
        | (go_at_call_of 53 pl; refine (high_any l _ hl0).mono ?_; rintro e w1 ⟨rfl, rfl⟩)
        | (go_at_call_of 53 pr; refine (high_any r _ hr0).mono ?_; rintro e w1 ⟨rfl, rfl⟩)
        | (go_at_call 55; refine (bare_any l r x _ hl0 hr0 (by omega)).mono ?_; rintro e w1 ⟨v1, rfl, i1, b1⟩; obtain ⟨p1, rfl⟩ := i1.ptr))
      go_ret
      exact ⟨_, _, rfl, i1, lev_bare HE.out.1 HE.out.2 (by omega) (by omega), hbox.trans (b1.mono hbox.size)⟩

def Fitd (w : World) (l : Bt) (x : Int × Int) (r : Bt) (e : Ending) (w' : World) : Prop := ∃ v' t, e = .returned v' ∧ IsT w' v' t ∧ Fit l x r t ∧ Below w.heap.size w w'
def JoinIs (n : Nat) : Prop := ∀ (vl vr : Value) (l r : Bt) (x : Int × Int) (w : World), l.size + r.size ≤ n → IsT w vl l → IsT w vr r → l.even → r.even → Calls Try.prog 43 #[vl, pv x, vr] w (Fitd w l x r)
set_option maxRecDepth 100000 in
set_option maxHeartbeats 4000000 in
theorem join_step (n : Nat) (hn : n ≤ 10000) (ih : ∀ m, m < n → JoinIs m) : JoinIs n := by
  intro vl vr l r x w hz hl hr el er
  obtain ⟨pl, rfl⟩ := hl.ptr
  obtain ⟨pr, rfl⟩ := hr.ptr
  have zz := And.intro l.ht_size r.ht_size
  have hbox : Below w.heap.size w (w.alloc (.cells #[.int .u64 x.1, .int .i64 x.2] 68)) := (Below.refl _ w).alloc (Nat.le_refl _) _
  have hX := At.new w #[.int .u64 x.1, .int .i64 x.2] 68
  have hl0 := hl.belows hbox
  have hr0 := hr.belows hbox
  have HE := Lib.hid (And.intro el er)
  have IH := Lib.hid ih
  clear hl hr el er ih
  have k0 := (hX.cell 0).trans rfl
  have k1 := (hX.cell 1).trans rfl
  by_cases hc : r.ht + 1 < l.ht
  · cases l with
    | nil => simp [Bt.ht] at hc
    | node ll lx lr =>
      have H0 := Lib.hid hl0
      obtain ⟨B, vll, vlr, hp, ha, hll, hlr⟩ := hl0
      injection hp with hp
      subst hp
      obtain ⟨pll, rfl⟩ := hll.ptr
      obtain ⟨plr, rfl⟩ := hlr.ptr
      have hzz : ll.size + 1 + lr.size + r.size ≤ n := hz
      go_enter Try.func43, Try.ntmps43
      go_wp2_with (first
        | (go_at_call_of 53 pr; refine (high_any r _ hr0).mono ?_; rintro e w1 ⟨rfl, rfl⟩)
        | (go_at_call 53; refine (high_any _ _ H0.out).mono ?_; rintro e w1 ⟨rfl, rfl⟩))
      obtain ⟨W0, hW0⟩ : ∃ W0, w.alloc (.cells #[.int .u64 x.1, .int .i64 x.2] 68) = W0 := ⟨_, rfl⟩
      rw [hW0] at hbox hX hr0 k0 k1 ha hll hlr ⊢
      have HLL : Hid (∀ W, Below W0.heap.size W0 W → IsT W (.pointer pll) ll) := Lib.hid fun W hW => hll.belows hW
      have HLR : Hid (∀ W, Below W0.heap.size W0 W → IsT W (.pointer plr) lr) := Lib.hid fun W hW => hlr.belows hW
      have HR : Hid (∀ W, Below W0.heap.size W0 W → IsT W (.pointer pr) r) := Lib.hid fun W hW => hr0.belows hW
      have KS : Hid (∀ W, Below W0.heap.size W0 W → W.cell? ⟨B, 0, none⟩ = some (.int .u64 lx.1) ∧ W.cell? ⟨B, 1, none⟩ = some (.int .i64 lx.2) ∧ W.cell? ⟨B, 2, none⟩ = some (.pointer pll) ∧ W.cell? ⟨B, 3, none⟩ = some (.pointer plr) ∧ W.cell? ⟨w.heap.size, 0, none⟩ = some (.int .u64 x.1) ∧ W.cell? ⟨w.heap.size, 1, none⟩ = some (.int .i64 x.2)) := Lib.hid fun W hW => ⟨((ha.belows hW).cell 0).trans rfl, ((ha.belows hW).cell 1).trans rfl, ((ha.belows hW).cell 2).trans rfl, ((ha.belows hW).cell 3).trans rfl, ((hX.belows hW).cell 0).trans rfl, ((hX.belows hW).cell 1).trans rfl⟩
      have HC := Lib.hid hc
      clear hll hlr hr0 ha hX hW0 k0 k1 H0 hc
      have hb1 := Below.refl W0.heap.size W0
      obtain ⟨q1, q2, q3, q4, q5, q6⟩ := KS.out W0 hb1
      go_region_held3 (fun W => W.cell? ⟨B, 0, none⟩ = some (.int .u64 lx.1) ∧ W.cell? ⟨B, 1, none⟩ = some (.int .i64 lx.2) ∧ W.cell? ⟨B, 2, none⟩ = some (.pointer pll) ∧ W.cell? ⟨B, 3, none⟩ = some (.pointer plr) ∧ W.cell? ⟨w.heap.size, 0, none⟩ = some (.int .u64 x.1) ∧ W.cell? ⟨w.heap.size, 1, none⟩ = some (.int .i64 x.2)) (first | exact KS.out _ bbE | exact KS.out _ bbD | exact KS.out _ hb1.drew | exact KS.out _ hb1) (first
        | (go_at_call 43; refine (IH.out (lr.size + r.size) (by omega) _ _ lr r x _ (Nat.le_refl _) (HLR.out _ (by first | exact hb1.drew | exact hb1)) (HR.out _ (by first | exact hb1.drew | exact hb1)) HE.out.1.2.1 HE.out.2).mono ?_; rintro e wD ⟨vD, tD, rfl, iD, fD, bD⟩; obtain ⟨pD, rfl⟩ := iD.ptr; have bbD : Below W0.heap.size W0 wD := (by first | exact hb1.drew.trans (bD.mono hb1.size)))
        | (go_at_call 54; refine (level_any ll tD lx _ (HLL.out _ bbD) iD HE.out.1.1 fD.2.1 (down_left_two HE.out.1 HC.out fD).1 (down_left_two HE.out.1 HC.out fD).2 (by have := fD.size; omega)).mono ?_; rintro e wE ⟨vE, tE, rfl, iE, fE, bE⟩; have bbE : Below W0.heap.size W0 wE := bbD.trans (bE.mono bbD.size)))
      all_goals
        rename_i hHeld
        clear hHeld
        obtain ⟨pE, rfl⟩ := iE.ptr
        go_wp2
        go_ret
        exact ⟨_, _, rfl, iE, fit_down_left HE.out.1 HC.out fD fE, hbox.trans (bbE.mono hbox.size)⟩
  · have d1 : decide ((r.ht : Int) + 1 < (l.ht : Int)) = false := by simp; omega
    by_cases hd : l.ht + 1 < r.ht
    · cases r with
      | nil => simp [Bt.ht] at hd
      | node rl rx rr =>
        have H0 := Lib.hid hr0
        obtain ⟨B, vrl, vrr, hp, ha, hrl, hrr⟩ := hr0
        injection hp with hp
        subst hp
        obtain ⟨prl, rfl⟩ := hrl.ptr
        obtain ⟨prr, rfl⟩ := hrr.ptr
        have hzz : l.size + (rl.size + 1 + rr.size) ≤ n := hz
        go_enter Try.func43, Try.ntmps43
        go_wp2_with (first
          | (go_at_call_of 53 pl; refine (high_any l _ hl0).mono ?_; rintro e w1 ⟨rfl, rfl⟩)
          | (go_at_call 53; refine (high_any _ _ H0.out).mono ?_; rintro e w1 ⟨rfl, rfl⟩))
        obtain ⟨W0, hW0⟩ : ∃ W0, w.alloc (.cells #[.int .u64 x.1, .int .i64 x.2] 68) = W0 := ⟨_, rfl⟩
        rw [hW0] at hbox hX hl0 k0 k1 ha hrl hrr ⊢
        have HRL : Hid (∀ W, Below W0.heap.size W0 W → IsT W (.pointer prl) rl) := Lib.hid fun W hW => hrl.belows hW
        have HRR : Hid (∀ W, Below W0.heap.size W0 W → IsT W (.pointer prr) rr) := Lib.hid fun W hW => hrr.belows hW
        have HL : Hid (∀ W, Below W0.heap.size W0 W → IsT W (.pointer pl) l) := Lib.hid fun W hW => hl0.belows hW
        have KS : Hid (∀ W, Below W0.heap.size W0 W → W.cell? ⟨B, 0, none⟩ = some (.int .u64 rx.1) ∧ W.cell? ⟨B, 1, none⟩ = some (.int .i64 rx.2) ∧ W.cell? ⟨B, 2, none⟩ = some (.pointer prl) ∧ W.cell? ⟨B, 3, none⟩ = some (.pointer prr) ∧ W.cell? ⟨w.heap.size, 0, none⟩ = some (.int .u64 x.1) ∧ W.cell? ⟨w.heap.size, 1, none⟩ = some (.int .i64 x.2)) := Lib.hid fun W hW => ⟨((ha.belows hW).cell 0).trans rfl, ((ha.belows hW).cell 1).trans rfl, ((ha.belows hW).cell 2).trans rfl, ((ha.belows hW).cell 3).trans rfl, ((hX.belows hW).cell 0).trans rfl, ((hX.belows hW).cell 1).trans rfl⟩
        have HC := Lib.hid hd
        clear hrl hrr hl0 ha hX hW0 k0 k1 H0 hc hd d1
        have hb1 := Below.refl W0.heap.size W0
        obtain ⟨q1, q2, q3, q4, q5, q6⟩ := KS.out W0 hb1
        go_region_held3 (fun W => W.cell? ⟨B, 0, none⟩ = some (.int .u64 rx.1) ∧ W.cell? ⟨B, 1, none⟩ = some (.int .i64 rx.2) ∧ W.cell? ⟨B, 2, none⟩ = some (.pointer prl) ∧ W.cell? ⟨B, 3, none⟩ = some (.pointer prr) ∧ W.cell? ⟨w.heap.size, 0, none⟩ = some (.int .u64 x.1) ∧ W.cell? ⟨w.heap.size, 1, none⟩ = some (.int .i64 x.2)) (first | exact KS.out _ bbE | exact KS.out _ bbD | exact KS.out _ hb1.drew | exact KS.out _ hb1) (first
          | (go_at_call 43; refine (IH.out (l.size + rl.size) (by omega) _ _ l rl x _ (Nat.le_refl _) (HL.out _ (by first | exact hb1.drew | exact hb1)) (HRL.out _ (by first | exact hb1.drew | exact hb1)) HE.out.1 HE.out.2.1).mono ?_; rintro e wD ⟨vD, tD, rfl, iD, fD, bD⟩; obtain ⟨pD, rfl⟩ := iD.ptr; have bbD : Below W0.heap.size W0 wD := (by first | exact hb1.drew.trans (bD.mono hb1.size)))
          | (go_at_call 54; refine (level_any tD rr rx _ iD (HRR.out _ bbD) fD.2.1 HE.out.2.2.1 (down_right_two HE.out.2 HC.out fD).2 (down_right_two HE.out.2 HC.out fD).1 (by have := fD.size; omega)).mono ?_; rintro e wE ⟨vE, tE, rfl, iE, fE, bE⟩; have bbE : Below W0.heap.size W0 wE := bbD.trans (bE.mono bbD.size)))
        all_goals
          rename_i hHeld
          clear hHeld
          obtain ⟨pE, rfl⟩ := iE.ptr
          go_wp2
          go_ret
          exact ⟨_, _, rfl, iE, fit_down_right HE.out.2 HC.out fD fE, hbox.trans (bbE.mono hbox.size)⟩
    · have d2 : decide ((l.ht : Int) + 1 < (r.ht : Int)) = false := by simp; omega
      go_enter Try.func43, Try.ntmps43
      go_wp2_with (first
        | (go_at_call_of 53 pl; refine (high_any l _ hl0).mono ?_; rintro e w1 ⟨rfl, rfl⟩)
        | (go_at_call_of 53 pr; refine (high_any r _ hr0).mono ?_; rintro e w1 ⟨rfl, rfl⟩)
        | (go_at_call 55; refine (bare_any l r x _ hl0 hr0 (by omega)).mono ?_; rintro e w1 ⟨v1, rfl, i1, b1⟩; obtain ⟨p1, rfl⟩ := i1.ptr))
      go_ret
      exact ⟨_, _, rfl, i1, (lev_bare HE.out.1 HE.out.2 (by omega) (by omega)).1, hbox.trans (b1.mono hbox.size)⟩
theorem join_is (n : Nat) (hn : n ≤ 10000) : JoinIs n := by
  induction n using Nat.strongRecOn with
  | _ n ih => exact join_step n hn fun m hm => ih m hm (by omega)
/-- join. -/
theorem join_any {vl vr : Value} (l r : Bt) (x : Int × Int) (w : World) (hl : IsT w vl l) (hr : IsT w vr r) (el : l.even) (er : r.even) (hz : l.size + r.size ≤ 10000) : Calls Try.prog 43 #[vl, pv x, vr] w (Fitd w l x r) :=
  join_is _ hz vl vr l r x w (Nat.le_refl _) hl hr el er
end Go.Proofs.Ytjljkpecpofbcaa
