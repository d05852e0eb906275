/- Texts of this seat, put together: RtJ2, RtJ3, RtJ4, RtP1, RtP2, RtP3, RtP4, RtB1, RtB2, RtB3, RtB4, RtB5, RtB6, RtB6a, RtB6b, RtB6c, RtB6d, RtB7, Pf1, Pf2, F3, F4, F5, F2, SF, F6, K1, K2, J1, M1, N1, M2, M5, N2, N3. -/
import Derived.Test.YteboadppighplaaGreatZ3
import Derived.RangeFuncNested
import Derived.RangeFuncBound
import Derived.RangeFuncCalls
import Derived.RangeFuncLeaves
import Derived.Shelf.Abstract
import Derived.Shelf.RegionOpen
import Derived.OwnWalkIn
import Derived.TacticsInMore
import Derived.LoopNIn
import Derived.LoopIn
import Derived.Maps.AppendAt
import Derived.Maps.OwnIn
import Derived.Test.YteboadppighplaaGreatZ2
import Derived.Test.YteboadppighplaaGreatZ1
import Derived.Laws.MakeOwn
import Derived.Maps.OwnSet
import Derived.Maps.OwnOps
import Derived.Maps.Views
import Derived.DeepKeys4
/- Contracts: turnRight, turnLeft. -/
namespace Go.Proofs.YteboadppighplaaGreat.Tr
open Go.RowKit

def Levd (w : World) (l : Bt) (x : Int × Int) (r : Bt) (e : Ending) (w' : World) : Prop := ∃ v' t, e = .returned v' ∧ IsT w' v' t ∧ Lev l x r t ∧ Below w.heap.size w w'

set_option maxRecDepth 100000 in
set_option maxHeartbeats 4000000 in
theorem turnRight_any {vl vr : Value} (l r : Bt) (x : Int × Int) (w : World) (hl : IsT w vl l) (hr : IsT w vr r) (el : l.even) (er : r.even) (h2 : l.ht = r.ht + 2) (hz : l.size + r.size ≤ 100000) :
    Calls Tryz.prog 135 #[vl, pv x, vr] w (Levd w l x r) := by
  obtain ⟨pr, rfl⟩ := hr.ptr
  cases l with
  | nil => simp [Bt.ht] at h2
  | node ll lx lr =>
    obtain ⟨B, vo, vi, rfl, ha, ho, hi⟩ := hl
    obtain ⟨po, rfl⟩ := ho.ptr
    obtain ⟨pi, rfl⟩ := hi.ptr
    simp only [Bt.size] at hz
    have hbox : Below w.heap.size w (w.alloc (.cells #[.int .u64 x.1, .int .i64 x.2] 119)) := (Below.refl _ w).alloc (Nat.le_refl _) _
    have hX := At.new w #[.int .u64 x.1, .int .i64 x.2] 119
    have ha0 := ha.belows hbox
    have ho0 := ho.belows hbox
    have hi0 := hi.belows hbox
    have hr0 := hr.belows hbox
    clear ha ho hi hr
    have c0 := (ha0.cell 0).trans rfl
    have c1 := (ha0.cell 1).trans rfl
    have c2 := (ha0.cell 2).trans rfl
    have c3 := (ha0.cell 3).trans rfl
    go_enter Tryz.func135, Tryz.ntmps135
    go_wp2_with fail
    obtain ⟨W0, hW0⟩ : ∃ W0, w.alloc (.cells #[.int .u64 x.1, .int .i64 x.2] 119) = W0 := ⟨_, rfl⟩
    rw [hW0] at c0 c1 c2 c3 hbox hX ha0 ho0 hi0 hr0 ⊢
    clear hW0
    have HO : Hid (∀ W, Below W0.heap.size W0 W → IsT W (.pointer po) ll) := Lib.hid fun W hW => ho0.belows hW
    have HI : Hid (∀ W, Below W0.heap.size W0 W → IsT W (.pointer pi) lr) := Lib.hid fun W hW => hi0.belows hW
    have HR : Hid (∀ W, Below W0.heap.size W0 W → IsT W (.pointer pr) r) := Lib.hid fun W hW => hr0.belows hW
    have HA : Hid (∀ W, Below W0.heap.size W0 W → W.cell? ⟨B, 0, none⟩ = some (.int .u64 lx.1) ∧ W.cell? ⟨B, 1, none⟩ = some (.int .i64 lx.2) ∧ W.cell? ⟨B, 2, none⟩ = some (.pointer po) ∧ W.cell? ⟨w.heap.size, 0, none⟩ = some (.int .u64 x.1) ∧ W.cell? ⟨w.heap.size, 1, none⟩ = some (.int .i64 x.2)) := Lib.hid fun W hW => ⟨((ha0.belows hW).cell 0).trans rfl, ((ha0.belows hW).cell 1).trans rfl, ((ha0.belows hW).cell 2).trans rfl, ((hX.belows hW).cell 0).trans rfl, ((hX.belows hW).cell 1).trans rfl⟩
    clear ho0 hr0 ha0 hX
    by_cases hin : ll.ht < lr.ht
    · go_quiet (first | (go_at_call_of 127 po; exact Calls.quiet_of_same (same_of (high_any ll _ (HO.out _ (bdrewN (Below.refl _ _) _))))) | (go_at_call_of 127 pi; exact Calls.quiet_of_same (same_of (high_any lr _ (HI.out _ (bdrewN (Below.refl _ _) _))))))
      have hb1 : Below W0.heap.size W0 (W0.drewN nq) := bdrewN (Below.refl _ _) _
      generalize W0.drewN nq = W1 at hb1 ⊢
      cases lr with
      | nil => simp [Bt.ht] at hin
      | node il ix ir =>
        obtain ⟨Bi, vil, vir, hpi, hai, hil, hir⟩ := hi0
        injection hpi with hpi
        subst hpi
        obtain ⟨pil, rfl⟩ := hil.ptr
        obtain ⟨pir, rfl⟩ := hir.ptr
        simp only [Bt.size] at hz
        have HIL : Hid (∀ W, Below W0.heap.size W0 W → IsT W (.pointer pil) il) := Lib.hid fun W hW => hil.belows hW
        have HIR : Hid (∀ W, Below W0.heap.size W0 W → IsT W (.pointer pir) ir) := Lib.hid fun W hW => hir.belows hW
        have KS : Hid (∀ W, Below W0.heap.size W0 W → W.cell? ⟨B, 0, none⟩ = some (.int .u64 lx.1) ∧ W.cell? ⟨B, 1, none⟩ = some (.int .i64 lx.2) ∧ W.cell? ⟨B, 2, none⟩ = some (.pointer po) ∧ W.cell? ⟨w.heap.size, 0, none⟩ = some (.int .u64 x.1) ∧ W.cell? ⟨w.heap.size, 1, none⟩ = some (.int .i64 x.2) ∧ W.cell? ⟨Bi, 0, none⟩ = some (.int .u64 ix.1) ∧ W.cell? ⟨Bi, 1, none⟩ = some (.int .i64 ix.2) ∧ W.cell? ⟨Bi, 2, none⟩ = some (.pointer pil) ∧ W.cell? ⟨Bi, 3, none⟩ = some (.pointer pir)) := Lib.hid fun W hW => by
          obtain ⟨q1, q2, q3, q4, q5⟩ := HA.out W hW
          exact ⟨q1, q2, q3, q4, q5, ((hai.belows hW).cell 0).trans rfl, ((hai.belows hW).cell 1).trans rfl, ((hai.belows hW).cell 2).trans rfl, ((hai.belows hW).cell 3).trans rfl⟩
        have HEV := Lib.hid (And.intro (And.intro el er) (And.intro h2 hin))
        clear hil hir hai c0 c1 c2 c3 HA el er h2 hin
        obtain ⟨k1, k2, k3, k4, k5, k6, k7, k8, k9⟩ := KS.out W1 hb1
        go_wp2_with fail
        go_region_held3 (fun W => W.cell? ⟨B, 0, none⟩ = some (.int .u64 lx.1) ∧ W.cell? ⟨B, 1, none⟩ = some (.int .i64 lx.2) ∧ W.cell? ⟨B, 2, none⟩ = some (.pointer po) ∧ W.cell? ⟨w.heap.size, 0, none⟩ = some (.int .u64 x.1) ∧ W.cell? ⟨w.heap.size, 1, none⟩ = some (.int .i64 x.2) ∧ W.cell? ⟨Bi, 0, none⟩ = some (.int .u64 ix.1) ∧ W.cell? ⟨Bi, 1, none⟩ = some (.int .i64 ix.2) ∧ W.cell? ⟨Bi, 2, none⟩ = some (.pointer pil) ∧ W.cell? ⟨Bi, 3, none⟩ = some (.pointer pir)) (first | exact KS.out _ bbC | exact KS.out _ bbA | exact KS.out _ bbB | exact KS.out _ hb1.drew | exact KS.out _ hb1) (first
          | (go_at_call_of 129 pil; refine (bare_any ll il lx _ (HO.out _ (by first | exact bbB | exact hb1.drew | exact hb1)) (HIL.out _ (by first | exact bbB | exact hb1.drew | exact hb1)) (by omega)).mono ?_; rintro e wA ⟨vA, rfl, tA, bA⟩; obtain ⟨pA, rfl⟩ := tA.ptr; have bbA : Below W0.heap.size W0 wA := (by first | exact bbB.trans (bA.mono bbB.size) | exact hb1.drew.trans (bA.mono hb1.size)))
          | (go_at_call_of 129 pir; refine (bare_any ir r x _ (HIR.out _ (by first | exact bbA | exact hb1.drew | exact hb1)) (HR.out _ (by first | exact bbA | exact hb1.drew | exact hb1)) (by omega)).mono ?_; rintro e wB ⟨vB, rfl, tB, bB⟩; obtain ⟨pB, rfl⟩ := tB.ptr; have bbB : Below W0.heap.size W0 wB := (by first | exact bbA.trans (bB.mono bbA.size) | exact hb1.drew.trans (bB.mono hb1.size)))
          | (go_at_call_of 129 pA; refine (bare_any (.node ll lx il) (.node ir x r) ix _ (by first | exact tA | exact tA.belows bB) (by first | exact tB | exact tB.belows bA) (by simp only [Bt.size]; omega)).mono ?_; rintro e wC ⟨vC, rfl, tC, bC⟩; have bbC : Below W0.heap.size W0 wC := (by first | exact bbB.trans (bC.mono bbB.size) | exact bbA.trans (bC.mono bbA.size))))
        all_goals
          rename_i hHeld
          clear hHeld
          obtain ⟨pC, rfl⟩ := tC.ptr
          go_wp2
          go_ret
          obtain ⟨⟨el, er⟩, h2, hin⟩ := HEV.out
          exact ⟨_, _, rfl, tC, lev_right1 el er h2 hin, hbox.trans (bbC.mono hbox.size)⟩
    · go_quiet (first | (go_at_call_of 127 po; exact Calls.quiet_of_same (same_of (high_any ll _ (HO.out _ (bdrewN (Below.refl _ _) _))))) | (go_at_call_of 127 pi; exact Calls.quiet_of_same (same_of (high_any lr _ (HI.out _ (bdrewN (Below.refl _ _) _))))))
      have hb1 : Below W0.heap.size W0 (W0.drewN nq) := bdrewN (Below.refl _ _) _
      generalize W0.drewN nq = W1 at hb1 ⊢
      replace hin := Nat.le_of_not_lt hin
      have HEV := Lib.hid (And.intro (And.intro el er) (And.intro h2 hin))
      clear c0 c1 c2 c3 hi0 el er h2 hin
      obtain ⟨k1, k2, k3, k4, k5⟩ := HA.out W1 hb1
      go_wp2_with fail
      go_region_held3 (fun W => W.cell? ⟨B, 0, none⟩ = some (.int .u64 lx.1) ∧ W.cell? ⟨B, 1, none⟩ = some (.int .i64 lx.2) ∧ W.cell? ⟨B, 2, none⟩ = some (.pointer po) ∧ W.cell? ⟨w.heap.size, 0, none⟩ = some (.int .u64 x.1) ∧ W.cell? ⟨w.heap.size, 1, none⟩ = some (.int .i64 x.2)) (first | exact HA.out _ bbE | exact HA.out _ bbD | exact HA.out _ hb1.drew | exact HA.out _ hb1) (first
        | (go_at_call_of 129 pi; refine (bare_any lr r x _ (HI.out _ (by first | exact hb1.drew | exact hb1)) (HR.out _ (by first | exact hb1.drew | exact hb1)) (by omega)).mono ?_; rintro e wD ⟨vD, rfl, tD, bD⟩; obtain ⟨pD, rfl⟩ := tD.ptr; have bbD : Below W0.heap.size W0 wD := (by first | exact hb1.drew.trans (bD.mono hb1.size)))
        | (go_at_call_of 129 pD; refine (bare_any ll (.node lr x r) lx _ (HO.out _ bbD) tD (by simp only [Bt.size]; omega)).mono ?_; rintro e wE ⟨vE, rfl, tE, bE⟩; have bbE : Below W0.heap.size W0 wE := bbD.trans (bE.mono bbD.size)))
      all_goals
        rename_i hHeld
        clear hHeld
        obtain ⟨pE, rfl⟩ := tE.ptr
        go_wp2
        go_ret
        obtain ⟨⟨el, er⟩, h2, hin⟩ := HEV.out
        exact ⟨_, _, rfl, tE, lev_right2 el er h2 hin, hbox.trans (bbE.mono hbox.size)⟩

set_option maxRecDepth 100000 in
set_option maxHeartbeats 4000000 in
theorem turnLeft_any {vl vr : Value} (l r : Bt) (x : Int × Int) (w : World) (hl : IsT w vl l) (hr : IsT w vr r) (el : l.even) (er : r.even) (h2 : r.ht = l.ht + 2) (hz : l.size + r.size ≤ 100000) :
    Calls Tryz.prog 136 #[vl, pv x, vr] w (Levd w l x r) := by
  obtain ⟨pr, rfl⟩ := hl.ptr
  cases r with
  | nil => simp [Bt.ht] at h2
  | node rl rx rr =>
    obtain ⟨B, vi, vo, rfl, ha, hi, ho⟩ := hr
    obtain ⟨po, rfl⟩ := ho.ptr
    obtain ⟨pi, rfl⟩ := hi.ptr
    simp only [Bt.size] at hz
    have hbox : Below w.heap.size w (w.alloc (.cells #[.int .u64 x.1, .int .i64 x.2] 119)) := (Below.refl _ w).alloc (Nat.le_refl _) _
    have hX := At.new w #[.int .u64 x.1, .int .i64 x.2] 119
    have ha0 := ha.belows hbox
    have ho0 := ho.belows hbox
    have hi0 := hi.belows hbox
    have hr0 := hl.belows hbox
    clear ha ho hi hl
    have c0 := (ha0.cell 0).trans rfl
    have c1 := (ha0.cell 1).trans rfl
    have c2 := (ha0.cell 2).trans rfl
    have c3 := (ha0.cell 3).trans rfl
    go_enter Tryz.func136, Tryz.ntmps136
    go_wp2_with fail
    obtain ⟨W0, hW0⟩ : ∃ W0, w.alloc (.cells #[.int .u64 x.1, .int .i64 x.2] 119) = W0 := ⟨_, rfl⟩
    rw [hW0] at c0 c1 c2 c3 hbox hX ha0 ho0 hi0 hr0 ⊢
    clear hW0
    have HO : Hid (∀ W, Below W0.heap.size W0 W → IsT W (.pointer po) rr) := Lib.hid fun W hW => ho0.belows hW
    have HI : Hid (∀ W, Below W0.heap.size W0 W → IsT W (.pointer pi) rl) := Lib.hid fun W hW => hi0.belows hW
    have HR : Hid (∀ W, Below W0.heap.size W0 W → IsT W (.pointer pr) l) := Lib.hid fun W hW => hr0.belows hW
    have HA : Hid (∀ W, Below W0.heap.size W0 W → W.cell? ⟨B, 0, none⟩ = some (.int .u64 rx.1) ∧ W.cell? ⟨B, 1, none⟩ = some (.int .i64 rx.2) ∧ W.cell? ⟨B, 3, none⟩ = some (.pointer po) ∧ W.cell? ⟨w.heap.size, 0, none⟩ = some (.int .u64 x.1) ∧ W.cell? ⟨w.heap.size, 1, none⟩ = some (.int .i64 x.2)) := Lib.hid fun W hW => ⟨((ha0.belows hW).cell 0).trans rfl, ((ha0.belows hW).cell 1).trans rfl, ((ha0.belows hW).cell 3).trans rfl, ((hX.belows hW).cell 0).trans rfl, ((hX.belows hW).cell 1).trans rfl⟩
    clear ho0 hr0 ha0 hX
    by_cases hin : rr.ht < rl.ht
    · go_quiet (first | (go_at_call_of 127 po; exact Calls.quiet_of_same (same_of (high_any rr _ (HO.out _ (bdrewN (Below.refl _ _) _))))) | (go_at_call_of 127 pi; exact Calls.quiet_of_same (same_of (high_any rl _ (HI.out _ (bdrewN (Below.refl _ _) _))))))
      have hb1 : Below W0.heap.size W0 (W0.drewN nq) := bdrewN (Below.refl _ _) _
      generalize W0.drewN nq = W1 at hb1 ⊢
      cases rl with
      | nil => simp [Bt.ht] at hin
      | node il ix ir =>
        obtain ⟨Bi, vil, vir, hpi, hai, hil, hir⟩ := hi0
        injection hpi with hpi
        subst hpi
        obtain ⟨pil, rfl⟩ := hil.ptr
        obtain ⟨pir, rfl⟩ := hir.ptr
        simp only [Bt.size] at hz
        have HIL : Hid (∀ W, Below W0.heap.size W0 W → IsT W (.pointer pil) il) := Lib.hid fun W hW => hil.belows hW
        have HIR : Hid (∀ W, Below W0.heap.size W0 W → IsT W (.pointer pir) ir) := Lib.hid fun W hW => hir.belows hW
        have KS : Hid (∀ W, Below W0.heap.size W0 W → W.cell? ⟨B, 0, none⟩ = some (.int .u64 rx.1) ∧ W.cell? ⟨B, 1, none⟩ = some (.int .i64 rx.2) ∧ W.cell? ⟨B, 3, none⟩ = some (.pointer po) ∧ W.cell? ⟨w.heap.size, 0, none⟩ = some (.int .u64 x.1) ∧ W.cell? ⟨w.heap.size, 1, none⟩ = some (.int .i64 x.2) ∧ W.cell? ⟨Bi, 0, none⟩ = some (.int .u64 ix.1) ∧ W.cell? ⟨Bi, 1, none⟩ = some (.int .i64 ix.2) ∧ W.cell? ⟨Bi, 2, none⟩ = some (.pointer pil) ∧ W.cell? ⟨Bi, 3, none⟩ = some (.pointer pir)) := Lib.hid fun W hW => by
          obtain ⟨q1, q2, q3, q4, q5⟩ := HA.out W hW
          exact ⟨q1, q2, q3, q4, q5, ((hai.belows hW).cell 0).trans rfl, ((hai.belows hW).cell 1).trans rfl, ((hai.belows hW).cell 2).trans rfl, ((hai.belows hW).cell 3).trans rfl⟩
        have HEV := Lib.hid (And.intro (And.intro el er) (And.intro h2 hin))
        clear hil hir hai c0 c1 c2 c3 HA el er h2 hin
        obtain ⟨k1, k2, k3, k4, k5, k6, k7, k8, k9⟩ := KS.out W1 hb1
        go_wp2_with fail
        go_region_held3 (fun W => W.cell? ⟨B, 0, none⟩ = some (.int .u64 rx.1) ∧ W.cell? ⟨B, 1, none⟩ = some (.int .i64 rx.2) ∧ W.cell? ⟨B, 3, none⟩ = some (.pointer po) ∧ W.cell? ⟨w.heap.size, 0, none⟩ = some (.int .u64 x.1) ∧ W.cell? ⟨w.heap.size, 1, none⟩ = some (.int .i64 x.2) ∧ W.cell? ⟨Bi, 0, none⟩ = some (.int .u64 ix.1) ∧ W.cell? ⟨Bi, 1, none⟩ = some (.int .i64 ix.2) ∧ W.cell? ⟨Bi, 2, none⟩ = some (.pointer pil) ∧ W.cell? ⟨Bi, 3, none⟩ = some (.pointer pir)) (first | exact KS.out _ bbC | exact KS.out _ bbA | exact KS.out _ bbB | exact KS.out _ hb1.drew | exact KS.out _ hb1) (first
          | (go_at_call_of 129 pil; refine (bare_any l il x _ (HR.out _ (by first | exact bbB | exact hb1.drew | exact hb1)) (HIL.out _ (by first | exact bbB | exact hb1.drew | exact hb1)) (by omega)).mono ?_; rintro e wA ⟨vA, rfl, tA, bA⟩; obtain ⟨pA, rfl⟩ := tA.ptr; have bbA : Below W0.heap.size W0 wA := (by first | exact bbB.trans (bA.mono bbB.size) | exact hb1.drew.trans (bA.mono hb1.size)))
          | (go_at_call_of 129 pir; refine (bare_any ir rr rx _ (HIR.out _ (by first | exact bbA | exact hb1.drew | exact hb1)) (HO.out _ (by first | exact bbA | exact hb1.drew | exact hb1)) (by omega)).mono ?_; rintro e wB ⟨vB, rfl, tB, bB⟩; obtain ⟨pB, rfl⟩ := tB.ptr; have bbB : Below W0.heap.size W0 wB := (by first | exact bbA.trans (bB.mono bbA.size) | exact hb1.drew.trans (bB.mono hb1.size)))
          | (go_at_call_of 129 pA; refine (bare_any (.node l x il) (.node ir rx rr) ix _ (by first | exact tA | exact tA.belows bB) (by first | exact tB | exact tB.belows bA) (by simp only [Bt.size]; omega)).mono ?_; rintro e wC ⟨vC, rfl, tC, bC⟩; have bbC : Below W0.heap.size W0 wC := (by first | exact bbB.trans (bC.mono bbB.size) | exact bbA.trans (bC.mono bbA.size))))
        all_goals
          rename_i hHeld
          clear hHeld
          obtain ⟨pC, rfl⟩ := tC.ptr
          go_wp2
          go_ret
          obtain ⟨⟨el, er⟩, h2, hin⟩ := HEV.out
          exact ⟨_, _, rfl, tC, lev_left1 el er h2 hin, hbox.trans (bbC.mono hbox.size)⟩
    · go_quiet (first | (go_at_call_of 127 po; exact Calls.quiet_of_same (same_of (high_any rr _ (HO.out _ (bdrewN (Below.refl _ _) _))))) | (go_at_call_of 127 pi; exact Calls.quiet_of_same (same_of (high_any rl _ (HI.out _ (bdrewN (Below.refl _ _) _))))))
      have hb1 : Below W0.heap.size W0 (W0.drewN nq) := bdrewN (Below.refl _ _) _
      generalize W0.drewN nq = W1 at hb1 ⊢
      replace hin := Nat.le_of_not_lt hin
      have HEV := Lib.hid (And.intro (And.intro el er) (And.intro h2 hin))
      clear c0 c1 c2 c3 hi0 el er h2 hin
      obtain ⟨k1, k2, k3, k4, k5⟩ := HA.out W1 hb1
      go_wp2_with fail
      go_region_held3 (fun W => W.cell? ⟨B, 0, none⟩ = some (.int .u64 rx.1) ∧ W.cell? ⟨B, 1, none⟩ = some (.int .i64 rx.2) ∧ W.cell? ⟨B, 3, none⟩ = some (.pointer po) ∧ W.cell? ⟨w.heap.size, 0, none⟩ = some (.int .u64 x.1) ∧ W.cell? ⟨w.heap.size, 1, none⟩ = some (.int .i64 x.2)) (first | exact HA.out _ bbE | exact HA.out _ bbD | exact HA.out _ hb1.drew | exact HA.out _ hb1) (first
        | (go_at_call_of 129 pi; refine (bare_any l rl x _ (HR.out _ (by first | exact hb1.drew | exact hb1)) (HI.out _ (by first | exact hb1.drew | exact hb1)) (by omega)).mono ?_; rintro e wD ⟨vD, rfl, tD, bD⟩; obtain ⟨pD, rfl⟩ := tD.ptr; have bbD : Below W0.heap.size W0 wD := (by first | exact hb1.drew.trans (bD.mono hb1.size)))
        | (go_at_call_of 129 pD; refine (bare_any (.node l x rl) rr rx _ tD (HO.out _ bbD) (by simp only [Bt.size]; omega)).mono ?_; rintro e wE ⟨vE, rfl, tE, bE⟩; have bbE : Below W0.heap.size W0 wE := bbD.trans (bE.mono bbD.size)))
      all_goals
        rename_i hHeld
        clear hHeld
        obtain ⟨pE, rfl⟩ := tE.ptr
        go_wp2
        go_ret
        obtain ⟨⟨el, er⟩, h2, hin⟩ := HEV.out
        exact ⟨_, _, rfl, tE, lev_left2 el er h2 hin, hbox.trans (bbE.mono hbox.size)⟩
end Go.Proofs.YteboadppighplaaGreat.Tr
/- Contracts: level, join. -/
namespace Go.Proofs.YteboadppighplaaGreat.Tr
open Go.RowKit

set_option maxRecDepth 100000 in
set_option maxHeartbeats 2000000 in
theorem level_any {vl vr : Value} (l r : Bt) (x : Int × Int) (w : World) (hl : IsT w vl l) (hr : IsT w vr r) (el : l.even) (er : r.even) (h1 : l.ht ≤ r.ht + 2) (h2 : r.ht ≤ l.ht + 2) (hz : l.size + r.size ≤ 100000) :
    Calls Tryz.prog 128 #[vl, pv x, vr] w (Levd w l x r) := by
  obtain ⟨pl, rfl⟩ := hl.ptr
  obtain ⟨pr, rfl⟩ := hr.ptr
  have zz := And.intro l.ht_size r.ht_size
  have hbox : Below w.heap.size w (w.alloc (.cells #[.int .u64 x.1, .int .i64 x.2] 119)) := (Below.refl _ w).alloc (Nat.le_refl _) _
  have hX := At.new w #[.int .u64 x.1, .int .i64 x.2] 119
  have hl0 := hl.belows hbox
  have hr0 := hr.belows hbox
  have HE := Lib.hid (And.intro el er)
  clear hl hr el er
  have k0 := (hX.cell 0).trans rfl
  have k1 := (hX.cell 1).trans rfl
  by_cases hc : r.ht + 1 < l.ht
  · go_enter Tryz.func128, Tryz.ntmps128
    go_wp2_with (first
      | (go_at_call_of 127 pl; refine (high_any l _ hl0).mono ?_; rintro e w1 ⟨rfl, rfl⟩)
      | (go_at_call_of 127 pr; refine (high_any r _ hr0).mono ?_; rintro e w1 ⟨rfl, rfl⟩)
      | (go_at_call 135; refine (turnRight_any l r x _ hl0 hr0 HE.out.1 HE.out.2 (by omega) hz).mono ?_; rintro e w1 ⟨v1, t1, rfl, i1, L1, b1⟩; obtain ⟨p1, rfl⟩ := i1.ptr))
    go_ret
    exact ⟨_, _, rfl, i1, L1, hbox.trans (b1.mono hbox.size)⟩
  · have d1 : decide ((r.ht : Int) + 1 < (l.ht : Int)) = false := by simp; omega
    by_cases hd : l.ht + 1 < r.ht
    · go_enter Tryz.func128, Tryz.ntmps128
      go_wp2_with (first
        | (go_at_call_of 127 pl; refine (high_any l _ hl0).mono ?_; rintro e w1 ⟨rfl, rfl⟩)
        | (go_at_call_of 127 pr; refine (high_any r _ hr0).mono ?_; rintro e w1 ⟨rfl, rfl⟩)
        | (go_at_call 136; refine (turnLeft_any l r x _ hl0 hr0 HE.out.1 HE.out.2 (by omega) hz).mono ?_; rintro e w1 ⟨v1, t1, rfl, i1, L1, b1⟩; obtain ⟨p1, rfl⟩ := i1.ptr))
      go_ret
      exact ⟨_, _, rfl, i1, L1, hbox.trans (b1.mono hbox.size)⟩
    · have d2 : decide ((l.ht : Int) + 1 < (r.ht : Int)) = false := by simp; omega
      go_enter Tryz.func128, Tryz.ntmps128
      go_wp2_with (first
        | (go_at_call_of 127 pl; refine (high_any l _ hl0).mono ?_; rintro e w1 ⟨rfl, rfl⟩)
        | (go_at_call_of 127 pr; refine (high_any r _ hr0).mono ?_; rintro e w1 ⟨rfl, rfl⟩)
        | (go_at_call 129; refine (bare_any l r x _ hl0 hr0 (by omega)).mono ?_; rintro e w1 ⟨v1, rfl, i1, b1⟩; obtain ⟨p1, rfl⟩ := i1.ptr))
      go_ret
      exact ⟨_, _, rfl, i1, lev_bare HE.out.1 HE.out.2 (by omega) (by omega), hbox.trans (b1.mono hbox.size)⟩

def Fitd (w : World) (l : Bt) (x : Int × Int) (r : Bt) (e : Ending) (w' : World) : Prop := ∃ v' t, e = .returned v' ∧ IsT w' v' t ∧ Fit l x r t ∧ Below w.heap.size w w'
def JoinIs (n : Nat) : Prop := ∀ (vl vr : Value) (l r : Bt) (x : Int × Int) (w : World), l.size + r.size ≤ n → IsT w vl l → IsT w vr r → l.even → r.even → Calls Tryz.prog 111 #[vl, pv x, vr] w (Fitd w l x r)
set_option maxRecDepth 100000 in
set_option maxHeartbeats 4000000 in
theorem join_step (n : Nat) (hn : n ≤ 10000) (ih : ∀ m, m < n → JoinIs m) : JoinIs n := by
  intro vl vr l r x w hz hl hr el er
  obtain ⟨pl, rfl⟩ := hl.ptr
  obtain ⟨pr, rfl⟩ := hr.ptr
  have zz := And.intro l.ht_size r.ht_size
  have hbox : Below w.heap.size w (w.alloc (.cells #[.int .u64 x.1, .int .i64 x.2] 119)) := (Below.refl _ w).alloc (Nat.le_refl _) _
  have hX := At.new w #[.int .u64 x.1, .int .i64 x.2] 119
  have hl0 := hl.belows hbox
  have hr0 := hr.belows hbox
  have HE := Lib.hid (And.intro el er)
  have IH := Lib.hid ih
  clear hl hr el er ih
  have k0 := (hX.cell 0).trans rfl
  have k1 := (hX.cell 1).trans rfl
  by_cases hc : r.ht + 1 < l.ht
  · cases l with
    | nil => simp [Bt.ht] at hc
    | node ll lx lr =>
      have H0 := Lib.hid hl0
      obtain ⟨B, vll, vlr, hp, ha, hll, hlr⟩ := hl0
      injection hp with hp
      subst hp
      obtain ⟨pll, rfl⟩ := hll.ptr
      obtain ⟨plr, rfl⟩ := hlr.ptr
      have hzz : ll.size + 1 + lr.size + r.size ≤ n := hz
      go_enter Tryz.func111, Tryz.ntmps111
      go_wp2_with (first
        | (go_at_call_of 127 pr; refine (high_any r _ hr0).mono ?_; rintro e w1 ⟨rfl, rfl⟩)
        | (go_at_call 127; refine (high_any _ _ H0.out).mono ?_; rintro e w1 ⟨rfl, rfl⟩))
      obtain ⟨W0, hW0⟩ : ∃ W0, w.alloc (.cells #[.int .u64 x.1, .int .i64 x.2] 119) = W0 := ⟨_, rfl⟩
      rw [hW0] at hbox hX hr0 k0 k1 ha hll hlr ⊢
      have HLL : Hid (∀ W, Below W0.heap.size W0 W → IsT W (.pointer pll) ll) := Lib.hid fun W hW => hll.belows hW
      have HLR : Hid (∀ W, Below W0.heap.size W0 W → IsT W (.pointer plr) lr) := Lib.hid fun W hW => hlr.belows hW
      have HR : Hid (∀ W, Below W0.heap.size W0 W → IsT W (.pointer pr) r) := Lib.hid fun W hW => hr0.belows hW
      have KS : Hid (∀ W, Below W0.heap.size W0 W → W.cell? ⟨B, 0, none⟩ = some (.int .u64 lx.1) ∧ W.cell? ⟨B, 1, none⟩ = some (.int .i64 lx.2) ∧ W.cell? ⟨B, 2, none⟩ = some (.pointer pll) ∧ W.cell? ⟨B, 3, none⟩ = some (.pointer plr) ∧ W.cell? ⟨w.heap.size, 0, none⟩ = some (.int .u64 x.1) ∧ W.cell? ⟨w.heap.size, 1, none⟩ = some (.int .i64 x.2)) := Lib.hid fun W hW => ⟨((ha.belows hW).cell 0).trans rfl, ((ha.belows hW).cell 1).trans rfl, ((ha.belows hW).cell 2).trans rfl, ((ha.belows hW).cell 3).trans rfl, ((hX.belows hW).cell 0).trans rfl, ((hX.belows hW).cell 1).trans rfl⟩
      have HC := Lib.hid hc
      clear hll hlr hr0 ha hX hW0 k0 k1 H0 hc
      have hb1 := Below.refl W0.heap.size W0
      obtain ⟨q1, q2, q3, q4, q5, q6⟩ := KS.out W0 hb1
      go_region_held3 (fun W => W.cell? ⟨B, 0, none⟩ = some (.int .u64 lx.1) ∧ W.cell? ⟨B, 1, none⟩ = some (.int .i64 lx.2) ∧ W.cell? ⟨B, 2, none⟩ = some (.pointer pll) ∧ W.cell? ⟨B, 3, none⟩ = some (.pointer plr) ∧ W.cell? ⟨w.heap.size, 0, none⟩ = some (.int .u64 x.1) ∧ W.cell? ⟨w.heap.size, 1, none⟩ = some (.int .i64 x.2)) (first | exact KS.out _ bbE | exact KS.out _ bbD | exact KS.out _ hb1.drew | exact KS.out _ hb1) (first
        | (go_at_call 111; refine (IH.out (lr.size + r.size) (by omega) _ _ lr r x _ (Nat.le_refl _) (HLR.out _ (by first | exact hb1.drew | exact hb1)) (HR.out _ (by first | exact hb1.drew | exact hb1)) HE.out.1.2.1 HE.out.2).mono ?_; rintro e wD ⟨vD, tD, rfl, iD, fD, bD⟩; obtain ⟨pD, rfl⟩ := iD.ptr; have bbD : Below W0.heap.size W0 wD := (by first | exact hb1.drew.trans (bD.mono hb1.size)))
        | (go_at_call 128; refine (level_any ll tD lx _ (HLL.out _ bbD) iD HE.out.1.1 fD.2.1 (down_left_two HE.out.1 HC.out fD).1 (down_left_two HE.out.1 HC.out fD).2 (by have := fD.size; omega)).mono ?_; rintro e wE ⟨vE, tE, rfl, iE, fE, bE⟩; have bbE : Below W0.heap.size W0 wE := bbD.trans (bE.mono bbD.size)))
      all_goals
        rename_i hHeld
        clear hHeld
        obtain ⟨pE, rfl⟩ := iE.ptr
        go_wp2
        go_ret
        exact ⟨_, _, rfl, iE, fit_down_left HE.out.1 HC.out fD fE, hbox.trans (bbE.mono hbox.size)⟩
  · have d1 : decide ((r.ht : Int) + 1 < (l.ht : Int)) = false := by simp; omega
    by_cases hd : l.ht + 1 < r.ht
    · cases r with
      | nil => simp [Bt.ht] at hd
      | node rl rx rr =>
        have H0 := Lib.hid hr0
        obtain ⟨B, vrl, vrr, hp, ha, hrl, hrr⟩ := hr0
        injection hp with hp
        subst hp
        obtain ⟨prl, rfl⟩ := hrl.ptr
        obtain ⟨prr, rfl⟩ := hrr.ptr
        have hzz : l.size + (rl.size + 1 + rr.size) ≤ n := hz
        go_enter Tryz.func111, Tryz.ntmps111
        go_wp2_with (first
          | (go_at_call_of 127 pl; refine (high_any l _ hl0).mono ?_; rintro e w1 ⟨rfl, rfl⟩)
          | (go_at_call 127; refine (high_any _ _ H0.out).mono ?_; rintro e w1 ⟨rfl, rfl⟩))
        obtain ⟨W0, hW0⟩ : ∃ W0, w.alloc (.cells #[.int .u64 x.1, .int .i64 x.2] 119) = W0 := ⟨_, rfl⟩
        rw [hW0] at hbox hX hl0 k0 k1 ha hrl hrr ⊢
        have HRL : Hid (∀ W, Below W0.heap.size W0 W → IsT W (.pointer prl) rl) := Lib.hid fun W hW => hrl.belows hW
        have HRR : Hid (∀ W, Below W0.heap.size W0 W → IsT W (.pointer prr) rr) := Lib.hid fun W hW => hrr.belows hW
        have HL : Hid (∀ W, Below W0.heap.size W0 W → IsT W (.pointer pl) l) := Lib.hid fun W hW => hl0.belows hW
        have KS : Hid (∀ W, Below W0.heap.size W0 W → W.cell? ⟨B, 0, none⟩ = some (.int .u64 rx.1) ∧ W.cell? ⟨B, 1, none⟩ = some (.int .i64 rx.2) ∧ W.cell? ⟨B, 2, none⟩ = some (.pointer prl) ∧ W.cell? ⟨B, 3, none⟩ = some (.pointer prr) ∧ W.cell? ⟨w.heap.size, 0, none⟩ = some (.int .u64 x.1) ∧ W.cell? ⟨w.heap.size, 1, none⟩ = some (.int .i64 x.2)) := Lib.hid fun W hW => ⟨((ha.belows hW).cell 0).trans rfl, ((ha.belows hW).cell 1).trans rfl, ((ha.belows hW).cell 2).trans rfl, ((ha.belows hW).cell 3).trans rfl, ((hX.belows hW).cell 0).trans rfl, ((hX.belows hW).cell 1).trans rfl⟩
        have HC := Lib.hid hd
        clear hrl hrr hl0 ha hX hW0 k0 k1 H0 hc hd d1
        have hb1 := Below.refl W0.heap.size W0
        obtain ⟨q1, q2, q3, q4, q5, q6⟩ := KS.out W0 hb1
        go_region_held3 (fun W => W.cell? ⟨B, 0, none⟩ = some (.int .u64 rx.1) ∧ W.cell? ⟨B, 1, none⟩ = some (.int .i64 rx.2) ∧ W.cell? ⟨B, 2, none⟩ = some (.pointer prl) ∧ W.cell? ⟨B, 3, none⟩ = some (.pointer prr) ∧ W.cell? ⟨w.heap.size, 0, none⟩ = some (.int .u64 x.1) ∧ W.cell? ⟨w.heap.size, 1, none⟩ = some (.int .i64 x.2)) (first | exact KS.out _ bbE | exact KS.out _ bbD | exact KS.out _ hb1.drew | exact KS.out _ hb1) (first
          | (go_at_call 111; refine (IH.out (l.size + rl.size) (by omega) _ _ l rl x _ (Nat.le_refl _) (HL.out _ (by first | exact hb1.drew | exact hb1)) (HRL.out _ (by first | exact hb1.drew | exact hb1)) HE.out.1 HE.out.2.1).mono ?_; rintro e wD ⟨vD, tD, rfl, iD, fD, bD⟩; obtain ⟨pD, rfl⟩ := iD.ptr; have bbD : Below W0.heap.size W0 wD := (by first | exact hb1.drew.trans (bD.mono hb1.size)))
          | (go_at_call 128; refine (level_any tD rr rx _ iD (HRR.out _ bbD) fD.2.1 HE.out.2.2.1 (down_right_two HE.out.2 HC.out fD).2 (down_right_two HE.out.2 HC.out fD).1 (by have := fD.size; omega)).mono ?_; rintro e wE ⟨vE, tE, rfl, iE, fE, bE⟩; have bbE : Below W0.heap.size W0 wE := bbD.trans (bE.mono bbD.size)))
        all_goals
          rename_i hHeld
          clear hHeld
          obtain ⟨pE, rfl⟩ := iE.ptr
          go_wp2
          go_ret
          exact ⟨_, _, rfl, iE, fit_down_right HE.out.2 HC.out fD fE, hbox.trans (bbE.mono hbox.size)⟩
    · have d2 : decide ((l.ht : Int) + 1 < (r.ht : Int)) = false := by simp; omega
      go_enter Tryz.func111, Tryz.ntmps111
      go_wp2_with (first
        | (go_at_call_of 127 pl; refine (high_any l _ hl0).mono ?_; rintro e w1 ⟨rfl, rfl⟩)
        | (go_at_call_of 127 pr; refine (high_any r _ hr0).mono ?_; rintro e w1 ⟨rfl, rfl⟩)
        | (go_at_call 129; refine (bare_any l r x _ hl0 hr0 (by omega)).mono ?_; rintro e w1 ⟨v1, rfl, i1, b1⟩; obtain ⟨p1, rfl⟩ := i1.ptr))
      go_ret
      exact ⟨_, _, rfl, i1, (lev_bare HE.out.1 HE.out.2 (by omega) (by omega)).1, hbox.trans (b1.mono hbox.size)⟩
theorem join_is (n : Nat) (hn : n ≤ 10000) : JoinIs n := by
  induction n using Nat.strongRecOn with
  | _ n ih => exact join_step n hn fun m hm => ih m hm (by omega)
/-- join. -/
theorem join_any {vl vr : Value} (l r : Bt) (x : Int × Int) (w : World) (hl : IsT w vl l) (hr : IsT w vr r) (el : l.even) (er : r.even) (hz : l.size + r.size ≤ 10000) : Calls Tryz.prog 111 #[vl, pv x, vr] w (Fitd w l x r) :=
  join_is _ hz vl vr l r x w (Nat.le_refl _) hl hr el er
end Go.Proofs.YteboadppighplaaGreat.Tr
/- Contracts: cut, joinTwo. -/
namespace Go.Proofs.YteboadppighplaaGreat.Tr
open Go.RowKit

/-- What cut answers: the part below, the node at the key, the part above. -/
def CutOut (w : World) (t : Bt) (k : Int) (e : Ending) (w' : World) : Prop := ∃ (vb va vc : Value) (b c : Bt), e = .returned (.tuple #[vb, va, vc]) ∧ (IsT w' vb b ∧ b.even ∧ b.flat = lowL t.flat k) ∧ AtN w' va (getL t.flat k) ∧ (IsT w' vc c ∧ c.even ∧ c.flat = gtL t.flat k) ∧ Below w.heap.size w w'
theorem low_len {l : List (Int × Int)} {k : Int} : (lowL l k).length ≤ l.length := List.length_filter_le _ _
theorem gt_len {l : List (Int × Int)} {k : Int} : (gtL l k).length ≤ l.length := List.length_filter_le _ _
set_option maxRecDepth 100000 in
set_option maxHeartbeats 4000000 in
theorem cut_any (t : Bt) (k : Int) : ∀ (v : Value) (w : World), IsT w v t → t.even → Up t.flat → t.size ≤ 5000 → Calls Tryz.prog 110 #[v, .int .u64 k] w (CutOut w t k) := by
  induction t with
  | nil =>
    rintro v w rfl _ _ _
    go_enter Tryz.func110, Tryz.ntmps110
    go_wp2
    refine bodyPost_ret (v := .tuple #[.pointer none, .pointer none, .pointer none]) (by simp [results, Tryz.results110, go_sem]) rfl ?_
    exact ⟨_, _, _, .nil, .nil, rfl, ⟨rfl, trivial, rfl⟩, rfl, ⟨rfl, trivial, rfl⟩, Below.refl _ _⟩
  | node l x r ihl ihr =>
    rintro v w ⟨B, vl, vr, rfl, ha, hl, hr⟩ he hu hz
    obtain ⟨pl, rfl⟩ := hl.ptr
    obtain ⟨pr, rfl⟩ := hr.ptr
    have hzz : l.size + 1 + r.size ≤ 5000 := hz
    have hu' : Up (l.flat ++ x :: r.flat) := hu
    have hlen1 := low_len (l := r.flat) (k := k)
    have hlen2 := gt_len (l := l.flat) (k := k)
    rw [Bt.flat_len] at hlen1 hlen2
    have c0 := (ha.cell 0).trans rfl
    have c1 := (ha.cell 1).trans rfl
    have c2 := (ha.cell 2).trans rfl
    have c3 := (ha.cell 3).trans rfl
    have HE := Lib.hid he
    have HU := Lib.hid hu'
    clear he hu hu'
    rcases Int.lt_trichotomy k x.1 with hk | hk | hk
    · clear ihr
      have hcut := ihl (.pointer pl) w hl HE.out.1 HU.out.node.1 (by omega)
      clear ihl
      go_enter Tryz.func110, Tryz.ntmps110
      go_wp2_with (go_at_call 110; refine hcut.mono ?_; clear hcut; rintro e W0 ⟨vb, va, vc, b, c, rfl, ib, ia, ic, b0⟩; obtain ⟨pb, rfl⟩ := ib.1.ptr; obtain ⟨pa, rfl⟩ := ia.ptr; obtain ⟨pc, rfl⟩ := ic.1.ptr)
      obtain ⟨ib, eb, fb⟩ := ib
      obtain ⟨ic, ec, fc⟩ := ic
      have zc : c.size ≤ l.size := by rw [← c.flat_len, fc]; omega
      have HF := Lib.hid (And.intro fb fc)
      have ha0 := ha.belows b0
      have hr0 := hr.belows b0
      have HR : Hid (∀ W, Below W0.heap.size W0 W → IsT W (.pointer pr) r) := Lib.hid fun W hW => hr0.belows hW
      have HC : Hid (∀ W, Below W0.heap.size W0 W → IsT W (.pointer pc) c) := Lib.hid fun W hW => ic.belows hW
      have KS : Hid (∀ W, Below W0.heap.size W0 W → W.cell? ⟨B, 0, none⟩ = some (.int .u64 x.1) ∧ W.cell? ⟨B, 1, none⟩ = some (.int .i64 x.2) ∧ W.cell? ⟨B, 3, none⟩ = some (.pointer pr)) := Lib.hid fun W hW => ⟨((ha0.belows hW).cell 0).trans rfl, ((ha0.belows hW).cell 1).trans rfl, ((ha0.belows hW).cell 3).trans rfl⟩
      clear fb fc ha hl hr ha0 hr0 c0 c1 c2 c3
      have hb1 := Below.refl W0.heap.size W0
      obtain ⟨q1, q2, q3⟩ := KS.out W0 hb1
      go_region_held3 (fun W => W.cell? ⟨B, 0, none⟩ = some (.int .u64 x.1) ∧ W.cell? ⟨B, 1, none⟩ = some (.int .i64 x.2) ∧ W.cell? ⟨B, 3, none⟩ = some (.pointer pr)) (first | exact KS.out _ bbD | exact KS.out _ hb1.drew | exact KS.out _ hb1) (first
        | (go_at_call 111; refine (join_any c r x _ (HC.out _ (by first | exact hb1.drew | exact hb1)) (HR.out _ (by first | exact hb1.drew | exact hb1)) ec HE.out.2.1 (by omega)).mono ?_; rintro e wD ⟨vD, tD, rfl, iD, fD, bD⟩; obtain ⟨pD, rfl⟩ := iD.ptr; have bbD : Below W0.heap.size W0 wD := (by first | exact hb1.drew.trans (bD.mono hb1.size))))
      all_goals
        rename_i hHeld
        clear hHeld
        go_wp2
        refine bodyPost_ret (v := .tuple #[.pointer pb, .pointer pa, .pointer pD]) (by simp [results, Tryz.results110, go_sem]) rfl ?_
        refine ⟨_, _, _, b, tD, rfl, ⟨ib.belows bbD, eb, HF.out.1.trans (low_left HU.out (by omega)).symm⟩, ?_, ⟨iD, fD.2.1, ?_⟩, b0.trans (bbD.mono b0.size)⟩
        · rw [show (Bt.node l x r).flat = l.flat ++ x :: r.flat from rfl, get_left HU.out hk]; exact ia.belows bbD
        · rw [fD.1, HF.out.2]; exact (gt_left HU.out hk).symm
    · subst hk
      clear ihl ihr
      go_enter Tryz.func110, Tryz.ntmps110
      go_wp2
      go_quiet (fail)
      go_wp2
      have hb1 : Below w.heap.size w (w.drewN nq) := bdrewN (Below.refl _ _) _
      refine bodyPost_ret (v := .tuple #[.pointer pl, .pointer (some ⟨B, 0, none⟩), .pointer pr]) (by simp [results, Tryz.results110, go_sem]) rfl ?_
      refine ⟨_, _, _, l, r, rfl, ⟨hl.belows hb1, HE.out.1, (low_at HU.out).symm⟩, ?_, ⟨hr.belows hb1, HE.out.2.1, (gt_at HU.out).symm⟩, hb1⟩
      rw [show (Bt.node l x r).flat = l.flat ++ x :: r.flat from rfl, get_at HU.out]
      exact ⟨B, _, _, _, _, rfl, ha.belows hb1⟩
    · clear ihl
      have hcut := ihr (.pointer pr) w hr HE.out.2.1 HU.out.node.2.1 (by omega)
      clear ihr
      go_enter Tryz.func110, Tryz.ntmps110
      go_wp2_with (go_at_call 110; refine hcut.mono ?_; clear hcut; rintro e W0 ⟨vb, va, vc, b, c, rfl, ib, ia, ic, b0⟩; obtain ⟨pb, rfl⟩ := ib.1.ptr; obtain ⟨pa, rfl⟩ := ia.ptr; obtain ⟨pc, rfl⟩ := ic.1.ptr)
      obtain ⟨ib, eb, fb⟩ := ib
      obtain ⟨ic, ec, fc⟩ := ic
      have zb : b.size ≤ r.size := by rw [← b.flat_len, fb]; omega
      have HF := Lib.hid (And.intro fb fc)
      have ha0 := ha.belows b0
      have hl0 := hl.belows b0
      have HL : Hid (∀ W, Below W0.heap.size W0 W → IsT W (.pointer pl) l) := Lib.hid fun W hW => hl0.belows hW
      have HB : Hid (∀ W, Below W0.heap.size W0 W → IsT W (.pointer pb) b) := Lib.hid fun W hW => ib.belows hW
      have KS : Hid (∀ W, Below W0.heap.size W0 W → W.cell? ⟨B, 0, none⟩ = some (.int .u64 x.1) ∧ W.cell? ⟨B, 1, none⟩ = some (.int .i64 x.2) ∧ W.cell? ⟨B, 2, none⟩ = some (.pointer pl)) := Lib.hid fun W hW => ⟨((ha0.belows hW).cell 0).trans rfl, ((ha0.belows hW).cell 1).trans rfl, ((ha0.belows hW).cell 2).trans rfl⟩
      clear fb fc ha hl hr ha0 hl0 c0 c1 c2 c3
      have hb1 := Below.refl W0.heap.size W0
      obtain ⟨q1, q2, q3⟩ := KS.out W0 hb1
      go_region_held3 (fun W => W.cell? ⟨B, 0, none⟩ = some (.int .u64 x.1) ∧ W.cell? ⟨B, 1, none⟩ = some (.int .i64 x.2) ∧ W.cell? ⟨B, 2, none⟩ = some (.pointer pl)) (first | exact KS.out _ bbD | exact KS.out _ hb1.drew | exact KS.out _ hb1) (first
        | (go_at_call 111; refine (join_any l b x _ (HL.out _ (by first | exact hb1.drew | exact hb1)) (HB.out _ (by first | exact hb1.drew | exact hb1)) HE.out.1 eb (by omega)).mono ?_; rintro e wD ⟨vD, tD, rfl, iD, fD, bD⟩; obtain ⟨pD, rfl⟩ := iD.ptr; have bbD : Below W0.heap.size W0 wD := (by first | exact hb1.drew.trans (bD.mono hb1.size))))
      all_goals
        rename_i hHeld
        clear hHeld
        go_wp2
        refine bodyPost_ret (v := .tuple #[.pointer pD, .pointer pa, .pointer pc]) (by simp [results, Tryz.results110, go_sem]) rfl ?_
        refine ⟨_, _, _, tD, c, rfl, ⟨iD, fD.2.1, ?_⟩, ?_, ⟨ic.belows bbD, ec, HF.out.2.trans (gt_right HU.out (by omega)).symm⟩, b0.trans (bbD.mono b0.size)⟩
        · rw [fD.1, HF.out.1]; exact (low_right HU.out hk).symm
        · rw [show (Bt.node l x r).flat = l.flat ++ x :: r.flat from rfl, get_right HU.out hk]; exact ia.belows bbD

/-- What joinTwo answers. -/
def TwoOut (w : World) (l r : Bt) (e : Ending) (w' : World) : Prop := ∃ (v : Value) (t : Bt), e = .returned v ∧ IsT w' v t ∧ t.even ∧ t.flat = l.flat ++ r.flat ∧ Below w.heap.size w w'
set_option maxRecDepth 100000 in
set_option maxHeartbeats 4000000 in
theorem joinTwo_any {vl vr : Value} (l r : Bt) (w : World) (hl : IsT w vl l) (hr : IsT w vr r) (el : l.even) (er : r.even) (hu : Up r.flat) (hz : l.size + r.size ≤ 4000) : Calls Tryz.prog 125 #[vl, vr] w (TwoOut w l r) := by
  obtain ⟨pl, rfl⟩ := hl.ptr
  obtain ⟨pr, rfl⟩ := hr.ptr
  have hplace := place_any r 0 w hr (by omega) (by omega) (by omega)
  rw [at_zero] at hplace
  cases hh : r.flat with
  | nil =>
    rw [hh] at hplace
    go_enter Tryz.func125, Tryz.ntmps125
    go_wp2_with fail
    refine hplace.mono ?_
    rintro e w1 ⟨v1, rfl, ia, rfl⟩
    clear hplace
    obtain ⟨p1, rfl⟩ := ia.ptr
    go_wp2_with fail
    refine (told_any none w ia).mono ?_
    rintro e w2 ⟨rfl, b2⟩
    simp only [toldV]
    go_wp2
    go_ret
    exact ⟨_, l, rfl, (hl.belows b2).belows ((Below.refl _ _).alloc (Nat.le_refl _) _), el, by rw [hh]; simp, b2.alloc b2.size _⟩
  | cons y L =>
    rw [hh] at hplace hu
    have HH := Lib.hid hh
    have HU := Lib.hid hu
    clear hh hu
    go_enter Tryz.func125, Tryz.ntmps125
    go_wp2_with fail
    refine hplace.mono ?_
    rintro e w1 ⟨v1, rfl, ia, rfl⟩
    clear hplace
    obtain ⟨p1, rfl⟩ := ia.ptr
    go_wp2_with fail
    refine (told_any (some y) w ia).mono ?_
    rintro e w2 ⟨rfl, b2⟩
    simp only [toldV]
    have b3 : Below w.heap.size w (w2.alloc (.cells #[.int .u64 y.1, .int .i64 y.2] 119)) := b2.alloc b2.size _
    have A3 := At.new w2 #[.int .u64 y.1, .int .i64 y.2] 119
    have k0 := (A3.cell 0).trans rfl
    go_wp2_with fail
    generalize w2.alloc (.cells #[.int .u64 y.1, .int .i64 y.2] 119) = W3 at b3 A3 k0 ⊢
    refine (cut_any r y.1 _ W3 (hr.belows b3) er (by rw [HH.out]; exact HU.out) (by omega)).mono ?_
    rintro e w4 ⟨vb, va, vc, b, c, rfl, ib, ia4, ic, b4⟩
    obtain ⟨pb, rfl⟩ := ib.1.ptr
    obtain ⟨pa, rfl⟩ := ia4.ptr
    obtain ⟨pc, rfl⟩ := ic.1.ptr
    obtain ⟨ic, ec, fc⟩ := ic
    have fc' : c.flat = L := by rw [fc, HH.out]; exact gt_at (A := []) HU.out
    have zc : c.size ≤ r.size := by rw [← c.flat_len, ← r.flat_len, fc', HH.out]; simp
    have bb4 := b3.trans (b4.mono b3.size)
    have A4 := A3.belows b4
    have q0 := (A4.cell 0).trans rfl
    have q1 := (A4.cell 1).trans rfl
    have HFC := Lib.hid fc'
    clear fc fc' k0 A3
    go_wp2_with (go_at_call 111; refine (join_any l c y _ (hl.belows bb4) ic el ec (by omega)).mono ?_; rintro e w5 ⟨v5, t5, rfl, i5, f5, b5⟩; obtain ⟨p5, rfl⟩ := i5.ptr)
    go_ret
    exact ⟨_, t5, rfl, i5, f5.2.1, by rw [f5.1, HFC.out, HH.out], bb4.trans (b5.mono bb4.size)⟩
end Go.Proofs.YteboadppighplaaGreat.Tr
/- Contracts: the calls of a tree, but Pairs. -/
namespace Go.Proofs.YteboadppighplaaGreat.Tr
open Go.RowKit

/-- A tree that is not nil, with these pairs. -/
def IsTree1 (w : World) (v : Value) (L : List (Int × Int)) : Prop := Up L ∧ L.length ≤ 1024 ∧ ∃ (B : Nat) (vn : Value) (t : Bt), v = .pointer (some ⟨B, 0, none⟩) ∧ At w B #[vn] 172 ∧ IsT w vn t ∧ t.even ∧ t.flat = L
/-- A tree with these pairs: nil has none. -/
def IsTree (w : World) (v : Value) (L : List (Int × Int)) : Prop := (v = .pointer none ∧ L = []) ∨ IsTree1 w v L
theorem IsTree1.belows {w w' : World} {v : Value} {L : List (Int × Int)} (h : IsTree1 w v L) (hb : Below w.heap.size w w') : IsTree1 w' v L := by
  obtain ⟨h1, h2, B, vn, t, e, ha, hi, he, hf⟩ := h
  exact ⟨h1, h2, B, vn, t, e, ha.belows hb, hi.belows hb, he, hf⟩
theorem IsTree.belows {w w' : World} {v : Value} {L : List (Int × Int)} (h : IsTree w v L) (hb : Below w.heap.size w w') : IsTree w' v L := h.imp id fun h => h.belows hb
theorem IsTree1.any {w : World} {v : Value} {L : List (Int × Int)} (h : IsTree1 w v L) : IsTree w v L := .inr h
theorem IsTree.up {w : World} {v : Value} {L : List (Int × Int)} (h : IsTree w v L) : Up L ∧ L.length ≤ 1024 := by
  rcases h with ⟨_, rfl⟩ | ⟨h1, h2, _⟩
  · exact ⟨Up.nil, by simp⟩
  · exact ⟨h1, h2⟩
theorem IsTree1.ptr {w : World} {v : Value} {L : List (Int × Int)} (h : IsTree1 w v L) : ∃ B, v = .pointer (some ⟨B, 0, none⟩) := by
  obtain ⟨h1, h2, B, vn, t, e, _⟩ := h
  exact ⟨B, e⟩
theorem IsTree.ptr {w : World} {v : Value} {L : List (Int × Int)} (h : IsTree w v L) : ∃ p, v = .pointer p := by
  rcases h with ⟨rfl, _⟩ | h
  · exact ⟨_, rfl⟩
  · obtain ⟨B, rfl⟩ := h.ptr; exact ⟨_, rfl⟩
theorem tree_new (W : World) {vn : Value} {t : Bt} {L : List (Int × Int)} (hi : IsT W vn t) (he : t.even) (hf : t.flat = L) (hu : Up L) (hl : L.length ≤ 1024) : IsTree1 (W.alloc (.cells #[vn] 172)) (.pointer (some ⟨W.heap.size, 0, none⟩)) L :=
  ⟨hu, hl, W.heap.size, vn, t, rfl, At.new W _ _, hi.belows ((Below.refl _ W).alloc (Nat.le_refl _) _), he, hf⟩

def TopOut (w : World) (L : List (Int × Int)) (e : Ending) (w' : World) : Prop := ∃ (p : Option Addr) (t : Bt), e = .returned (.pointer p) ∧ IsT w (.pointer p) t ∧ t.even ∧ t.flat = L ∧ t.size = L.length ∧ w = w'
theorem top_any {v : Value} (L : List (Int × Int)) (w : World) (h : IsTree w v L) : Calls Tryz.prog 95 #[v] w (TopOut w L) := by
  rcases h with ⟨rfl, rfl⟩ | ⟨_, _, B, vn, t, rfl, ha, hi, he, hf⟩
  · go_enter Tryz.func95, Tryz.ntmps95
    go_wp2
    go_ret
    exact ⟨none, .nil, rfl, rfl, trivial, rfl, rfl, rfl⟩
  · have c0 := (ha.cell 0).trans rfl
    obtain ⟨p, rfl⟩ := hi.ptr
    go_enter Tryz.func95, Tryz.ntmps95
    go_wp2
    go_ret
    exact ⟨p, t, rfl, hi, he, hf, by rw [← hf, Bt.flat_len], rfl⟩
theorem len_any {v : Value} (L : List (Int × Int)) (w : World) (h : IsTree w v L) : Calls Tryz.prog 94 #[v] w fun e w' => e = .returned (.int .i64 (L.length : Int)) ∧ w = w' := by
  have ht := top_any L w h
  obtain ⟨p, rfl⟩ := h.ptr
  go_enter Tryz.func94, Tryz.ntmps94
  go_wp2_with (first | (go_at_call 95; refine ht.mono ?_; rintro e w1 ⟨q, t, rfl, hi, he, hf, hs, rfl⟩) | (go_at_call 112; refine (count_any t _ hi).mono ?_; rintro e w1 ⟨rfl, rfl⟩))
  go_ret
  exact ⟨ret_int (by omega), rfl⟩
/-- The value, and whether there is one. -/
def getV : Option (Int × Int) → Value
  | none => .tuple #[.int .i64 0, .bool false]
  | some x => .tuple #[.int .i64 x.2, .bool true]
set_option maxRecDepth 100000 in
theorem get_any {v : Value} (L : List (Int × Int)) (k : Int) (w : World) (h : IsTree w v L) : Calls Tryz.prog 109 #[v, .int .u64 k] w fun e w' => e = .returned (getV (getL L k)) ∧ Below w.heap.size w w' := by
  have hu := Lib.hid h.up
  obtain ⟨p, rfl⟩ := h.ptr
  cases ho : getL L k with
  | none =>
    have HO := Lib.hid ho
    clear ho
    go_enter Tryz.func109, Tryz.ntmps109
    go_wp2_with fail
    refine (top_any L _ (h)).mono ?_
    rintro e w1 ⟨q, t, rfl, hi, he, hf, hs, rfl⟩
    go_wp2_with fail
    refine (find_any t k w hi (by rw [hf]; exact hu.out.1)).mono ?_
    rintro e w1 ⟨v1, rfl, ia, rfl⟩
    rw [hf, HO.out] at ia
    clear hf hs
    obtain ⟨p1, rfl⟩ := ia.ptr
    go_wp2_with fail
    refine (told_any (none) _ ia).mono ?_
    rintro e w2 ⟨rfl, b2⟩
    simp only [toldV]
    go_wp2
    go_ret2
    exact ⟨rfl, b2.alloc b2.size _⟩
  | some x =>
    have HO := Lib.hid ho
    clear ho
    go_enter Tryz.func109, Tryz.ntmps109
    go_wp2_with fail
    refine (top_any L _ (h)).mono ?_
    rintro e w1 ⟨q, t, rfl, hi, he, hf, hs, rfl⟩
    go_wp2_with fail
    refine (find_any t k w hi (by rw [hf]; exact hu.out.1)).mono ?_
    rintro e w1 ⟨v1, rfl, ia, rfl⟩
    rw [hf, HO.out] at ia
    clear hf hs
    obtain ⟨p1, rfl⟩ := ia.ptr
    go_wp2_with fail
    refine (told_any (some x) _ ia).mono ?_
    rintro e w2 ⟨rfl, b2⟩
    simp only [toldV]
    go_wp2
    go_ret2
    exact ⟨rfl, b2.alloc b2.size _⟩
set_option maxRecDepth 100000 in
theorem At_any {v : Value} (L : List (Int × Int)) (i : Int) (w : World) (h : IsTree w v L) (hi1 : -9223372036854775808 ≤ i) (hi2 : i ≤ 9223372036854775807) : Calls Tryz.prog 73 #[v, .int .i64 i] w fun e w' => e = .returned (toldV (atL L i)) ∧ Below w.heap.size w w' := by
  have hu := Lib.hid h.up
  have b0 : Below w.heap.size w (w.alloc (.cells #[.int .u64 0, .int .i64 0] 119)) := (Below.refl _ w).alloc (Nat.le_refl _) _
  have A0 := At.new w #[.int .u64 0, .int .i64 0] 119
  obtain ⟨p, rfl⟩ := h.ptr
  cases ho : atL L i with
  | none =>
    have HO := Lib.hid ho
    clear ho
    go_enter Tryz.func73, Tryz.ntmps73
    go_wp2_with fail
    refine (top_any L _ (h.belows b0)).mono ?_
    rintro e w1 ⟨q, t, rfl, hi, he, hf, hs, rfl⟩
    go_wp2_with fail
    refine (place_any t i _ hi hi1 hi2 (by have := hu.out.2; omega)).mono ?_
    rintro e w1 ⟨v1, rfl, ia, rfl⟩
    rw [hf, HO.out] at ia
    clear hf hs
    obtain ⟨p1, rfl⟩ := ia.ptr
    go_wp2_with fail
    refine (told_any (none) _ ia).mono ?_
    rintro e w2 ⟨rfl, b2⟩
    simp only [toldV]
    have bb2 : Below (w.alloc (.cells #[.int .u64 0, .int .i64 0] 119)).heap.size (w.alloc (.cells #[.int .u64 0, .int .i64 0] 119)) w2 := (b2)
    have A2 := A0.belows bb2
    have A3 := (A2.set0 0 (.int .u64 0)).set0 1 (.int .i64 0)
    have f0 := A2.frozen 0
    have f1 := A2.frozen 1
    have e0 := (A2.cell 0).trans rfl
    have e1 := (A2.cell 1).trans rfl
    go_wp2
    refine bodyPost_ret (v := toldV (none)) (by simp [results, Tryz.results73, go_sem, toldV, A3.cell 0, A3.cell 1]) rfl ⟨rfl, ?_⟩
    have hs2 := bb2.size
    exact ((b0.trans (bb2.mono b0.size)).setCell (p := ⟨w.heap.size, 0, none⟩) (Nat.le_refl _) _).setCell (p := ⟨w.heap.size, 1, none⟩) (Nat.le_refl _) _
  | some x =>
    have HO := Lib.hid ho
    clear ho
    go_enter Tryz.func73, Tryz.ntmps73
    go_wp2_with fail
    refine (top_any L _ (h.belows b0)).mono ?_
    rintro e w1 ⟨q, t, rfl, hi, he, hf, hs, rfl⟩
    go_wp2_with fail
    refine (place_any t i _ hi hi1 hi2 (by have := hu.out.2; omega)).mono ?_
    rintro e w1 ⟨v1, rfl, ia, rfl⟩
    rw [hf, HO.out] at ia
    clear hf hs
    obtain ⟨p1, rfl⟩ := ia.ptr
    go_wp2_with fail
    refine (told_any (some x) _ ia).mono ?_
    rintro e w2 ⟨rfl, b2⟩
    simp only [toldV]
    have bb2 : Below (w.alloc (.cells #[.int .u64 0, .int .i64 0] 119)).heap.size (w.alloc (.cells #[.int .u64 0, .int .i64 0] 119)) w2 := (b2)
    have A2 := A0.belows bb2
    have A3 := (A2.set0 0 (.int .u64 x.1)).set0 1 (.int .i64 x.2)
    have f0 := A2.frozen 0
    have f1 := A2.frozen 1
    have e0 := (A2.cell 0).trans rfl
    have e1 := (A2.cell 1).trans rfl
    go_wp2
    refine bodyPost_ret (v := toldV (some x)) (by simp [results, Tryz.results73, go_sem, toldV, A3.cell 0, A3.cell 1]) rfl ⟨rfl, ?_⟩
    have hs2 := bb2.size
    exact ((b0.trans (bb2.mono b0.size)).setCell (p := ⟨w.heap.size, 0, none⟩) (Nat.le_refl _) _).setCell (p := ⟨w.heap.size, 1, none⟩) (Nat.le_refl _) _
end Go.Proofs.YteboadppighplaaGreat.Tr
/- Contracts: Put, Drop, Split. -/
namespace Go.Proofs.YteboadppighplaaGreat.Tr
open Go.RowKit

theorem put_length {L : List (Int × Int)} {k v : Int} (_hu : Up L) : (putL L k v).length = (lowL L k).length + 1 + (gtL L k).length := by unfold putL; rw [List.length_append, List.length_cons]; omega
theorem put_fits {L : List (Int × Int)} {k v : Int} (hu : Up L) (hl : L.length ≤ 1024) (h : getL L k ≠ none ∨ L.length < 1024) : (putL L k v).length ≤ 1024 := by
  rw [put_len hu]
  rcases h with h | h
  · rw [if_neg h]; exact hl
  · split <;> omega
set_option maxRecDepth 100000 in
set_option maxHeartbeats 1000000 in
theorem put_full {tv : Value} (L : List (Int × Int)) (k v : Int) (w : World) (h : IsTree w tv L) (hg : getL L k = none) (hl : L.length = 1024) : Calls Tryz.prog 108 #[tv, .int .u64 k, .int .i64 v] w fun e w' => e = .returned (.tuple #[.pointer none, .int .i64 41]) ∧ Below w.heap.size w w' := by
  have hu := Lib.hid h.up
  obtain ⟨p, rfl⟩ := h.ptr
  have HG := Lib.hid hg
  have HLEN := Lib.hid hl
  have HH := Lib.hid h
  clear hg hl h
  go_enter Tryz.func108, Tryz.ntmps108
  go_wp2_with fail
  refine (top_any L _ HH.out).mono ?_
  rintro e w1 ⟨q, t, rfl, hi, he, hf, hs, rfl⟩
  go_wp2_with fail
  refine (cut_any t k _ w hi he (by rw [hf]; exact hu.out.1) (by have := hu.out.2; omega)).mono ?_
  rintro e w1 ⟨vb, va, vc, b, c, rfl, ib, ia, ic, b1⟩
  rw [hf, HG.out] at ia
  obtain rfl := ia
  obtain ⟨pb, rfl⟩ := ib.1.ptr
  obtain ⟨pc, rfl⟩ := ic.1.ptr
  have hlen := len_any L w1 (HH.out.belows b1)
  rw [HLEN.out] at hlen
  clear hf hs
  go_wp2_with (go_at_call 94; refine hlen.mono ?_; rintro e w2 ⟨rfl, rfl⟩)
  go_ret2
  exact ⟨rfl, b1⟩
/-- A new tree with these pairs. -/
def TreeOut (w : World) (L : List (Int × Int)) (e : Ending) (w' : World) : Prop := ∃ v', e = .returned (.tuple #[v', .int .i64 0]) ∧ IsTree1 w' v' L ∧ Below w.heap.size w w'
set_option maxRecDepth 100000 in
set_option maxHeartbeats 1000000 in
theorem put_ok {tv : Value} (L : List (Int × Int)) (k v : Int) (w : World) (h : IsTree w tv L) (hg : getL L k ≠ none ∨ L.length < 1024) : Calls Tryz.prog 108 #[tv, .int .u64 k, .int .i64 v] w (TreeOut w (putL L k v)) := by
  have hu := Lib.hid h.up
  obtain ⟨p, rfl⟩ := h.ptr
  have HFIT := Lib.hid (put_fits (v := v) hu.out.1 hu.out.2 hg)
  have HLL := Lib.hid (And.intro (low_len (l := L) (k := k)) (gt_len (l := L) (k := k)))
  have HH := Lib.hid h
  clear h
  cases ho : getL L k with
  | none =>
    have hlt : L.length < 1024 := hg.elim (fun h => absurd ho h) id
    have HO := Lib.hid ho
    clear ho hg
    go_enter Tryz.func108, Tryz.ntmps108
    go_wp2_with fail
    refine (top_any L _ HH.out).mono ?_
    rintro e w1 ⟨q, t, rfl, hi, he, hf, hs, rfl⟩
    go_wp2_with fail
    refine (cut_any t k _ w hi he (by rw [hf]; exact hu.out.1) (by have := hu.out.2; omega)).mono ?_
    rintro e w1 ⟨vb, va, vc, b, c, rfl, ib, ia, ic, b1⟩
    rw [hf, HO.out] at ia
    rw [hf] at ib ic
    obtain rfl := ia
    obtain ⟨pb, rfl⟩ := ib.1.ptr
    obtain ⟨pc, rfl⟩ := ic.1.ptr
    have hlen := len_any L w1 (HH.out.belows b1)
    have HS := Lib.hid (And.intro hf hs)
    clear hf hs
    have hz : b.size + c.size ≤ 10000 := by have := HLL.out; have := hu.out.2; rw [← b.flat_len, ← c.flat_len, ib.2.2, ic.2.2]; omega
    have HIB := Lib.hid ib
    have HIC := Lib.hid ic
    clear ib ic
    have d1 : decide (1024 ≤ (L.length : Int)) = false := by simp; omega
    go_wp2_with (first | (go_at_call 94; refine hlen.mono ?_; rintro e w2 ⟨rfl, rfl⟩) | (go_at_call 111; refine (join_any b c (k, v) _ HIB.out.1 HIC.out.1 HIB.out.2.1 HIC.out.2.1 hz).mono ?_; rintro e w3 ⟨v3, t3, rfl, i3, f3, b3⟩; obtain ⟨p3, rfl⟩ := i3.ptr))
    go_ret2
    exact ⟨_, rfl, tree_new w3 i3 f3.2.1 (by rw [f3.1, HIB.out.2.2, HIC.out.2.2]; rfl) (hu.out.1.put k v) HFIT.out, (b1.trans (b3.mono b1.size)).alloc (b1.trans (b3.mono b1.size)).size _⟩
  | some x =>
    have HO := Lib.hid ho
    clear ho hg
    go_enter Tryz.func108, Tryz.ntmps108
    go_wp2_with fail
    refine (top_any L _ HH.out).mono ?_
    rintro e w1 ⟨q, t, rfl, hi, he, hf, hs, rfl⟩
    go_wp2_with fail
    refine (cut_any t k _ w hi he (by rw [hf]; exact hu.out.1) (by have := hu.out.2; omega)).mono ?_
    rintro e w1 ⟨vb, va, vc, b, c, rfl, ib, ia, ic, b1⟩
    rw [hf, HO.out] at ia
    rw [hf] at ib ic
    obtain ⟨Bn, n1, n2, n3, n4, rfl, han⟩ := ia
    obtain ⟨pb, rfl⟩ := ib.1.ptr
    obtain ⟨pc, rfl⟩ := ic.1.ptr
    clear hf hs han
    have hz : b.size + c.size ≤ 10000 := by have := HLL.out; have := hu.out.2; rw [← b.flat_len, ← c.flat_len, ib.2.2, ic.2.2]; omega
    have HIB := Lib.hid ib
    have HIC := Lib.hid ic
    clear ib ic
    go_wp2_with (go_at_call 111; refine (join_any b c (k, v) _ HIB.out.1 HIC.out.1 HIB.out.2.1 HIC.out.2.1 hz).mono ?_; rintro e w3 ⟨v3, t3, rfl, i3, f3, b3⟩; obtain ⟨p3, rfl⟩ := i3.ptr)
    go_ret2
    exact ⟨_, rfl, tree_new w3 i3 f3.2.1 (by rw [f3.1, HIB.out.2.2, HIC.out.2.2]; rfl) (hu.out.1.put k v) HFIT.out, (b1.trans (b3.mono b1.size)).alloc (b1.trans (b3.mono b1.size)).size _⟩
set_option maxRecDepth 100000 in
set_option maxHeartbeats 1000000 in
theorem drop_no {tv : Value} (L : List (Int × Int)) (k : Int) (w : World) (h : IsTree w tv L) (hg : getL L k = none) : Calls Tryz.prog 107 #[tv, .int .u64 k] w fun e w' => e = .returned (.tuple #[.pointer none, .int .i64 42]) ∧ Below w.heap.size w w' := by
  have hu := Lib.hid h.up
  obtain ⟨p, rfl⟩ := h.ptr
  have HG := Lib.hid hg
  have HH := Lib.hid h
  clear hg h
  go_enter Tryz.func107, Tryz.ntmps107
  go_wp2_with fail
  refine (top_any L _ HH.out).mono ?_
  rintro e w1 ⟨q, t, rfl, hi, he, hf, hs, rfl⟩
  go_wp2_with fail
  refine (cut_any t k _ w hi he (by rw [hf]; exact hu.out.1) (by have := hu.out.2; omega)).mono ?_
  rintro e w1 ⟨vb, va, vc, b, c, rfl, ib, ia, ic, b1⟩
  rw [hf, HG.out] at ia
  obtain rfl := ia
  obtain ⟨pb, rfl⟩ := ib.1.ptr
  obtain ⟨pc, rfl⟩ := ic.1.ptr
  clear hf hs ib ic
  go_wp2
  go_ret2
  exact ⟨rfl, b1⟩
set_option maxRecDepth 100000 in
set_option maxHeartbeats 1000000 in
theorem drop_ok {tv : Value} (L : List (Int × Int)) (k : Int) (w : World) (h : IsTree w tv L) (hg : getL L k ≠ none) : Calls Tryz.prog 107 #[tv, .int .u64 k] w (TreeOut w (dropL L k)) := by
  have hu := Lib.hid h.up
  obtain ⟨p, rfl⟩ := h.ptr
  have HLEN := Lib.hid (drop_len hu.out.1 hg)
  have HLL := Lib.hid (And.intro (low_len (l := L) (k := k)) (gt_len (l := L) (k := k)))
  have HH := Lib.hid h
  clear h
  cases ho : getL L k with
  | none => exact absurd ho hg
  | some x =>
    have HO := Lib.hid ho
    clear ho hg
    go_enter Tryz.func107, Tryz.ntmps107
    go_wp2_with fail
    refine (top_any L _ HH.out).mono ?_
    rintro e w1 ⟨q, t, rfl, hi, he, hf, hs, rfl⟩
    go_wp2_with fail
    refine (cut_any t k _ w hi he (by rw [hf]; exact hu.out.1) (by have := hu.out.2; omega)).mono ?_
    rintro e w1 ⟨vb, va, vc, b, c, rfl, ib, ia, ic, b1⟩
    rw [hf, HO.out] at ia
    rw [hf] at ib ic
    obtain ⟨Bn, n1, n2, n3, n4, rfl, han⟩ := ia
    obtain ⟨pb, rfl⟩ := ib.1.ptr
    obtain ⟨pc, rfl⟩ := ic.1.ptr
    clear hf hs han
    have hz : b.size + c.size ≤ 4000 := by have := HLL.out; have := hu.out.2; rw [← b.flat_len, ← c.flat_len, ib.2.2, ic.2.2]; omega
    have HIB := Lib.hid ib
    have HIC := Lib.hid ic
    clear ib ic
    go_wp2_with (go_at_call 125; refine (joinTwo_any b c _ HIB.out.1 HIC.out.1 HIB.out.2.1 HIC.out.2.1 (by rw [HIC.out.2.2]; exact hu.out.1.gt k) hz).mono ?_; rintro e w3 ⟨v3, t3, rfl, i3, e3, f3, b3⟩; obtain ⟨p3, rfl⟩ := i3.ptr)
    go_ret2
    exact ⟨_, rfl, tree_new w3 i3 e3 (by rw [f3, HIB.out.2.2, HIC.out.2.2]; rfl) (hu.out.1.drop k) (by have := HLEN.out; have := hu.out.2; omega), (b1.trans (b3.mono b1.size)).alloc (b1.trans (b3.mono b1.size)).size _⟩
/-- What Split answers. -/
def SplitOut (w : World) (L : List (Int × Int)) (k : Int) (e : Ending) (w' : World) : Prop := ∃ v1 v2, e = .returned (.tuple #[v1, v2]) ∧ IsTree1 w' v1 (lowL L k) ∧ IsTree1 w' v2 (highL L k) ∧ Below w.heap.size w w'
theorem high_len {l : List (Int × Int)} {k : Int} : (highL l k).length ≤ l.length := List.length_filter_le _ _
theorem split_fin {w W : World} {L : List (Int × Int)} {k : Int} {vb vc : Value} {b c : Bt} (hu : Up L ∧ L.length ≤ 1024) (hb : Below w.heap.size w W) (ib : IsT W vb b) (eb : b.even) (fb : b.flat = lowL L k) (ic : IsT W vc c) (ec : c.even) (fc : c.flat = highL L k) :
    SplitOut w L k (.returned (.tuple #[.pointer (some ⟨W.heap.size, 0, none⟩), .pointer (some ⟨W.heap.size + 1, 0, none⟩)])) ((W.alloc (.cells #[vb] 172)).alloc (.cells #[vc] 172)) := by
  have h1 := tree_new W ib eb fb (hu.1.low k) (Nat.le_trans low_len hu.2)
  have b1 : Below W.heap.size W (W.alloc (.cells #[vb] 172)) := (Below.refl _ W).alloc (Nat.le_refl _) _
  have h2 := tree_new (W.alloc (.cells #[vb] 172)) (ic.belows b1) ec fc (hu.1.high k) (Nat.le_trans high_len hu.2)
  rw [World.size_alloc] at h2
  exact ⟨_, _, rfl, h1.belows ((Below.refl _ _).alloc (Nat.le_refl _) _), h2, (hb.alloc hb.size _).alloc (hb.alloc hb.size _).size _⟩
set_option maxRecDepth 100000 in
set_option maxHeartbeats 1000000 in
theorem split_any {tv : Value} (L : List (Int × Int)) (k : Int) (w : World) (h : IsTree w tv L) : Calls Tryz.prog 93 #[tv, .int .u64 k] w (SplitOut w L k) := by
  have hu := Lib.hid h.up
  obtain ⟨p, rfl⟩ := h.ptr
  have HLL := Lib.hid (And.intro (low_len (l := L) (k := k)) (gt_len (l := L) (k := k)))
  have HH := Lib.hid h
  have HIS := Lib.hid (high_is (k := k) hu.out.1)
  clear h
  cases ho : getL L k with
  | none =>
    have HO := Lib.hid ho
    clear ho
    go_enter Tryz.func93, Tryz.ntmps93
    go_wp2_with fail
    refine (top_any L _ HH.out).mono ?_
    rintro e w1 ⟨q, t, rfl, hi, he, hf, hs, rfl⟩
    go_wp2_with fail
    refine (cut_any t k _ w hi he (by rw [hf]; exact hu.out.1) (by have := hu.out.2; omega)).mono ?_
    rintro e w1 ⟨vb, va, vc, b, c, rfl, ib, ia, ic, b1⟩
    rw [hf, HO.out] at ia
    rw [hf] at ib ic
    obtain rfl := ia
    obtain ⟨pb, rfl⟩ := ib.1.ptr
    obtain ⟨pc, rfl⟩ := ic.1.ptr
    clear hf hs
    have HIB := Lib.hid ib
    have HIC := Lib.hid ic
    clear ib ic
    go_wp2
    go_ret2
    refine split_fin hu.out b1 HIB.out.1 HIB.out.2.1 HIB.out.2.2 HIC.out.1 HIC.out.2.1 ?_
    rw [HIC.out.2.2]
    rcases HIS.out with ⟨v, _, h2⟩ | ⟨h1, _⟩
    · rw [HO.out] at h2; cases h2
    · exact h1.symm
  | some x =>
    have HO := Lib.hid ho
    clear ho
    go_enter Tryz.func93, Tryz.ntmps93
    go_wp2_with fail
    refine (top_any L _ HH.out).mono ?_
    rintro e w1 ⟨q, t, rfl, hi, he, hf, hs, rfl⟩
    go_wp2_with fail
    refine (cut_any t k _ w hi he (by rw [hf]; exact hu.out.1) (by have := hu.out.2; omega)).mono ?_
    rintro e w1 ⟨vb, va, vc, b, c, rfl, ib, ia, ic, b1⟩
    rw [hf, HO.out] at ia
    rw [hf] at ib ic
    obtain ⟨Bn, n1, n2, n3, n4, rfl, han⟩ := ia
    obtain ⟨pb, rfl⟩ := ib.1.ptr
    obtain ⟨pc, rfl⟩ := ic.1.ptr
    clear hf hs
    have k0 := (han.cell 0).trans rfl
    have k1 := (han.cell 1).trans rfl
    have hz : Bt.nil.size + c.size ≤ 10000 := by have := HLL.out; have := hu.out.2; rw [← c.flat_len, ic.2.2]; simp only [Bt.size]; omega
    have HIB := Lib.hid ib
    have HIC := Lib.hid ic
    clear ib ic
    go_wp2_with (go_at_call 111; refine (join_any .nil c x _ rfl HIC.out.1 trivial HIC.out.2.1 hz).mono ?_; rintro e w3 ⟨v3, t3, rfl, i3, f3, b3⟩; obtain ⟨p3, rfl⟩ := i3.ptr)
    go_ret2
    refine split_fin hu.out (b1.trans (b3.mono b1.size)) (HIB.out.1.belows b3) HIB.out.2.1 HIB.out.2.2 i3 f3.2.1 ?_
    rw [f3.1, HIC.out.2.2]
    rcases HIS.out with ⟨v, h1, h2⟩ | ⟨_, h2⟩
    · rw [HO.out] at h2; cases h2; rw [h1]; rfl
    · rw [HO.out] at h2; cases h2
end Go.Proofs.YteboadppighplaaGreat.Tr
/- Contracts: the iterator that calls itself. -/
namespace Go.Proofs.YteboadppighplaaGreat.Tr
open Go.RowKit Go.Shelf
attribute [local go_sem] Oper.semAt_some
theorem wide_fn (f : FuncId) : Fence.wide.fn f = True := eq_true trivial
attribute [local go_sem] wide_fn

theorem room_wide (k : Nat) : Fence.wide.room k := fun d h => by cases h
theorem roundIn_anyDepth {m m' : Nat} {P : Program} {l : Nat} {f : FuncId} {tmps : Array Value} {assign body : Code} {w : World} {R : Ending → World → Prop}
    (h : RoundIn Fence.wide m P l f tmps assign body w R) : RoundIn Fence.wide m' P l f tmps assign body w R := ⟨h.1, fun c cs _ => h.2 c cs (room_wide _)⟩
theorem yieldAt_anyDepth {m : Nat} (m' : Nat) {P : Program} {l : Nat} {args : Array Value} {W : World} {R : Ending → World → Prop} (h : YieldAt Fence.wide m P l args W R) : YieldAt Fence.wide m' P l args W R := by
  obtain ⟨fn, tmps, assign, body, hy, hR⟩ := h
  exact ⟨fn, tmps, assign, body, hy, roundIn_anyDepth hR⟩

/-- A tree in blocks below n₀. -/
def IsTn (n₀ : Nat) (w : World) : Value → Bt → Prop
  | v, .nil => v = .pointer none
  | v, .node l x r => ∃ (B : Nat) (pl pr : Option Addr) (c d : Value), v = .pointer (some ⟨B, 0, none⟩) ∧ B < n₀ ∧ At w B #[.int .u64 x.1, .int .i64 x.2, .pointer pl, .pointer pr, c, d] 170 ∧ IsTn n₀ w (.pointer pl) l ∧ IsTn n₀ w (.pointer pr) r
theorem isTn_of {w : World} : ∀ {v : Value} {t : Bt}, IsT w v t → IsTn w.heap.size w v t
  | _, .nil, h => h
  | _, .node _ _ _, ⟨B, vl, vr, e, ha, hl, hr⟩ => by
    obtain ⟨pl, rfl⟩ := hl.ptr
    obtain ⟨pr, rfl⟩ := hr.ptr
    exact ⟨B, pl, pr, _, _, e, ha.lt, ha, isTn_of hl, isTn_of hr⟩
theorem IsTn.below {n₀ : Nat} {w w' : World} (hb : Below n₀ w w') : ∀ {v : Value} {t : Bt}, IsTn n₀ w v t → IsTn n₀ w' v t
  | _, .nil, h => h
  | _, .node _ _ _, ⟨B, pl, pr, c, d, e, hB, ha, hl, hr⟩ => ⟨B, pl, pr, c, d, e, hB, ha.below hb hB, IsTn.below hb hl, IsTn.below hb hr⟩
theorem IsTn.ptr {n₀ : Nat} {w : World} {v : Value} {t : Bt} (h : IsTn n₀ w v t) : ∃ p, v = .pointer p := by
  cases t with
  | nil => exact ⟨_, h⟩
  | node l x r => obtain ⟨B, pl, pr, c, d, e, _⟩ := h; exact ⟨_, e⟩

theorem undef_no {b : Bool} (h : some undef = some (Value.bool b)) : False := by cases h
theorem hdd (k : Nat) : Fence.wide.depth.isSome = true → 1 ≤ k := fun h => by cases h
abbrev encP (x : Int × Int) : Array Value := #[pv x]
end Go.Proofs.YteboadppighplaaGreat.Tr
/- Contract: Pairs. -/
namespace Go.Proofs.YteboadppighplaaGreat.Tr
open Go.RowKit Go.Shelf
attribute [local go_sem] Oper.semAt_some
attribute [local go_sem] wide_fn

theorem at_own {β : Type} (B : Nat) (cs : Array Value) (t : TypeId) : Own (fun (_ : β) W => At W B cs t) := fun s X Y row hs hg hrow =>
  hs.kept hg (fun e' => by obtain ⟨o, ho, hc⟩ := hrow B e'.symm; rw [show X.heap[B]? = _ from hs] at ho; cases ho; cases hc)
theorem top_from {v : Value} (L : List (Int × Int)) (w W : World) (h : IsTree w v L) (hW : Below w.heap.size w W) : Calls Tryz.prog 95 #[v] W fun e w' => ∃ (p : Option Addr) (t : Bt), e = .returned (.pointer p) ∧ IsT w (.pointer p) t ∧ t.flat = L ∧ W = w' := by
  rcases h with ⟨rfl, rfl⟩ | ⟨_, _, B, vn, t, rfl, ha, hi, he, hf⟩
  · go_enter Tryz.func95, Tryz.ntmps95
    go_wp2
    go_ret
    exact ⟨none, .nil, rfl, rfl, rfl, rfl⟩
  · have c0 := ((ha.belows hW).cell 0).trans rfl
    obtain ⟨p, rfl⟩ := hi.ptr
    go_enter Tryz.func95, Tryz.ntmps95
    go_wp2
    go_ret
    exact ⟨p, t, rfl, hi, hf, rfl⟩
def PairsOut (w : World) (L : List (Int × Int)) (e : Ending) (w' : World) : Prop := ∃ v, e = .returned v ∧ IsP w' v L ∧ Below w.heap.size w w'
end Go.Proofs.YteboadppighplaaGreat.Tr
/- Contracts: keys of ranges and boundaries, how often they stand, a range's boundaries. -/
namespace Go.Proofs.YteboadppighplaaGreat.Tr
open Go.RowKit Go.Shelf

theorem or_disj (f t : Nat) (ht : t < 4294967296) : (f * 4294967296) ||| t = f * 4294967296 + t := by
  have h := Nat.shiftLeft_add_eq_or_of_lt (i := 32) (b := t) (by omega) f
  rw [Nat.shiftLeft_eq] at h
  exact h.symm
theorem bits_key (f t : Nat) (hf : f < 4294967296) (ht : t < 4294967296) : bits .or .u64 ((f : Int) * 4294967296) (t : Int) = (f : Int) * 4294967296 + (t : Int) := by
  have e0 : ((f : Int) * 4294967296) = ((f * 4294967296 : Nat) : Int) := by omega
  rw [e0]
  have h1 : (BitVec.ofInt 64 ((f * 4294967296 : Nat) : Int)).toNat = f * 4294967296 := by
    rw [BitVec.ofInt_natCast, BitVec.toNat_ofNat]; exact Nat.mod_eq_of_lt (by omega)
  have h2 : (BitVec.ofInt 64 (t : Int)).toNat = t := by
    rw [BitVec.ofInt_natCast, BitVec.toNat_ofNat]; exact Nat.mod_eq_of_lt (by omega)
  show IntKind.u64.wrap ((BitVec.ofInt 64 ((f * 4294967296 : Nat) : Int) ||| BitVec.ofInt 64 (t : Int)).toNat : Int) = _
  rw [BitVec.toNat_or, h1, h2, or_disj f t ht, IntWalk.u64_in _ (by omega)]
  omega
theorem keyS_any (f t : Nat) (w : World) (hf : f < 4294967296) (ht : t < 4294967296) : Calls Tryz.prog 156 #[.agg #[.int .u32 f, .int .u32 t]] w fun e w' => e = .returned (.int .u64 (keyI (f, t))) ∧ Below w.heap.size w w' := by
  have hk := bits_key f t hf ht
  go_enter Tryz.func156, Tryz.ntmps156
  go_wp2
  go_ret
  exact ⟨rfl, (Below.refl _ w).alloc (Nat.le_refl _) _⟩
theorem keyC_any (c : Int) (w : World) (h0 : 0 ≤ c) (h1 : c < 4294967296) : Calls Tryz.prog 155 #[.int .u32 c] w fun e w' => e = .returned (.int .u64 c) ∧ w = w' := by
  go_enter Tryz.func155, Tryz.ntmps155
  go_wp2
  go_ret
  exact ⟨rfl, rfl⟩
theorem getV_tal {P : List (Int × Int)} {f : Int → Nat} (h : Tal P f) (k : Int) : ∃ b, getV (getL P k) = .tuple #[.int .i64 (f k : Int), .bool b] := by
  rw [h.2 k]
  by_cases e : f k = 0
  · rw [if_pos e, e]; exact ⟨false, rfl⟩
  · rw [if_neg e]; exact ⟨true, rfl⟩
set_option maxRecDepth 100000 in
theorem oftenS_any {v : Value} (P : List (Int × Int)) (L : List (Nat × Nat)) (f t : Nat) (w : World) (hf : f < 4294967296) (ht : t < 4294967296) (h : IsTree w v P) (hT : Tal P (nR L)) : Calls Tryz.prog 92 #[v, .agg #[.int .u32 f, .int .u32 t]] w fun e w' => e = .returned (.int .i64 (nR L (keyI (f, t)) : Int)) ∧ Below w.heap.size w w' := by
  obtain ⟨p, rfl⟩ := h.ptr
  have HH := Lib.hid h
  obtain ⟨b, hb⟩ := getV_tal hT (keyI (f, t))
  have HT := Lib.hid hb
  clear h hT hb
  generalize hn : nR L (keyI (f, t)) = n at HT
  clear hn
  go_enter Tryz.func92, Tryz.ntmps92
  go_wp2_with fail
  refine (keyS_any f t _ hf ht).mono ?_
  rintro e w1 ⟨rfl, b1⟩
  have b1' : Below w.heap.size w w1 := ((Below.refl _ w).alloc (Nat.le_refl _) _).trans (b1.mono (by simp))
  go_wp2_with fail
  refine (get_any P _ w1 (HH.out.belows b1')).mono ?_
  rintro e w2 ⟨rfl, b2⟩
  rw [HT.out]
  go_wp2
  go_ret
  exact ⟨rfl, b1'.trans (b2.mono b1'.size)⟩
set_option maxRecDepth 100000 in
theorem oftenC_any {v : Value} (P : List (Int × Int)) (g : Int → Nat) (c : Int) (w : World) (h0 : 0 ≤ c) (h1 : c < 4294967296) (h : IsTree w v P) (hT : Tal P g) : Calls Tryz.prog 106 #[v, .int .u32 c] w fun e w' => e = .returned (.int .i64 (g c : Int)) ∧ Below w.heap.size w w' := by
  obtain ⟨p, rfl⟩ := h.ptr
  have HH := Lib.hid h
  obtain ⟨b, hb⟩ := getV_tal hT c
  have HT := Lib.hid hb
  clear h hT hb
  generalize hn : g c = n at HT
  clear hn
  go_enter Tryz.func106, Tryz.ntmps106
  go_wp2_with fail
  refine (keyC_any c _ h0 h1).mono ?_
  rintro e w1 ⟨rfl, rfl⟩
  go_wp2_with fail
  refine (get_any P _ w (HH.out)).mono ?_
  rintro e w2 ⟨rfl, b2⟩
  rw [HT.out]
  go_wp2
  go_ret
  exact ⟨rfl, b2⟩
end Go.Proofs.YteboadppighplaaGreat.Tr
/- Contracts: a thing stands once more, or once less. -/
namespace Go.Proofs.YteboadppighplaaGreat.Tr
open Go.RowKit Go.Shelf

/-- A new tree that tells how often. -/
def RecOut (w : World) (f : Int → Nat) (e : Ending) (w' : World) : Prop := ∃ v' P', e = .returned v' ∧ IsTree1 w' v' P' ∧ Tal P' f ∧ Below w.heap.size w w'
set_option maxRecDepth 100000 in
set_option maxHeartbeats 1000000 in
theorem recountC_more {v : Value} (P : List (Int × Int)) (g : Int → Nat) (c : Int) (w : World) (h0 : 0 ≤ c) (h1 : c < 4294967296) (h : IsTree w v P) (hT : Tal P g) (hl : P.length < 1024) (hn : g c ≤ 1000) : Calls Tryz.prog 90 #[v, .int .u32 c, .int .i64 1] w (RecOut w (fun j => g j + if j = c then 1 else 0)) := by
  have HH := Lib.hid h
  have HT := Lib.hid hT
  have HG := Lib.hid (hT.more c (n := ((g c : Nat) : Int) + 1) rfl)
  have hgn : getL P c ≠ none ∨ P.length < 1024 := .inr hl
  have HN := Lib.hid hgn
  obtain ⟨p, rfl⟩ := h.ptr
  clear h hT hgn
  go_enter Tryz.func90, Tryz.ntmps90
  go_wp2_with fail
  refine (oftenC_any P g c _ h0 h1 HH.out HT.out).mono ?_
  rintro e w1 ⟨rfl, b1⟩
  have dz : (((g c : Nat) : Int) + 1 == 0) = false := by rw [beq_eq_false_iff_ne]; omega
  generalize g c = n at *
  go_wp2_with fail
  refine (keyC_any c _ h0 h1).mono ?_
  rintro e w2 ⟨rfl, rfl⟩
  go_wp2_with fail
  refine (put_ok P c ((n : Int) + 1) _ (HH.out.belows b1) HN.out).mono ?_
  rintro e w3 ⟨v3, rfl, t3, b3⟩
  obtain ⟨B3, rfl⟩ := t3.ptr
  go_wp2
  go_ret
  exact ⟨_, _, rfl, t3, HG.out, b1.trans (b3.mono b1.size)⟩
set_option maxRecDepth 100000 in
set_option maxHeartbeats 1000000 in
theorem recountC_less {v : Value} (P : List (Int × Int)) (g : Int → Nat) (c : Int) (w : World) (h0 : 0 ≤ c) (h1 : c < 4294967296) (h : IsTree w v P) (hT : Tal P g) (_hl : P.length ≤ 1024) (hn : g c ≤ 1000) (h2 : 1 < g c) (q : Int → Nat) (hq : ∀ j, g j = q j + if j = c then 1 else 0) : Calls Tryz.prog 90 #[v, .int .u32 c, .int .i64 (-1)] w (RecOut w q) := by
  have HH := Lib.hid h
  have HT := Lib.hid hT
  have HG := Lib.hid (hT.less c (n := ((g c : Nat) : Int) - 1) rfl h2 hq)
  have hgn : getL P c ≠ none ∨ P.length < 1024 := .inl (by rw [hT.2, if_neg (by omega)]; simp)
  have HN := Lib.hid hgn
  obtain ⟨p, rfl⟩ := h.ptr
  clear h hT hgn
  go_enter Tryz.func90, Tryz.ntmps90
  go_wp2_with fail
  refine (oftenC_any P g c _ h0 h1 HH.out HT.out).mono ?_
  rintro e w1 ⟨rfl, b1⟩
  have dz : (((g c : Nat) : Int) + -1 == 0) = false := by rw [beq_eq_false_iff_ne]; omega
  have e0 : ((g c : Nat) : Int) + -1 = ((g c : Nat) : Int) - 1 := rfl
  generalize g c = n at *
  go_wp2_with fail
  refine (keyC_any c _ h0 h1).mono ?_
  rintro e w2 ⟨rfl, rfl⟩
  go_wp2_with fail
  refine (put_ok P c ((n : Int) - 1) _ (HH.out.belows b1) HN.out).mono ?_
  rintro e w3 ⟨v3, rfl, t3, b3⟩
  obtain ⟨B3, rfl⟩ := t3.ptr
  go_wp2
  go_ret
  exact ⟨_, _, rfl, t3, HG.out, b1.trans (b3.mono b1.size)⟩
set_option maxRecDepth 100000 in
set_option maxHeartbeats 1000000 in
theorem recountC_gone {v : Value} (P : List (Int × Int)) (g : Int → Nat) (c : Int) (w : World) (h0 : 0 ≤ c) (h1 : c < 4294967296) (h : IsTree w v P) (hT : Tal P g) (h2 : g c = 1) (q : Int → Nat) (hq : ∀ j, g j = q j + if j = c then 1 else 0) : Calls Tryz.prog 90 #[v, .int .u32 c, .int .i64 (-1)] w (RecOut w q) := by
  have HH := Lib.hid h
  have HT := Lib.hid hT
  have HG := Lib.hid (hT.gone c h2 hq)
  have hgn : getL P c ≠ none := by rw [hT.2, if_neg (by omega)]; simp
  have HN := Lib.hid hgn
  obtain ⟨p, rfl⟩ := h.ptr
  clear h hT hgn
  go_enter Tryz.func90, Tryz.ntmps90
  go_wp2_with fail
  refine (oftenC_any P g c _ h0 h1 HH.out HT.out).mono ?_
  rintro e w1 ⟨rfl, b1⟩
  rw [h2]
  go_wp2_with fail
  refine (keyC_any c _ h0 h1).mono ?_
  rintro e w2 ⟨rfl, rfl⟩
  go_wp2_with fail
  refine (drop_ok P c _ (HH.out.belows b1) HN.out).mono ?_
  rintro e w3 ⟨v3, rfl, t3, b3⟩
  obtain ⟨B3, rfl⟩ := t3.ptr
  go_wp2
  go_ret
  exact ⟨_, _, rfl, t3, HG.out, b1.trans (b3.mono b1.size)⟩
set_option maxRecDepth 100000 in
set_option maxHeartbeats 1000000 in
theorem recountS_more {v : Value} (P : List (Int × Int)) (L : List (Nat × Nat)) (f t : Nat) (w : World) (hf : f < 4294967296) (ht : t < 4294967296) (h : IsTree w v P) (hT : Tal P (nR L)) (hl : P.length < 1024) (hn : (nR L) (keyI (f, t)) ≤ 1000) : Calls Tryz.prog 91 #[v, .agg #[.int .u32 f, .int .u32 t], .int .i64 1] w (RecOut w (fun j => (nR L) j + if j = (keyI (f, t)) then 1 else 0)) := by
  have HH := Lib.hid h
  have HT := Lib.hid hT
  have HG := Lib.hid (hT.more (keyI (f, t)) (n := (((nR L) (keyI (f, t)) : Nat) : Int) + 1) rfl)
  have hgn : getL P (keyI (f, t)) ≠ none ∨ P.length < 1024 := .inr hl
  have HN := Lib.hid hgn
  obtain ⟨p, rfl⟩ := h.ptr
  clear h hT hgn
  go_enter Tryz.func91, Tryz.ntmps91
  go_wp2_with fail
  refine (oftenS_any P L f t _ hf ht (HH.out.belows ((Below.refl _ w).alloc (Nat.le_refl _) _)) HT.out).mono ?_
  rintro e w1 ⟨rfl, b1⟩
  have A1 := (At.new w #[.int .u32 f, .int .u32 t] 143).belows b1
  have k0 := (A1.cell 0).trans rfl
  have k1 := (A1.cell 1).trans rfl
  clear A1
  have b1 : Below w.heap.size w w1 := ((Below.refl _ w).alloc (Nat.le_refl _) _).trans (b1.mono (by simp))
  have dz : ((((nR L) (keyI (f, t)) : Nat) : Int) + 1 == 0) = false := by rw [beq_eq_false_iff_ne]; omega
  generalize (nR L) (keyI (f, t)) = n at *
  go_wp2_with fail
  refine (keyS_any f t _ hf ht).mono ?_
  rintro e w2 ⟨rfl, b2⟩
  have b2' : Below w.heap.size w w2 := b1.trans (b2.mono b1.size)
  go_wp2_with fail
  refine (put_ok P (keyI (f, t)) ((n : Int) + 1) _ (HH.out.belows b2') HN.out).mono ?_
  rintro e w3 ⟨v3, rfl, t3, b3⟩
  obtain ⟨B3, rfl⟩ := t3.ptr
  go_wp2
  go_ret
  exact ⟨_, _, rfl, t3, HG.out, b2'.trans (b3.mono b2'.size)⟩
set_option maxRecDepth 100000 in
set_option maxHeartbeats 1000000 in
theorem recountS_less {v : Value} (P : List (Int × Int)) (L : List (Nat × Nat)) (f t : Nat) (w : World) (hf : f < 4294967296) (ht : t < 4294967296) (h : IsTree w v P) (hT : Tal P (nR L)) (_hl : P.length ≤ 1024) (hn : (nR L) (keyI (f, t)) ≤ 1000) (h2 : 1 < (nR L) (keyI (f, t))) (q : Int → Nat) (hq : ∀ j, (nR L) j = q j + if j = (keyI (f, t)) then 1 else 0) : Calls Tryz.prog 91 #[v, .agg #[.int .u32 f, .int .u32 t], .int .i64 (-1)] w (RecOut w q) := by
  have HH := Lib.hid h
  have HT := Lib.hid hT
  have HG := Lib.hid (hT.less (keyI (f, t)) (n := (((nR L) (keyI (f, t)) : Nat) : Int) - 1) rfl h2 hq)
  have hgn : getL P (keyI (f, t)) ≠ none ∨ P.length < 1024 := .inl (by rw [hT.2, if_neg (by omega)]; simp)
  have HN := Lib.hid hgn
  obtain ⟨p, rfl⟩ := h.ptr
  clear h hT hgn
  go_enter Tryz.func91, Tryz.ntmps91
  go_wp2_with fail
  refine (oftenS_any P L f t _ hf ht (HH.out.belows ((Below.refl _ w).alloc (Nat.le_refl _) _)) HT.out).mono ?_
  rintro e w1 ⟨rfl, b1⟩
  have A1 := (At.new w #[.int .u32 f, .int .u32 t] 143).belows b1
  have k0 := (A1.cell 0).trans rfl
  have k1 := (A1.cell 1).trans rfl
  clear A1
  have b1 : Below w.heap.size w w1 := ((Below.refl _ w).alloc (Nat.le_refl _) _).trans (b1.mono (by simp))
  have dz : ((((nR L) (keyI (f, t)) : Nat) : Int) + -1 == 0) = false := by rw [beq_eq_false_iff_ne]; omega
  have e0 : (((nR L) (keyI (f, t)) : Nat) : Int) + -1 = (((nR L) (keyI (f, t)) : Nat) : Int) - 1 := rfl
  generalize (nR L) (keyI (f, t)) = n at *
  go_wp2_with fail
  refine (keyS_any f t _ hf ht).mono ?_
  rintro e w2 ⟨rfl, b2⟩
  have b2' : Below w.heap.size w w2 := b1.trans (b2.mono b1.size)
  go_wp2_with fail
  refine (put_ok P (keyI (f, t)) ((n : Int) - 1) _ (HH.out.belows b2') HN.out).mono ?_
  rintro e w3 ⟨v3, rfl, t3, b3⟩
  obtain ⟨B3, rfl⟩ := t3.ptr
  go_wp2
  go_ret
  exact ⟨_, _, rfl, t3, HG.out, b2'.trans (b3.mono b2'.size)⟩
set_option maxRecDepth 100000 in
set_option maxHeartbeats 1000000 in
theorem recountS_gone {v : Value} (P : List (Int × Int)) (L : List (Nat × Nat)) (f t : Nat) (w : World) (hf : f < 4294967296) (ht : t < 4294967296) (h : IsTree w v P) (hT : Tal P (nR L)) (h2 : (nR L) (keyI (f, t)) = 1) (q : Int → Nat) (hq : ∀ j, (nR L) j = q j + if j = (keyI (f, t)) then 1 else 0) : Calls Tryz.prog 91 #[v, .agg #[.int .u32 f, .int .u32 t], .int .i64 (-1)] w (RecOut w q) := by
  have HH := Lib.hid h
  have HT := Lib.hid hT
  have HG := Lib.hid (hT.gone (keyI (f, t)) h2 hq)
  have hgn : getL P (keyI (f, t)) ≠ none := by rw [hT.2, if_neg (by omega)]; simp
  have HN := Lib.hid hgn
  obtain ⟨p, rfl⟩ := h.ptr
  clear h hT hgn
  go_enter Tryz.func91, Tryz.ntmps91
  go_wp2_with fail
  refine (oftenS_any P L f t _ hf ht (HH.out.belows ((Below.refl _ w).alloc (Nat.le_refl _) _)) HT.out).mono ?_
  rintro e w1 ⟨rfl, b1⟩
  have A1 := (At.new w #[.int .u32 f, .int .u32 t] 143).belows b1
  have k0 := (A1.cell 0).trans rfl
  have k1 := (A1.cell 1).trans rfl
  clear A1
  have b1 : Below w.heap.size w w1 := ((Below.refl _ w).alloc (Nat.le_refl _) _).trans (b1.mono (by simp))
  rw [h2]
  go_wp2_with fail
  refine (keyS_any f t _ hf ht).mono ?_
  rintro e w2 ⟨rfl, b2⟩
  have b2' : Below w.heap.size w w2 := b1.trans (b2.mono b1.size)
  go_wp2_with fail
  refine (drop_ok P (keyI (f, t)) _ (HH.out.belows b2') HN.out).mono ?_
  rintro e w3 ⟨v3, rfl, t3, b3⟩
  obtain ⟨B3, rfl⟩ := t3.ptr
  go_wp2
  go_ret
  exact ⟨_, _, rfl, t3, HG.out, b2'.trans (b3.mono b2'.size)⟩
end Go.Proofs.YteboadppighplaaGreat.Tr
/- Contracts: a range's boundaries; a table in memory; New, some. -/
namespace Go.Proofs.YteboadppighplaaGreat.Tr
open Go.RowKit Go.Shelf

/-- A step of a count. -/
def Stp (s : Int) (c : Int) (g q : Int → Nat) : Prop := (s = 1 ∧ ∀ j, q j = g j + if j = c then 1 else 0) ∨ (s = -1 ∧ ∀ j, g j = q j + if j = c then 1 else 0)
theorem recC_any {v : Value} (P : List (Int × Int)) (g q : Int → Nat) (s c : Int) (w : World) (h0 : 0 ≤ c) (h1 : c < 4294967296) (h : IsTree w v P) (hT : Tal P g) (hl : P.length < 1024) (hn : g c ≤ 1000) (hs : Stp s c g q) : Calls Tryz.prog 90 #[v, .int .u32 c, .int .i64 s] w (RecOut w q) := by
  rcases hs with ⟨rfl, hq⟩ | ⟨rfl, hq⟩
  · obtain rfl : q = fun j => g j + if j = c then 1 else 0 := funext hq
    exact recountC_more P g c w h0 h1 h hT hl hn
  · have h2 := hq c
    rw [if_pos rfl] at h2
    by_cases h3 : 1 < g c
    · exact recountC_less P g c w h0 h1 h hT (by omega) hn h3 q hq
    · exact recountC_gone P g c w h0 h1 h hT (by omega) q hq
theorem recS_any {v : Value} (P : List (Int × Int)) (L : List (Nat × Nat)) (q : Int → Nat) (s : Int) (f t : Nat) (w : World) (hf : f < 4294967296) (ht : t < 4294967296) (h : IsTree w v P) (hT : Tal P (nR L)) (hl : P.length < 1024) (hn : nR L (keyI (f, t)) ≤ 1000) (hs : Stp s (keyI (f, t)) (nR L) q) : Calls Tryz.prog 91 #[v, .agg #[.int .u32 f, .int .u32 t], .int .i64 s] w (RecOut w q) := by
  rcases hs with ⟨rfl, hq⟩ | ⟨rfl, hq⟩
  · obtain rfl : q = fun j => nR L j + if j = keyI (f, t) then 1 else 0 := funext hq
    exact recountS_more P L f t w hf ht h hT hl hn
  · have h2 := hq (keyI (f, t))
    rw [if_pos rfl] at h2
    by_cases h3 : 1 < nR L (keyI (f, t))
    · exact recountS_less P L f t w hf ht h hT (by omega) hn h3 q hq
    · exact recountS_gone P L f t w hf ht h hT (by omega) q hq

/-- A slice that reads as these boundaries. -/
def IsC (w : World) (v : Value) (C : List Int) : Prop := ∃ A c, v = .slice A C.length c ∧ (0 < C.length → ∃ g, A = some ⟨g, 0, none⟩ ∧ g < w.heap.size ∧ ∀ k (hk : k < C.length), w.cell? ⟨g, k, none⟩ = some (.int .u32 C[k]))
def ucells (C : List Int) : List Value := C.map fun c => .int .u32 c
theorem isC_of_row {w : World} {base : Nat} {v : Value} {C : List Int} (h : w.ownsRow base 140 1 v C.length (ucells C)) : IsC w v C := by
  rcases h.2 with ⟨rfl, h0⟩ | ⟨g, cap, cur, rfl, hb, hg, hnc, hm, _⟩
  · obtain rfl := List.eq_nil_of_length_eq_zero h0
    exact ⟨none, 0, rfl, fun h => absurd h (by simp)⟩
  · refine ⟨_, cap, rfl, fun _ => ⟨g, rfl, (Array.getElem?_eq_some_iff.1 hg).1, fun k hk => ?_⟩⟩
    rw [World.ownsRow.cellAt h k (by omega)]
    simp [ucells, hk]
theorem info99 : (Tryz.prog.info? 140).map (fun i => (i.zero, i.size, i.bytes)) = some (some (.int .u32 0), 1, 4) := by kernel_rfl
set_option maxRecDepth 100000 in
set_option maxHeartbeats 1000000 in
theorem cutsOf_any (f t : Nat) (w : World) (hf : f < 4294967296) (ht : t < 4294967296) : Calls Tryz.prog 89 #[.agg #[.int .u32 f, .int .u32 t]] w fun e w' => ∃ v, e = .returned v ∧ IsC w' v (cutsR (f, t)) ∧ Below w.heap.size w w' := by
  obtain ⟨i0, hi, hz0, hz1, hz2⟩ := info_parts info99
  have A0 := At.new w #[.int .u32 f, .int .u32 t] 43
  have b0 : Below w.heap.size w (w.alloc (.cells #[.int .u32 f, .int .u32 t] 43)) := (Below.refl _ w).alloc (Nat.le_refl _) _
  by_cases h1 : 0 < f
  · by_cases h2 : t < 4294967295
    · have e : cutsR (f, t) = [(f : Int), (t : Int) + 1] := by simp [cutsR, h1, h2]
      rw [e]
      have d2 : decide ((t : Int) < 4294967295) = true := by simp; omega
      have d3 : decide (t < 4294967295) = true := by simp; omega
      have j1 : IntKind.u32.wrap ((t : Int) + 1) = (t : Int) + 1 := IntWalk.u32_in _ (by omega)
      clear e h2
      go_enter Tryz.func89, Tryz.ntmps89
      go_wp2_with (first | (at_builtin; refine wpList_append_own _ rfl _ _ 138 rfl (w.heap.size + 1) 140 i0 (.int .u32 0) 1 4 Tryz.underlying138 hi hz0 hz1 hz2 rfl (by decide) _ 1 [.int .u32 f] rfl (own1.alloc _) ⟨w1.heap.size, 0, none⟩ 1 1 [.int .u32 ((t : Int) + 1)] rfl rfl (cell_one_new w1 _ _) (by simp [Value.oneCell']) (by simp [maxLen]) (by simp) (by simp; omega) ?_; intro v2 w2 own2 grow2 _) | (at_builtin; refine wpList_append_own _ rfl _ _ 138 rfl (w.heap.size + 1) 140 i0 (.int .u32 0) 1 4 Tryz.underlying138 hi hz0 hz1 hz2 rfl (by decide) _ 0 [] rfl (World.ownsRow_nil _ _ _ _) ⟨w.heap.size + 1, 0, none⟩ 1 1 [.int .u32 f] rfl rfl (by simpa using cell_one_new (w.alloc (.cells #[.int .u32 f, .int .u32 t] 43)) (.int .u32 f) 140) (by simp [Value.oneCell']) (by simp [maxLen]) (by simp) (by simp) ?_; intro v1 w1 own1 grow1 _; have b1 : Below (w.heap.size + 1) (w.alloc (.cells #[.int .u32 f, .int .u32 t] 43)) w1 := ((Below.refl (w.heap.size + 1) (w.alloc (.cells #[.int .u32 f, .int .u32 t] 43))).alloc (by simp) _).grown grow1 (by simp) (fun k hk => by cases hk); obtain ⟨g1, cap1, rfl⟩ := ownsRow_succ own1; have A1 := A0.below b1 (by omega); have c1 := (A1.cell 1).trans rfl; have hs1 := b1.size; simp only [World.size_alloc] at hs1))
      go_ret
      have b2 : Below w.heap.size w w2 := (b0.trans (b1.mono (by omega))).trans (((Below.refl w.heap.size w1).alloc (by omega) _).grown grow2 (by simp; omega) (fun k hk => by have := (own1.lt k hk).1; omega))
      exact ⟨_, rfl, isC_of_row (base := w.heap.size + 1) (C := [(f : Int), (t : Int) + 1]) (by simpa [ucells] using own2), b2⟩
    · have e : cutsR (f, t) = [(f : Int)] := by simp [cutsR, h1, h2]
      rw [e]
      have d2 : decide ((t : Int) < 4294967295) = false := by simp; omega
      have d3 : decide (t < 4294967295) = false := by simp; omega
      clear e h2
      go_enter Tryz.func89, Tryz.ntmps89
      go_wp2_with (at_builtin; refine wpList_append_own _ rfl _ _ 138 rfl (w.heap.size + 1) 140 i0 (.int .u32 0) 1 4 Tryz.underlying138 hi hz0 hz1 hz2 rfl (by decide) _ 0 [] rfl (World.ownsRow_nil _ _ _ _) ⟨w.heap.size + 1, 0, none⟩ 1 1 [.int .u32 f] rfl rfl (by simpa using cell_one_new (w.alloc (.cells #[.int .u32 f, .int .u32 t] 43)) (.int .u32 f) 140) (by simp [Value.oneCell']) (by simp [maxLen]) (by simp) (by simp) ?_; intro v1 w1 own1 grow1 _; have b1 : Below (w.heap.size + 1) (w.alloc (.cells #[.int .u32 f, .int .u32 t] 43)) w1 := ((Below.refl (w.heap.size + 1) (w.alloc (.cells #[.int .u32 f, .int .u32 t] 43))).alloc (by simp) _).grown grow1 (by simp) (fun k hk => by cases hk); obtain ⟨g1, cap1, rfl⟩ := ownsRow_succ own1; have A1 := A0.below b1 (by omega); have c1 := (A1.cell 1).trans rfl; have hs1 := b1.size; simp only [World.size_alloc] at hs1)
      go_ret
      exact ⟨_, rfl, isC_of_row (base := w.heap.size + 1) (C := [(f : Int)]) (by simpa [ucells] using own1), b0.trans (b1.mono (by omega))⟩
  · obtain rfl : f = 0 := by omega
    by_cases h2 : t < 4294967295
    · have e : cutsR (0, t) = [(t : Int) + 1] := by simp [cutsR, h2]
      rw [e]
      have d2 : decide ((t : Int) < 4294967295) = true := by simp; omega
      have d3 : decide (t < 4294967295) = true := by simp; omega
      have j1 : IntKind.u32.wrap ((t : Int) + 1) = (t : Int) + 1 := IntWalk.u32_in _ (by omega)
      clear e h2 h1 hf
      go_enter Tryz.func89, Tryz.ntmps89
      go_wp2_with (at_builtin; refine wpList_append_own _ rfl _ _ 138 rfl (w.heap.size + 1) 140 i0 (.int .u32 0) 1 4 Tryz.underlying138 hi hz0 hz1 hz2 rfl (by decide) _ 0 [] rfl (World.ownsRow_nil _ _ _ _) ⟨w.heap.size + 1, 0, none⟩ 1 1 [.int .u32 ((t : Int) + 1)] rfl rfl (by simpa using cell_one_new (w.alloc (.cells #[.int .u32 (0 : Nat), .int .u32 t] 43)) (.int .u32 ((t : Int) + 1)) 140) (by simp [Value.oneCell']) (by simp [maxLen]) (by simp) (by simp) ?_; intro v1 w1 own1 grow1 _; have b1 : Below (w.heap.size + 1) (w.alloc (.cells #[.int .u32 (0 : Nat), .int .u32 t] 43)) w1 := ((Below.refl (w.heap.size + 1) (w.alloc (.cells #[.int .u32 (0 : Nat), .int .u32 t] 43))).alloc (by simp) _).grown grow1 (by simp) (fun k hk => by cases hk); obtain ⟨g1, cap1, rfl⟩ := ownsRow_succ own1; have A1 := A0.below b1 (by omega); have c1 := (A1.cell 1).trans rfl; have hs1 := b1.size; simp only [World.size_alloc] at hs1)
      go_ret
      exact ⟨_, rfl, isC_of_row (base := w.heap.size + 1) (C := [(t : Int) + 1]) (by simpa [ucells] using own1), b0.trans (b1.mono (by omega))⟩
    · have e : cutsR (0, t) = [] := by simp [cutsR, h2]
      rw [e]
      have d2 : decide ((t : Int) < 4294967295) = false := by simp; omega
      have d3 : decide (t < 4294967295) = false := by simp; omega
      clear e h2 h1 hf
      go_enter Tryz.func89, Tryz.ntmps89
      go_wp2
      go_ret
      exact ⟨_, rfl, ⟨none, 0, rfl, fun h => absurd h (by simp)⟩, b0⟩

/-- A table with these ranges. -/
def IsTab (w : World) (v : Value) (L : List (Nat × Nat)) : Prop := RL L ∧ ∃ (B : Nat) (vr vc : Value) (R C : List (Int × Int)), v = .pointer (some ⟨B, 0, none⟩) ∧ At w B #[vr, vc, .int .i64 (L.length : Int)] 113 ∧ IsTree w vr R ∧ IsTree w vc C ∧ Tal R (nR L) ∧ Tal C (nC L)
/-- A table with these ranges: nil has none. -/
def IsTab0 (w : World) (v : Value) (L : List (Nat × Nat)) : Prop := (v = .pointer none ∧ L = []) ∨ IsTab w v L
theorem IsTab.belows {w w' : World} {v : Value} {L : List (Nat × Nat)} (h : IsTab w v L) (hb : Below w.heap.size w w') : IsTab w' v L := by
  obtain ⟨h1, B, vr, vc, R, C, e, ha, hr, hc, tr, tc⟩ := h
  exact ⟨h1, B, vr, vc, R, C, e, ha.belows hb, hr.belows hb, hc.belows hb, tr, tc⟩
theorem IsTab0.belows {w w' : World} {v : Value} {L : List (Nat × Nat)} (h : IsTab0 w v L) (hb : Below w.heap.size w w') : IsTab0 w' v L := h.imp id fun h => h.belows hb
theorem IsTab.perm {w : World} {v : Value} {L M : List (Nat × Nat)} (h : IsTab w v L) (hp : L.Perm M) : IsTab w v M := by
  obtain ⟨h1, B, vr, vc, R, C, e, ha, hr, hc, tr, tc⟩ := h
  exact ⟨h1.perm hp, B, vr, vc, R, C, e, by rw [← hp.length_eq]; exact ha, hr, hc, by rw [← nR_perm hp]; exact tr, by rw [← nC_perm hp]; exact tc⟩
theorem IsTab.any {w : World} {v : Value} {L : List (Nat × Nat)} (h : IsTab w v L) : IsTab0 w v L := .inr h
theorem IsTab.ptr {w : World} {v : Value} {L : List (Nat × Nat)} (h : IsTab w v L) : ∃ B, v = .pointer (some ⟨B, 0, none⟩) := by
  obtain ⟨h1, B, vr, vc, R, C, e, _⟩ := h
  exact ⟨B, e⟩
theorem IsTab0.ptr {w : World} {v : Value} {L : List (Nat × Nat)} (h : IsTab0 w v L) : ∃ p, v = .pointer p := by
  rcases h with ⟨rfl, _⟩ | h
  · exact ⟨_, rfl⟩
  · obtain ⟨B, rfl⟩ := h.ptr; exact ⟨_, rfl⟩
theorem IsTab0.rl {w : World} {v : Value} {L : List (Nat × Nat)} (h : IsTab0 w v L) : RL L := by
  rcases h with ⟨_, rfl⟩ | h
  · exact RL.nil
  · exact h.1
theorem tab_new (W : World) {vr vc : Value} {R C : List (Int × Int)} {L : List (Nat × Nat)} {n : Int} (hL : RL L) (hn : n = (L.length : Int)) (hr : IsTree W vr R) (hc : IsTree W vc C) (tr : Tal R (nR L)) (tc : Tal C (nC L)) : IsTab (W.alloc (.cells #[vr, vc, .int .i64 n] 113)) (.pointer (some ⟨W.heap.size, 0, none⟩)) L := by
  subst hn
  have b : Below W.heap.size W (W.alloc (.cells #[vr, vc, .int .i64 (L.length : Int)] 113)) := (Below.refl _ W).alloc (Nat.le_refl _) _
  exact ⟨hL, W.heap.size, vr, vc, R, C, rfl, At.new W _ _, hr.belows b, hc.belows b, tr, tc⟩
theorem new_any (w : World) : Calls Tryz.prog 44 #[] w fun e w' => ∃ v, e = .returned v ∧ IsTab w' v [] ∧ Below w.heap.size w w' := by
  go_enter Tryz.func44, Tryz.ntmps44
  go_wp2
  go_ret
  exact ⟨_, rfl, tab_new w RL.nil rfl (.inl ⟨rfl, rfl⟩) (.inl ⟨rfl, rfl⟩) Tal.nil Tal.nil, (Below.refl _ w).alloc (Nat.le_refl _) _⟩
theorem some_any {v : Value} (L : List (Nat × Nat)) (w : World) (h : IsTab0 w v L) : Calls Tryz.prog 68 #[v] w fun e w' => ∃ v', e = .returned v' ∧ IsTab w' v' L ∧ Below w.heap.size w w' := by
  rcases h with ⟨rfl, rfl⟩ | h
  · go_enter Tryz.func68, Tryz.ntmps68
    go_wp2_with (go_at_call 44; refine (new_any _).mono ?_; rintro e w1 ⟨v1, rfl, t1, b1⟩)
    go_ret
    exact ⟨_, rfl, t1, b1⟩
  · obtain ⟨B, rfl⟩ := h.ptr
    go_enter Tryz.func68, Tryz.ntmps68
    go_wp2
    go_ret
    exact ⟨_, rfl, h, Below.refl _ _⟩
/-- Of a table that is not nil. -/
theorem some_same {B : Nat} (w : World) : Calls Tryz.prog 68 #[.pointer (some ⟨B, 0, none⟩)] w fun e w' => e = .returned (.pointer (some ⟨B, 0, none⟩)) ∧ w = w' := by
  go_enter Tryz.func68, Tryz.ntmps68
  go_wp2
  go_ret
  exact ⟨rfl, rfl⟩
end Go.Proofs.YteboadppighplaaGreat.Tr
/- Contract: a table with a range once more, or once less. -/
namespace Go.Proofs.YteboadppighplaaGreat.Tr
open Go.RowKit Go.Shelf

/-- How far the counts of boundaries are turned. -/
def Far (s : Int) (g : Int → Nat) (C : List Int) (k : Nat) (q : Int → Nat) : Prop := (s = 1 ∧ ∀ j, q j = g j + (C.take k).count j) ∨ (s = -1 ∧ ∀ j, g j = q j + (C.take k).count j)
/-- A range once more, or once less. -/
def Chg (s : Int) (r : Nat × Nat) (L M : List (Nat × Nat)) : Prop := (s = 1 ∧ M = L ++ [r] ∧ RL M) ∨ (s = -1 ∧ r ∈ L ∧ M = L.erase r)
theorem Chg.zero {s : Int} {r : Nat × Nat} {L M : List (Nat × Nat)} (h : Chg s r L M) (g : Int → Nat) (C : List Int) : Far s g C 0 g := by
  rcases h with ⟨h, _⟩ | ⟨h, _⟩
  · exact .inl ⟨h, fun j => by simp⟩
  · exact .inr ⟨h, fun j => by simp⟩
theorem count_take_succ {C : List Int} {k : Nat} (hk : k < C.length) (j : Int) : (C.take (k + 1)).count j = (C.take k).count j + if j = C[k] then 1 else 0 := by
  rw [List.take_succ_eq_append_getElem hk, List.count_append, List.count_singleton]
  congr 1
  by_cases h : j = C[k]
  · simp [h]
  · rw [if_neg h, if_neg (by simpa using fun e => h e.symm)]
theorem count_take_le {C : List Int} {k : Nat} (j : Int) : (C.take k).count j ≤ C.count j := (List.take_sublist k C).count_le j
theorem Chg.next {s : Int} {r : Nat × Nat} {L M : List (Nat × Nat)} (h : Chg s r L M) {k : Nat} {q : Int → Nat} (hf : Far s (nC L) (cutsR r) k q) (hk : k < (cutsR r).length) :
    ∃ q', Stp s (cutsR r)[k] q q' ∧ Far s (nC L) (cutsR r) (k + 1) q' := by
  rcases hf with ⟨rfl, hq⟩ | ⟨rfl, hq⟩
  · exact ⟨fun j => q j + if j = (cutsR r)[k] then 1 else 0, .inl ⟨rfl, fun j => rfl⟩, .inl ⟨rfl, fun j => by show q j + _ = _; rw [hq, count_take_succ hk]; omega⟩⟩
  · rcases h with ⟨h, _⟩ | ⟨_, hr, _⟩
    · cases h
    · have key : ∀ j, q j = (q j - if j = (cutsR r)[k] then 1 else 0) + if j = (cutsR r)[k] then 1 else 0 := fun j => by
        have h1 := nC_erase hr j
        have h2 := hq j
        have h3 := count_take_le (C := cutsR r) (k := k + 1) j
        rw [count_take_succ hk] at h3
        split at h3 <;> rename_i e
        · rw [if_pos e]; omega
        · rw [if_neg e]; omega
      refine ⟨fun j => q j - if j = (cutsR r)[k] then 1 else 0, .inr ⟨rfl, key⟩, .inr ⟨rfl, fun j => ?_⟩⟩
      have := key j
      show _ = (q j - if j = (cutsR r)[k] then 1 else 0) + _
      rw [hq, count_take_succ hk]
      omega
theorem nC_le (X : List (Nat × Nat)) (j : Int) : nC X j ≤ 2 * X.length := Nat.le_trans List.count_le_length (flat_len X)
theorem nR_le (X : List (Nat × Nat)) (j : Int) : nR X j ≤ X.length := by
  have : nR X j ≤ (X.map keyI).length := List.count_le_length
  simpa using this
theorem Chg.bound {s : Int} {r : Nat × Nat} {L M : List (Nat × Nat)} (hL : RL L) (h : Chg s r L M) {k : Nat} {q : Int → Nat} (hf : Far s (nC L) (cutsR r) k q) {P : List (Int × Int)} (hT : Tal P q) : P.length < 1024 ∧ ∀ j, q j ≤ 1000 := by
  have key : ∃ X : List (Nat × Nat), X.length ≤ 500 ∧ ∀ j, q j ≤ nC X j := by
    rcases hf with ⟨rfl, hq⟩ | ⟨rfl, hq⟩
    · rcases h with ⟨_, rfl, hM⟩ | ⟨h, _⟩
      · refine ⟨L ++ [r], hM.2, fun j => ?_⟩
        rw [nC_snoc, hq]
        have := count_take_le (C := cutsR r) (k := k) j
        omega
      · cases h
    · exact ⟨L, hL.2, fun j => by have := hq j; omega⟩
  obtain ⟨X, hX, hq⟩ := key
  constructor
  · have := rise_len (ks := X.flatMap cutsR) hT.rise fun a ha => List.count_pos_iff.1 (Nat.lt_of_lt_of_le ((hT.mem a).1 ha) (hq a))
    have := flat_len X
    simp at *; omega
  · intro j; have := hq j; have := nC_le X j; omega
theorem Chg.fin {s : Int} {r : Nat × Nat} {L M : List (Nat × Nat)} (h : Chg s r L M) {q : Int → Nat} (hf : Far s (nC L) (cutsR r) (cutsR r).length q) : q = nC M := by
  funext j
  unfold Far at hf
  rw [List.take_length] at hf
  rcases hf with ⟨rfl, hq⟩ | ⟨rfl, hq⟩
  · rcases h with ⟨_, rfl, _⟩ | ⟨h, _⟩
    · rw [nC_snoc, hq]
    · cases h
  · rcases h with ⟨h, _⟩ | ⟨_, hr, rfl⟩
    · cases h
    · have := nC_erase hr j; have := hq j; omega
theorem Chg.stp {s : Int} {r : Nat × Nat} {L M : List (Nat × Nat)} (h : Chg s r L M) : Stp s (keyI r) (nR L) (nR M) := by
  rcases h with ⟨h, rfl, _⟩ | ⟨h, hr, rfl⟩
  · exact .inl ⟨h, fun j => nR_snoc r L j⟩
  · exact .inr ⟨h, fun j => nR_erase hr j⟩
theorem Chg.rl {s : Int} {r : Nat × Nat} {L M : List (Nat × Nat)} (hL : RL L) (h : Chg s r L M) : RL M ∧ (L.length : Int) + s = (M.length : Int) ∧ (s = 1 ∨ s = -1) ∧ r.1 ≤ r.2 ∧ r.2 < 4294967296 := by
  rcases h with ⟨h, rfl, hM⟩ | ⟨h, hr, rfl⟩
  · have := hM.1 r (by simp)
    exact ⟨hM, by simp [h], .inl h, this.1, this.2⟩
  · have h1 := List.length_erase_of_mem hr
    have h2 := List.length_pos_of_mem hr
    have := hL.1 r hr
    exact ⟨hL.erase r, by omega, .inr h, this.1, this.2⟩
theorem IsC.belows {w w' : World} {v : Value} {C : List Int} (h : IsC w v C) (hb : Below w.heap.size w w') : IsC w' v C := by
  obtain ⟨A, c, e, h3⟩ := h
  refine ⟨A, c, e, fun hn => ?_⟩
  obtain ⟨g, e, hg, hc⟩ := h3 hn
  exact ⟨g, e, Nat.lt_of_lt_of_le hg hb.size, fun k hk => (hb.cell (p := ⟨g, k, none⟩) hg).trans (hc k hk)⟩
/-- Where the loop over the boundaries stands. -/
def CF (s : Int) (r : Nat × Nat) (L : List (Nat × Nat)) (w1 : World) (k : Nat) (cv : Value) (W : World) : Prop := ∃ P q, IsTree W cv P ∧ Tal P q ∧ Far s (nC L) (cutsR r) k q ∧ Below w1.heap.size w1 W
set_option maxRecDepth 100000 in
set_option maxHeartbeats 2000000 in
theorem changed_any {v : Value} (s : Int) (f t : Nat) (L M : List (Nat × Nat)) (w : World) (h : IsTab w v L) (hc : Chg s (f, t) L M) : Calls Tryz.prog 69 #[v, .agg #[.int .u32 f, .int .u32 t], .int .i64 s] w fun e w' => ∃ v', e = .returned v' ∧ IsTab w' v' M ∧ Below w.heap.size w w' := by
  have HT := Lib.hid h
  obtain ⟨hL, B, vr, vc, R, C, rfl, ha, ir, ic, tr, tc⟩ := h
  obtain ⟨hM, hlen, hs, hft, ht⟩ := hc.rl hL
  have hf : f < 4294967296 := by simp at hft ht; omega
  simp only at ht
  have hLl := hL.2
  have HC := Lib.hid hc
  have HL := Lib.hid (And.intro hL hM)
  obtain ⟨pr, rfl⟩ := ir.ptr
  obtain ⟨pc, rfl⟩ := ic.ptr
  have A0 := At.new w #[.int .u32 f, .int .u32 t] 43
  have b0 : Below w.heap.size w (w.alloc (.cells #[.int .u32 f, .int .u32 t] 43)) := (Below.refl _ w).alloc (Nat.le_refl _) _
  have a0 := ha.belows b0
  have c1 := (a0.cell 1).trans rfl
  clear hc hL hM hft
  go_enter Tryz.func69, Tryz.ntmps69
  go_wp2_with fail
  refine (cutsOf_any f t _ hf ht).mono ?_
  rintro e w1 ⟨v1, rfl, ⟨Ac, cc, rfl, hcc⟩, b1⟩
  have bb1 := b0.trans (b1.mono b0.size)
  have A1 := A0.belows b1
  have a1 := a0.belows b1
  have HI := Lib.hid (And.intro (ir.belows bb1) (ic.belows bb1))
  have HTT := Lib.hid (And.intro tr tc)
  have HCC : Hid (∀ W, Below w1.heap.size w1 W → IsC W (.slice Ac (cutsR (f, t)).length cc) (cutsR (f, t))) := Lib.hid fun W hW => (show IsC w1 _ _ from ⟨Ac, cc, rfl, hcc⟩).belows hW
  have h2 := cutsR_len (f, t)
  have HK : Hid (∀ W, Below w1.heap.size w1 W → At W B #[.pointer pr, .pointer pc, .int .i64 (L.length : Int)] 113 ∧ At W w.heap.size #[.int .u32 f, .int .u32 t] 43) := Lib.hid fun W hW => ⟨a1.belows hW, A1.belows hW⟩
  have HB1 := Lib.hid bb1
  clear hcc ir ic tr tc A0 a0 A1 a1 c1 b0 b1 ha bb1
  go_wp2
  go_loopw [7, 17] (fun cv i wr => ∃ k : Nat, i = .int .i64 k ∧ k ≤ (cutsR (f, t)).length ∧ Hid (CF s (f, t) L w1 k cv wr)) (fun _ i _ => (cutsR (f, t)).length - (intOf i).toNat)
  case atStart => exact ⟨0, rfl, by omega, Lib.hid ⟨C, nC L, HI.out.2, HTT.out.2, HC.out.zero _ _, Below.refl _ _⟩⟩
  case round =>
    obtain ⟨k, rfl, hk, HF⟩ := hrel
    obtain ⟨P, q, hP, hTq, hfar, hbq⟩ := HF.out
    obtain ⟨pq, rfl⟩ := hP.ptr
    by_cases hlt : k < (cutsR (f, t)).length
    · obtain ⟨Ac', cc', e, hcell⟩ := HCC.out wr hbq
      injection e with e1 e2 e3
      subst e1
      obtain ⟨g, rfl, hg, hc'⟩ := hcell (by omega)
      have q0 := hc' k hlt
      obtain ⟨q', hstp, hfar'⟩ := HC.out.next hfar hlt
      obtain ⟨hl1, hl2⟩ := HC.out.bound HL.out.1 hfar hTq
      have hm := (cutsR_mem (r := (f, t)) ht (HC.out.rl HL.out.1).2.2.2.1).1 (List.getElem_mem hlt)
      obtain ⟨cx, hcx⟩ : ∃ cx, cx = (cutsR (f, t))[k] := ⟨_, rfl⟩
      rw [← hcx] at q0 hstp hm
      have HS := Lib.hid (And.intro hstp (And.intro hl1 (hl2 cx)))
      have HFF := Lib.hid hfar'
      have HP := Lib.hid (And.intro hP hTq)
      have HBQ := Lib.hid hbq
      have hm1 : 0 ≤ cx := by omega
      have hm2 : cx < 4294967296 := hm.2.1
      clear hcell hc' hstp hfar' hl1 hl2 hm hcx e2 e3 hP hTq hfar hbq HF
      have i0 : (0 : Int) ≤ (k : Int) := by omega
      have i1 : (k : Int) < ((cutsR (f, t)).length : Int) := by omega
      go_wp2_with (go_at_call 90; refine (recC_any P q q' s cx _ hm1 hm2 HP.out.1 HP.out.2 HS.out.2.1 HS.out.2.2 HS.out.1).mono ?_; rintro e w2 ⟨v2, P2, rfl, t2, tl2, b2⟩; obtain ⟨B2, rfl⟩ := t2.ptr)
      go_roundw
      case rel => exact ⟨k + 1, by go_num, by omega, Lib.hid ⟨P2, q', t2.any, tl2, HFF.out, HBQ.out.trans (b2.mono HBQ.out.size)⟩⟩
      case measure => simp [intOf]; omega
    · obtain rfl : k = (cutsR (f, t)).length := by omega
      have hq := HC.out.fin hfar
      subst hq
      have HP := Lib.hid (And.intro hP hTq)
      clear hP hTq hfar HF
      obtain ⟨wq, rfl⟩ : ∃ wq, wq = wr := ⟨_, rfl⟩
      have HR := Lib.hid ((HI.out.1).belows hbq)
      have hRl : R.length < 1024 := by have := talR_len HTT.out.1; omega
      have hRn : nR L (keyI (f, t)) ≤ 1000 := by have := nR_le L (keyI (f, t)); omega
      have hRs := Lib.hid (HC.out.stp)
      have KS : Hid (∀ W, Below wq.heap.size wq W → W.cell? ⟨B, 0, none⟩ = some (.pointer pr) ∧ W.cell? ⟨B, 2, none⟩ = some (.int .i64 (L.length : Int)) ∧ W.cell? ⟨w.heap.size, 0, none⟩ = some (.int .u32 f) ∧ W.cell? ⟨w.heap.size, 1, none⟩ = some (.int .u32 t)) := Lib.hid fun W hW => by
        obtain ⟨x1, x2⟩ := HK.out W (hbq.trans (hW.mono hbq.size))
        exact ⟨(x1.cell 0).trans rfl, (x1.cell 2).trans rfl, (x2.cell 0).trans rfl, (x2.cell 1).trans rfl⟩
      have hb1 := Below.refl wq.heap.size wq
      obtain ⟨q0, q1, q2, q3⟩ := KS.out wq hb1
      have j1 : IntKind.i64.wrap ((L.length : Int) + s) = (L.length : Int) + s := IntWalk.i64_in _ (by omega)
      have HBQ := Lib.hid (HB1.out.trans (hbq.mono HB1.out.size))
      have HLEN := Lib.hid hlen
      clear hbq hlt hk hlen
      go_wp2_with fail
      go_region_held3 (fun W => W.cell? ⟨B, 0, none⟩ = some (.pointer pr) ∧ W.cell? ⟨B, 2, none⟩ = some (.int .i64 (L.length : Int)) ∧ W.cell? ⟨w.heap.size, 0, none⟩ = some (.int .u32 f) ∧ W.cell? ⟨w.heap.size, 1, none⟩ = some (.int .u32 t)) (first | exact KS.out _ (bb2.alloc bb2.size _) | exact KS.out _ bb2 | exact KS.out _ hb1.drew | exact KS.out _ hb1) (first
        | (go_at_call 91; refine (recS_any R L (nR M) s f t _ hf ht (HR.out.belows (by first | exact hb1.drew | exact hb1)) HTT.out.1 hRl hRn hRs.out).mono ?_; rintro e w2 ⟨v2, P2, rfl, t2, tl2, b2⟩; obtain ⟨B2, rfl⟩ := t2.ptr; have bb2 : Below wq.heap.size wq w2 := (by first | exact hb1.drew.trans (b2.mono hb1.size) | exact b2)))
      rename_i hHeld
      clear hHeld
      go_wp2
      go_ret
      have bq := HBQ.out.trans (bb2.mono HBQ.out.size)
      exact ⟨_, rfl, tab_new w2 HL.out.2 HLEN.out t2.any (HP.out.1.belows bb2) tl2 HP.out.2, bq.alloc bq.size _⟩
end Go.Proofs.YteboadppighplaaGreat.Tr
/- Contracts of a table: Count, Len, Add, Drop. -/
namespace Go.Proofs.YteboadppighplaaGreat.Tr
open Go.RowKit Go.Shelf

set_option maxRecDepth 100000 in
set_option maxHeartbeats 1000000 in
theorem len5_any {v : Value} (L : List (Nat × Nat)) (w : World) (h : IsTab0 w v L) : Calls Tryz.prog 72 #[v] w fun e w' => e = .returned (.int .i64 ((bnds L).length : Int)) ∧ Below w.heap.size w w' := by
  have hs := some_any L w h
  obtain ⟨p, rfl⟩ := h.ptr
  go_enter Tryz.func72, Tryz.ntmps72
  go_wp2_with fail
  refine hs.mono ?_
  rintro e w1 ⟨v1, rfl, ⟨hL, B, vr, vc, R, C, rfl, ha, ir, ic, tr, tc⟩, b1⟩
  obtain ⟨pc, rfl⟩ := ic.ptr
  have c1 := (ha.cell 1).trans rfl
  have hbl := bnds_len hL tc
  have hcl := ic.up.2
  clear hs ha ir tr tc hL
  go_wp2_with fail
  refine (len_any C _ ic).mono ?_
  rintro e w2 ⟨rfl, rfl⟩
  go_wp2
  go_ret
  exact ⟨ret_int (by omega), b1⟩
set_option maxRecDepth 100000 in
set_option maxHeartbeats 1000000 in
theorem count_tab {v : Value} (L : List (Nat × Nat)) (f t : Nat) (w : World) (hf : f < 4294967296) (ht : t < 4294967296) (h : IsTab w v L) : Calls Tryz.prog 70 #[v, .agg #[.int .u32 f, .int .u32 t]] w fun e w' => e = .returned (.int .i64 (L.count (f, t) : Int)) ∧ Below w.heap.size w w' := by
  have b0 : Below w.heap.size w (w.alloc (.cells #[.int .u32 f, .int .u32 t] 43)) := (Below.refl _ w).alloc (Nat.le_refl _) _
  have A0 := At.new w #[.int .u32 f, .int .u32 t] 43
  have hcnt := nR_count h.1 (r := (f, t)) ht
  obtain ⟨hL, B, vr, vc, R, C, rfl, ha, ir, ic, tr, tc⟩ := h
  obtain ⟨pr, rfl⟩ := ir.ptr
  go_enter Tryz.func70, Tryz.ntmps70
  go_wp2_with fail
  obtain ⟨W0, hW0⟩ : ∃ W0, w.alloc (.cells #[.int .u32 f, .int .u32 t] 43) = W0 := ⟨_, rfl⟩
  rw [hW0] at A0 b0 ⊢
  have a0 := ha.belows b0
  have KS : Hid (∀ W, Below W0.heap.size W0 W → W.cell? ⟨w.heap.size, 0, none⟩ = some (.int .u32 f) ∧ W.cell? ⟨w.heap.size, 1, none⟩ = some (.int .u32 t) ∧ W.cell? ⟨B, 0, none⟩ = some (.pointer pr)) := Lib.hid fun W hW => ⟨((A0.belows hW).cell 0).trans rfl, ((A0.belows hW).cell 1).trans rfl, ((a0.belows hW).cell 0).trans rfl⟩
  have HR := Lib.hid (And.intro (ir.belows b0) tr)
  clear A0 hW0 a0 ha ir ic tr tc hL
  have hb1 := Below.refl W0.heap.size W0
  obtain ⟨q0, q1, q2⟩ := KS.out W0 hb1
  go_region_held3 (fun W => W.cell? ⟨w.heap.size, 0, none⟩ = some (.int .u32 f) ∧ W.cell? ⟨w.heap.size, 1, none⟩ = some (.int .u32 t) ∧ W.cell? ⟨B, 0, none⟩ = some (.pointer pr)) (first | exact KS.out _ bb2 | exact KS.out _ hb1.drew | exact KS.out _ hb1) (first
    | (go_at_call 68; refine (some_same _).mono ?_; rintro e w1 ⟨rfl, rfl⟩)
    | (go_at_call 92; refine (oftenS_any R L f t _ hf ht (by first | exact HR.out.1 | exact HR.out.1.belows hb1.drew) HR.out.2).mono ?_; rintro e w2 ⟨rfl, b2⟩; have bb2 : Below W0.heap.size W0 w2 := (by first | exact b2 | exact hb1.drew.trans (b2.mono hb1.size))))
  rename_i hHeld
  clear hHeld
  go_wp2
  go_ret
  exact ⟨rfl, b0.trans (bb2.mono b0.size)⟩
theorem nilTab (W : World) : IsTab0 W (.pointer none) [] := .inl ⟨rfl, rfl⟩
set_option maxRecDepth 100000 in
set_option maxHeartbeats 1000000 in
theorem count_nil (f t : Nat) (w : World) (hf : f < 4294967296) (ht : t < 4294967296) : Calls Tryz.prog 70 #[.pointer none, .agg #[.int .u32 f, .int .u32 t]] w fun e w' => e = .returned (.int .i64 0) ∧ Below w.heap.size w w' := by
  have b0 : Below w.heap.size w (w.alloc (.cells #[.int .u32 f, .int .u32 t] 43)) := (Below.refl _ w).alloc (Nat.le_refl _) _
  have A0 := At.new w #[.int .u32 f, .int .u32 t] 43
  go_enter Tryz.func70, Tryz.ntmps70
  go_wp2_with fail
  obtain ⟨W0, hW0⟩ : ∃ W0, w.alloc (.cells #[.int .u32 f, .int .u32 t] 43) = W0 := ⟨_, rfl⟩
  rw [hW0] at A0 b0 ⊢
  have k0 := (A0.cell 0).trans rfl
  have k1 := (A0.cell 1).trans rfl
  clear hW0
  have hb1 := Below.refl W0.heap.size W0
  go_region_with (first
    | (go_at_call 68; refine (some_any [] _ (nilTab _)).mono ?_; rintro e w1 ⟨v1, rfl, ⟨hL, B1, vr, vc, R, C, rfl, ha, ir, ic, tr, tc⟩, b1⟩; obtain ⟨pr, rfl⟩ := ir.ptr; have c0 := (ha.cell 0).trans rfl; have bb1 : Below W0.heap.size W0 w1 := hb1.drew.trans (b1.mono hb1.size); have A1 := A0.belows bb1; have k2 := (A1.cell 0).trans rfl; have k3 := (A1.cell 1).trans rfl)
    | (go_at_call 92; refine (oftenS_any R [] f t _ hf ht ir tr).mono ?_; rintro e w2 ⟨rfl, b2⟩))
  all_goals (go_wp2; go_ret; exact ⟨rfl, b0.trans ((bb1.trans (b2.mono bb1.size)).mono b0.size)⟩)
theorem count_any5 {v : Value} (L : List (Nat × Nat)) (f t : Nat) (w : World) (hf : f < 4294967296) (ht : t < 4294967296) (h : IsTab0 w v L) : Calls Tryz.prog 70 #[v, .agg #[.int .u32 f, .int .u32 t]] w fun e w' => e = .returned (.int .i64 (L.count (f, t) : Int)) ∧ Below w.heap.size w w' := by
  rcases h with ⟨rfl, rfl⟩ | h
  · exact count_nil f t w hf ht
  · exact count_tab L f t w hf ht h

/-- A pair of a new table, and no error. -/
def TabOut (w : World) (M : List (Nat × Nat)) (e : Ending) (w' : World) : Prop := ∃ v', e = .returned (.tuple #[v', .int .i64 0]) ∧ IsTab w' v' M ∧ Below w.heap.size w w'
/-- An error. -/
def ErrOut (w : World) (n : Int) (e : Ending) (w' : World) : Prop := e = .returned (.tuple #[.pointer none, .int .i64 n]) ∧ Below w.heap.size w w'
set_option maxRecDepth 100000 in
set_option maxHeartbeats 1000000 in
theorem add_wrong {v : Value} (L : List (Nat × Nat)) (f t : Nat) (w : World) (h : IsTab0 w v L) (h1 : t < f) : Calls Tryz.prog 45 #[v, .agg #[.int .u32 f, .int .u32 t]] w (ErrOut w 51) := by
  have b0 : Below w.heap.size w (w.alloc (.cells #[.int .u32 f, .int .u32 t] 43)) := (Below.refl _ w).alloc (Nat.le_refl _) _
  have A0 := At.new w #[.int .u32 f, .int .u32 t] 43
  have hs := some_any L _ (h.belows b0)
  obtain ⟨p, rfl⟩ := h.ptr
  clear h
  go_enter Tryz.func45, Tryz.ntmps45
  go_wp2_with fail
  refine hs.mono ?_
  rintro e w1 ⟨v1, rfl, ⟨hL, B1, vr, vc, R, C, rfl, ha, ir, ic, tr, tc⟩, b1⟩
  have A1 := A0.belows b1
  have k0 := (A1.cell 0).trans rfl
  have k1 := (A1.cell 1).trans rfl
  have bb := b0.trans (b1.mono b0.size)
  clear A0 A1 b0 b1 ha ir ic tr tc hs hL
  go_wp2
  go_ret2
  exact ⟨rfl, bb⟩
set_option maxRecDepth 100000 in
set_option maxHeartbeats 1000000 in
theorem add_full {v : Value} (L : List (Nat × Nat)) (f t : Nat) (w : World) (h : IsTab0 w v L) (h1 : f ≤ t) (h2 : L.length = 500) : Calls Tryz.prog 45 #[v, .agg #[.int .u32 f, .int .u32 t]] w (ErrOut w 41) := by
  have b0 : Below w.heap.size w (w.alloc (.cells #[.int .u32 f, .int .u32 t] 43)) := (Below.refl _ w).alloc (Nat.le_refl _) _
  have A0 := At.new w #[.int .u32 f, .int .u32 t] 43
  have hs := some_any L _ (h.belows b0)
  obtain ⟨p, rfl⟩ := h.ptr
  clear h
  go_enter Tryz.func45, Tryz.ntmps45
  go_wp2_with fail
  refine hs.mono ?_
  rintro e w1 ⟨v1, rfl, ⟨hL, B1, vr, vc, R, C, rfl, ha, ir, ic, tr, tc⟩, b1⟩
  have A1 := A0.belows b1
  have k0 := (A1.cell 0).trans rfl
  have k1 := (A1.cell 1).trans rfl
  have k2 := (ha.cell 2).trans rfl
  rw [h2] at k2
  have bb := b0.trans (b1.mono b0.size)
  clear A0 A1 b0 b1 ha ir ic tr tc hs hL h2
  go_wp2
  go_ret2
  exact ⟨rfl, bb⟩
set_option maxRecDepth 100000 in
set_option maxHeartbeats 1000000 in
theorem add_ok {v : Value} (L : List (Nat × Nat)) (f t : Nat) (w : World) (h : IsTab0 w v L) (h1 : f ≤ t) (ht : t < 4294967296) (h2 : L.length < 500) : Calls Tryz.prog 45 #[v, .agg #[.int .u32 f, .int .u32 t]] w (TabOut w (L ++ [(f, t)])) := by
  have b0 : Below w.heap.size w (w.alloc (.cells #[.int .u32 f, .int .u32 t] 43)) := (Below.refl _ w).alloc (Nat.le_refl _) _
  have A0 := At.new w #[.int .u32 f, .int .u32 t] 43
  have hs := some_any L _ (h.belows b0)
  have HC : Hid (Chg 1 (f, t) L (L ++ [(f, t)])) := Lib.hid (.inl ⟨rfl, rfl, h.rl.snoc h1 ht h2⟩)
  obtain ⟨p, rfl⟩ := h.ptr
  clear h
  go_enter Tryz.func45, Tryz.ntmps45
  go_wp2_with fail
  refine hs.mono ?_
  rintro e w1 ⟨v1, rfl, ht1, b1⟩
  have HT := Lib.hid ht1
  obtain ⟨hL, B1, vr, vc, R, C, rfl, ha, ir, ic, tr, tc⟩ := ht1
  have A1 := A0.belows b1
  have k0 := (A1.cell 0).trans rfl
  have k1 := (A1.cell 1).trans rfl
  have k2 := (ha.cell 2).trans rfl
  have bb := b0.trans (b1.mono b0.size)
  have d1 : decide (500 ≤ (L.length : Int)) = false := by simp; omega
  clear A0 A1 b0 b1 ha ir ic tr tc hs hL h2
  go_wp2_with (go_at_call 69; refine (changed_any 1 f t L _ _ HT.out HC.out).mono ?_; rintro e w2 ⟨v2, rfl, t2, b2⟩; obtain ⟨B2, rfl⟩ := t2.ptr)
  go_ret2
  exact ⟨_, rfl, t2, bb.trans (b2.mono bb.size)⟩
end Go.Proofs.YteboadppighplaaGreat.Tr
/- Contracts of a table: Of, Atom, Within. -/
namespace Go.Proofs.YteboadppighplaaGreat.Tr
open Go.RowKit Go.Shelf

set_option maxRecDepth 100000 in
set_option maxHeartbeats 1000000 in
theorem of_any {v : Value} (L : List (Nat × Nat)) (a : Nat) (w : World) (ha : a < 4294967296) (h : IsTab0 w v L) : Calls Tryz.prog 71 #[v, .int .u32 a] w fun e w' => e = .returned (.int .i64 (ofL (bnds L) a : Int)) ∧ Below w.heap.size w w' := by
  have hs := some_any L w h
  obtain ⟨p, rfl⟩ := h.ptr
  go_enter Tryz.func71, Tryz.ntmps71
  go_wp2_with fail
  refine hs.mono ?_
  rintro e w1 ⟨v1, rfl, ⟨hL, B, vr, vc, R, C, rfl, hB, ir, ic, tr, tc⟩, b1⟩
  obtain ⟨pc, rfl⟩ := ic.ptr
  have c1 := (hB.cell 1).trans rfl
  have hlow := low_of hL tc a
  clear hs hB ir tr tc hL
  have j1 : IntKind.u64.wrap ((a : Int) + 1) = (a : Int) + 1 := IntWalk.u64_in _ (by omega)
  go_wp2_with fail
  refine (split_any C ((a : Int) + 1) _ ic).mono ?_
  rintro e w2 ⟨v2, v3, rfl, t2, t3, b2⟩
  obtain ⟨B2, rfl⟩ := t2.ptr
  obtain ⟨B3, rfl⟩ := t3.ptr
  have hl := len_any _ w2 t2.any
  rw [hlow] at hl
  go_wp2_with (go_at_call 94; refine hl.mono ?_; rintro e w3 ⟨rfl, rfl⟩)
  go_ret
  exact ⟨rfl, b1.trans (b2.mono b1.size)⟩
set_option maxRecDepth 100000 in
set_option maxHeartbeats 1000000 in
theorem atom_no {v : Value} (L : List (Nat × Nat)) (i : Int) (w : World) (h : IsTab0 w v L) (hi : ¬ (0 ≤ i ∧ i < (bnds L).length)) : Calls Tryz.prog 48 #[v, .int .i64 i] w fun e w' => e = .returned (.tuple #[.agg #[.int .u32 0, .int .u32 0], .bool false]) ∧ Below w.heap.size w w' := by
  have A0 := At.new w #[.int .u32 0, .int .u32 0] 43
  have b0 : Below w.heap.size w (w.alloc (.cells #[.int .u32 0, .int .u32 0] 43)) := (Below.refl _ w).alloc (Nat.le_refl _) _
  have hs := some_any L _ (h.belows b0)
  obtain ⟨p, rfl⟩ := h.ptr
  go_enter Tryz.func48, Tryz.ntmps48
  go_wp2_with fail
  refine hs.mono ?_
  rintro e w1 ⟨v1, rfl, t1, b1⟩
  have hlen := len5_any L w1 t1.any
  obtain ⟨B, rfl⟩ := t1.ptr
  have A1 := A0.belows b1
  have bb1 := b0.trans (b1.mono b0.size)
  clear hs A0 t1 b0 b1
  generalize (bnds L).length = n at *
  by_cases h0 : i < 0
  · have A2 := (A1.set0 0 (.int .u32 0)).set0 1 (.int .u32 0)
    have f0 := A1.frozen 0
    have f1 := A1.frozen 1
    have e0 := (A1.cell 0).trans rfl
    have e1 := (A1.cell 1).trans rfl
    go_wp2
    refine bodyPost_ret (v := .tuple #[.agg #[.int .u32 0, .int .u32 0], .bool false]) (by simp [results, Tryz.results48, go_sem, A2.cell 0, A2.cell 1]) rfl ⟨rfl, ?_⟩
    exact (bb1.setCell (p := ⟨w.heap.size, 0, none⟩) (Nat.le_refl _) _).setCell (p := ⟨w.heap.size, 1, none⟩) (Nat.le_refl _) _
  · have h1 : (n : Int) ≤ i := by omega
    clear hi
    go_wp2_with fail
    refine hlen.mono ?_
    rintro e w2 ⟨rfl, b2⟩
    have A1 := A1.belows b2
    have A2 := (A1.set0 0 (.int .u32 0)).set0 1 (.int .u32 0)
    have f0 := A1.frozen 0
    have f1 := A1.frozen 1
    have e0 := (A1.cell 0).trans rfl
    have e1 := (A1.cell 1).trans rfl
    have bb2 := bb1.trans (b2.mono bb1.size)
    clear hlen b2 bb1
    go_wp2
    refine bodyPost_ret (v := .tuple #[.agg #[.int .u32 0, .int .u32 0], .bool false]) (by simp [results, Tryz.results48, go_sem, A2.cell 0, A2.cell 1]) rfl ⟨rfl, ?_⟩
    exact (bb2.setCell (p := ⟨w.heap.size, 0, none⟩) (Nat.le_refl _) _).setCell (p := ⟨w.heap.size, 1, none⟩) (Nat.le_refl _) _
end Go.Proofs.YteboadppighplaaGreat.Tr
/- Contract: Atom, way 1. -/
namespace Go.Proofs.YteboadppighplaaGreat.Tr
open Go.RowKit Go.Shelf

set_option maxRecDepth 100000 in
set_option maxHeartbeats 4000000 in
theorem atom_ok1 {v : Value} (L : List (Nat × Nat)) (i0 : Nat) (w : World) (h : IsTab0 w v L) (hi : i0 < (bnds L).length) (h0 : i0 = 0) (h9 : i0 + 1 = (bnds L).length) : Calls Tryz.prog 48 #[v, .int .i64 (i0 : Int)] w fun e w' => e = .returned (.tuple #[.agg #[.int .u32 (frm (bnds L) i0 : Nat), .int .u32 (too (bnds L) i0 : Nat)], .bool true]) ∧ Below w.heap.size w w' := by
  have hlast := h9
  subst h0
  clear h9
  have HLAST0 := Lib.hid hlast
  clear hlast
  have A0 := At.new w #[.int .u32 0, .int .u32 0] 43
  have b0 : Below w.heap.size w (w.alloc (.cells #[.int .u32 0, .int .u32 0] 43)) := (Below.refl _ w).alloc (Nat.le_refl _) _
  have hs := some_any L _ (h.belows b0)
  obtain ⟨p, rfl⟩ := h.ptr
  go_enter Tryz.func48, Tryz.ntmps48
  go_wp2_with fail
  refine hs.mono ?_
  rintro e w1 ⟨v1, rfl, t1, b1⟩
  have hlen := len5_any L w1 t1.any
  obtain ⟨hL, B, vr, vc, R, C, rfl, hB, ir, ic, tr, tc⟩ := t1
  obtain ⟨pc, rfl⟩ := ic.ptr
  have A1 := A0.belows b1
  have bb1 := b0.trans (b1.mono b0.size)
  have hbl := bnds_len hL tc
  have hcl := ic.up.2
  have hat := at_of hL tc
  have hbd := bd_of L
  have hfr := hbd.frm_le hi
  have HX : Hid ((∀ j, j + 1 < (bnds L).length → frm (bnds L) (j + 1) = too (bnds L) j + 1) ∧ (0 + 1 = (bnds L).length → too (bnds L) 0 = 4294967295) ∧ (True → frm (bnds L) 0 = 0)) := Lib.hid ⟨fun j hj => hbd.next hj, fun hj => hbd.last hj, fun _ => by rw [frm_in hbd.pos]; exact hbd.zero⟩
  have HAT := Lib.hid hat
  have hs0 : w.heap.size < w1.heap.size := A1.lt
  clear hs A0 b0 b1 ir tr tc hL hbd hat
  obtain ⟨n, hn⟩ : ∃ n, (bnds L).length = n := ⟨_, rfl⟩
  rw [hn] at hlen hi hbl HX HLAST0
  go_wp2_with fail
  refine hlen.mono ?_
  rintro e w2 ⟨rfl, b2⟩
  have A2 := A1.belows b2
  have hB2 := hB.belows b2
  have ic2 := ic.belows b2
  have bb2 := bb1.trans (b2.mono bb1.size)
  have c1 := (hB2.cell 1).trans rfl
  have hs2 : w.heap.size < w2.heap.size := A2.lt
  have hsB : B < w2.heap.size := hB2.lt
  clear hlen A1 hB ic bb1 b2 hs0
  have D2 := At.new w2 #[.int .u32 0, .int .u32 4294967295] 43
  have b2' : Below w2.heap.size w2 (w2.alloc (.cells #[.int .u32 0, .int .u32 4294967295] 43)) := (Below.refl _ w2).alloc (Nat.le_refl _) _
  have HLAST := HLAST0
  clear HLAST0 hn
  go_wp2_with fail
  obtain ⟨W2, hW2⟩ : ∃ W2, w2.alloc (.cells #[.int .u32 0, .int .u32 4294967295] 43) = W2 := ⟨_, rfl⟩
  rw [hW2] at D2 b2' ⊢
  clear hW2
  have hfr0 : frm (bnds L) 0 = 0 := HX.out.2.2 trivial
  have hc1 : Calls Tryz.prog 73 #[.pointer pc, .int .i64 (-1)] W2 fun e w' => e = .returned (.tuple #[.agg #[.int .u64 0, .int .i64 0], .bool false]) ∧ Below W2.heap.size W2 w' := At_any C (-1) W2 (ic2.belows b2') (by omega) (by omega)
  refine hc1.mono ?_
  rintro e w3 ⟨rfl, b3⟩
  have b3' := (b2'.trans (b3.mono b2'.size)).alloc (b2'.trans (b3.mono b2'.size)).size (.cells #[.int .u64 0, .int .i64 0] 119)
  have D3 := (D2.belows b3).alloc (.cells #[.int .u64 0, .int .i64 0] 119)
  have c3 := ((hB2.belows b3').cell 1).trans rfl
  clear hc1 b3 D2 b2' c1
  go_wp2_with fail
  obtain ⟨W3, hW3⟩ : ∃ W3, (w3.alloc (.cells #[.int .u64 0, .int .i64 0] 119)) = W3 := ⟨_, rfl⟩
  rw [hW3] at b3' D3 c3 ⊢
  clear hW3
  have h5 : C.length ≤ 0 := by have := HLAST.out; omega
  have ho : atL C ((0 : Nat) : Int) = none := by unfold atL; rw [if_pos (by omega), Int.toNat_natCast]; exact List.getElem?_eq_none h5
  clear h5
  have htoo : too (bnds L) (0) = 4294967295 := HX.out.2.1 HLAST.out
  have hc2 := At_any C ((0 : Nat) : Int) W3 (ic2.belows b3') (by omega) (by omega)
  rw [ho] at hc2
  simp only [toldV] at hc2
  clear ho
  refine hc2.mono ?_
  rintro e w4 ⟨rfl, b4⟩
  have b4 : Below W3.heap.size W3 w4 := b4
  have b4' := (b3'.trans (b4.mono b3'.size)).alloc (b3'.trans (b4.mono b3'.size)).size (.cells #[.int .u64 0, .int .i64 0] 119)
  have D4 := (D3.belows b4).alloc (.cells #[.int .u64 0, .int .i64 0] 119)
  have z0 := (D4.cell 0).trans rfl
  have z1 := (D4.cell 1).trans rfl
  have A4 := A2.belows b4'
  have q0 := (A4.cell 0).trans rfl
  have q1 := (A4.cell 1).trans rfl
  have p0 := A4.frozen 0
  have p1 := A4.frozen 1
  have A5 := (A4.set0 0 (.int .u32 0)).set0 1 (.int .u32 4294967295)
  have bw := bb2.trans (b4'.mono bb2.size)
  clear hc2 b4 D3 b3' c3
  go_wp2
  refine bodyPost_ret (v := .tuple #[.agg #[.int .u32 0, .int .u32 4294967295], .bool true]) (by simp [results, Tryz.results48, go_sem, A5.cell 0, A5.cell 1]) rfl ⟨?_, ?_⟩
  · rw [hfr0, htoo]; rfl
  · exact (bw.setCell (p := ⟨w.heap.size, 0, none⟩) (Nat.le_refl _) _).setCell (p := ⟨w.heap.size, 1, none⟩) (Nat.le_refl _) _
end Go.Proofs.YteboadppighplaaGreat.Tr
/- Contract: Atom, way 2. -/
namespace Go.Proofs.YteboadppighplaaGreat.Tr
open Go.RowKit Go.Shelf

set_option maxRecDepth 100000 in
set_option maxHeartbeats 4000000 in
theorem atom_ok2 {v : Value} (L : List (Nat × Nat)) (i0 : Nat) (w : World) (h : IsTab0 w v L) (hi : i0 < (bnds L).length) (h0 : i0 = 0) (h9 : ¬ i0 + 1 = (bnds L).length) : Calls Tryz.prog 48 #[v, .int .i64 (i0 : Int)] w fun e w' => e = .returned (.tuple #[.agg #[.int .u32 (frm (bnds L) i0 : Nat), .int .u32 (too (bnds L) i0 : Nat)], .bool true]) ∧ Below w.heap.size w w' := by
  have hlast := h9
  subst h0
  clear h9
  have HLAST0 := Lib.hid hlast
  clear hlast
  have A0 := At.new w #[.int .u32 0, .int .u32 0] 43
  have b0 : Below w.heap.size w (w.alloc (.cells #[.int .u32 0, .int .u32 0] 43)) := (Below.refl _ w).alloc (Nat.le_refl _) _
  have hs := some_any L _ (h.belows b0)
  obtain ⟨p, rfl⟩ := h.ptr
  go_enter Tryz.func48, Tryz.ntmps48
  go_wp2_with fail
  refine hs.mono ?_
  rintro e w1 ⟨v1, rfl, t1, b1⟩
  have hlen := len5_any L w1 t1.any
  obtain ⟨hL, B, vr, vc, R, C, rfl, hB, ir, ic, tr, tc⟩ := t1
  obtain ⟨pc, rfl⟩ := ic.ptr
  have A1 := A0.belows b1
  have bb1 := b0.trans (b1.mono b0.size)
  have hbl := bnds_len hL tc
  have hcl := ic.up.2
  have hat := at_of hL tc
  have hbd := bd_of L
  have hfr := hbd.frm_le hi
  have HX : Hid ((∀ j, j + 1 < (bnds L).length → frm (bnds L) (j + 1) = too (bnds L) j + 1) ∧ (0 + 1 = (bnds L).length → too (bnds L) 0 = 4294967295) ∧ (True → frm (bnds L) 0 = 0)) := Lib.hid ⟨fun j hj => hbd.next hj, fun hj => hbd.last hj, fun _ => by rw [frm_in hbd.pos]; exact hbd.zero⟩
  have HAT := Lib.hid hat
  have hs0 : w.heap.size < w1.heap.size := A1.lt
  clear hs A0 b0 b1 ir tr tc hL hbd hat
  obtain ⟨n, hn⟩ : ∃ n, (bnds L).length = n := ⟨_, rfl⟩
  rw [hn] at hlen hi hbl HX HLAST0
  go_wp2_with fail
  refine hlen.mono ?_
  rintro e w2 ⟨rfl, b2⟩
  have A2 := A1.belows b2
  have hB2 := hB.belows b2
  have ic2 := ic.belows b2
  have bb2 := bb1.trans (b2.mono bb1.size)
  have c1 := (hB2.cell 1).trans rfl
  have hs2 : w.heap.size < w2.heap.size := A2.lt
  have hsB : B < w2.heap.size := hB2.lt
  clear hlen A1 hB ic bb1 b2 hs0
  have D2 := At.new w2 #[.int .u32 0, .int .u32 4294967295] 43
  have b2' : Below w2.heap.size w2 (w2.alloc (.cells #[.int .u32 0, .int .u32 4294967295] 43)) := (Below.refl _ w2).alloc (Nat.le_refl _) _
  have HLAST := HLAST0
  clear HLAST0 hn
  go_wp2_with fail
  obtain ⟨W2, hW2⟩ : ∃ W2, w2.alloc (.cells #[.int .u32 0, .int .u32 4294967295] 43) = W2 := ⟨_, rfl⟩
  rw [hW2] at D2 b2' ⊢
  clear hW2
  have hfr0 : frm (bnds L) 0 = 0 := HX.out.2.2 trivial
  have hc1 : Calls Tryz.prog 73 #[.pointer pc, .int .i64 (-1)] W2 fun e w' => e = .returned (.tuple #[.agg #[.int .u64 0, .int .i64 0], .bool false]) ∧ Below W2.heap.size W2 w' := At_any C (-1) W2 (ic2.belows b2') (by omega) (by omega)
  refine hc1.mono ?_
  rintro e w3 ⟨rfl, b3⟩
  have b3' := (b2'.trans (b3.mono b2'.size)).alloc (b2'.trans (b3.mono b2'.size)).size (.cells #[.int .u64 0, .int .i64 0] 119)
  have D3 := (D2.belows b3).alloc (.cells #[.int .u64 0, .int .i64 0] 119)
  have c3 := ((hB2.belows b3').cell 1).trans rfl
  clear hc1 b3 D2 b2' c1
  go_wp2_with fail
  obtain ⟨W3, hW3⟩ : ∃ W3, (w3.alloc (.cells #[.int .u64 0, .int .i64 0] 119)) = W3 := ⟨_, rfl⟩
  rw [hW3] at b3' D3 c3 ⊢
  clear hW3
  have hlt2 : 0 < C.length := by have := HLAST.out; omega
  obtain ⟨n2, e2, _⟩ := HAT.out (0) hlt2
  have ho : atL C ((0 : Nat) : Int) = some (((frm (bnds L) (0 + 1) : Nat) : Int), n2) := by unfold atL; rw [if_pos (by omega)]; simp [hlt2, e2]
  have hnx : ((frm (bnds L) (0 + 1) : Nat) : Int) = ((too (bnds L) (0) : Nat) : Int) + 1 := by have := HX.out.1 (0) (by omega); omega
  rw [hnx] at ho
  have hc2 := At_any C ((0 : Nat) : Int) W3 (ic2.belows b3') (by omega) (by omega)
  rw [ho] at hc2
  simp only [toldV] at hc2
  clear ho e2 hnx hlt2
  refine hc2.mono ?_
  rintro e w4 ⟨rfl, b4⟩
  have b4 : Below W3.heap.size W3 w4 := b4
  have b4' := (b3'.trans (b4.mono b3'.size)).alloc (b3'.trans (b4.mono b3'.size)).size (.cells #[.int .u64 (((too (bnds L) (0) : Nat) : Int) + 1), .int .i64 n2] 119)
  have D4 := (D3.belows b4).alloc (.cells #[.int .u64 (((too (bnds L) (0) : Nat) : Int) + 1), .int .i64 n2] 119)
  have O4 := At.new w4 #[.int .u64 (((too (bnds L) (0) : Nat) : Int) + 1), .int .i64 n2] 119
  have x4 := (O4.cell 0).trans rfl
  have g4 := D4.frozen 1
  have y4 := (D4.cell 1).trans rfl
  have b4' := b4'.setCell (p := ⟨w2.heap.size, 1, none⟩) (Nat.le_refl _) (.int .u32 ((too (bnds L) (0) : Nat) : Int))
  have D4 := D4.set0 1 (.int .u32 ((too (bnds L) (0) : Nat) : Int))
  have j4 : IntKind.u32.wrap ((too (bnds L) (0) : Nat) : Int) = ((too (bnds L) (0) : Nat) : Int) := IntWalk.u32_in _ (by omega)
  have j7 : (((too (bnds L) (0) : Nat) : Int) + 1) - 1 = ((too (bnds L) (0) : Nat) : Int) := by omega
  have z0 := (D4.cell 0).trans rfl
  have z1 := (D4.cell 1).trans rfl
  have A4 := A2.belows b4'
  have q0 := (A4.cell 0).trans rfl
  have q1 := (A4.cell 1).trans rfl
  have p0 := A4.frozen 0
  have p1 := A4.frozen 1
  have A5 := (A4.set0 0 (.int .u32 0)).set0 1 (.int .u32 ((too (bnds L) (0) : Nat) : Int))
  have bw := bb2.trans (b4'.mono bb2.size)
  clear hc2 b4 D3 b3' c3
  go_wp2
  refine bodyPost_ret (v := .tuple #[.agg #[.int .u32 0, .int .u32 ((too (bnds L) (0) : Nat) : Int)], .bool true]) (by simp [results, Tryz.results48, go_sem, A5.cell 0, A5.cell 1]) rfl ⟨?_, ?_⟩
  · rw [hfr0]; rfl
  · exact (bw.setCell (p := ⟨w.heap.size, 0, none⟩) (Nat.le_refl _) _).setCell (p := ⟨w.heap.size, 1, none⟩) (Nat.le_refl _) _
end Go.Proofs.YteboadppighplaaGreat.Tr
/- Contract: Atom, way 3. -/
namespace Go.Proofs.YteboadppighplaaGreat.Tr
open Go.RowKit Go.Shelf

set_option maxRecDepth 100000 in
set_option maxHeartbeats 4000000 in
theorem atom_ok3 {v : Value} (L : List (Nat × Nat)) (i0 : Nat) (w : World) (h : IsTab0 w v L) (hi : i0 < (bnds L).length) (h0 : i0 ≠ 0) (h9 : i0 + 1 = (bnds L).length) : Calls Tryz.prog 48 #[v, .int .i64 (i0 : Int)] w fun e w' => e = .returned (.tuple #[.agg #[.int .u32 (frm (bnds L) i0 : Nat), .int .u32 (too (bnds L) i0 : Nat)], .bool true]) ∧ Below w.heap.size w w' := by
  have hlast := h9
  obtain ⟨i, rfl⟩ : ∃ i, i0 = i + 1 := ⟨i0 - 1, by omega⟩
  clear h9
  have HLAST0 := Lib.hid hlast
  clear hlast
  have A0 := At.new w #[.int .u32 0, .int .u32 0] 43
  have b0 : Below w.heap.size w (w.alloc (.cells #[.int .u32 0, .int .u32 0] 43)) := (Below.refl _ w).alloc (Nat.le_refl _) _
  have hs := some_any L _ (h.belows b0)
  obtain ⟨p, rfl⟩ := h.ptr
  go_enter Tryz.func48, Tryz.ntmps48
  go_wp2_with fail
  refine hs.mono ?_
  rintro e w1 ⟨v1, rfl, t1, b1⟩
  have hlen := len5_any L w1 t1.any
  obtain ⟨hL, B, vr, vc, R, C, rfl, hB, ir, ic, tr, tc⟩ := t1
  obtain ⟨pc, rfl⟩ := ic.ptr
  have A1 := A0.belows b1
  have bb1 := b0.trans (b1.mono b0.size)
  have hbl := bnds_len hL tc
  have hcl := ic.up.2
  have hat := at_of hL tc
  have hbd := bd_of L
  have hfr := hbd.frm_le hi
  have HX : Hid ((∀ j, j + 1 < (bnds L).length → frm (bnds L) (j + 1) = too (bnds L) j + 1) ∧ (i + 1 + 1 = (bnds L).length → too (bnds L) (i + 1) = 4294967295) ∧ True) := Lib.hid ⟨fun j hj => hbd.next hj, fun hj => hbd.last hj, trivial⟩
  have HAT := Lib.hid hat
  have hs0 : w.heap.size < w1.heap.size := A1.lt
  clear hs A0 b0 b1 ir tr tc hL hbd hat
  obtain ⟨n, hn⟩ : ∃ n, (bnds L).length = n := ⟨_, rfl⟩
  rw [hn] at hlen hi hbl HX HLAST0
  go_wp2_with fail
  refine hlen.mono ?_
  rintro e w2 ⟨rfl, b2⟩
  have A2 := A1.belows b2
  have hB2 := hB.belows b2
  have ic2 := ic.belows b2
  have bb2 := bb1.trans (b2.mono bb1.size)
  have c1 := (hB2.cell 1).trans rfl
  have hs2 : w.heap.size < w2.heap.size := A2.lt
  have hsB : B < w2.heap.size := hB2.lt
  clear hlen A1 hB ic bb1 b2 hs0
  have D2 := At.new w2 #[.int .u32 0, .int .u32 4294967295] 43
  have b2' : Below w2.heap.size w2 (w2.alloc (.cells #[.int .u32 0, .int .u32 4294967295] 43)) := (Below.refl _ w2).alloc (Nat.le_refl _) _
  have HLAST := HLAST0
  clear HLAST0 hn
  go_wp2_with fail
  obtain ⟨W2, hW2⟩ : ∃ W2, w2.alloc (.cells #[.int .u32 0, .int .u32 4294967295] 43) = W2 := ⟨_, rfl⟩
  rw [hW2] at D2 b2' ⊢
  clear hW2
  obtain ⟨n1, e1, _⟩ := HAT.out i (by omega)
  have ho : atL C (i : Int) = some (((frm (bnds L) (i + 1) : Nat) : Int), n1) := by unfold atL; rw [if_pos (by omega)]; simp [show i < C.length by omega, e1]
  have hc1 := At_any C (i : Int) W2 (ic2.belows b2') (by omega) (by omega)
  rw [ho] at hc1
  simp only [toldV] at hc1
  clear ho e1
  refine hc1.mono ?_
  rintro e w3 ⟨rfl, b3⟩
  have b3' := (b2'.trans (b3.mono b2'.size)).alloc (b2'.trans (b3.mono b2'.size)).size (.cells #[.int .u64 ((frm (bnds L) (i + 1) : Nat) : Int), .int .i64 n1] 119)
  have D3 := (D2.belows b3).alloc (.cells #[.int .u64 ((frm (bnds L) (i + 1) : Nat) : Int), .int .i64 n1] 119)
  have O3 := At.new w3 #[.int .u64 ((frm (bnds L) (i + 1) : Nat) : Int), .int .i64 n1] 119
  have x0 := (O3.cell 0).trans rfl
  have g0 := D3.frozen 0
  have y0 := (D3.cell 0).trans rfl
  have b3' := b3'.setCell (p := ⟨w2.heap.size, 0, none⟩) (Nat.le_refl _) (.int .u32 ((frm (bnds L) (i + 1) : Nat) : Int))
  have D3 := D3.set0 0 (.int .u32 ((frm (bnds L) (i + 1) : Nat) : Int))
  have j3 : IntKind.u32.wrap ((frm (bnds L) (i + 1) : Nat) : Int) = ((frm (bnds L) (i + 1) : Nat) : Int) := IntWalk.u32_in _ (by omega)
  have c3 := ((hB2.belows b3').cell 1).trans rfl
  clear hc1 b3 D2 b2' c1
  go_wp2_with fail
  obtain ⟨W3, hW3⟩ : ∃ W3, ((w3.alloc (.cells #[.int .u64 ((frm (bnds L) (i + 1) : Nat) : Int), .int .i64 n1] 119)).setCell ⟨w2.heap.size, 0, none⟩ (.int .u32 ((frm (bnds L) (i + 1) : Nat) : Int))) = W3 := ⟨_, rfl⟩
  rw [hW3] at b3' D3 c3 ⊢
  clear hW3
  clear x0 g0 y0 O3
  have h5 : C.length ≤ i + 1 := by have := HLAST.out; omega
  have ho : atL C ((i + 1 : Nat) : Int) = none := by unfold atL; rw [if_pos (by omega), Int.toNat_natCast]; exact List.getElem?_eq_none h5
  clear h5
  have htoo : too (bnds L) (i + 1) = 4294967295 := HX.out.2.1 HLAST.out
  have hc2 := At_any C ((i + 1 : Nat) : Int) W3 (ic2.belows b3') (by omega) (by omega)
  rw [ho] at hc2
  simp only [toldV] at hc2
  clear ho
  refine hc2.mono ?_
  rintro e w4 ⟨rfl, b4⟩
  have b4 : Below W3.heap.size W3 w4 := b4
  have b4' := (b3'.trans (b4.mono b3'.size)).alloc (b3'.trans (b4.mono b3'.size)).size (.cells #[.int .u64 0, .int .i64 0] 119)
  have D4 := (D3.belows b4).alloc (.cells #[.int .u64 0, .int .i64 0] 119)
  have z0 := (D4.cell 0).trans rfl
  have z1 := (D4.cell 1).trans rfl
  have A4 := A2.belows b4'
  have q0 := (A4.cell 0).trans rfl
  have q1 := (A4.cell 1).trans rfl
  have p0 := A4.frozen 0
  have p1 := A4.frozen 1
  have A5 := (A4.set0 0 (.int .u32 ((frm (bnds L) (i + 1) : Nat) : Int))).set0 1 (.int .u32 4294967295)
  have bw := bb2.trans (b4'.mono bb2.size)
  clear hc2 b4 D3 b3' c3
  go_wp2
  refine bodyPost_ret (v := .tuple #[.agg #[.int .u32 ((frm (bnds L) (i + 1) : Nat) : Int), .int .u32 4294967295], .bool true]) (by simp [results, Tryz.results48, go_sem, A5.cell 0, A5.cell 1]) rfl ⟨?_, ?_⟩
  · rw [htoo]; rfl
  · exact (bw.setCell (p := ⟨w.heap.size, 0, none⟩) (Nat.le_refl _) _).setCell (p := ⟨w.heap.size, 1, none⟩) (Nat.le_refl _) _
end Go.Proofs.YteboadppighplaaGreat.Tr
/- Contract: Atom, way 4. -/
namespace Go.Proofs.YteboadppighplaaGreat.Tr
open Go.RowKit Go.Shelf

set_option maxRecDepth 100000 in
set_option maxHeartbeats 4000000 in
theorem atom_ok4 {v : Value} (L : List (Nat × Nat)) (i0 : Nat) (w : World) (h : IsTab0 w v L) (hi : i0 < (bnds L).length) (h0 : i0 ≠ 0) (h9 : ¬ i0 + 1 = (bnds L).length) : Calls Tryz.prog 48 #[v, .int .i64 (i0 : Int)] w fun e w' => e = .returned (.tuple #[.agg #[.int .u32 (frm (bnds L) i0 : Nat), .int .u32 (too (bnds L) i0 : Nat)], .bool true]) ∧ Below w.heap.size w w' := by
  have hlast := h9
  obtain ⟨i, rfl⟩ : ∃ i, i0 = i + 1 := ⟨i0 - 1, by omega⟩
  clear h9
  have HLAST0 := Lib.hid hlast
  clear hlast
  have A0 := At.new w #[.int .u32 0, .int .u32 0] 43
  have b0 : Below w.heap.size w (w.alloc (.cells #[.int .u32 0, .int .u32 0] 43)) := (Below.refl _ w).alloc (Nat.le_refl _) _
  have hs := some_any L _ (h.belows b0)
  obtain ⟨p, rfl⟩ := h.ptr
  go_enter Tryz.func48, Tryz.ntmps48
  go_wp2_with fail
  refine hs.mono ?_
  rintro e w1 ⟨v1, rfl, t1, b1⟩
  have hlen := len5_any L w1 t1.any
  obtain ⟨hL, B, vr, vc, R, C, rfl, hB, ir, ic, tr, tc⟩ := t1
  obtain ⟨pc, rfl⟩ := ic.ptr
  have A1 := A0.belows b1
  have bb1 := b0.trans (b1.mono b0.size)
  have hbl := bnds_len hL tc
  have hcl := ic.up.2
  have hat := at_of hL tc
  have hbd := bd_of L
  have hfr := hbd.frm_le hi
  have HX : Hid ((∀ j, j + 1 < (bnds L).length → frm (bnds L) (j + 1) = too (bnds L) j + 1) ∧ (i + 1 + 1 = (bnds L).length → too (bnds L) (i + 1) = 4294967295) ∧ True) := Lib.hid ⟨fun j hj => hbd.next hj, fun hj => hbd.last hj, trivial⟩
  have HAT := Lib.hid hat
  have hs0 : w.heap.size < w1.heap.size := A1.lt
  clear hs A0 b0 b1 ir tr tc hL hbd hat
  obtain ⟨n, hn⟩ : ∃ n, (bnds L).length = n := ⟨_, rfl⟩
  rw [hn] at hlen hi hbl HX HLAST0
  go_wp2_with fail
  refine hlen.mono ?_
  rintro e w2 ⟨rfl, b2⟩
  have A2 := A1.belows b2
  have hB2 := hB.belows b2
  have ic2 := ic.belows b2
  have bb2 := bb1.trans (b2.mono bb1.size)
  have c1 := (hB2.cell 1).trans rfl
  have hs2 : w.heap.size < w2.heap.size := A2.lt
  have hsB : B < w2.heap.size := hB2.lt
  clear hlen A1 hB ic bb1 b2 hs0
  have D2 := At.new w2 #[.int .u32 0, .int .u32 4294967295] 43
  have b2' : Below w2.heap.size w2 (w2.alloc (.cells #[.int .u32 0, .int .u32 4294967295] 43)) := (Below.refl _ w2).alloc (Nat.le_refl _) _
  have HLAST := HLAST0
  clear HLAST0 hn
  go_wp2_with fail
  obtain ⟨W2, hW2⟩ : ∃ W2, w2.alloc (.cells #[.int .u32 0, .int .u32 4294967295] 43) = W2 := ⟨_, rfl⟩
  rw [hW2] at D2 b2' ⊢
  clear hW2
  obtain ⟨n1, e1, _⟩ := HAT.out i (by omega)
  have ho : atL C (i : Int) = some (((frm (bnds L) (i + 1) : Nat) : Int), n1) := by unfold atL; rw [if_pos (by omega)]; simp [show i < C.length by omega, e1]
  have hc1 := At_any C (i : Int) W2 (ic2.belows b2') (by omega) (by omega)
  rw [ho] at hc1
  simp only [toldV] at hc1
  clear ho e1
  refine hc1.mono ?_
  rintro e w3 ⟨rfl, b3⟩
  have b3' := (b2'.trans (b3.mono b2'.size)).alloc (b2'.trans (b3.mono b2'.size)).size (.cells #[.int .u64 ((frm (bnds L) (i + 1) : Nat) : Int), .int .i64 n1] 119)
  have D3 := (D2.belows b3).alloc (.cells #[.int .u64 ((frm (bnds L) (i + 1) : Nat) : Int), .int .i64 n1] 119)
  have O3 := At.new w3 #[.int .u64 ((frm (bnds L) (i + 1) : Nat) : Int), .int .i64 n1] 119
  have x0 := (O3.cell 0).trans rfl
  have g0 := D3.frozen 0
  have y0 := (D3.cell 0).trans rfl
  have b3' := b3'.setCell (p := ⟨w2.heap.size, 0, none⟩) (Nat.le_refl _) (.int .u32 ((frm (bnds L) (i + 1) : Nat) : Int))
  have D3 := D3.set0 0 (.int .u32 ((frm (bnds L) (i + 1) : Nat) : Int))
  have j3 : IntKind.u32.wrap ((frm (bnds L) (i + 1) : Nat) : Int) = ((frm (bnds L) (i + 1) : Nat) : Int) := IntWalk.u32_in _ (by omega)
  have c3 := ((hB2.belows b3').cell 1).trans rfl
  clear hc1 b3 D2 b2' c1
  go_wp2_with fail
  obtain ⟨W3, hW3⟩ : ∃ W3, ((w3.alloc (.cells #[.int .u64 ((frm (bnds L) (i + 1) : Nat) : Int), .int .i64 n1] 119)).setCell ⟨w2.heap.size, 0, none⟩ (.int .u32 ((frm (bnds L) (i + 1) : Nat) : Int))) = W3 := ⟨_, rfl⟩
  rw [hW3] at b3' D3 c3 ⊢
  clear hW3
  clear x0 g0 y0 O3
  have hlt2 : i + 1 < C.length := by have := HLAST.out; omega
  obtain ⟨n2, e2, _⟩ := HAT.out (i + 1) hlt2
  have ho : atL C ((i + 1 : Nat) : Int) = some (((frm (bnds L) (i + 1 + 1) : Nat) : Int), n2) := by unfold atL; rw [if_pos (by omega)]; simp [hlt2, e2]
  have hnx : ((frm (bnds L) (i + 1 + 1) : Nat) : Int) = ((too (bnds L) (i + 1) : Nat) : Int) + 1 := by have := HX.out.1 (i + 1) (by omega); omega
  rw [hnx] at ho
  have hc2 := At_any C ((i + 1 : Nat) : Int) W3 (ic2.belows b3') (by omega) (by omega)
  rw [ho] at hc2
  simp only [toldV] at hc2
  clear ho e2 hnx hlt2
  refine hc2.mono ?_
  rintro e w4 ⟨rfl, b4⟩
  have b4 : Below W3.heap.size W3 w4 := b4
  have b4' := (b3'.trans (b4.mono b3'.size)).alloc (b3'.trans (b4.mono b3'.size)).size (.cells #[.int .u64 (((too (bnds L) (i + 1) : Nat) : Int) + 1), .int .i64 n2] 119)
  have D4 := (D3.belows b4).alloc (.cells #[.int .u64 (((too (bnds L) (i + 1) : Nat) : Int) + 1), .int .i64 n2] 119)
  have O4 := At.new w4 #[.int .u64 (((too (bnds L) (i + 1) : Nat) : Int) + 1), .int .i64 n2] 119
  have x4 := (O4.cell 0).trans rfl
  have g4 := D4.frozen 1
  have y4 := (D4.cell 1).trans rfl
  have b4' := b4'.setCell (p := ⟨w2.heap.size, 1, none⟩) (Nat.le_refl _) (.int .u32 ((too (bnds L) (i + 1) : Nat) : Int))
  have D4 := D4.set0 1 (.int .u32 ((too (bnds L) (i + 1) : Nat) : Int))
  have j4 : IntKind.u32.wrap ((too (bnds L) (i + 1) : Nat) : Int) = ((too (bnds L) (i + 1) : Nat) : Int) := IntWalk.u32_in _ (by omega)
  have j7 : (((too (bnds L) (i + 1) : Nat) : Int) + 1) - 1 = ((too (bnds L) (i + 1) : Nat) : Int) := by omega
  have z0 := (D4.cell 0).trans rfl
  have z1 := (D4.cell 1).trans rfl
  have A4 := A2.belows b4'
  have q0 := (A4.cell 0).trans rfl
  have q1 := (A4.cell 1).trans rfl
  have p0 := A4.frozen 0
  have p1 := A4.frozen 1
  have A5 := (A4.set0 0 (.int .u32 ((frm (bnds L) (i + 1) : Nat) : Int))).set0 1 (.int .u32 ((too (bnds L) (i + 1) : Nat) : Int))
  have bw := bb2.trans (b4'.mono bb2.size)
  clear hc2 b4 D3 b3' c3
  go_wp2
  refine bodyPost_ret (v := .tuple #[.agg #[.int .u32 ((frm (bnds L) (i + 1) : Nat) : Int), .int .u32 ((too (bnds L) (i + 1) : Nat) : Int)], .bool true]) (by simp [results, Tryz.results48, go_sem, A5.cell 0, A5.cell 1]) rfl ⟨?_, ?_⟩
  · rfl
  · exact (bw.setCell (p := ⟨w.heap.size, 0, none⟩) (Nat.le_refl _) _).setCell (p := ⟨w.heap.size, 1, none⟩) (Nat.le_refl _) _
end Go.Proofs.YteboadppighplaaGreat.Tr
/- Contracts of a table: Atom, Within; a range of a key. -/
namespace Go.Proofs.YteboadppighplaaGreat.Tr
open Go.RowKit Go.Shelf

theorem atom_ok {v : Value} (L : List (Nat × Nat)) (i : Nat) (w : World) (h : IsTab0 w v L) (hi : i < (bnds L).length) : Calls Tryz.prog 48 #[v, .int .i64 (i : Int)] w fun e w' => e = .returned (.tuple #[.agg #[.int .u32 (frm (bnds L) i : Nat), .int .u32 (too (bnds L) i : Nat)], .bool true]) ∧ Below w.heap.size w w' := by
  by_cases h0 : i = 0
  · by_cases h9 : i + 1 = (bnds L).length
    · exact atom_ok1 L i w h hi h0 h9
    · exact atom_ok2 L i w h hi h0 h9
  · by_cases h9 : i + 1 = (bnds L).length
    · exact atom_ok3 L i w h hi h0 h9
    · exact atom_ok4 L i w h hi h0 h9
set_option maxRecDepth 100000 in
set_option maxHeartbeats 1000000 in
theorem within_no {v : Value} (L : List (Nat × Nat)) (f t : Nat) (w : World) (hf : f < 4294967296) (ht : t < 4294967296) (h : IsTab0 w v L) (h2 : (f, t) ∉ L) : Calls Tryz.prog 47 #[v, .agg #[.int .u32 f, .int .u32 t]] w fun e w' => e = .returned (.tuple #[.int .i64 0, .int .i64 0, .bool false]) ∧ Below w.heap.size w w' := by
  have b0 : Below w.heap.size w (w.alloc (.cells #[.int .u32 f, .int .u32 t] 43)) := (Below.refl _ w).alloc (Nat.le_refl _) _
  have hc := count_any5 L f t _ hf ht (h.belows b0)
  rw [List.count_eq_zero_of_not_mem h2] at hc
  obtain ⟨p, rfl⟩ := h.ptr
  clear h
  go_enter Tryz.func47, Tryz.ntmps47
  go_wp2_with (go_at_call 70; refine hc.mono ?_; rintro e w1 ⟨rfl, b1⟩)
  exact bodyPost_ret (v := .tuple #[.int .i64 0, .int .i64 0, .bool false]) (by simp [results, Tryz.results47, go_sem]) rfl ⟨rfl, b0.trans (b1.mono b0.size)⟩
set_option maxRecDepth 100000 in
set_option maxHeartbeats 1000000 in
theorem within_ok {v : Value} (L : List (Nat × Nat)) (f t : Nat) (w : World) (h : IsTab0 w v L) (h2 : (f, t) ∈ L) : Calls Tryz.prog 47 #[v, .agg #[.int .u32 f, .int .u32 t]] w fun e w' => e = .returned (.tuple #[.int .i64 (ofL (bnds L) f : Nat), .int .i64 ((ofL (bnds L) t : Nat) + 1 : Int), .bool true]) ∧ Below w.heap.size w w' := by
  have h3 := h.rl.1 _ h2
  simp only at h3
  obtain ⟨h4, ht⟩ := h3
  have hf : f < 4294967296 := by omega
  have b0 : Below w.heap.size w (w.alloc (.cells #[.int .u32 f, .int .u32 t] 43)) := (Below.refl _ w).alloc (Nat.le_refl _) _
  have A0 := At.new w #[.int .u32 f, .int .u32 t] 43
  have hc := count_any5 L f t _ hf ht (h.belows b0)
  have hpos : 0 < L.count (f, t) := List.count_pos_iff.2 h2
  have d1 : (((L.count (f, t) : Nat) : Int) == 0) = false := by rw [beq_eq_false_iff_ne]; omega
  have hlt := (bd_of L).of_le t
  have hlen2 : (bnds L).length ≤ 4294967296 := by
    rcases rising_len (bnds_rise L) with h | h
    · omega
    · rw [h]; simp
  have HT := Lib.hid (h.belows b0)
  obtain ⟨p, rfl⟩ := h.ptr
  clear h h2 h4
  have HO : Hid (∀ a : Nat, a < 4294967296 → ∀ W, Below (w.alloc (.cells #[.int .u32 f, .int .u32 t] 43)).heap.size (w.alloc (.cells #[.int .u32 f, .int .u32 t] 43)) W → Calls Tryz.prog 71 #[.pointer p, .int .u32 a] W fun e w' => e = .returned (.int .i64 (ofL (bnds L) a : Int)) ∧ Below W.heap.size W w') := Lib.hid fun a ha W hW => of_any L a W ha (HT.out.belows hW)
  have j1 : IntKind.i64.wrap ((ofL (bnds L) t : Int) + 1) = (ofL (bnds L) t : Int) + 1 := IntWalk.i64_in _ (by omega)
  generalize L.count (f, t) = n at *
  generalize ofL (bnds L) = o at *
  clear HT hlt hlen2 hpos
  go_enter Tryz.func47, Tryz.ntmps47
  go_wp2_with fail
  refine hc.mono ?_
  rintro e w1 ⟨rfl, b1⟩
  have A1 := A0.belows b1
  have k1 : ∀ a : Nat, a < 4294967296 → ∀ z : Sub w1, Calls Tryz.prog 71 #[.pointer p, .int .u32 a] z.u fun e w' => e = .returned (.int .i64 (o a : Int)) ∧ Below z.u.heap.size z.u w' := fun a ha z => HO.out a ha z.u (b1.trans (z.h.mono b1.size))
  have c0 : ∀ x : Sub w1, x.u.cell? ⟨w.heap.size, 0, none⟩ = some (.int .u32 f) := fun x => ((A1.belows x.h).cell 0).trans rfl
  have c1 : ∀ x : Sub w1, x.u.cell? ⟨w.heap.size, 1, none⟩ = some (.int .u32 t) := fun x => ((A1.belows x.h).cell 1).trans rfl
  have bb := b0.trans (b1.mono b0.size)
  clear A0 A1 b0 b1 hc
  go_wp2_with fail
  refine wp_region_cls (by kernel_rfl) (by kernel_rfl) ?_
  repeat (go_big_quiet_step ((go_at_call 71; exact Calls.cls_of (k1 _ (by assumption) _))))
  refine wpQuiet_nil ?_
  rintro w2 ⟨x2, hx⟩
  have b2 := x2.h
  rw [← hx] at b2
  clear hx x2
  go_wp2
  exact bodyPost_ret (v := .tuple #[.int .i64 (o f : Nat), .int .i64 ((o t : Nat) + 1 : Int), .bool true]) (by simp [results, Tryz.results47, go_sem]) rfl ⟨rfl, bb.trans (b2.mono bb.size)⟩
end Go.Proofs.YteboadppighplaaGreat.Tr
/- Contracts of package flow: withRules. -/
namespace Go.Proofs.YteboadppighplaaGreat
open Go.RowKit Go.Shelf

theorem rgL_take' {L : List Ru} {k : Nat} (hk : k < L.length) : rgL (L.take (k + 1)) = rgL (L.take k) ++ [(L[k].f, L[k].t)] := by
  rw [List.take_succ_eq_append_getElem hk]
  unfold rgL
  rw [List.map_append]
  rfl
theorem addM_yes {M : List (Nat × Nat)} {f t : Nat} (h : f ≤ t) (hl : M.length < 500) : addM M (f, t) = M ++ [(f, t)] := if_pos ⟨h, hl⟩
theorem addM_no {M : List (Nat × Nat)} {f t : Nat} (h : ¬ (f ≤ t ∧ M.length < 500)) : addM M (f, t) = M := if_neg h
set_option maxRecDepth 100000 in
set_option maxHeartbeats 1000000 in
theorem withRules_any {v : Value} (M : List (Nat × Nat)) (L : List Ru) (B0 : Nat) (w : World) (hL : ∀ r ∈ L, r.f < 4294967296 ∧ r.t < 4294967296) (h : IsR w v L) (ht : Tr.IsTab w (.pointer (some ⟨B0, 0, none⟩)) M) : Calls Tryz.prog 46 #[.pointer (some ⟨B0, 0, none⟩), v] w fun e w' => ∃ B : Nat, e = .returned (.pointer (some ⟨B, 0, none⟩)) ∧ Tr.IsTab w' (.pointer (some ⟨B, 0, none⟩)) (addAll M (rgL L)) ∧ Below w.heap.size w w' := by
  obtain ⟨A, c, rfl, n1, m1, z⟩ := h
  have HZ := Lib.hid z
  have HL := Lib.hid hL
  have HT := Lib.hid ht
  have hN : L.length ≤ 9223372036854775807 := Nat.le_trans n1 m1
  clear z hL ht
  go_enter Tryz.func46, Tryz.ntmps46
  go_wp2
  go_loopw [0, 11] (fun tv i wr => ∃ k B : Nat, i = .int .i64 k ∧ tv = .pointer (some ⟨B, 0, none⟩) ∧ k ≤ L.length ∧ Hid (Tr.IsTab wr (.pointer (some ⟨B, 0, none⟩)) (addAll M (rgL (L.take k)))) ∧ Below w.heap.size w wr) (fun _ i _ => L.length - (intOf i).toNat)
  case atStart => exact ⟨0, B0, rfl, rfl, by omega, HT, Below.refl _ _⟩
  case round =>
    obtain ⟨k, B, rfl, rfl, hk, HI, hb⟩ := hrel
    by_cases hlt : k < L.length
    · obtain ⟨g, o, rfl, hg, r0, r1, r2, r3, r4, r5, r6⟩ := (HZ.out.belows hb).at k hlt
      have hr := HL.out L[k] (List.getElem_mem hlt)
      have HE := Lib.hid (show addAll M (rgL (L.take (k + 1))) = addM (addAll M (rgL (L.take k))) (L[k].f, L[k].t) by rw [rgL_take' hlt, addAll_snoc])
      have i0 : (0 : Int) ≤ (k : Int) := by omega
      have i1 : (k : Int) < (L.length : Int) := by omega
      generalize L[k] = x at r0 r1 r2 r3 r4 r5 r6 HE hr
      obtain ⟨id, dv, pr, kd, f, t, pt⟩ := x
      dsimp only at r0 r1 r2 r3 r4 r5 r6 HE hr
      obtain ⟨w2, hw2⟩ : ∃ w2, w2 = wr.alloc (.cells #[.int .i64 id, .int .i64 dv, .int .i64 pr, .int .i64 kd, .int .u32 f, .int .u32 t, .int .i64 pt] 105) := ⟨_, rfl⟩
      have b2 : Below wr.heap.size wr w2 := by rw [hw2]; exact (Below.refl _ wr).alloc (Nat.le_refl _) _
      have HT2 := Lib.hid (HI.out.belows b2)
      have HB2 := Lib.hid (hb.trans (b2.mono hb.size))
      by_cases hft : f ≤ t
      · by_cases hlen : (addAll M (rgL (L.take k))).length < 500
        · have HM := Lib.hid (addM_yes hft hlen)
          have ha := Tr.add_ok (addAll M (rgL (L.take k))) f t w2 HT2.out.any hft hr.2 hlen
          rw [hw2] at ha HB2
          clear hw2 b2 hr hlen hft HT2
          go_wp2_with (go_at_call 45; refine ha.mono ?_; rintro e w3 ⟨v3, rfl, t3, b3⟩; obtain ⟨B3, rfl⟩ := t3.ptr)
          go_roundw
          case rel => exact ⟨k + 1, B3, by go_num, rfl, by omega, Lib.hid (by rw [HE.out, HM.out]; exact t3), HB2.out.trans (b3.mono HB2.out.size)⟩
          case measure => simp [intOf]; omega
        · have HM := Lib.hid (addM_no (M := addAll M (rgL (L.take k))) (f := f) (t := t) fun h => hlen h.2)
          have hle := HI.out.1.2
          have ha := Tr.add_full (addAll M (rgL (L.take k))) f t w2 HT2.out.any hft (by omega)
          rw [hw2] at ha HB2 HT2
          clear hw2 b2 hr hlen hft hle
          go_wp2_with (go_at_call 45; refine ha.mono ?_; rintro e w3 ⟨rfl, b3⟩)
          go_roundw
          case rel => exact ⟨k + 1, B, by go_num, rfl, by omega, Lib.hid (by rw [HE.out, HM.out]; exact HT2.out.belows b3), HB2.out.trans (b3.mono HB2.out.size)⟩
          case measure => simp [intOf]; omega
      · have HM := Lib.hid (addM_no (M := addAll M (rgL (L.take k))) (f := f) (t := t) fun h => hft h.1)
        have ha := Tr.add_wrong (addAll M (rgL (L.take k))) f t w2 HT2.out.any (by omega)
        rw [hw2] at ha HB2 HT2
        clear hw2 b2 hr hft
        go_wp2_with (go_at_call 45; refine ha.mono ?_; rintro e w3 ⟨rfl, b3⟩)
        go_roundw
        case rel => exact ⟨k + 1, B, by go_num, rfl, by omega, Lib.hid (by rw [HE.out, HM.out]; exact HT2.out.belows b3), HB2.out.trans (b3.mono HB2.out.size)⟩
        case measure => simp [intOf]; omega
    · obtain rfl : k = L.length := by omega
      go_wp2
      go_ret
      exact ⟨B, rfl, by have := HI.out; rwa [List.take_length] at this, hb⟩
end Go.Proofs.YteboadppighplaaGreat
/- Contracts of package flow: Cut. -/
namespace Go.Proofs.YteboadppighplaaGreat
open Go.RowKit Go.Shelf

theorem rgN_snoc {ns : List Nt} {k : Nat} (hk : k < ns.length) : rgN (ns.take (k + 1)) = rgN (ns.take k) ++ rgL ns[k].L := by
  rw [List.take_succ_eq_append_getElem hk]
  unfold rgN
  rw [List.flatMap_append]
  simp
theorem new1_at (w : World) (o o' : Obj) : ((w.alloc o).alloc o').heap[w.heap.size + 1]? = some o' := by
  have := heap_alloc_new (w.alloc o) o'
  simpa using this
set_option maxRecDepth 100000 in
set_option maxHeartbeats 2000000 in
theorem cut11_any {v : Value} (ns : List Nt) (f t : Nat) (w : World) (_hf : f < 4294967296) (ht : t < 4294967296) (hns : ns.length ≤ 2) (hL : ∀ n ∈ ns, ∀ r ∈ n.L, r.wf) (h : Ns w v ns) : Calls Tryz.prog 19 #[v, .agg #[.int .u32 f, .int .u32 t]] w (CutOut (addAll [(f, t)] (rgN ns)) f t w) := by
  have HN : Hid (∀ u, Below w.heap.size w u → Ns u v ns) := Lib.hid fun u hu => h.belows hu
  obtain ⟨⟨A1, c1, rfl, n1, m1, _⟩, _⟩ := h
  obtain ⟨w0, hw0⟩ : ∃ w0, w0 = w.alloc (.cells #[.int .u32 f, .int .u32 t] 43) := ⟨_, rfl⟩
  have D0 : At w0 w.heap.size #[.int .u32 f, .int .u32 t] 43 := by rw [hw0]; exact At.new w _ _
  have b0 : Below w.heap.size w w0 := by rw [hw0]; exact (Below.refl _ w).alloc (Nat.le_refl _) _
  have HD0 := Lib.hid D0
  have HB0 := Lib.hid b0
  have HL := Lib.hid hL
  have SX : Hid (∀ u, Below w0.heap.size w0 u → u.cell? ⟨w.heap.size, 0, none⟩ = some (.int .u32 f) ∧ u.cell? ⟨w.heap.size, 1, none⟩ = some (.int .u32 t)) := Lib.hid fun u hu => ⟨((HD0.out.belows hu).cell 0).trans rfl, ((HD0.out.belows hu).cell 1).trans rfl⟩
  obtain ⟨X0, X1⟩ := SX.out w0 (Below.refl _ _)
  have hnl : ns.length ≤ 9223372036854775807 := by omega
  clear D0 b0 hL
  unfold CutOut
  by_cases hft : f ≤ t
  case neg =>
    rw [if_neg hft, if_neg hft]
    have HFT := Lib.hid (show t < f by omega)
    clear hft
    go_enter Tryz.func19, Tryz.ntmps19
    go_upto_region 1 with (fail)
    rw [← hw0]
    clear hw0
    go_region_held3 (fun W => W.cell? ⟨w.heap.size, 0, none⟩ = some (.int .u32 f) ∧ W.cell? ⟨w.heap.size, 1, none⟩ = some (.int .u32 t))
      (first | exact SX.out _ b2w | exact SX.out _ b1w | exact SX.out _ (bdrewN (Below.refl _ _) 1) | exact SX.out _ (Below.refl _ _))
      (first | (go_at_call 44; refine (Tr.new_any _).mono ?_; rintro e w1 ⟨v1, rfl, ht1, b1⟩; obtain ⟨B1, rfl⟩ := ht1.ptr; have b1w : Below w0.heap.size w0 w1 := (by first | exact (bdrewN (Below.refl _ _) 1).trans b1 | exact b1)) | (go_at_call 45; refine (Tr.add_wrong [] f t _ ht1.any HFT.out).mono ?_; rintro e w2 ⟨rfl, b2⟩; have b2w : Below w0.heap.size w0 w2 := b1w.trans (b2.mono b1w.size)))
    all_goals
      go_wp2
      go_ret2
      exact ⟨_, rfl, ⟨none, 0, rfl, Nat.le_refl _, by decide, Tr.Zs.nil _ _⟩, HB0.out.trans (b2w.mono HB0.out.size)⟩
  case pos =>
    rw [if_pos hft, if_pos hft]
    obtain ⟨Z, hZ⟩ : ∃ Z, Z = cutZ (addAll [(f, t)] (rgN ns)) f t := ⟨_, rfl⟩
    rw [← hZ]
    have HZ := Lib.hid hZ
    have HFT := Lib.hid hft
    clear hZ
    have HTT := Lib.hid ht
    clear hft ht
    go_enter Tryz.func19, Tryz.ntmps19
    go_upto_region 1 with (fail)
    rw [← hw0]
    clear hw0
    go_region_held3 (fun W => W.cell? ⟨w.heap.size, 0, none⟩ = some (.int .u32 f) ∧ W.cell? ⟨w.heap.size, 1, none⟩ = some (.int .u32 t))
      (first | exact SX.out _ b2w | exact SX.out _ b1w | exact SX.out _ (bdrewN (Below.refl _ _) 1) | exact SX.out _ (Below.refl _ _))
      (first | (go_at_call 44; refine (Tr.new_any _).mono ?_; rintro e w1 ⟨v1, rfl, ht1, b1⟩; obtain ⟨B1, rfl⟩ := ht1.ptr; have b1w : Below w0.heap.size w0 w1 := (by first | exact (bdrewN (Below.refl _ _) 1).trans b1 | exact b1)) | (go_at_call 45; refine (Tr.add_ok [] f t _ ht1.any HFT.out HTT.out (by simp)).mono ?_; rintro e w2 ⟨v2, rfl, ht2, b2⟩; obtain ⟨B2, rfl⟩ := ht2.ptr; have b2w : Below w0.heap.size w0 w2 := b1w.trans (b2.mono b1w.size); have HT2 := Lib.hid ht2; clear ht2))
    all_goals
      clear ht1 b1 b2 b1w X0 X1
      go_wp2
      go_loopw [6, 27] (fun tv i wr => ∃ k B : Nat, i = .int .i64 k ∧ tv = .pointer (some ⟨B, 0, none⟩) ∧ k ≤ ns.length ∧ Hid (Tr.IsTab wr (.pointer (some ⟨B, 0, none⟩)) (addAll [(f, t)] (rgN (ns.take k)))) ∧ Below w0.heap.size w0 wr) (fun _ i _ => ns.length - (intOf i).toNat)
      case atStart => exact ⟨0, B2, rfl, rfl, by omega, Lib.hid (by have := HT2.out; simpa [rgN, addAll] using this), b2w⟩
      case round =>
        obtain ⟨k, B, rfl, rfl, hk, HI, hb⟩ := hrel
        have bw : Below w.heap.size w wr := HB0.out.trans (hb.mono HB0.out.size)
        by_cases hlt : k < ns.length
        · obtain ⟨g, o, e, hg, r0, r1, r2, hN⟩ := (HN.out wr bw).at k hlt
          subst e
          have i0 : (0 : Int) ≤ (k : Int) := by omega
          have i1 : (k : Int) < (ns.length : Int) := by omega
          have hT := rgN_snoc hlt
          have hwf := HL.out ns[k] (List.getElem_mem hlt)
          generalize ns[k] = x at r0 r1 r2 hN hT hwf
          obtain ⟨vp, vl, vr, ps, ls, L⟩ := x
          dsimp only at r0 r1 r2 hN hT hwf
          have HT := Lib.hid (show addAll [(f, t)] (rgN (ns.take (k + 1))) = addAll (addAll [(f, t)] (rgN (ns.take k))) (rgL L) by rw [hT, addAll_app])
          obtain ⟨w4, hw4⟩ : ∃ w4, w4 = wr.alloc (.cells #[vp, vl, vr] 28) := ⟨_, rfl⟩
          have b4 : Below wr.heap.size wr w4 := by rw [hw4]; exact (Below.refl _ wr).alloc (Nat.le_refl _) _
          have kR := withRules_any (addAll [(f, t)] (rgN (ns.take k))) L B w4 (fun r hr => ⟨(hwf r hr).2.2.2.2.1, (hwf r hr).2.2.2.2.2.1⟩) (hN.2.belows b4) (HI.out.belows b4)
          have HB4 := Lib.hid (hb.trans (b4.mono hb.size))
          rw [hw4] at kR HB4
          obtain ⟨⟨⟨A1', c1', rfl, _⟩, ⟨A2', c2', rfl, _⟩⟩, ⟨A3', c3', rfl, _⟩⟩ := hN
          clear hw4 b4 hT hwf
          go_wp2_with (go_at_call 46; refine kR.mono ?_; rintro e w5 ⟨B5, rfl, t5, b5⟩)
          go_roundw
          case rel => exact ⟨k + 1, B5, by go_num, rfl, by omega, Lib.hid (by rw [HT.out]; exact t5), HB4.out.trans (b5.mono HB4.out.size)⟩
          case measure => simp [intOf]; omega
        · have hkl : k = ns.length := by omega
          obtain ⟨wz, rfl⟩ : ∃ wz, wz = wr := ⟨_, rfl⟩
          have hki : ¬ (k : Int) < (ns.length : Int) := by omega
          have hT : Tr.IsTab wz (.pointer (some ⟨B, 0, none⟩)) (addAll [(f, t)] (rgN ns)) := by have := HI.out; rwa [hkl, List.take_length] at this
          have hmem : (f, t) ∈ addAll [(f, t)] (rgN ns) := addAll_in (by simp)
          obtain ⟨M, hM⟩ : ∃ M, M = addAll [(f, t)] (rgN ns) := ⟨_, rfl⟩
          rw [← hM] at hT hmem
          have HM := Lib.hid hM
          clear hM
          have hseg := seg_cut (M := M) (R := M) HFT.out HTT.out (ends_own hmem)
          have hbl : (Tr.bnds M).length ≤ 1001 := by
            obtain ⟨h1, B, vr, vc, R, C, e, ha, hr, hc, tr, tc⟩ := hT
            have e1 := Tr.bnds_len h1 tc
            have e2 := Tr.tal_len tc
            have e3 := h1.2
            omega
          have HTAB : Hid (∀ u, Below wz.heap.size wz u → Tr.IsTab0 u (.pointer (some ⟨B, 0, none⟩)) M) := Lib.hid fun u hu => (hT.belows hu).any
          have kW := Tr.within_ok M f t wz hT.any hmem
          obtain ⟨a, ha⟩ : ∃ a, a = Tr.ofL (Tr.bnds M) f := ⟨_, rfl⟩
          obtain ⟨n, hn⟩ : ∃ n, Tr.ofL (Tr.bnds M) t = a + n := ⟨Tr.ofL (Tr.bnds M) t - a, by rw [ha]; omega⟩
          rw [← ha] at hseg kW
          rw [hn] at hseg kW
          obtain ⟨hs1, hs2, hs3⟩ := hseg
          rw [show a + n + 1 - a = n + 1 by omega] at hs3
          have HS := Lib.hid hs3
          have HLEN := Lib.hid hs2
          have kA : Hid (∀ k u, k ≤ n → Below wz.heap.size wz u → Calls Tryz.prog 48 #[.pointer (some ⟨B, 0, none⟩), .int .i64 ((a : Int) + (k : Int))] u fun e w' => e = .returned (.tuple #[.agg #[.int .u32 (Tr.frm (Tr.bnds M) (a + k) : Nat), .int .u32 (Tr.too (Tr.bnds M) (a + k) : Nat)], .bool true]) ∧ Below u.heap.size u w') := Lib.hid fun k u hk hu => by
            have := Tr.atom_ok M (a + k) u (HTAB.out u hu) (by have := HLEN.out; omega)
            rwa [show ((a + k : Nat) : Int) = (a : Int) + (k : Int) by omega] at this
          obtain ⟨X0, X1⟩ := SX.out wz hb
          have han : a + n < 1001 := by omega
          obtain ⟨i0, hi, hz0, hz1, hz2⟩ := info_parts Tr.info32
          have HB := Lib.hid hb
          clear hs1 hs2 hs3 hn ha hbl hT hmem hb bw HI
          go_upto_region 10 with (go_at_call 47; refine kW.mono ?_; rintro e wa ⟨rfl, b3⟩)
          have hmk := run_makeSlice_owned (P := Tryz.prog) wa wa.heap.size 31 43 i0 _ 2 Tryz.underlying31 hi hz0 hz1 .i64 .i64 (n + 1) (by omega) (by rw [hz2]; omega) (by simp only [maxLen]; omega) (Nat.le_refl _)
          obtain ⟨w3, hmk, hown, hgrow⟩ := hmk
          have b4 : Below wa.heap.size wa w3 := ⟨hgrow.os, hgrow.tape, hgrow.output, hgrow.size, fun k hk => hgrow.block k hk (by simp)⟩
          have e1 : (a : Int) + (n : Int) + 1 - (a : Int) = ((n + 1 : Nat) : Int) := by omega
          rw [← e1] at hmk
          have HO := Lib.hid (And.intro hown b4)
          have b43 : Below wz.heap.size wz w3 := b3.trans (b4.mono b3.size)
          have HB43 := Lib.hid b43
          have HB3 := Lib.hid b3
          clear e1 hown hgrow b3 kW X0 X1 b4
          go_wp2
          go_loopw [13, 14] (fun lv i wq => ∃ k : Nat, i = .int .i64 ((a : Int) + (k : Int)) ∧ k ≤ n + 1 ∧ Hid (wq.ownsRow wa.heap.size 43 2 lv k (Tr.zcells (segZ (Tr.bnds M) a k)) ∧ Below wa.heap.size wa wq)) (fun _ i _ => a + n + 1 - (intOf i).toNat)
          case atStart => exact ⟨0, by simp, by omega, Lib.hid ⟨HO.out.1, HO.out.2⟩⟩
          case round =>
            obtain ⟨k, rfl, hk, HI⟩ := hrel
            have hrow := HI.out.1
            have hbq := HI.out.2
            by_cases hlt : k < n + 1
            · have HROW := Lib.hid hrow
              have HBQ := Lib.hid hbq
              have hws : wa.heap.size ≤ wr.heap.size := hbq.size
              have hcall := kA.out k wr (by omega) (HB3.out.trans (hbq.mono HB3.out.size))
              obtain ⟨x, hx⟩ : ∃ x, x = Tr.frm (Tr.bnds M) (a + k) := ⟨_, rfl⟩
              obtain ⟨y, hy⟩ : ∃ y, y = Tr.too (Tr.bnds M) (a + k) := ⟨_, rfl⟩
              have HZ' := Lib.hid (show Tr.zcells (segZ (Tr.bnds M) a (k + 1)) = Tr.zcells (segZ (Tr.bnds M) a k) ++ [.int .u32 x, .int .u32 y] by rw [segZ_snoc, Tr.zcells_append, hx, hy]; rfl)
              rw [← hx, ← hy] at hcall
              clear hx hy hrow hbq HI
              have jk : (a : Int) + (k : Int) < (a : Int) + (n : Int) + 1 := by omega
              go_wp2_with (first | (go_at_call 48; refine hcall.mono ?_; rintro e w5 ⟨rfl, b5⟩; have HR5 := Lib.hid (row_belows HROW.out b5); have hs5 := b5.size; have HB5 := Lib.hid (HBQ.out.trans (b5.mono hws)); clear b5) | (at_builtin; refine wpList_append_own _ rfl _ _ 31 rfl wa.heap.size 43 i0 (.agg #[.int .u32 0, .int .u32 0]) 2 8 Tryz.underlying31 hi hz0 hz1 hz2 rfl (by decide) _ _ _ rfl ((HR5.out.alloc _).alloc _) ⟨w5.heap.size + 1, 0, none⟩ 1 1 [.int .u32 x, .int .u32 y] rfl rfl (World.news_of_block (cs := #[.int .u32 x, .int .u32 y]) (t := 43) (fr := (0, 0)) (new1_at w5 _ _)) (by simp [Value.oneCell']) (by simp only [maxLen]; omega) (by omega) (by simp; omega) ?_; intro v' w6 hown' hgrow _))
              go_roundw
              case rel =>
                refine ⟨k + 1, by first | go_num | (congr 1; omega), by omega, Lib.hid ⟨by rw [HZ'.out]; exact hown', ((HB5.out.alloc HB5.out.size _).alloc (by simp; omega) _).grown hgrow (by simp; omega) (fun j hj => (HR5.out.lt j hj).1)⟩⟩
              case measure => simp [intOf]; omega
            · obtain rfl : k = n + 1 := by omega
              have hz : Tr.IsZ wr u13 Z := by
                rw [HZ.out, ← HM.out, ← HS.out]
                exact Tr.isZ_of_row (base := wa.heap.size) (by rw [segZ_len]; exact hrow)
              have HZZ := Lib.hid hz
              have hlt' : (a : Int) + (n : Int) + 1 ≤ (a : Int) + ((n + 1 : Nat) : Int) := by omega
              clear hrow hz HI
              go_wp2
              go_ret2
              exact ⟨_, rfl, HZZ.out, HB0.out.trans ((HB.out.trans ((HB3.out.trans (hbq.mono HB3.out.size)).mono HB.out.size)).mono HB0.out.size)⟩
end Go.Proofs.YteboadppighplaaGreat
/- Contracts: ahead, taking's closure. -/
namespace Go.Proofs.YteboadppighplaaGreat
open Go.RowKit Go.Shelf

set_option maxRecDepth 100000 in
theorem ahead_any (x y : Ru) (w : World) : Calls Tryz.prog 113 #[.agg (ruA x), .agg (ruA y)] w fun e w' => e = .returned (.bool (aheadB x y)) ∧ Below w.heap.size w w' := by
  obtain ⟨id, dv, pr, kd, f, t, pt⟩ := x
  obtain ⟨id', dv', pr', kd', f', t', pt'⟩ := y
  have hb : Below w.heap.size w ((w.alloc (.cells #[.int .i64 id, .int .i64 dv, .int .i64 pr, .int .i64 kd, .int .u32 f, .int .u32 t, .int .i64 pt] 105)).alloc (.cells #[.int .i64 id', .int .i64 dv', .int .i64 pr', .int .i64 kd', .int .u32 f', .int .u32 t', .int .i64 pt'] 105)) := ((Below.refl _ _).alloc (Nat.le_refl _) _).alloc (by simp) _
  rw [ruA_mk, ruA_mk]
  unfold aheadB
  dsimp only
  cases h1 : decide (pr' < pr) with
  | true =>
    rw [Bool.true_or]
    have := of_decide_eq_true h1
    go_enter Tryz.func113, Tryz.ntmps113
    go_wp2
    go_ret
    exact ⟨rfl, hb⟩
  | false =>
    rw [Bool.false_or]
    have := of_decide_eq_false h1
    cases h2 : decide (pr = pr') with
    | true =>
      have e := of_decide_eq_true h2
      have h3 : (pr == pr') = true := by simpa using e
      clear e
      rw [Bool.true_and]
      go_enter Tryz.func113, Tryz.ntmps113
      go_wp2
      go_ret
      exact ⟨rfl, hb⟩
    | false =>
      have e := of_decide_eq_false h2
      have h3 : (pr == pr') = false := by simpa using e
      clear e
      rw [Bool.false_and]
      go_enter Tryz.func113, Tryz.ntmps113
      go_wp2
      go_ret
      exact ⟨rfl, hb⟩

set_option maxRecDepth 100000 in
/-- taking's closure. -/
theorem taking1_any (x : Ru) (d one oth : Int) (a C0 C1 C2 C3 : Nat) (w : World) (hA0 : At w C0 #[.int .i64 d] 3) (hA1 : At w C1 #[.int .i64 one] 103) (hA2 : At w C2 #[.int .i64 oth] 103) (hA3 : At w C3 #[.int .u32 a] 41) :
    Calls Tryz.prog 114 (#[.agg (ruA x)] ++ #[.pointer (some ⟨C0, 0, none⟩), .pointer (some ⟨C1, 0, none⟩), .pointer (some ⟨C2, 0, none⟩), .pointer (some ⟨C3, 0, none⟩)]) w fun e w' => e = .returned (.bool (takesB x d one oth a)) ∧ Below w.heap.size w w' := by
  obtain ⟨id, dv, pr, kd, f, t, pt⟩ := x
  have c0 := ((hA0.alloc (.cells #[.int .i64 id, .int .i64 dv, .int .i64 pr, .int .i64 kd, .int .u32 f, .int .u32 t, .int .i64 pt] 105)).cell 0).trans rfl
  have c1 := ((hA1.alloc (.cells #[.int .i64 id, .int .i64 dv, .int .i64 pr, .int .i64 kd, .int .u32 f, .int .u32 t, .int .i64 pt] 105)).cell 0).trans rfl
  have c2 := ((hA2.alloc (.cells #[.int .i64 id, .int .i64 dv, .int .i64 pr, .int .i64 kd, .int .u32 f, .int .u32 t, .int .i64 pt] 105)).cell 0).trans rfl
  have c3 := ((hA3.alloc (.cells #[.int .i64 id, .int .i64 dv, .int .i64 pr, .int .i64 kd, .int .u32 f, .int .u32 t, .int .i64 pt] 105)).cell 0).trans rfl
  have hb : Below w.heap.size w (w.alloc (.cells #[.int .i64 id, .int .i64 dv, .int .i64 pr, .int .i64 kd, .int .u32 f, .int .u32 t, .int .i64 pt] 105)) := (Below.refl _ _).alloc (Nat.le_refl _) _
  clear hA0 hA1 hA2 hA3
  rw [ruA_mk]
  unfold takesB
  dsimp only
  show Calls Tryz.prog 114 #[_, _, _, _, _] w _
  cases h1 : decide (dv = d) with
  | false =>
    have h1b : (dv == d) = false := by have e := of_decide_eq_false h1; simpa using e
    simp only [Bool.false_and]
    go_enter Tryz.func114, Tryz.ntmps114
    go_wp2
    go_ret
    exact ⟨rfl, hb⟩
  | true =>
    have h1b : (dv == d) = true := by have e := of_decide_eq_true h1; simpa using e
    cases h2 : decide (kd = one) with
    | true =>
      have h2b : (kd == one) = true := by have e := of_decide_eq_true h2; simpa using e
      cases h4 : decide (f ≤ a) with
      | false =>
        have h4i : decide ((f : Int) ≤ (a : Int)) = false := by rw [← h4]; congr 1; simp
        simp only [Bool.true_and, Bool.false_and, Bool.true_or]
        go_enter Tryz.func114, Tryz.ntmps114
        go_wp2
        go_ret
        exact ⟨rfl, hb⟩
      | true =>
        have h4i : decide ((f : Int) ≤ (a : Int)) = true := by rw [← h4]; congr 1; simp
        simp only [Bool.true_and, Bool.true_or]
        go_enter Tryz.func114, Tryz.ntmps114
        go_wp2
        go_ret
        exact ⟨rfl, hb⟩
    | false =>
      have h2b : (kd == one) = false := by have e := of_decide_eq_false h2; simpa using e
      cases h3 : decide (kd = oth) with
      | false =>
        have h3b : (kd == oth) = false := by have e := of_decide_eq_false h3; simpa using e
        simp only [Bool.true_and, Bool.or_self, Bool.false_and]
        go_enter Tryz.func114, Tryz.ntmps114
        go_wp2
        go_ret
        exact ⟨rfl, hb⟩
      | true =>
        have h3b : (kd == oth) = true := by have e := of_decide_eq_true h3; simpa using e
        cases h4 : decide (f ≤ a) with
        | false =>
          have h4i : decide ((f : Int) ≤ (a : Int)) = false := by rw [← h4]; congr 1; simp
          simp only [Bool.true_and, Bool.false_and, Bool.false_or]
          go_enter Tryz.func114, Tryz.ntmps114
          go_wp2
          go_ret
          exact ⟨rfl, hb⟩
        | true =>
          have h4i : decide ((f : Int) ≤ (a : Int)) = true := by rw [← h4]; congr 1; simp
          simp only [Bool.true_and, Bool.false_or]
          go_enter Tryz.func114, Tryz.ntmps114
          go_wp2
          go_ret
          exact ⟨rfl, hb⟩
end Go.Proofs.YteboadppighplaaGreat
/- Contracts: first, over any closure that asks. -/
namespace Go.Proofs.YteboadppighplaaGreat
open Go.RowKit Go.Shelf

/-- What is asked of a closure at each rule of a list. -/
def Asks (g : Nat) (lb : Array Value) (L : List Ru) (p : Ru → Bool) (w : World) : Prop :=
  ∀ k (hk : k < L.length) W, Below w.heap.size w W → Calls Tryz.prog g (#[.agg (ruA L[k])] ++ lb) W fun e W' => e = .returned (.bool (p L[k])) ∧ Below W.heap.size W W'

set_option maxRecDepth 100000 in
set_option maxHeartbeats 1000000 in
theorem first_any {v : Value} (g : Nat) (lb : Array Value) (eg : ∀ args w, (callFunc g args).run Tryz.prog w = .ok (.enter g args) w) (L : List Ru) (p : Ru → Bool) (w : World) (hs : Asks g lb L p w) (h : IsR w v L) :
    Calls Tryz.prog 98 #[v, .func (.func g) #[] lb] w fun e w' => e = .returned (firstV (firstL p L)) ∧ Below w.heap.size w w' := by
  obtain ⟨A1, c1, rfl, n1, m1, z1⟩ := h
  have hL : L.length ≤ 9223372036854775807 := Nat.le_trans n1 m1
  have H1 := Lib.hid z1
  have HS := Lib.hid hs
  clear z1 hs
  obtain ⟨fo, hfo⟩ : ∃ fo, fo = firstL p L := ⟨_, rfl⟩
  rw [← hfo]
  have HFO := Lib.hid hfo
  clear hfo
  go_enter Tryz.func98, Tryz.ntmps98
  go_wp2
  go_loopw [7, 12] (fun b i wr => ∃ k : Nat, Hid (FirI p L w i b k wr)) (fun _ i _ => L.length - (intOf i).toNat)
  case atStart =>
    refine ⟨0, Lib.hid ⟨rfl, rfl, by omega, ?_, ?_, ?_⟩⟩
    · exact ((Below.refl _ _).alloc (Nat.le_refl _) _).alloc (by simp) _
    · exact (At.new w _ _).alloc _
    · exact At.new1 w _ _ _
  case round =>
    obtain ⟨k, HF⟩ := hrel
    obtain ⟨rfl, rfl, hk, hb, hA, hB⟩ := HF.out
    clear HF
    by_cases hlt : k < L.length
    · have hq := firstL_snoc p L k hlt
      obtain ⟨g1, o1, e1, _, r0, r1, r2, r3, r4, r5, r6⟩ := (H1.out.belows hb).at k hlt
      subst e1
      have i0 : (0 : Int) ≤ (k : Int) := by omega
      have i1 : (k : Int) < (L.length : Int) := by omega
      have hcall := HS.out k hlt
      generalize hx : L[k] = x at r0 r1 r2 r3 r4 r5 r6 hcall hq
      obtain ⟨id, dv, pr, kd, f, t, pt⟩ := x
      dsimp only at r0 r1 r2 r3 r4 r5 r6
      have hcall2 := hcall (wr.alloc (.cells (ruA ⟨id, dv, pr, kd, f, t, pt⟩) 105)) (hb.alloc hb.size _)
      have hA1 := hA.alloc (.cells (ruA ⟨id, dv, pr, kd, f, t, pt⟩) 105)
      have hB1 := hB.alloc (.cells (ruA ⟨id, dv, pr, kd, f, t, pt⟩) 105)
      have hR1 := At.new wr (ruA ⟨id, dv, pr, kd, f, t, pt⟩) 105
      have hb1 : Below w.heap.size w (wr.alloc (.cells (ruA ⟨id, dv, pr, kd, f, t, pt⟩) 105)) := hb.alloc hb.size _
      have hs1 : wr.heap.size < (wr.alloc (.cells (ruA ⟨id, dv, pr, kd, f, t, pt⟩) 105)).heap.size := by simp
      clear hcall hA hB
      generalize ho : firstL p (L.take k) = o at hq hB1
      rw [ruA_mk] at hcall2 hR1 hA1 hB1 hb1 hs1
      cases hp : p ⟨id, dv, pr, kd, f, t, pt⟩ with
      | false =>
        rw [hp] at hcall2
        have hq2 : firstL p (L.take (k + 1)) = o := by rw [hq]; unfold stepF; rw [hp]; rfl
        clear hq
        go_wp2_with (go_at_fn g; refine hcall2.mono ?_; rintro e w2 ⟨rfl, b2⟩)
        go_roundw
        case rel =>
          refine ⟨k + 1, Lib.hid ⟨by go_num, ?_, by omega, hb1.trans (b2.mono hb1.size), hA1.belows b2, ?_⟩⟩
          · rw [hq2]
          · rw [hq2]; exact hB1.belows b2
        case measure => simp [intOf]; omega
      | true =>
        rw [hp] at hcall2
        cases o with
        | none =>
          have hq2 : firstL p (L.take (k + 1)) = some ⟨id, dv, pr, kd, f, t, pt⟩ := by rw [hq]; unfold stepF; rw [hp]; rfl
          clear hq
          rw [show ruA ((none : Option Ru).getD ru0) = #[.int .i64 0, .int .i64 0, .int .i64 0, .int .i64 0, .int .u32 0, .int .u32 0, .int .i64 0] from rfl] at hB1
          go_wp2_with (go_at_fn g; refine hcall2.mono ?_; rintro e w2 ⟨rfl, b2⟩; have R2 := hR1.belows b2; have B2 := hB1.belows b2; have c0 := (R2.cell 0).trans rfl; have c1 := (R2.cell 1).trans rfl; have c2 := (R2.cell 2).trans rfl; have c3 := (R2.cell 3).trans rfl; have c4 := (R2.cell 4).trans rfl; have c5 := (R2.cell 5).trans rfl; have c6 := (R2.cell 6).trans rfl; have d0 := (B2.cell 0).trans rfl; have d1 := (B2.cell 1).trans rfl; have d2 := (B2.cell 2).trans rfl; have d3 := (B2.cell 3).trans rfl; have d4 := (B2.cell 4).trans rfl; have d5 := (B2.cell 5).trans rfl; have d6 := (B2.cell 6).trans rfl; have z0 := B2.frozen 0; have z1 := B2.frozen 1; have z2 := B2.frozen 2; have z3 := B2.frozen 3; have z4 := B2.frozen 4; have z5 := B2.frozen 5; have z6 := B2.frozen 6)
          refine ⟨⟨k + 1, Lib.hid ⟨by go_num, ?_, by omega, ?_, ?_, ?_⟩⟩, by simp [intOf]; omega⟩
          · rw [hq2]; rfl
          · exact below_fill (hb1.trans (b2.mono hb1.size)) (by omega) ⟨id, dv, pr, kd, f, t, pt⟩
          · exact (hA1.belows b2).fillo (by omega) ⟨id, dv, pr, kd, f, t, pt⟩
          · rw [hq2]; exact At.fill (y := ru0) B2 ⟨id, dv, pr, kd, f, t, pt⟩
        | some y =>
          obtain ⟨id', dv', pr', kd', f', t', pt'⟩ := y
          have hah := fun u : World => ahead_any ⟨id, dv, pr, kd, f, t, pt⟩ ⟨id', dv', pr', kd', f', t', pt'⟩ u
          rw [ruA_mk, ruA_mk] at hah
          rw [show ruA ((some (⟨id', dv', pr', kd', f', t', pt'⟩ : Ru)).getD ru0) = #[.int .i64 id', .int .i64 dv', .int .i64 pr', .int .i64 kd', .int .u32 f', .int .u32 t', .int .i64 pt'] from rfl] at hB1
          cases hh : aheadB ⟨id, dv, pr, kd, f, t, pt⟩ ⟨id', dv', pr', kd', f', t', pt'⟩ with
          | true =>
            rw [hh] at hah
            have hq2 : firstL p (L.take (k + 1)) = some ⟨id, dv, pr, kd, f, t, pt⟩ := by rw [hq]; unfold stepF; rw [hp]; simp only [Option.getD_some, hh, Bool.or_true, Bool.and_true, if_true]
            clear hq
            go_wp2_with (first | (go_at_fn g; refine hcall2.mono ?_; rintro e w2 ⟨rfl, b2⟩; have R2 := hR1.belows b2; have B2 := hB1.belows b2; have c0 := (R2.cell 0).trans rfl; have c1 := (R2.cell 1).trans rfl; have c2 := (R2.cell 2).trans rfl; have c3 := (R2.cell 3).trans rfl; have c4 := (R2.cell 4).trans rfl; have c5 := (R2.cell 5).trans rfl; have c6 := (R2.cell 6).trans rfl; have d0 := (B2.cell 0).trans rfl; have d1 := (B2.cell 1).trans rfl; have d2 := (B2.cell 2).trans rfl; have d3 := (B2.cell 3).trans rfl; have d4 := (B2.cell 4).trans rfl; have d5 := (B2.cell 5).trans rfl; have d6 := (B2.cell 6).trans rfl; have z0 := B2.frozen 0; have z1 := B2.frozen 1; have z2 := B2.frozen 2; have z3 := B2.frozen 3; have z4 := B2.frozen 4; have z5 := B2.frozen 5; have z6 := B2.frozen 6) | (go_at_call 113; refine (hah _).mono ?_; rintro e w3 ⟨rfl, b3⟩; have R3 := R2.belows b3; have B3 := B2.belows b3; clear c0 d0 z0 c1 d1 z1 c2 d2 z2 c3 d3 z3 c4 d4 z4 c5 d5 z5 c6 d6 z6; have c0 := (R3.cell 0).trans rfl; have c1 := (R3.cell 1).trans rfl; have c2 := (R3.cell 2).trans rfl; have c3 := (R3.cell 3).trans rfl; have c4 := (R3.cell 4).trans rfl; have c5 := (R3.cell 5).trans rfl; have c6 := (R3.cell 6).trans rfl; have d0 := (B3.cell 0).trans rfl; have d1 := (B3.cell 1).trans rfl; have d2 := (B3.cell 2).trans rfl; have d3 := (B3.cell 3).trans rfl; have d4 := (B3.cell 4).trans rfl; have d5 := (B3.cell 5).trans rfl; have d6 := (B3.cell 6).trans rfl; have z0 := B3.frozen 0; have z1 := B3.frozen 1; have z2 := B3.frozen 2; have z3 := B3.frozen 3; have z4 := B3.frozen 4; have z5 := B3.frozen 5; have z6 := B3.frozen 6))
            refine ⟨⟨k + 1, Lib.hid ⟨by go_num, ?_, by omega, ?_, ?_, ?_⟩⟩, by simp [intOf]; omega⟩
            · rw [hq2]; rfl
            · exact below_fill ((hb1.trans (b2.mono hb1.size)).trans (b3.mono (Nat.le_trans hb1.size b2.size))) (by omega) ⟨id, dv, pr, kd, f, t, pt⟩
            · exact ((hA1.belows b2).belows b3).fillo (by omega) ⟨id, dv, pr, kd, f, t, pt⟩
            · rw [hq2]; exact At.fill (y := ⟨id', dv', pr', kd', f', t', pt'⟩) B3 ⟨id, dv, pr, kd, f, t, pt⟩
          | false =>
            rw [hh] at hah
            have hq2 : firstL p (L.take (k + 1)) = some ⟨id', dv', pr', kd', f', t', pt'⟩ := by rw [hq]; unfold stepF; rw [hp]; simp only [Option.getD_some, hh, Option.isNone_some, Bool.or_false, Bool.and_false, Bool.false_eq_true, if_false]
            clear hq
            go_wp2_with (first | (go_at_fn g; refine hcall2.mono ?_; rintro e w2 ⟨rfl, b2⟩; have R2 := hR1.belows b2; have B2 := hB1.belows b2; have c0 := (R2.cell 0).trans rfl; have c1 := (R2.cell 1).trans rfl; have c2 := (R2.cell 2).trans rfl; have c3 := (R2.cell 3).trans rfl; have c4 := (R2.cell 4).trans rfl; have c5 := (R2.cell 5).trans rfl; have c6 := (R2.cell 6).trans rfl; have d0 := (B2.cell 0).trans rfl; have d1 := (B2.cell 1).trans rfl; have d2 := (B2.cell 2).trans rfl; have d3 := (B2.cell 3).trans rfl; have d4 := (B2.cell 4).trans rfl; have d5 := (B2.cell 5).trans rfl; have d6 := (B2.cell 6).trans rfl; have z0 := B2.frozen 0; have z1 := B2.frozen 1; have z2 := B2.frozen 2; have z3 := B2.frozen 3; have z4 := B2.frozen 4; have z5 := B2.frozen 5; have z6 := B2.frozen 6) | (go_at_call 113; refine (hah _).mono ?_; rintro e w3 ⟨rfl, b3⟩; have R3 := R2.belows b3; have B3 := B2.belows b3; clear c0 d0 z0 c1 d1 z1 c2 d2 z2 c3 d3 z3 c4 d4 z4 c5 d5 z5 c6 d6 z6; have c0 := (R3.cell 0).trans rfl; have c1 := (R3.cell 1).trans rfl; have c2 := (R3.cell 2).trans rfl; have c3 := (R3.cell 3).trans rfl; have c4 := (R3.cell 4).trans rfl; have c5 := (R3.cell 5).trans rfl; have c6 := (R3.cell 6).trans rfl; have d0 := (B3.cell 0).trans rfl; have d1 := (B3.cell 1).trans rfl; have d2 := (B3.cell 2).trans rfl; have d3 := (B3.cell 3).trans rfl; have d4 := (B3.cell 4).trans rfl; have d5 := (B3.cell 5).trans rfl; have d6 := (B3.cell 6).trans rfl; have z0 := B3.frozen 0; have z1 := B3.frozen 1; have z2 := B3.frozen 2; have z3 := B3.frozen 3; have z4 := B3.frozen 4; have z5 := B3.frozen 5; have z6 := B3.frozen 6))
            go_roundw
            case rel =>
              refine ⟨k + 1, Lib.hid ⟨by go_num, ?_, by omega, (hb1.trans (b2.mono hb1.size)).trans (b3.mono (Nat.le_trans hb1.size b2.size)), (hA1.belows b2).belows b3, ?_⟩⟩
              · rw [hq2]; rfl
              · rw [hq2]; exact B3
            case measure => simp [intOf]; omega
    · obtain rfl : k = L.length := by omega
      rw [List.take_length, ← HFO.out] at hB
      rw [List.take_length, ← HFO.out]
      obtain ⟨y, hy⟩ : ∃ y, y = fo.getD ru0 := ⟨_, rfl⟩
      rw [← hy] at hB
      have hV : firstV fo = .tuple #[.agg (ruA y), .bool fo.isSome] := by rw [hy]; rfl
      have HV := Lib.hid hV
      clear hV hy
      generalize fo.isSome = q at HV ⊢
      obtain ⟨id', dv', pr', kd', f', t', pt'⟩ := y
      rw [ruA_mk] at hB
      have Z := At.fill (y := ru0) hA ⟨id', dv', pr', kd', f', t', pt'⟩
      rw [rd0] at hA
      have d0 := (hB.cell 0).trans rfl; have e0 := (hA.cell 0).trans rfl; have z0 := hA.frozen 0; have d1 := (hB.cell 1).trans rfl; have e1 := (hA.cell 1).trans rfl; have z1 := hA.frozen 1; have d2 := (hB.cell 2).trans rfl; have e2 := (hA.cell 2).trans rfl; have z2 := hA.frozen 2; have d3 := (hB.cell 3).trans rfl; have e3 := (hA.cell 3).trans rfl; have z3 := hA.frozen 3; have d4 := (hB.cell 4).trans rfl; have e4 := (hA.cell 4).trans rfl; have z4 := hA.frozen 4; have d5 := (hB.cell 5).trans rfl; have e5 := (hA.cell 5).trans rfl; have z5 := hA.frozen 5; have d6 := (hB.cell 6).trans rfl; have e6 := (hA.cell 6).trans rfl; have z6 := hA.frozen 6
      go_wp2
      refine bodyPost_ret (v := firstV fo) ?_ rfl ⟨rfl, below_fill hb (by omega) ⟨id', dv', pr', kd', f', t', pt'⟩⟩
      unfold fillW ruA at Z
      have y0 := Z.cell 0; have y1 := Z.cell 1; have y2 := Z.cell 2; have y3 := Z.cell 3; have y4 := Z.cell 4; have y5 := Z.cell 5; have y6 := Z.cell 6
      dsimp only at y0 y1 y2 y3 y4 y5 y6
      simp [results, Tryz.results98, go_sem, y0, y1, y2, y3, y4, y5, y6, HV.out, ruA_mk]
end Go.Proofs.YteboadppighplaaGreat
/- Contracts: taking, Match, Denies, Find. -/
namespace Go.Proofs.YteboadppighplaaGreat
open Go.RowKit Go.Shelf

/-- What taking answers. -/
def TakeOut (d one oth : Int) (a : Nat) (w : World) (e : Ending) (w' : World) : Prop := ∃ C0 C1 C2 C3 : Nat, e = .returned (.func (.func 114) #[] #[.pointer (some ⟨C0, 0, none⟩), .pointer (some ⟨C1, 0, none⟩), .pointer (some ⟨C2, 0, none⟩), .pointer (some ⟨C3, 0, none⟩)]) ∧
  At w' C0 #[.int .i64 d] 3 ∧ At w' C1 #[.int .i64 one] 103 ∧ At w' C2 #[.int .i64 oth] 103 ∧ At w' C3 #[.int .u32 a] 41 ∧ Below w.heap.size w w'
theorem taking_any (d one oth : Int) (a : Nat) (w : World) : Calls Tryz.prog 99 #[.int .i64 d, .int .u32 a, .int .i64 one, .int .i64 oth] w (TakeOut d one oth a w) := by
  go_enter Tryz.func99, Tryz.ntmps99
  go_wp2
  go_ret
  refine ⟨w.heap.size, w.heap.size + 1 + 1, w.heap.size + 1 + 1 + 1, w.heap.size + 1, rfl, ?_, ?_, ?_, ?_, ?_⟩
  · exact (((At.new w _ _).alloc _).alloc _).alloc _
  · exact (At.new2 w _ _ _ _).alloc _
  · have := At.new2 (w.alloc (.cells #[.int .i64 d] 3)) (.cells #[.int .u32 a] 41) (.cells #[.int .i64 one] 103) #[.int .i64 oth] 103
    rwa [World.size_alloc] at this
  · exact ((At.new1 w _ _ _).alloc _).alloc _
  · exact ((((Below.refl _ _).alloc (Nat.le_refl _) _).alloc (by simp) _).alloc (by simp; omega) _).alloc (by simp; omega) _

theorem taking_asks {d one oth : Int} {a C0 C1 C2 C3 : Nat} {w : World} (L : List Ru) (h0 : At w C0 #[.int .i64 d] 3) (h1 : At w C1 #[.int .i64 one] 103) (h2 : At w C2 #[.int .i64 oth] 103) (h3 : At w C3 #[.int .u32 a] 41) :
    Asks 114 #[.pointer (some ⟨C0, 0, none⟩), .pointer (some ⟨C1, 0, none⟩), .pointer (some ⟨C2, 0, none⟩), .pointer (some ⟨C3, 0, none⟩)] L (tk d one oth a) w :=
  fun k hk W hb => taking1_any L[k] d one oth a C0 C1 C2 C3 W (h0.belows hb) (h1.belows hb) (h2.belows hb) (h3.belows hb)
theorem enters_taking1 : ∀ args w, (callFunc 114 args).run Tryz.prog w = .ok (.enter 114 args) w := enters_of Tryz.func114 (by kernel_rfl) rfl

set_option maxRecDepth 100000 in
/-- rule.Match. -/
theorem match_any {v : Value} (L : List Ru) (d : Int) (a : Nat) (w : World) (h : IsR w v L) : Calls Tryz.prog 78 #[v, .int .i64 d, .int .u32 a] w fun e w' => e = .returned (firstV (firstL (tk d 0 1 a) L)) ∧ Below w.heap.size w w' := by
  have H := Lib.hid h
  obtain ⟨A1, c1, rfl, n1, m1, z1⟩ := h
  clear z1
  obtain ⟨y, hy⟩ : ∃ y, y = firstL (tk d 0 1 a) L := ⟨_, rfl⟩
  rw [← hy]
  obtain ⟨x, hx⟩ : ∃ x, x = y.getD ru0 := ⟨_, rfl⟩
  have hV : firstV y = .tuple #[.agg (ruA x), .bool y.isSome] := by rw [hx]; rfl
  rw [hV]
  generalize hq : y.isSome = q at hV ⊢
  have HV := Lib.hid hV
  have HY := Lib.hid hy
  clear hV hx hq hy
  obtain ⟨id, dv, pr, kd, f, t, pt⟩ := x
  have Z0 := At.new w (ruA ru0) 105
  have b0 : Below w.heap.size w (w.alloc (.cells (ruA ru0) 105)) := (Below.refl _ _).alloc (Nat.le_refl _) _
  rw [rd0] at Z0 b0
  go_enter Tryz.func78, Tryz.ntmps78
  go_wp2_with (first | (go_at_call 99; refine (taking_any _ _ _ _ _).mono ?_; rintro e w1 ⟨C0, C1, C2, C3, rfl, k0, k1, k2, k3, b1⟩; have Z1 := Z0.belows b1; have H1 : Hid (IsR w1 (.slice A1 L.length c1) L) := Lib.hid ((H.out.belows b0).belows b1); have HK : Hid (Asks 114 #[.pointer (some ⟨C0, 0, none⟩), .pointer (some ⟨C1, 0, none⟩), .pointer (some ⟨C2, 0, none⟩), .pointer (some ⟨C3, 0, none⟩)] L (tk d 0 1 a) w1) := Lib.hid (taking_asks L k0 k1 k2 k3); clear k0 k1 k2 k3) | (go_at_call 98; refine (first_any _ _ enters_taking1 L (tk d 0 1 a) _ HK.out H1.out).mono ?_; rintro e w2 ⟨rfl, b2⟩; rw [← HY.out, HV.out, ruA_mk]; have Z2 := Z1.belows b2; have y0 := (Z2.cell 0).trans rfl; have q0 := Z2.frozen 0; have y1 := (Z2.cell 1).trans rfl; have q1 := Z2.frozen 1; have y2 := (Z2.cell 2).trans rfl; have q2 := Z2.frozen 2; have y3 := (Z2.cell 3).trans rfl; have q3 := Z2.frozen 3; have y4 := (Z2.cell 4).trans rfl; have q4 := Z2.frozen 4; have y5 := (Z2.cell 5).trans rfl; have q5 := Z2.frozen 5; have y6 := (Z2.cell 6).trans rfl; have q6 := Z2.frozen 6))
  have Z := At.fill (y := ru0) Z2 ⟨id, dv, pr, kd, f, t, pt⟩
  unfold fillW ruA at Z
  have y0 := Z.cell 0; have y1 := Z.cell 1; have y2 := Z.cell 2; have y3 := Z.cell 3; have y4 := Z.cell 4; have y5 := Z.cell 5; have y6 := Z.cell 6
  dsimp only at y0 y1 y2 y3 y4 y5 y6
  refine bodyPost_ret (v := .tuple #[.agg (ruA ⟨id, dv, pr, kd, f, t, pt⟩), .bool q]) ?_ rfl ⟨rfl, below_fill ((b0.trans (b1.mono b0.size)).trans (b2.mono (Nat.le_trans b0.size b1.size))) (Nat.le_refl _) ⟨id, dv, pr, kd, f, t, pt⟩⟩
  simp [results, Tryz.results78, go_sem, y0, y1, y2, y3, y4, y5, y6, ruA_mk]

set_option maxRecDepth 100000 in
/-- rule.Denies. -/
theorem denies_any {v : Value} (L : List Ru) (d : Int) (a : Nat) (w : World) (h : IsR w v L) : Calls Tryz.prog 77 #[v, .int .i64 d, .int .u32 a] w fun e w' => e = .returned (.bool ((firstL (tk d 2 3 a) L).isSome && decide (((firstL (tk d 2 3 a) L).getD ru0).kd = 3))) ∧ Below w.heap.size w w' := by
  have H := Lib.hid h
  obtain ⟨A1, c1, rfl, n1, m1, z1⟩ := h
  clear z1
  obtain ⟨y, hy⟩ : ∃ y, y = firstL (tk d 2 3 a) L := ⟨_, rfl⟩
  rw [← hy]
  obtain ⟨x, hx⟩ : ∃ x, x = y.getD ru0 := ⟨_, rfl⟩
  have hV : firstV y = .tuple #[.agg (ruA x), .bool y.isSome] := by rw [hx]; rfl
  rw [← hx]
  generalize hq : y.isSome = q at hV ⊢
  have HV := Lib.hid hV
  have HY := Lib.hid hy
  clear hV hx hq hy
  obtain ⟨id, dv, pr, kd, f, t, pt⟩ := x
  dsimp only
  have hk : (kd == 3) = decide (kd = 3) := rfl
  have fin : ∀ (w1 w2 : World), Below w.heap.size w w1 → Below w1.heap.size w1 w2 → Below w.heap.size w (w2.alloc (.cells (ruA ⟨id, dv, pr, kd, f, t, pt⟩) 105)) := fun w1 w2 b1 b2 => (b1.trans (b2.mono b1.size)).alloc (Nat.le_trans b1.size b2.size) _
  cases q with
  | false =>
    simp only [Bool.false_and]
    go_enter Tryz.func77, Tryz.ntmps77
    go_wp2_with (first | (go_at_call 99; refine (taking_any _ _ _ _ _).mono ?_; rintro e w1 ⟨C0, C1, C2, C3, rfl, k0, k1, k2, k3, b1⟩; have H1 : Hid (IsR w1 (.slice A1 L.length c1) L) := Lib.hid (H.out.belows b1); have HK : Hid (Asks 114 #[.pointer (some ⟨C0, 0, none⟩), .pointer (some ⟨C1, 0, none⟩), .pointer (some ⟨C2, 0, none⟩), .pointer (some ⟨C3, 0, none⟩)] L (tk d 2 3 a) w1) := Lib.hid (taking_asks L k0 k1 k2 k3); clear k0 k1 k2 k3) | (go_at_call 98; refine (first_any _ _ enters_taking1 L (tk d 2 3 a) _ HK.out H1.out).mono ?_; rintro e w2 ⟨rfl, b2⟩; rw [← HY.out, HV.out, ruA_mk]))
    go_ret
    exact ⟨rfl, fin w1 w2 b1 b2⟩
  | true =>
    simp only [Bool.true_and]
    go_enter Tryz.func77, Tryz.ntmps77
    go_wp2_with (first | (go_at_call 99; refine (taking_any _ _ _ _ _).mono ?_; rintro e w1 ⟨C0, C1, C2, C3, rfl, k0, k1, k2, k3, b1⟩; have H1 : Hid (IsR w1 (.slice A1 L.length c1) L) := Lib.hid (H.out.belows b1); have HK : Hid (Asks 114 #[.pointer (some ⟨C0, 0, none⟩), .pointer (some ⟨C1, 0, none⟩), .pointer (some ⟨C2, 0, none⟩), .pointer (some ⟨C3, 0, none⟩)] L (tk d 2 3 a) w1) := Lib.hid (taking_asks L k0 k1 k2 k3); clear k0 k1 k2 k3) | (go_at_call 98; refine (first_any _ _ enters_taking1 L (tk d 2 3 a) _ HK.out H1.out).mono ?_; rintro e w2 ⟨rfl, b2⟩; rw [← HY.out, HV.out, ruA_mk]))
    go_ret
    exact ⟨rfl, fin w1 w2 b1 b2⟩

end Go.Proofs.YteboadppighplaaGreat
/- Contracts: rule.within, rule.Right. -/
namespace Go.Proofs.YteboadppighplaaGreat
open Go.RowKit Go.Shelf

end Go.Proofs.YteboadppighplaaGreat
/- Contracts: slices.IndexFunc, ContainsFunc of rules, at a predicate with a state. -/
namespace Go.Proofs.YteboadppighplaaGreat
open Go.RowKit Go.Shelf

/-- What is asked of a predicate at each rule of a list: its answer, and its state behind it. -/
def Steps (g : Nat) (lb : Array Value) (L : List Ru) (p : Nat → Bool) (I : Nat → World → Prop) (B : Nat) : Prop :=
  ∀ k (hk : k < L.length) W, I k W → Calls Tryz.prog g (#[.agg (ruA L[k])] ++ lb) W fun e W' => e = .returned (.bool (p k)) ∧ I (k + 1) W' ∧ Below B W W'
/-- What a search answers. -/
def Found (n : Nat) (p : Nat → Bool) (r : Int) : Prop := (r = -1 ∧ ∀ j, j < n → p j = false) ∨ ∃ k : Nat, k < n ∧ r = k ∧ p k = true
end Go.Proofs.YteboadppighplaaGreat
/- Contracts: rule.All. -/
namespace Go.Proofs.YteboadppighplaaGreat
open Go.RowKit Go.Shelf

end Go.Proofs.YteboadppighplaaGreat
/- Maps in memory as functions: a block that is a map, its keys values of a type of ours, its elements any values. Over any program. -/
namespace Go.Proofs.YteboadppighplaaGreat
open Go.RowKit Go.Maps

/-- An element as it stands. -/
def rdV (v : Value) : Option (DataW Value × List MemPlace) := some (.held v, [])
section
variable {κ : Type} {P : Program} {k : TypeId} {kv : κ → Value} {ok : κ → Prop}
/-- Block b is a map of s entries (at most n); of the keys that are ok it tells M. -/
def MapAt (P : Program) (k : TypeId) (kv : κ → Value) (ok : κ → Prop) (w : World) (b n s : Nat) (M : κ → Option Value) : Prop :=
  ∃ D : DataW Value, w.ownsMap P k rdV b n D ∧ Maps.size D = s ∧ ∀ x, ok x → ∀ kl, keyOf P k (kv x) = some kl → has D kl = (M x).isSome ∧ ∀ z, D.atKey kl z = ((M x).map DataW.held).getD z
theorem MapAt.made (w : World) : MapAt P k kv ok (w.alloc (.map #[] 0)) w.heap.size 0 0 (fun _ => none) :=
  ⟨.map [], World.ownsMap_made w P k rdV, rfl, fun _ _ _ _ => ⟨rfl, fun _ => rfl⟩⟩
theorem MapAt.heap {w w' : World} {b n s : Nat} {M : κ → Option Value} (h : MapAt P k kv ok w b n s M) (he : w'.heap[b]? = w.heap[b]?) : MapAt P k kv ok w' b n s M := by
  obtain ⟨D, ⟨es, clock, hb, r⟩, h2⟩ := h
  exact ⟨D, ⟨es, clock, he.trans hb, r⟩, h2⟩
theorem MapAt.lt {w : World} {b n s : Nat} {M : κ → Option Value} (h : MapAt P k kv ok w b n s M) : b < w.heap.size := by
  obtain ⟨D, h, _⟩ := h
  exact h.lt
theorem MapAt.belows {w w' : World} {b n s : Nat} {M : κ → Option Value} (h : MapAt P k kv ok w b n s M) (hb : Below w.heap.size w w') : MapAt P k kv ok w' b n s M := h.heap (hb.block b h.lt)
theorem MapAt.same {w : World} {b n s : Nat} {M M' : κ → Option Value} (h : MapAt P k kv ok w b n s M) (he : ∀ x, ok x → M x = M' x) : MapAt P k kv ok w b n s M' := by
  obtain ⟨D, h1, hs, h2⟩ := h
  exact ⟨D, h1, hs, fun x hx kl hk => by rw [← he x hx]; exact h2 x hx kl hk⟩
theorem held_of {o : Option Value} {v z : Value} (h : DataW.held v = (o.map DataW.held).getD (DataW.held z)) : v = o.getD z := by
  cases o with
  | none => injection h
  | some u => injection h
/-- A look-up with 'ok'. -/
theorem MapAt.look_ok {w : World} {b n s : Nat} {M : κ → Option Value} (h : MapAt P k kv ok w b n s M) (K : Keyed P k) {t e : TypeId} (ht : P.underlying t = some (.map k e)) {z : Value} (hz : (zeroValue e).run P w = .ok z w) {x : κ} (hx : ok x) {kl : Lit} (hk : keyOf P k (kv x) = some kl) :
    (Instr.lookup t (.map (some b)) (kv x) true).run P w = .ok (.tuple #[(M x).getD z, .bool (M x).isSome]) w := by
  obtain ⟨D, h1, _, h2⟩ := h
  obtain ⟨a1, a2⟩ := h2 x hx kl hk
  obtain ⟨v, ps, hrun, hv⟩ := h1.look_ok K ht hz (zd := .held z) (zp := []) rfl hk
  unfold rdV at hv
  injection hv with hv
  injection hv with hv _
  rw [a2] at hv
  rw [hrun, a1, held_of hv]
/-- A look-up without. -/
theorem MapAt.look {w : World} {b n s : Nat} {M : κ → Option Value} (h : MapAt P k kv ok w b n s M) (K : Keyed P k) {t e : TypeId} (ht : P.underlying t = some (.map k e)) {z : Value} (hz : (zeroValue e).run P w = .ok z w) {x : κ} (hx : ok x) {kl : Lit} (hk : keyOf P k (kv x) = some kl) :
    (Instr.lookup t (.map (some b)) (kv x) false).run P w = .ok ((M x).getD z) w := by
  obtain ⟨D, h1, _, h2⟩ := h
  obtain ⟨a1, a2⟩ := h2 x hx kl hk
  obtain ⟨v, ps, hrun, hv⟩ := h1.lookup K ht hz (zd := .held z) (zp := []) rfl hk
  unfold rdV at hv
  injection hv with hv
  injection hv with hv _
  rw [a2] at hv
  rw [hrun, held_of hv]
/-- A store. -/
theorem MapAt.put [DecidableEq κ] {w : World} {b n s : Nat} {M : κ → Option Value} (h : MapAt P k kv ok w b n s M) (K : Keyed P k) (hinj : ∀ x y, kv x = kv y → x = y) {t e : TypeId} (ht : P.underlying t = some (.map k e)) (hn : n < maxLen) {x : κ} (hx : ok x) {kl : Lit} (hk : keyOf P k (kv x) = some kl) (v : Value) :
    ∃ w', (Instr.mapUpdate t (.map (some b)) (kv x) v).run P w = .ok () w' ∧ MapAt P k kv ok w' b (n + 1) (if (M x).isSome then s else s + 1) (fun y => if y = x then some v else M y) ∧ w.grownBy w' (some b) := by
  obtain ⟨D, h1, hs, h2⟩ := h
  obtain ⟨w', hrun, r1, r2⟩ := h1.update K ht hn hk (val := v) (d := .held v) (ps := []) rfl
  refine ⟨w', hrun, ⟨_, r1, ?_, fun y hy kl' hk' => ?_⟩, r2⟩
  · rw [size_put (h1.tidy K), (h2 x hx kl hk).1, hs]
  by_cases hyx : y = x
  · subst hyx
    obtain rfl : kl' = kl := Option.some.inj (hk'.symm.trans hk)
    refine ⟨?_, fun z => ?_⟩
    · rw [has_put_same h1.isMap (K.key hk)]; simp
    · rw [atKey_put_same h1.isMap (K.key hk)]; simp
  · have hne : kl' ≠ kl := fun e => hyx (hinj _ _ (K.inj (hk'.trans (congrArg some e)) hk))
    obtain ⟨a1, a2⟩ := h2 y hy kl' hk'
    refine ⟨?_, fun z => ?_⟩
    · rw [has_put_other hne, a1]; simp only [if_neg hyx]
    · rw [atKey_put_other hne, a2]; simp only [if_neg hyx]
section
variable {w : World} {ops : Array Oper} {rest : List Oper} {o : Oper} {a : Act} {Q : Exit → Act → World → Prop}
theorem wpList_map_look_ok {b n s : Nat} {M : κ → Option Value} (hg : o.guard = none) (m x : Operand) (t : TypeId) (hop : o.op = Op.lookup t m x true) (e : TypeId) (K : Keyed P k) (ht : P.underlying t = some (.map k e)) {z : Value} (hz : (zeroValue e).run P w = .ok z w)
    (hm : a.eval m = .map (some b)) (h : MapAt P k kv ok w b n s M) (y : κ) (hy : ok y) (hx : a.eval x = kv y) {kl : Lit} (hk : keyOf P k (kv y) = some kl)
    (hK : wpList P ops Q rest (a.put o.dst (.tuple #[(M y).getD z, .bool (M y).isSome])) w) : wpList P ops Q (o :: rest) a w := by
  refine wpList_plain hg fun K' hK' => ?_
  have hrun := h.look_ok K ht hz hy hk
  unfold Oper.wp
  simp [execOp, hop, hm, hx, hrun, Result.andThen]
  exact hK' _ _ hK
theorem wpList_map_look {b n s : Nat} {M : κ → Option Value} (hg : o.guard = none) (m x : Operand) (t : TypeId) (hop : o.op = Op.lookup t m x false) (e : TypeId) (K : Keyed P k) (ht : P.underlying t = some (.map k e)) {z : Value} (hz : (zeroValue e).run P w = .ok z w)
    (hm : a.eval m = .map (some b)) (h : MapAt P k kv ok w b n s M) (y : κ) (hy : ok y) (hx : a.eval x = kv y) {kl : Lit} (hk : keyOf P k (kv y) = some kl)
    (hK : wpList P ops Q rest (a.put o.dst ((M y).getD z)) w) : wpList P ops Q (o :: rest) a w := by
  refine wpList_plain hg fun K' hK' => ?_
  have hrun := h.look K ht hz hy hk
  unfold Oper.wp
  simp [execOp, hop, hm, hx, hrun, Result.andThen]
  exact hK' _ _ hK
theorem wpList_map_put [DecidableEq κ] {b n s : Nat} {M : κ → Option Value} (hg : o.guard = none) (m x u : Operand) (t : TypeId) (hop : o.op = Op.mapUpdate t m x u) (e : TypeId) (K : Keyed P k) (hinj : ∀ x y, kv x = kv y → x = y) (ht : P.underlying t = some (.map k e)) (hn : n < maxLen)
    (hm : a.eval m = .map (some b)) (h : MapAt P k kv ok w b n s M) (y : κ) (hy : ok y) (v : Value) (hx : a.eval x = kv y) (hu : a.eval u = v) {kl : Lit} (hk : keyOf P k (kv y) = some kl)
    (hK : ∀ w', MapAt P k kv ok w' b (n + 1) (if (M y).isSome then s else s + 1) (fun y' => if y' = y then some v else M y') → w.grownBy w' (some b) → wpList P ops Q rest (a.put o.dst undef) w') : wpList P ops Q (o :: rest) a w := by
  refine wpList_plain hg fun K' hK' => ?_
  obtain ⟨w', hrun, r1, r2⟩ := h.put K hinj ht hn hy hk v
  unfold Oper.wp
  simp [execOp, hop, hm, hx, hu, hrun, Result.andThen]
  exact hK' _ _ (hK w' r1 r2)
/-- A store, as a step of a region that draws. -/
theorem step_map_put [DecidableEq κ] {E : Prop} {K' : Act → World → Prop} {b n s : Nat} {M : κ → Option Value} (hg : o.guard = none) (m x u : Operand) (t : TypeId) (hop : o.op = Op.mapUpdate t m x u) (e : TypeId) (K : Keyed P k) (hinj : ∀ x y, kv x = kv y → x = y) (ht : P.underlying t = some (.map k e)) (hn : n < maxLen)
    (hm : a.eval m = .map (some b)) (h : MapAt P k kv ok w b n s M) (y : κ) (hy : ok y) (v : Value) (hx : a.eval x = kv y) (hu : a.eval u = v) {kl : Lit} (hk : keyOf P k (kv y) = some kl)
    (hK : ∀ w', MapAt P k kv ok w' b (n + 1) (if (M y).isSome then s else s + 1) (fun y' => if y' = y then some v else M y') → w.grownBy w' (some b) → K' (a.put o.dst undef) w') : if Region.wanted o (yielded ops a.tmps) = true then Oper.wp P o a w K' Q else E := by
  rw [if_pos (by simp [Region.wanted, hg])]
  obtain ⟨w', hrun, r1, r2⟩ := h.put K hinj ht hn hy hk v
  unfold Oper.wp
  simp [execOp, hop, hm, hx, hu, hrun, Result.andThen]
  exact hK w' r1 r2
/-- Its length. -/
theorem wpList_map_len {b n s : Nat} {M : κ → Option Value} (hg : o.guard = none) (m : Operand) (t : TypeId) (hop : o.op = Op.call { callee := Callee.builtin Builtin.len, args := #[m], argTypes := #[t] }) (e : TypeId) (ht : P.underlying t = some (.map k e))
    (hm : a.eval m = .map (some b)) (h : MapAt P k kv ok w b n s M) (hK : wpList P ops Q rest (a.put o.dst (.int .i64 s)) w) : wpList P ops Q (o :: rest) a w := by
  obtain ⟨D, h1, rfl, _⟩ := h
  exact wpList_len_own w hg m t hop k e ht _ b n D hm h1 hK
theorem MapAt.run_len {b n s : Nat} {M : κ → Option Value} (h : MapAt P k kv ok w b n s M) {t e : TypeId} (ht : P.underlying t = some (.map k e)) (ty : TypeId) : (Builtin.len_ #[t] ty #[.map (some b)]).run P w = .ok (.int .i64 s) w := by
  obtain ⟨D, h1, rfl, _⟩ := h
  exact h1.len ht ty
end
end
end Go.Proofs.YteboadppighplaaGreat
/- Ports as keys of maps. -/
namespace Go.Proofs.YteboadppighplaaGreat
open Go.RowKit Go.Maps

theorem laidOutK : laidOutB Tryz.prog = true := by kernel_rfl
theorem rowPt : decide (55 < Tryz.prog.types.size) = true := by kernel_rfl
theorem row3 : decide (3 < Tryz.prog.types.size) = true := by kernel_rfl
theorem keyedPt : Keyed Tryz.prog 55 := Keyed.of_law (deep_law_laid laidOutK (m := 3) (by decide) (of_decide_eq_true rowPt) (by kernel_rfl) (by kernel_rfl))
theorem keyPt (p : Pt) (h : isPt p) : ∃ kl, keyOf Tryz.prog 55 (.agg (ptA p)) = some kl := by
  have hk : Tryz.prog.keyType 55 = true := by kernel_rfl
  have hc : Tryz.prog.cellsOf 55 = 2 := by kernel_rfl
  have hc3 : Tryz.prog.cellsOf 3 = 1 := by kernel_rfl
  have h0 : 3 < Tryz.prog.types.size := of_decide_eq_true row3
  obtain ⟨m, hm⟩ : ∃ m, Tryz.prog.types.size = m + 1 := ⟨Tryz.prog.types.size - 1, by omega⟩
  obtain ⟨⟨h1, h2⟩, ⟨h3, h4⟩⟩ := h
  have w1 : (Lit.int .i64 p.d).wf = true := by simp [Lit.wf, IntKind.min, IntKind.max, IntKind.signed, IntKind.bits]; omega
  have w2 : (Lit.int .i64 p.p).wf = true := by simp [Lit.wf, IntKind.min, IntKind.max, IntKind.signed, IntKind.bits]; omega
  unfold keyOf
  rw [Tryz.underlying55]
  simp only [hk, Value.formed, Tryz.underlying55, hc, hm]
  simp [Program.keyLits, Tryz.underlying55, hc, hc3, Tryz.underlying3, Value.cells, ptA, w1, w2]
theorem pt_inj (p q : Pt) (h : Value.agg (ptA p) = Value.agg (ptA q)) : p = q := by
  obtain ⟨a, b⟩ := p
  obtain ⟨c, d⟩ := q
  injection h with h
  simp only [ptA, Array.mk.injEq, List.cons.injEq, Value.int.injEq] at h
  obtain ⟨⟨_, rfl⟩, ⟨_, rfl⟩, _⟩ := h
  rfl
end Go.Proofs.YteboadppighplaaGreat
/- Plain mathematics: who is joined, by a map that is filled link by link; how many ports stand in it. -/
namespace Go.Proofs.YteboadppighplaaGreat

/-- A map with one more. -/
def setM (M : Pt → Option Pt) (x v : Pt) : Pt → Option Pt := fun y => if y = x then some v else M y
def stepM (M : Pt → Option Pt) (l : Lk) : Pt → Option Pt := setM (setM M l.a l.b) l.b l.a
/-- The map of links. -/
def mapL (ls : List Lk) : Pt → Option Pt := ls.foldl stepM fun _ => none
theorem mapL_snoc (ls : List Lk) (k : Nat) (hk : k < ls.length) : mapL (ls.take (k + 1)) = setM (setM (mapL (ls.take k)) ls[k].a ls[k].b) ls[k].b ls[k].a := by
  unfold mapL; rw [List.take_succ_eq_append_getElem hk, List.foldl_append]; rfl
theorem mapL_app (ls : List Lk) (l : Lk) : mapL (ls ++ [l]) = stepM (mapL ls) l := by
  unfold mapL; rw [List.foldl_append]; rfl
theorem mapL_some : ∀ (ls : List Lk) (p : Pt), ((mapL ls p).isSome = true ↔ p ∈ ends ls) ∧ ∀ q, mapL ls p = some q → ∃ l ∈ ls, (l.a = p ∧ l.b = q) ∨ (l.b = p ∧ l.a = q) := by
  intro ls
  induction hn : ls.length generalizing ls with
  | zero =>
    obtain rfl := List.eq_nil_of_length_eq_zero hn
    intro p
    simp [mapL, ends]
  | succ n ih =>
    obtain ⟨r, l, rfl⟩ : ∃ r l, ls = r ++ [l] := ⟨ls.dropLast, ls.getLast (by intro e; rw [e] at hn; simp at hn), (List.dropLast_concat_getLast _).symm⟩
    intro p
    obtain ⟨h1, h2⟩ := ih r (by simpa using hn) p
    rw [mapL_app, ends_append]
    have e2 : ends [l] = [l.a, l.b] := rfl
    rw [e2]
    unfold stepM setM
    by_cases hb : p = l.b
    · rw [if_pos hb]
      refine ⟨by simp [hb], fun q hq => ?_⟩
      injection hq with hq
      exact ⟨l, by simp, .inr ⟨hb.symm, hq⟩⟩
    · rw [if_neg hb]
      by_cases ha : p = l.a
      · rw [if_pos ha]
        refine ⟨by simp [ha], fun q hq => ?_⟩
        injection hq with hq
        exact ⟨l, by simp, .inl ⟨ha.symm, hq⟩⟩
      · rw [if_neg ha]
        refine ⟨by rw [h1]; simp [ha, hb], fun q hq => ?_⟩
        obtain ⟨m, hm, hh⟩ := h2 q hq
        exact ⟨m, by simp [hm], hh⟩
/-- Where no port is in two links, the map tells who is joined. -/
theorem mapL_next {ls : List Lk} (hn : (ends ls).Nodup) (p : Pt) : mapL ls p = nextT ls p := by
  obtain ⟨h1, h2⟩ := mapL_some ls p
  cases h : mapL ls p with
  | none =>
    rw [h] at h1
    symm
    rw [nextT_none]
    intro hm
    have := h1.2 hm
    cases this
  | some q => exact (nextT_of hn (h2 q h)).symm
/-- How many there are, each once: of the last one first. -/
def dcnt : List Pt → Nat
  | [] => 0
  | x :: r => if x ∈ r then dcnt r else dcnt r + 1
theorem dcnt_cons (x : Pt) (r : List Pt) : dcnt (x :: r) = if x ∈ r then dcnt r else dcnt r + 1 := rfl
theorem dcnt_le : ∀ l : List Pt, dcnt l ≤ l.length
  | [] => Nat.le_refl _
  | x :: r => by
    have := dcnt_le r
    rw [dcnt_cons, List.length_cons]
    split <;> omega
theorem dcnt_nodup : ∀ l : List Pt, dcnt l = l.length ↔ l.Nodup
  | [] => by simp [dcnt]
  | x :: r => by
    have h1 := dcnt_le r
    have h2 := dcnt_nodup r
    rw [List.nodup_cons, ← h2]
    rw [dcnt_cons, List.length_cons]
    by_cases h : x ∈ r
    · rw [if_pos h]
      constructor
      · intro e; omega
      · intro e; exact absurd h e.1
    · rw [if_neg h]
      constructor
      · intro e; exact ⟨h, by omega⟩
      · intro e; omega
/-- How many ports stand in the links, each once. -/
def cntL (ls : List Lk) : Nat := dcnt (ends ls).reverse
theorem cntL_zero : cntL [] = 0 := rfl
theorem cntL_snoc (ls : List Lk) (k : Nat) (hk : k < ls.length) :
    cntL (ls.take (k + 1)) = if (setM (mapL (ls.take k)) ls[k].a ls[k].b ls[k].b).isSome then (if (mapL (ls.take k) ls[k].a).isSome then cntL (ls.take k) else cntL (ls.take k) + 1) else (if (mapL (ls.take k) ls[k].a).isSome then cntL (ls.take k) else cntL (ls.take k) + 1) + 1 := by
  have e : (ends (ls.take (k + 1))).reverse = ls[k].b :: ls[k].a :: (ends (ls.take k)).reverse := by
    rw [List.take_succ_eq_append_getElem hk, ends_append]
    simp [ends]
  unfold cntL
  rw [e]
  have h1 := (mapL_some (ls.take k) ls[k].a).1
  have h2 := (mapL_some (ls.take k) ls[k].b).1
  have e1 : dcnt (ls[k].a :: (ends (ls.take k)).reverse) = if (mapL (ls.take k) ls[k].a).isSome then dcnt (ends (ls.take k)).reverse else dcnt (ends (ls.take k)).reverse + 1 := by
    show (if ls[k].a ∈ (ends (ls.take k)).reverse then _ else _) = _
    by_cases h : ls[k].a ∈ ends (ls.take k)
    · rw [if_pos (List.mem_reverse.2 h), if_pos (h1.2 h)]
    · rw [if_neg (fun hh => h (List.mem_reverse.1 hh)), if_neg (fun hh => h (h1.1 hh))]
  have e2 : (setM (mapL (ls.take k)) ls[k].a ls[k].b ls[k].b).isSome = true ↔ ls[k].b ∈ ls[k].a :: (ends (ls.take k)).reverse := by
    unfold setM
    by_cases h : ls[k].b = ls[k].a
    · rw [if_pos h]; simp [h]
    · rw [if_neg h, h2]; simp [h]
  show (if ls[k].b ∈ ls[k].a :: (ends (ls.take k)).reverse then _ else _) = _
  rw [e1]
  by_cases h : ls[k].b ∈ ls[k].a :: (ends (ls.take k)).reverse
  · rw [if_pos h, if_pos (e2.2 h)]
  · rw [if_neg h, if_neg (fun hh => h (e2.1 hh))]
theorem cntL_le (ls : List Lk) : cntL ls ≤ 2 * ls.length := by
  have := dcnt_le (ends ls).reverse
  rw [List.length_reverse, ends_length] at this
  exact this
theorem cntL_nodup (ls : List Lk) : cntL ls = 2 * ls.length ↔ (ends ls).Nodup := by
  have := dcnt_nodup (ends ls).reverse
  rw [List.length_reverse, ends_length] at this
  unfold cntL
  rw [this, List.nodup_iff_pairwise_ne, List.nodup_iff_pairwise_ne, List.pairwise_reverse]
  constructor <;> intro h <;> exact h.imp fun hab => Ne.symm hab
end Go.Proofs.YteboadppighplaaGreat
/- Contracts: joined: the ports that are in links, as a map. -/
namespace Go.Proofs.YteboadppighplaaGreat
open Go.RowKit Go.Shelf Go.Maps

def ptV (p : Pt) : Value := .agg (ptA p)
theorem zPt (w : World) : (zeroValue 55).run Tryz.prog w = .ok (ptV ⟨0, 0⟩) w := by kernel_rfl
theorem ptV_inj (x y : Pt) (h : ptV x = ptV y) : x = y := pt_inj x y h
/-- A map from ports to ports. -/
def JMap (w : World) (b n s : Nat) (M : Pt → Option Pt) : Prop := MapAt Tryz.prog 55 ptV isPt w b n s fun y => (M y).map ptV
theorem JMap.belows {w w' : World} {b n s : Nat} {M : Pt → Option Pt} (h : JMap w b n s M) (hb : Below w.heap.size w w') : JMap w' b n s M := MapAt.belows h hb
theorem JMap.lt {w : World} {b n s : Nat} {M : Pt → Option Pt} (h : JMap w b n s M) : b < w.heap.size := MapAt.lt h
theorem JMap.of_put {w : World} {b n s : Nat} {M : Pt → Option Pt} {x v : Pt} (h : MapAt Tryz.prog 55 ptV isPt w b n (if ((M x).map ptV).isSome then s else s + 1) fun y => if y = x then some (ptV v) else (M y).map ptV) : JMap w b n (if (M x).isSome then s else s + 1) (setM M x v) := by
  rw [Option.isSome_map] at h
  have e : (fun y => (setM M x v y).map ptV) = fun y => if y = x then some (ptV v) else (M y).map ptV := by
    funext y
    unfold setM
    split <;> rfl
  unfold JMap
  rw [e]
  exact h
theorem run_makeMap_of {t k e : TypeId} (ht : Tryz.prog.underlying t = some (.map k e)) (n : Int) (w : World) : (Instr.makeMap t (some (.int .i64 n))).run Tryz.prog w = .ok (.map (some w.heap.size)) (w.alloc (.map #[] 0)) := by
  simp [Instr.makeMap, run_underlying ht, go_sem]
/-- What joined answers. -/
def JOut (ls : List Lk) (w : World) (e : Ending) (w' : World) : Prop := ∃ b, e = .returned (.map (some b)) ∧ w.heap.size ≤ b ∧ JMap w' b (2 * ls.length) (cntL ls) (mapL ls) ∧ Below w.heap.size w w'
/-- Where the loop stands. -/
def JI (ls : List Lk) (w0 : World) (b k : Nat) (W : World) : Prop := JMap W b (2 * k) (cntL (ls.take k)) (mapL (ls.take k)) ∧ Below b w0 W
end Go.Proofs.YteboadppighplaaGreat
/- Contracts: the program's below, hasDevice, Has. -/
namespace Go.Proofs.YteboadppighplaaGreat
open Go.RowKit Go.Shelf

/-- Is there such a device? -/
def devT (ps : List Int) (d : Int) : Bool := decide (0 ≤ d) && decide (d < (ps.length : Int))
end Go.Proofs.YteboadppighplaaGreat
/- Contracts: the program's Right. -/
namespace Go.Proofs.YteboadppighplaaGreat
open Go.RowKit Go.Shelf Go.Maps

theorem right_fin {ps : List Int} {ls : List Lk} (h1 : 1 ≤ ps.length) (h2 : ps.length ≤ 8) (h3 : ls.length ≤ 16) (hp : ∀ k (hk : k < ps.length), 1 ≤ ps[k] ∧ ps[k] ≤ 4)
    (hh : ∀ k (hk : k < ls.length), hasT ps ls[k].a = true ∧ hasT ps ls[k].b = true) : rightT ps ls = decide ((cntL ls : Int) = 2 * (ls.length : Int)) := by
  have hn := cntL_nodup ls
  cases hr : rightT ps ls with
  | true =>
    have := hn.2 ((rightT_iff _ _).1 hr).nodup
    symm
    rw [decide_eq_true_eq]
    omega
  | false =>
    symm
    rw [decide_eq_false_iff_not]
    intro e
    have hnd := hn.1 (by omega)
    have : rightT ps ls = true := by
      rw [rightT_iff]
      refine ⟨h1, h2, h3, fun x hx => ?_, fun p hp' => ?_, hnd⟩
      · obtain ⟨k, hk, rfl⟩ := List.getElem_of_mem hx; exact hp k hk
      · obtain ⟨l, hl, hh'⟩ := mem_ends.1 hp'
        obtain ⟨k, hk, rfl⟩ := List.getElem_of_mem hl
        rcases hh' with rfl | rfl
        · exact (hh k hk).1
        · exact (hh k hk).2
    rw [this] at hr; cases hr
theorem right_no5 {ps : List Int} {ls : List Lk} (k : Nat) (hk : k < ls.length) (h : hasT ps ls[k].a = false ∨ hasT ps ls[k].b = false) : rightT ps ls = false := by
  cases hr : rightT ps ls with
  | false => rfl
  | true =>
    have hR := (rightT_iff _ _).1 hr
    have h1 := hR.has _ (mem_ends.2 ⟨_, List.getElem_mem hk, .inl rfl⟩)
    have h2 := hR.has _ (mem_ends.2 ⟨_, List.getElem_mem hk, .inr rfl⟩)
    rw [h1, h2] at h
    rcases h with h | h <;> cases h
end Go.Proofs.YteboadppighplaaGreat
/- Contracts: the program's Fits. -/
namespace Go.Proofs.YteboadppighplaaGreat
open Go.RowKit Go.Shelf

/-- Does one rule fit, as the program asks? -/
def fitsR (ps : List Int) (r : Ru) : Bool := if r.kd = 0 then hasT ps ⟨r.dv, r.pt⟩ else devT ps r.dv
theorem fitsR_right {ps : List Int} {ls : List Lk} (hR : RT ps ls) {r : Ru} (hr : ruB r = true) : fitsR ps r = hasT ps ⟨r.dv, r.pt⟩ := by
  unfold fitsR
  by_cases h : r.kd = 0
  · rw [if_pos h]
  · rw [if_neg h]
    obtain ⟨_, _, _, _, _, _, _, _, h9⟩ := (ruB_iff r).1 hr
    have h0 := h9.resolve_left h
    unfold devT hasT
    by_cases h1 : 0 ≤ r.dv
    · by_cases h2 : r.dv < (ps.length : Int)
      · have hp := hR.ports (ps[r.dv.toNat]'(by omega)) (List.getElem_mem _)
        rw [h0]
        dsimp only
        rw [List.getElem?_eq_getElem (by omega)]
        simp [h1, h2]
        omega
      · simp [h2]
    · simp [h1]
theorem allB_right {L : List Ru} (h : allB L = true) : ∀ r ∈ L, ruB r = true := by
  intro r hr
  obtain ⟨k, hk, rfl⟩ := List.getElem_of_mem hr
  exact (((allB_iff L).1 h).2 k hk).1
end Go.Proofs.YteboadppighplaaGreat
/- Contracts: slices.Equal of numbers, of links; the program's Same. -/
namespace Go.Proofs.YteboadppighplaaGreat
open Go.RowKit Go.Shelf

set_option maxRecDepth 100000 in
set_option maxHeartbeats 1000000 in
/-- slices.Equal of numbers. -/
theorem eqInts_any {v1 v2 : Value} (L M : List Int) (w : World) (h1 : IsF 1 intA w v1 L) (h2 : IsF 1 intA w v2 M) : Calls Tryz.prog 58 #[v1, v2] w fun e w' => e = .returned (.bool (decide (L = M))) ∧ Below w.heap.size w w' := by
  obtain ⟨A1, c1, rfl, n1, m1, z1⟩ := h1
  obtain ⟨A2, c2, rfl, n2, m2, z2⟩ := h2
  have hL : L.length ≤ 9223372036854775807 := Nat.le_trans n1 m1
  have hM : M.length ≤ 9223372036854775807 := Nat.le_trans n2 m2
  have H1 := Lib.hid z1
  have H2 := Lib.hid z2
  obtain ⟨q, hq⟩ : ∃ q, q = decide (L = M) := ⟨_, rfl⟩
  rw [← hq]
  have HQ := Lib.hid hq
  clear z1 z2 hq
  by_cases hlen : L.length = M.length
  · have hln : ((L.length : Int) == (M.length : Int)) = true := by simp [hlen]
    have hlm : decide ((L.length : Int) = (M.length : Int)) = true := by simp [hlen]
    have HE := Lib.hid hlen
    clear hlen
    go_enter Tryz.func58, Tryz.ntmps58
    go_wp2
    go_loopw [13] (fun i wr => ∃ k : Nat, i = .int .i64 k ∧ k ≤ L.length ∧ Hid (∀ j (h1 : j < L.length) (h2 : j < M.length), j < k → L[j] = M[j]) ∧ ∃ q, wr = w.drewN q) (fun i _ => L.length - (intOf i).toNat)
    case atStart => exact ⟨0, rfl, by omega, Lib.hid (fun j _ _ hj => by omega), 0, rfl⟩
    case round =>
      obtain ⟨k, rfl, hk, HK, nd, rfl⟩ := hrel
      by_cases hlt : k < L.length
      · have hlt2 : k < M.length := by have := HE.out; omega
        obtain ⟨g1, o1, e1, _, r⟩ := H1.out.at k hlt
        obtain ⟨g2, o2, e2, _, s⟩ := H2.out.at k hlt2
        subst e1 e2
        have r0 : w.cell? ⟨g1, o1 + k, none⟩ = some (.int .i64 L[k]) := by have := r 0 (by decide); simpa [intA] using this
        have s0 : w.cell? ⟨g2, o2 + k, none⟩ = some (.int .i64 M[k]) := by have := s 0 (by decide); simpa [intA] using this
        have HX : Hid (L[k] = M[k] → ∀ j (h1 : j < L.length) (h2 : j < M.length), j < k + 1 → L[j] = M[j]) := Lib.hid fun e j h1 h2 hj => by
          by_cases hjk : j = k
          · subst hjk; exact e
          · exact HK.out j h1 h2 (by omega)
        have HY : Hid (L[k] ≠ M[k] → q = false) := Lib.hid fun e => by
          rw [HQ.out]; apply decide_eq_false; intro h; subst h; exact e rfl
        clear r s
        generalize L[k] = x at r0 HX HY
        generalize M[k] = y at s0 HX HY
        have i0 : (0 : Int) ≤ (k : Int) := by omega
        have i1 : (k : Int) < (L.length : Int) := by omega
        have i2 : (k : Int) < (M.length : Int) := by omega
        clear hlt2
        by_cases hxy : x = y
        · have HZ := Lib.hid (HX.out hxy)
          clear HX HY
          subst hxy
          have s0' := s0
          clear s0
          go_wp2_with fail
          go_quiet (fail)
          go_wp2
          go_roundw
          case rel => exact ⟨k + 1, by go_num, by omega, HZ, nd + nq, rfl⟩
          case measure => simp [intOf]; omega
        · have hqf := HY.out hxy
          have hb1 : (x == y) = false := by simp [hxy]
          have hb2 : decide (x = y) = false := by simp [hxy]
          clear HX HY hxy
          subst hqf
          go_wp2_with fail
          go_quiet (fail)
          go_wp2
          go_ret
          exact ⟨rfl, bdrewN (bdrewN (Below.refl _ _) _) _⟩
      · have hqt : q = true := by
          rw [HQ.out]; apply decide_eq_true
          exact List.ext_getElem HE.out fun j h1 h2 => HK.out j h1 h2 (by omega)
        have hki : ¬ (k : Int) < (L.length : Int) := by omega
        subst hqt
        go_wp2
        go_ret
        exact ⟨rfl, bdrewN (Below.refl _ _) _⟩
  · have hln : ((L.length : Int) == (M.length : Int)) = false := by simp; omega
    have hlm : decide ((L.length : Int) = (M.length : Int)) = false := by simp; omega
    have hqf : q = false := by rw [HQ.out]; apply decide_eq_false; intro h; subst h; exact hlen rfl
    subst hqf
    clear HQ
    go_enter Tryz.func58, Tryz.ntmps58
    go_wp2
    go_ret
    exact ⟨rfl, Below.refl _ _⟩
end Go.Proofs.YteboadppighplaaGreat
/- Contracts: the program's Next. -/
namespace Go.Proofs.YteboadppighplaaGreat
open Go.RowKit Go.Shelf

set_option maxRecDepth 100000 in
set_option maxHeartbeats 2000000 in
/-- Next, of any topology. -/
theorem next_any {vp vl : Value} (ps : List Int) (ls : List Lk) (p : Pt) (w : World) (h : IsT w vp vl ps ls) : Calls Tryz.prog 76 #[.agg #[vp, vl], .agg (ptA p)] w fun e w' => e = .returned (nextV (nextT ls p)) ∧ Below w.heap.size w w' := by
  obtain ⟨⟨A1, c1, rfl, n1, m1, _⟩, ⟨A2, c2, rfl, n2, m2, z2⟩⟩ := h
  have hL : ls.length ≤ 9223372036854775807 := Nat.le_trans n2 m2
  have hM : ps.length ≤ 9223372036854775807 := Nat.le_trans n1 m1
  obtain ⟨V, hV⟩ : ∃ V, V = nextT ls p := ⟨_, rfl⟩
  rw [← hV]
  have HV := Lib.hid hV
  clear hV
  have D0 := ((At.new w #[.slice A1 ps.length c1, .slice A2 ls.length c2] 25).alloc (.cells (ptA p) 55)).alloc (.cells (ptA ⟨0, 0⟩) 55)
  have P0 := (At.new1 w (.cells #[.slice A1 ps.length c1, .slice A2 ls.length c2] 25) (ptA p) 55).alloc (.cells (ptA ⟨0, 0⟩) 55)
  have R0 := At.new2 w (.cells #[.slice A1 ps.length c1, .slice A2 ls.length c2] 25) (.cells (ptA p) 55) (ptA ⟨0, 0⟩) 55
  have b0 : Below w.heap.size w (((w.alloc (.cells #[.slice A1 ps.length c1, .slice A2 ls.length c2] 25)).alloc (.cells (ptA p) 55)).alloc (.cells (ptA ⟨0, 0⟩) 55)) := (((Below.refl _ w).alloc (Nat.le_refl _) _).alloc (by simp) _).alloc (by simp; omega) _
  have HZ := Lib.hid (z2.belows b0)
  clear z2
  obtain ⟨d, q⟩ := p
  obtain ⟨w0, hw0⟩ : ∃ w0, w0 = (((w.alloc (.cells #[.slice A1 ps.length c1, .slice A2 ls.length c2] 25)).alloc (.cells #[.int .i64 d, .int .i64 q] 55)).alloc (.cells #[.int .i64 0, .int .i64 0] 55)) := ⟨_, rfl⟩
  rw [show ptA ⟨d, q⟩ = #[.int .i64 d, .int .i64 q] from rfl, show ptA ⟨0, 0⟩ = #[.int .i64 0, .int .i64 0] from rfl] at D0 P0 R0 b0 HZ
  rw [← hw0] at D0 P0 R0 b0 HZ
  unfold ptA
  dsimp only
  go_enter Tryz.func76, Tryz.ntmps76
  go_upto_region 1 with (fail)
  rw [← hw0]
  have hs0 : w.heap.size + 1 + 1 < w0.heap.size := by rw [hw0]; simp
  clear hw0
  have x1 := (D0.cell 1).trans rfl
  go_wp2
  go_loopw [11] (fun i wr => ∃ k : Nat, i = .int .i64 k ∧ k ≤ ls.length ∧ Hid (V = nextT (ls.drop k) ⟨d, q⟩) ∧ Below w0.heap.size w0 wr) (fun i _ => ls.length - (intOf i).toNat)
  case atStart => exact ⟨0, rfl, by omega, HV, Below.refl _ _⟩
  case round =>
    obtain ⟨k, rfl, hk, HK, hb⟩ := hrel
    have P1 := P0.belows hb
    have R1 := R0.belows hb
    have p0 := (P1.cell 0).trans rfl
    have p1 := (P1.cell 1).trans rfl
    have hsz := hb.size
    by_cases hlt : k < ls.length
    · obtain ⟨g, o, e, hg, hc⟩ := HZ.out.at k hlt
      subst e
      have r0 := (hb.cell (p := ⟨g, _, none⟩) hg).trans (hc 0 (by decide)); have r1 := (hb.cell (p := ⟨g, _, none⟩) hg).trans (hc 1 (by decide)); have r2 := (hb.cell (p := ⟨g, _, none⟩) hg).trans (hc 2 (by decide)); have r3 := (hb.cell (p := ⟨g, _, none⟩) hg).trans (hc 3 (by decide))
      have HD : Hid (ls.drop k = ls[k] :: ls.drop (k + 1)) := Lib.hid (List.drop_eq_getElem_cons hlt)
      have q1 := eql_pt ⟨d, q⟩ ls[k].a
      have q2 := eql_pt ⟨d, q⟩ ls[k].b
      have HA : Hid (ls[k].a = ⟨d, q⟩ → V = some ls[k].b) := Lib.hid fun e => by rw [HK.out, HD.out]; unfold nextT; rw [if_pos e]
      have HB : Hid (ls[k].a ≠ ⟨d, q⟩ → ls[k].b = ⟨d, q⟩ → V = some ls[k].a) := Lib.hid fun e e' => by rw [HK.out, HD.out]; unfold nextT; rw [if_neg e, if_pos e']
      have HC : Hid (ls[k].a ≠ ⟨d, q⟩ → ls[k].b ≠ ⟨d, q⟩ → V = nextT (ls.drop (k + 1)) ⟨d, q⟩) := Lib.hid fun e e' => by rw [HK.out, HD.out]; show (if _ then _ else if _ then _ else _) = _; rw [if_neg e, if_neg e']
      clear HD hc
      generalize ls[k] = l at r0 r1 r2 r3 q1 q2 HA HB HC
      obtain ⟨⟨ad, ap⟩, ⟨bd, bp⟩⟩ := l
      simp only [lkA, Nat.add_zero] at r0 r1 r2 r3
      dsimp only at q1 q2 HA HB HC
      have i0 : (0 : Int) ≤ (k : Int) := by omega
      have i1 : (k : Int) < (ls.length : Int) := by omega
      have hb2 : Below w0.heap.size w0 (wr.alloc (.cells #[.int .i64 ad, .int .i64 ap, .int .i64 bd, .int .i64 bp] 102)) := hb.alloc hb.size _
      have bw1 := b0.trans (hb.mono b0.size)
      have P2 := P1.alloc (.cells #[.int .i64 ad, .int .i64 ap, .int .i64 bd, .int .i64 bp] 102)
      have R2 := R1.alloc (.cells #[.int .i64 ad, .int .i64 ap, .int .i64 bd, .int .i64 bp] 102)
      have hlt2 : w.heap.size + 1 < wr.heap.size := by omega
      have hlt3 : w.heap.size + 1 + 1 < wr.heap.size := by omega
      have hlt4 : w.heap.size + 1 + 1 ≠ wr.heap.size := by omega
      by_cases h1 : (⟨ad, ap⟩ : Pt) = ⟨d, q⟩
      · have HV2 := Lib.hid (HA.out h1)
        rw [decide_eq_true h1.symm] at q1
        unfold ptA at q1
        dsimp only at q1
        clear HA HB HC h1 q2 HK
        have y0 := (R1.cell 0).trans rfl; have y1 := (R1.cell 1).trans rfl; have z0 := R1.frozen 0; have z1 := R1.frozen 1
        go_wp2
        have Z := ((R1.set0 0 (.int .i64 bd)).set0 1 (.int .i64 bp)).alloc (.cells #[.int .i64 ad, .int .i64 ap, .int .i64 bd, .int .i64 bp] 102)
        have Y0 := Z.cell 0
        have Y1 := Z.cell 1
        refine bodyPost_ret (v := .tuple #[.agg #[.int .i64 bd, .int .i64 bp], .bool true]) ?_ rfl ⟨by rw [HV2.out]; rfl, ((bw1.setCell (p := ⟨w.heap.size + 1 + 1, 0, none⟩) (by show w.heap.size ≤ w.heap.size + 1 + 1; omega) _).setCell (p := ⟨w.heap.size + 1 + 1, 1, none⟩) (by show w.heap.size ≤ w.heap.size + 1 + 1; omega) _).alloc (by simp; omega) _⟩
        simp at Y0 Y1
        simp [results, Tryz.results76, go_sem, Y0, Y1]
      · rw [decide_eq_false (fun e => h1 e.symm)] at q1
        unfold ptA at q1 
        dsimp only at q1
        by_cases h2 : (⟨bd, bp⟩ : Pt) = ⟨d, q⟩
        · have HV2 := Lib.hid (HB.out h1 h2)
          rw [decide_eq_true h2.symm] at q2
          unfold ptA at q2
          dsimp only at q2
          clear HA HB HC h1 h2 HK
          have y0 := (R1.cell 0).trans rfl; have y1 := (R1.cell 1).trans rfl; have z0 := R1.frozen 0; have z1 := R1.frozen 1
          go_wp2
          have Z := ((R1.set0 0 (.int .i64 ad)).set0 1 (.int .i64 ap)).alloc (.cells #[.int .i64 ad, .int .i64 ap, .int .i64 bd, .int .i64 bp] 102)
          have Y0 := Z.cell 0
          have Y1 := Z.cell 1
          refine bodyPost_ret (v := .tuple #[.agg #[.int .i64 ad, .int .i64 ap], .bool true]) ?_ rfl ⟨by rw [HV2.out]; rfl, ((bw1.setCell (p := ⟨w.heap.size + 1 + 1, 0, none⟩) (by show w.heap.size ≤ w.heap.size + 1 + 1; omega) _).setCell (p := ⟨w.heap.size + 1 + 1, 1, none⟩) (by show w.heap.size ≤ w.heap.size + 1 + 1; omega) _).alloc (by simp; omega) _⟩
          simp at Y0 Y1
          simp [results, Tryz.results76, go_sem, Y0, Y1]
        · have HV2 := Lib.hid (HC.out h1 h2)
          rw [decide_eq_false (fun e => h2 e.symm)] at q2
          unfold ptA at q2
          dsimp only at q2
          clear HA HB HC h1 h2 HK
          go_wp2
          go_roundw
          case rel => exact ⟨k + 1, by go_num, by omega, HV2, hb2⟩
          case measure => simp [intOf]; omega
    · have HV2 : Hid (V = none) := Lib.hid (by rw [HK.out, List.drop_eq_nil_of_le (by omega)]; rfl)
      have hki : ¬ (k : Int) < (ls.length : Int) := by omega
      clear HK
      have bw1 := b0.trans (hb.mono b0.size)
      have y0 := (R1.cell 0).trans rfl; have y1 := (R1.cell 1).trans rfl; have z0 := R1.frozen 0; have z1 := R1.frozen 1
      go_wp2
      have Z := (R1.set0 0 (.int .i64 0)).set0 1 (.int .i64 0)
      have Y0 := Z.cell 0
      have Y1 := Z.cell 1
      refine bodyPost_ret (v := .tuple #[.agg #[.int .i64 0, .int .i64 0], .bool false]) ?_ rfl ⟨by rw [HV2.out]; rfl, (bw1.setCell (p := ⟨w.heap.size + 1 + 1, 0, none⟩) (by show w.heap.size ≤ w.heap.size + 1 + 1; omega) _).setCell (p := ⟨w.heap.size + 1 + 1, 1, none⟩) (by show w.heap.size ≤ w.heap.size + 1 + 1; omega) _⟩
      simp at Y0 Y1
      simp [results, Tryz.results76, go_sem, Y0, Y1]
end Go.Proofs.YteboadppighplaaGreat
