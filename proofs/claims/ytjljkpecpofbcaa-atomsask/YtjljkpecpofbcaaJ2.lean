/- Contracts: turnRight, turnLeft. -/
import Derived.Test.YtjljkpecpofbcaaJ1
namespace Go.Proofs.Ytjljkpecpofbcaa
open Go.RowKit

def Levd (w : World) (l : Bt) (x : Int × Int) (r : Bt) (e : Ending) (w' : World) : Prop := ∃ v' t, e = .returned v' ∧ IsT w' v' t ∧ Lev l x r t ∧ Below w.heap.size w w'

set_option maxRecDepth 100000 in
set_option maxHeartbeats 4000000 in
theorem turnRight_any {vl vr : Value} (l r : Bt) (x : Int × Int) (w : World) (hl : IsT w vl l) (hr : IsT w vr r) (el : l.even) (er : r.even) (h2 : l.ht = r.ht + 2) (hz : l.size + r.size ≤ 100000) :
    Calls Try.prog 59 #[vl, pv x, vr] w (Levd w l x r) := by
  obtain ⟨pr, rfl⟩ := hr.ptr
  cases l with
  | nil => simp [Bt.ht] at h2
  | node ll lx lr =>
    obtain ⟨B, vo, vi, rfl, ha, ho, hi⟩ := hl
    obtain ⟨po, rfl⟩ := ho.ptr
    obtain ⟨pi, rfl⟩ := hi.ptr
    simp only [Bt.size] at hz
    have hbox : Below w.heap.size w (w.alloc (.cells #[.int .u64 x.1, .int .i64 x.2] 68)) := (Below.refl _ w).alloc (Nat.le_refl _) _
    have hX := At.new w #[.int .u64 x.1, .int .i64 x.2] 68
    have ha0 := ha.belows hbox
    have ho0 := ho.belows hbox
    have hi0 := hi.belows hbox
    have hr0 := hr.belows hbox
    clear ha ho hi hr
    have c0 := (ha0.cell 0).trans rfl
    have c1 := (ha0.cell 1).trans rfl
    have c2 := (ha0.cell 2).trans rfl
    have c3 := (ha0.cell 3).trans rfl
    go_enter Try.func59, Try.ntmps59
    go_wp2_with fail
    obtain ⟨W0, hW0⟩ : ∃ W0, w.alloc (.cells #[.int .u64 x.1, .int .i64 x.2] 68) = W0 := ⟨_, rfl⟩
    rw [hW0] at c0 c1 c2 c3 hbox hX ha0 ho0 hi0 hr0 ⊢
    clear hW0
    have HO : Hid (∀ W, Below W0.heap.size W0 W → IsT W (.pointer po) ll) := Lib.hid fun W hW => ho0.belows hW
    have HI : Hid (∀ W, Below W0.heap.size W0 W → IsT W (.pointer pi) lr) := Lib.hid fun W hW => hi0.belows hW
    have HR : Hid (∀ W, Below W0.heap.size W0 W → IsT W (.pointer pr) r) := Lib.hid fun W hW => hr0.belows hW
    have HA : Hid (∀ W, Below W0.heap.size W0 W → W.cell? ⟨B, 0, none⟩ = some (.int .u64 lx.1) ∧ W.cell? ⟨B, 1, none⟩ = some (.int .i64 lx.2) ∧ W.cell? ⟨B, 2, none⟩ = some (.pointer po) ∧ W.cell? ⟨w.heap.size, 0, none⟩ = some (.int .u64 x.1) ∧ W.cell? ⟨w.heap.size, 1, none⟩ = some (.int .i64 x.2)) := Lib.hid fun W hW => ⟨((ha0.belows hW).cell 0).trans rfl, ((ha0.belows hW).cell 1).trans rfl, ((ha0.belows hW).cell 2).trans rfl, ((hX.belows hW).cell 0).trans rfl, ((hX.belows hW).cell 1).trans rfl⟩
    clear ho0 hr0 ha0 hX
    by_cases hin : ll.ht < lr.ht
    · go_quiet (first | (go_at_call_of 53 po; exact Calls.quiet_of_same (same_of (high_any ll _ (HO.out _ (bdrewN (Below.refl _ _) _))))) | (go_at_call_of 53 pi; exact Calls.quiet_of_same (same_of (high_any lr _ (HI.out _ (bdrewN (Below.refl _ _) _))))))
      have hb1 : Below W0.heap.size W0 (W0.drewN nq) := bdrewN (Below.refl _ _) _
      generalize W0.drewN nq = W1 at hb1 ⊢
      cases lr with
      | nil => simp [Bt.ht] at hin
      | node il ix ir =>
        obtain ⟨Bi, vil, vir, hpi, hai, hil, hir⟩ := hi0
        injection hpi with hpi
        subst hpi
        obtain ⟨pil, rfl⟩ := hil.ptr
        obtain ⟨pir, rfl⟩ := hir.ptr
        simp only [Bt.size] at hz
        have HIL : Hid (∀ W, Below W0.heap.size W0 W → IsT W (.pointer pil) il) := Lib.hid fun W hW => hil.belows hW
        have HIR : Hid (∀ W, Below W0.heap.size W0 W → IsT W (.pointer pir) ir) := Lib.hid fun W hW => hir.belows hW
        have KS : Hid (∀ W, Below W0.heap.size W0 W → W.cell? ⟨B, 0, none⟩ = some (.int .u64 lx.1) ∧ W.cell? ⟨B, 1, none⟩ = some (.int .i64 lx.2) ∧ W.cell? ⟨B, 2, none⟩ = some (.pointer po) ∧ W.cell? ⟨w.heap.size, 0, none⟩ = some (.int .u64 x.1) ∧ W.cell? ⟨w.heap.size, 1, none⟩ = some (.int .i64 x.2) ∧ W.cell? ⟨Bi, 0, none⟩ = some (.int .u64 ix.1) ∧ W.cell? ⟨Bi, 1, none⟩ = some (.int .i64 ix.2) ∧ W.cell? ⟨Bi, 2, none⟩ = some (.pointer pil) ∧ W.cell? ⟨Bi, 3, none⟩ = some (.pointer pir)) := Lib.hid fun W hW => by
          obtain ⟨q1, q2, q3, q4, q5⟩ := HA.out W hW
          exact ⟨q1, q2, q3, q4, q5, ((hai.belows hW).cell 0).trans rfl, ((hai.belows hW).cell 1).trans rfl, ((hai.belows hW).cell 2).trans rfl, ((hai.belows hW).cell 3).trans rfl⟩
        have HEV := Lib.hid (And.intro (And.intro el er) (And.intro h2 hin))
        clear hil hir hai c0 c1 c2 c3 HA el er h2 hin
        obtain ⟨k1, k2, k3, k4, k5, k6, k7, k8, k9⟩ := KS.out W1 hb1
        go_wp2_with fail
        go_region_held3 (fun W => W.cell? ⟨B, 0, none⟩ = some (.int .u64 lx.1) ∧ W.cell? ⟨B, 1, none⟩ = some (.int .i64 lx.2) ∧ W.cell? ⟨B, 2, none⟩ = some (.pointer po) ∧ W.cell? ⟨w.heap.size, 0, none⟩ = some (.int .u64 x.1) ∧ W.cell? ⟨w.heap.size, 1, none⟩ = some (.int .i64 x.2) ∧ W.cell? ⟨Bi, 0, none⟩ = some (.int .u64 ix.1) ∧ W.cell? ⟨Bi, 1, none⟩ = some (.int .i64 ix.2) ∧ W.cell? ⟨Bi, 2, none⟩ = some (.pointer pil) ∧ W.cell? ⟨Bi, 3, none⟩ = some (.pointer pir)) (first | exact KS.out _ bbC | exact KS.out _ bbA | exact KS.out _ bbB | exact KS.out _ hb1.drew | exact KS.out _ hb1) (first
          | (go_at_call_of 55 pil; refine (bare_any ll il lx _ (HO.out _ (by first | exact bbB | exact hb1.drew | exact hb1)) (HIL.out _ (by first | exact bbB | exact hb1.drew | exact hb1)) (by omega)).mono ?_; rintro e wA ⟨vA, rfl, tA, bA⟩; obtain ⟨pA, rfl⟩ := tA.ptr; have bbA : Below W0.heap.size W0 wA := (by first | exact bbB.trans (bA.mono bbB.size) | exact hb1.drew.trans (bA.mono hb1.size)))
          | (go_at_call_of 55 pir; refine (bare_any ir r x _ (HIR.out _ (by first | exact bbA | exact hb1.drew | exact hb1)) (HR.out _ (by first | exact bbA | exact hb1.drew | exact hb1)) (by omega)).mono ?_; rintro e wB ⟨vB, rfl, tB, bB⟩; obtain ⟨pB, rfl⟩ := tB.ptr; have bbB : Below W0.heap.size W0 wB := (by first | exact bbA.trans (bB.mono bbA.size) | exact hb1.drew.trans (bB.mono hb1.size)))
          | (go_at_call_of 55 pA; refine (bare_any (.node ll lx il) (.node ir x r) ix _ (by first | exact tA | exact tA.belows bB) (by first | exact tB | exact tB.belows bA) (by simp only [Bt.size]; omega)).mono ?_; rintro e wC ⟨vC, rfl, tC, bC⟩; have bbC : Below W0.heap.size W0 wC := (by first | exact bbB.trans (bC.mono bbB.size) | exact bbA.trans (bC.mono bbA.size))))
        all_goals
          rename_i hHeld
          clear hHeld
          obtain ⟨pC, rfl⟩ := tC.ptr
          go_wp2
          go_ret
          obtain ⟨⟨el, er⟩, h2, hin⟩ := HEV.out
          exact ⟨_, _, rfl, tC, lev_right1 el er h2 hin, hbox.trans (bbC.mono hbox.size)⟩
    · go_quiet (first | (go_at_call_of 53 po; exact Calls.quiet_of_same (same_of (high_any ll _ (HO.out _ (bdrewN (Below.refl _ _) _))))) | (go_at_call_of 53 pi; exact Calls.quiet_of_same (same_of (high_any lr _ (HI.out _ (bdrewN (Below.refl _ _) _))))))
      have hb1 : Below W0.heap.size W0 (W0.drewN nq) := bdrewN (Below.refl _ _) _
      generalize W0.drewN nq = W1 at hb1 ⊢
      replace hin := Nat.le_of_not_lt hin
      have HEV := Lib.hid (And.intro (And.intro el er) (And.intro h2 hin))
      clear c0 c1 c2 c3 hi0 el er h2 hin
      obtain ⟨k1, k2, k3, k4, k5⟩ := HA.out W1 hb1
      go_wp2_with fail
      go_region_held3 (fun W => W.cell? ⟨B, 0, none⟩ = some (.int .u64 lx.1) ∧ W.cell? ⟨B, 1, none⟩ = some (.int .i64 lx.2) ∧ W.cell? ⟨B, 2, none⟩ = some (.pointer po) ∧ W.cell? ⟨w.heap.size, 0, none⟩ = some (.int .u64 x.1) ∧ W.cell? ⟨w.heap.size, 1, none⟩ = some (.int .i64 x.2)) (first | exact HA.out _ bbE | exact HA.out _ bbD | exact HA.out _ hb1.drew | exact HA.out _ hb1) (first
        | (go_at_call_of 55 pi; refine (bare_any lr r x _ (HI.out _ (by first | exact hb1.drew | exact hb1)) (HR.out _ (by first | exact hb1.drew | exact hb1)) (by omega)).mono ?_; rintro e wD ⟨vD, rfl, tD, bD⟩; obtain ⟨pD, rfl⟩ := tD.ptr; have bbD : Below W0.heap.size W0 wD := (by first | exact hb1.drew.trans (bD.mono hb1.size)))
        | (go_at_call_of 55 pD; refine (bare_any ll (.node lr x r) lx _ (HO.out _ bbD) tD (by simp only [Bt.size]; omega)).mono ?_; rintro e wE ⟨vE, rfl, tE, bE⟩; have bbE : Below W0.heap.size W0 wE := bbD.trans (bE.mono bbD.size)))
      all_goals
        rename_i hHeld
        clear hHeld
        obtain ⟨pE, rfl⟩ := tE.ptr
        go_wp2
        go_ret
        obtain ⟨⟨el, er⟩, h2, hin⟩ := HEV.out
        exact ⟨_, _, rfl, tE, lev_right2 el er h2 hin, hbox.trans (bbE.mono hbox.size)⟩

set_option maxRecDepth 100000 in
set_option maxHeartbeats 4000000 in
theorem turnLeft_any {vl vr : Value} (l r : Bt) (x : Int × Int) (w : World) (hl : IsT w vl l) (hr : IsT w vr r) (el : l.even) (er : r.even) (h2 : r.ht = l.ht + 2) (hz : l.size + r.size ≤ 100000) :
    Calls Try.prog 60 #[vl, pv x, vr] w (Levd w l x r) := by
  obtain ⟨pr, rfl⟩ := hl.ptr
  cases r with
  | nil => simp [Bt.ht] at h2
  | node rl rx rr =>
    obtain ⟨B, vi, vo, rfl, ha, hi, ho⟩ := hr
    obtain ⟨po, rfl⟩ := ho.ptr
    obtain ⟨pi, rfl⟩ := hi.ptr
    simp only [Bt.size] at hz
    have hbox : Below w.heap.size w (w.alloc (.cells #[.int .u64 x.1, .int .i64 x.2] 68)) := (Below.refl _ w).alloc (Nat.le_refl _) _
    have hX := At.new w #[.int .u64 x.1, .int .i64 x.2] 68
    have ha0 := ha.belows hbox
    have ho0 := ho.belows hbox
    have hi0 := hi.belows hbox
    have hr0 := hl.belows hbox
    clear ha ho hi hl
    have c0 := (ha0.cell 0).trans rfl
    have c1 := (ha0.cell 1).trans rfl
    have c2 := (ha0.cell 2).trans rfl
    have c3 := (ha0.cell 3).trans rfl
    go_enter Try.func60, Try.ntmps60
    go_wp2_with fail
    obtain ⟨W0, hW0⟩ : ∃ W0, w.alloc (.cells #[.int .u64 x.1, .int .i64 x.2] 68) = W0 := ⟨_, rfl⟩
    rw [hW0] at c0 c1 c2 c3 hbox hX ha0 ho0 hi0 hr0 ⊢
    clear hW0
    have HO : Hid (∀ W, Below W0.heap.size W0 W → IsT W (.pointer po) rr) := Lib.hid fun W hW => ho0.belows hW
    have HI : Hid (∀ W, Below W0.heap.size W0 W → IsT W (.pointer pi) rl) := Lib.hid fun W hW => hi0.belows hW
    have HR : Hid (∀ W, Below W0.heap.size W0 W → IsT W (.pointer pr) l) := Lib.hid fun W hW => hr0.belows hW
    have HA : Hid (∀ W, Below W0.heap.size W0 W → W.cell? ⟨B, 0, none⟩ = some (.int .u64 rx.1) ∧ W.cell? ⟨B, 1, none⟩ = some (.int .i64 rx.2) ∧ W.cell? ⟨B, 3, none⟩ = some (.pointer po) ∧ W.cell? ⟨w.heap.size, 0, none⟩ = some (.int .u64 x.1) ∧ W.cell? ⟨w.heap.size, 1, none⟩ = some (.int .i64 x.2)) := Lib.hid fun W hW => ⟨((ha0.belows hW).cell 0).trans rfl, ((ha0.belows hW).cell 1).trans rfl, ((ha0.belows hW).cell 3).trans rfl, ((hX.belows hW).cell 0).trans rfl, ((hX.belows hW).cell 1).trans rfl⟩
    clear ho0 hr0 ha0 hX
    by_cases hin : rr.ht < rl.ht
    · go_quiet (first | (go_at_call_of 53 po; exact Calls.quiet_of_same (same_of (high_any rr _ (HO.out _ (bdrewN (Below.refl _ _) _))))) | (go_at_call_of 53 pi; exact Calls.quiet_of_same (same_of (high_any rl _ (HI.out _ (bdrewN (Below.refl _ _) _))))))
      have hb1 : Below W0.heap.size W0 (W0.drewN nq) := bdrewN (Below.refl _ _) _
      generalize W0.drewN nq = W1 at hb1 ⊢
      cases rl with
      | nil => simp [Bt.ht] at hin
      | node il ix ir =>
        obtain ⟨Bi, vil, vir, hpi, hai, hil, hir⟩ := hi0
        injection hpi with hpi
        subst hpi
        obtain ⟨pil, rfl⟩ := hil.ptr
        obtain ⟨pir, rfl⟩ := hir.ptr
        simp only [Bt.size] at hz
        have HIL : Hid (∀ W, Below W0.heap.size W0 W → IsT W (.pointer pil) il) := Lib.hid fun W hW => hil.belows hW
        have HIR : Hid (∀ W, Below W0.heap.size W0 W → IsT W (.pointer pir) ir) := Lib.hid fun W hW => hir.belows hW
        have KS : Hid (∀ W, Below W0.heap.size W0 W → W.cell? ⟨B, 0, none⟩ = some (.int .u64 rx.1) ∧ W.cell? ⟨B, 1, none⟩ = some (.int .i64 rx.2) ∧ W.cell? ⟨B, 3, none⟩ = some (.pointer po) ∧ W.cell? ⟨w.heap.size, 0, none⟩ = some (.int .u64 x.1) ∧ W.cell? ⟨w.heap.size, 1, none⟩ = some (.int .i64 x.2) ∧ W.cell? ⟨Bi, 0, none⟩ = some (.int .u64 ix.1) ∧ W.cell? ⟨Bi, 1, none⟩ = some (.int .i64 ix.2) ∧ W.cell? ⟨Bi, 2, none⟩ = some (.pointer pil) ∧ W.cell? ⟨Bi, 3, none⟩ = some (.pointer pir)) := Lib.hid fun W hW => by
          obtain ⟨q1, q2, q3, q4, q5⟩ := HA.out W hW
          exact ⟨q1, q2, q3, q4, q5, ((hai.belows hW).cell 0).trans rfl, ((hai.belows hW).cell 1).trans rfl, ((hai.belows hW).cell 2).trans rfl, ((hai.belows hW).cell 3).trans rfl⟩
        have HEV := Lib.hid (And.intro (And.intro el er) (And.intro h2 hin))
        clear hil hir hai c0 c1 c2 c3 HA el er h2 hin
        obtain ⟨k1, k2, k3, k4, k5, k6, k7, k8, k9⟩ := KS.out W1 hb1
        go_wp2_with fail
        go_region_held3 (fun W => W.cell? ⟨B, 0, none⟩ = some (.int .u64 rx.1) ∧ W.cell? ⟨B, 1, none⟩ = some (.int .i64 rx.2) ∧ W.cell? ⟨B, 3, none⟩ = some (.pointer po) ∧ W.cell? ⟨w.heap.size, 0, none⟩ = some (.int .u64 x.1) ∧ W.cell? ⟨w.heap.size, 1, none⟩ = some (.int .i64 x.2) ∧ W.cell? ⟨Bi, 0, none⟩ = some (.int .u64 ix.1) ∧ W.cell? ⟨Bi, 1, none⟩ = some (.int .i64 ix.2) ∧ W.cell? ⟨Bi, 2, none⟩ = some (.pointer pil) ∧ W.cell? ⟨Bi, 3, none⟩ = some (.pointer pir)) (first | exact KS.out _ bbC | exact KS.out _ bbA | exact KS.out _ bbB | exact KS.out _ hb1.drew | exact KS.out _ hb1) (first
          | (go_at_call_of 55 pil; refine (bare_any l il x _ (HR.out _ (by first | exact bbB | exact hb1.drew | exact hb1)) (HIL.out _ (by first | exact bbB | exact hb1.drew | exact hb1)) (by omega)).mono ?_; rintro e wA ⟨vA, rfl, tA, bA⟩; obtain ⟨pA, rfl⟩ := tA.ptr; have bbA : Below W0.heap.size W0 wA := (by first | exact bbB.trans (bA.mono bbB.size) | exact hb1.drew.trans (bA.mono hb1.size)))
          | (go_at_call_of 55 pir; refine (bare_any ir rr rx _ (HIR.out _ (by first | exact bbA | exact hb1.drew | exact hb1)) (HO.out _ (by first | exact bbA | exact hb1.drew | exact hb1)) (by omega)).mono ?_; rintro e wB ⟨vB, rfl, tB, bB⟩; obtain ⟨pB, rfl⟩ := tB.ptr; have bbB : Below W0.heap.size W0 wB := (by first | exact bbA.trans (bB.mono bbA.size) | exact hb1.drew.trans (bB.mono hb1.size)))
          | (go_at_call_of 55 pA; refine (bare_any (.node l x il) (.node ir rx rr) ix _ (by first | exact tA | exact tA.belows bB) (by first | exact tB | exact tB.belows bA) (by simp only [Bt.size]; omega)).mono ?_; rintro e wC ⟨vC, rfl, tC, bC⟩; have bbC : Below W0.heap.size W0 wC := (by first | exact bbB.trans (bC.mono bbB.size) | exact bbA.trans (bC.mono bbA.size))))
        all_goals
          rename_i hHeld
          clear hHeld
          obtain ⟨pC, rfl⟩ := tC.ptr
          go_wp2
          go_ret
          obtain ⟨⟨el, er⟩, h2, hin⟩ := HEV.out
          exact ⟨_, _, rfl, tC, lev_left1 el er h2 hin, hbox.trans (bbC.mono hbox.size)⟩
    · go_quiet (first | (go_at_call_of 53 po; exact Calls.quiet_of_same (same_of (high_any rr _ (HO.out _ (bdrewN (Below.refl _ _) _))))) | (go_at_call_of 53 pi; exact Calls.quiet_of_same (same_of (high_any rl _ (HI.out _ (bdrewN (Below.refl _ _) _))))))
      have hb1 : Below W0.heap.size W0 (W0.drewN nq) := bdrewN (Below.refl _ _) _
      generalize W0.drewN nq = W1 at hb1 ⊢
      replace hin := Nat.le_of_not_lt hin
      have HEV := Lib.hid (And.intro (And.intro el er) (And.intro h2 hin))
      clear c0 c1 c2 c3 hi0 el er h2 hin
      obtain ⟨k1, k2, k3, k4, k5⟩ := HA.out W1 hb1
      go_wp2_with fail
      go_region_held3 (fun W => W.cell? ⟨B, 0, none⟩ = some (.int .u64 rx.1) ∧ W.cell? ⟨B, 1, none⟩ = some (.int .i64 rx.2) ∧ W.cell? ⟨B, 3, none⟩ = some (.pointer po) ∧ W.cell? ⟨w.heap.size, 0, none⟩ = some (.int .u64 x.1) ∧ W.cell? ⟨w.heap.size, 1, none⟩ = some (.int .i64 x.2)) (first | exact HA.out _ bbE | exact HA.out _ bbD | exact HA.out _ hb1.drew | exact HA.out _ hb1) (first
        | (go_at_call_of 55 pi; refine (bare_any l rl x _ (HR.out _ (by first | exact hb1.drew | exact hb1)) (HI.out _ (by first | exact hb1.drew | exact hb1)) (by omega)).mono ?_; rintro e wD ⟨vD, rfl, tD, bD⟩; obtain ⟨pD, rfl⟩ := tD.ptr; have bbD : Below W0.heap.size W0 wD := (by first | exact hb1.drew.trans (bD.mono hb1.size)))
        | (go_at_call_of 55 pD; refine (bare_any (.node l x rl) rr rx _ tD (HO.out _ bbD) (by simp only [Bt.size]; omega)).mono ?_; rintro e wE ⟨vE, rfl, tE, bE⟩; have bbE : Below W0.heap.size W0 wE := bbD.trans (bE.mono bbD.size)))
      all_goals
        rename_i hHeld
        clear hHeld
        obtain ⟨pE, rfl⟩ := tE.ptr
        go_wp2
        go_ret
        obtain ⟨⟨el, er⟩, h2, hin⟩ := HEV.out
        exact ⟨_, _, rfl, tE, lev_left2 el er h2 hin, hbox.trans (bbE.mono hbox.size)⟩
end Go.Proofs.Ytjljkpecpofbcaa
