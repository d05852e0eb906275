/- Contracts: bare. -/
import Derived.Test.YtjljkpecpofbcaaT1
import Derived.StillTailTactics
namespace Go.Proofs.Ytjljkpecpofbcaa
open Go.RowKit

/-- A pair as a value. -/
abbrev pv (x : Int × Int) : Value := .agg #[.int .u64 x.1, .int .i64 x.2]
/-- A node that is made of two trees. -/
def Made (w : World) (t : Bt) (e : Ending) (w' : World) : Prop := ∃ v', e = .returned v' ∧ IsT w' v' t ∧ Below w.heap.size w w'
theorem made_node {w W : World} {B : Nat} {vl vr : Value} {l r : Bt} {x : Int × Int} {a b : Int} (hb : Below w.heap.size w W) (ha : At W B #[.int .u64 x.1, .int .i64 x.2, vl, vr, .int .i64 a, .int .i64 b] 92)
    (e1 : a = ((l.size + 1 + r.size : Nat) : Int)) (e2 : b = ((max l.ht r.ht + 1 : Nat) : Int)) (hl : ∀ W, Below w.heap.size w W → IsT W vl l) (hr : ∀ W, Below w.heap.size w W → IsT W vr r) : Made w (.node l x r) (.returned (.pointer (some ⟨B, 0, none⟩))) W := by
  subst e1 e2
  exact ⟨_, rfl, ⟨B, vl, vr, rfl, ha, hl W hb, hr W hb⟩, hb⟩
set_option maxRecDepth 100000 in
set_option maxHeartbeats 2000000 in
theorem bare_any {vl vr : Value} (l r : Bt) (x : Int × Int) (w : World) (hl : IsT w vl l) (hr : IsT w vr r) (hz : l.size + r.size ≤ 1000000) :
    Calls Try.prog 55 #[vl, pv x, vr] w (Made w (.node l x r)) := by
  obtain ⟨pl, rfl⟩ := hl.ptr
  obtain ⟨pr, rfl⟩ := hr.ptr
  have HL : Hid (∀ W, Below w.heap.size w W → IsT W (.pointer pl) l) := Lib.hid fun W hW => hl.belows hW
  have HR : Hid (∀ W, Below w.heap.size w W → IsT W (.pointer pr) r) := Lib.hid fun W hW => hr.belows hW
  clear hl hr
  have z1 := l.ht_size
  have z2 := r.ht_size
  have hb0 : Below w.heap.size w (w.alloc (.cells #[.int .u64 x.1, .int .i64 x.2] 68)) := (Below.refl _ w).alloc (Nat.le_refl _) _
  have j1 : IntKind.i64.wrap ((l.size : Int) + 1) = (l.size : Int) + 1 := IntWalk.i64_in _ (by omega)
  have j2 : IntKind.i64.wrap ((l.size : Int) + 1 + (r.size : Int)) = (l.size : Int) + 1 + (r.size : Int) := IntWalk.i64_in _ (by omega)
  have j3 : IntKind.i64.wrap ((l.ht : Int) + 1) = (l.ht : Int) + 1 := IntWalk.i64_in _ (by omega)
  have j4 : IntKind.i64.wrap ((r.ht : Int) + 1) = (r.ht : Int) + 1 := IntWalk.i64_in _ (by omega)
  go_enter Try.func55, Try.ntmps55
  go_wp2
  go_region_held3 (fun w' => w'.cell? ⟨w.heap.size, 0, none⟩ = some (.int .u64 x.1) ∧ w'.cell? ⟨w.heap.size, 1, none⟩ = some (.int .i64 x.2)) (first | go_keep) (first
    | (go_at_call_of 44 pl; refine (count_any l _ (HL.out _ (by first | exact hb0.drew | exact hb0))).mono ?_; rintro e w2 ⟨rfl, rfl⟩)
    | (go_at_call_of 44 pr; refine (count_any r _ (HR.out _ (by first | exact hb0.drew | exact hb0))).mono ?_; rintro e w2 ⟨rfl, rfl⟩)
    | (go_at_call_of 53 pl; refine (high_any l _ (HL.out _ (by first | exact hb0.drew | exact hb0))).mono ?_; rintro e w2 ⟨rfl, rfl⟩)
    | (go_at_call_of 53 pr; refine (high_any r _ (HR.out _ (by first | exact hb0.drew | exact hb0))).mono ?_; rintro e w2 ⟨rfl, rfl⟩))
  all_goals
    rename_i hHeld
    clear hHeld
    go_wp2
    all_goals
      go_ret
      exact made_node (((hb0.alloc hb0.size _).drew)) (At.drew (At.new1 w _ _ 92)) (by omega) (by omega) HL.out HR.out
end Go.Proofs.Ytjljkpecpofbcaa
