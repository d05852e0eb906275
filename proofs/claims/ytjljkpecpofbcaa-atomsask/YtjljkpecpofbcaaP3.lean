/- Contracts: the iterator that calls itself. -/
import Derived.Test.YtjljkpecpofbcaaP2
import Derived.RangeFuncNested
import Derived.RangeFuncBound
import Derived.RangeFuncCalls
import Derived.RangeFuncLeaves
import Derived.Shelf.Abstract
import Derived.Shelf.RegionOpen
import Derived.OwnWalkIn
import Derived.TacticsInMore
import Derived.LoopNIn
import Derived.LoopIn
import Derived.Maps.AppendAt
import Derived.Maps.OwnIn
namespace Go.Proofs.Ytjljkpecpofbcaa
open Go.RowKit Go.Shelf
attribute [local go_sem] Oper.semAt_some
theorem wide_fn (f : FuncId) : Fence.wide.fn f = True := eq_true trivial
attribute [local go_sem] wide_fn

theorem room_wide (k : Nat) : Fence.wide.room k := fun d h => by cases h
theorem roundIn_anyDepth {m m' : Nat} {P : Program} {l : Nat} {f : FuncId} {tmps : Array Value} {assign body : Code} {w : World} {R : Ending → World → Prop}
    (h : RoundIn Fence.wide m P l f tmps assign body w R) : RoundIn Fence.wide m' P l f tmps assign body w R := ⟨h.1, fun c cs _ => h.2 c cs (room_wide _)⟩
theorem yieldAt_anyDepth {m : Nat} (m' : Nat) {P : Program} {l : Nat} {args : Array Value} {W : World} {R : Ending → World → Prop} (h : YieldAt Fence.wide m P l args W R) : YieldAt Fence.wide m' P l args W R := by
  obtain ⟨fn, tmps, assign, body, hy, hR⟩ := h
  exact ⟨fn, tmps, assign, body, hy, roundIn_anyDepth hR⟩

/-- A tree in blocks below n₀. -/
def IsTn (n₀ : Nat) (w : World) : Value → Bt → Prop
  | v, .nil => v = .pointer none
  | v, .node l x r => ∃ (B : Nat) (pl pr : Option Addr) (c d : Value), v = .pointer (some ⟨B, 0, none⟩) ∧ B < n₀ ∧ At w B #[.int .u64 x.1, .int .i64 x.2, .pointer pl, .pointer pr, c, d] 92 ∧ IsTn n₀ w (.pointer pl) l ∧ IsTn n₀ w (.pointer pr) r
theorem isTn_of {w : World} : ∀ {v : Value} {t : Bt}, IsT w v t → IsTn w.heap.size w v t
  | _, .nil, h => h
  | _, .node _ _ _, ⟨B, vl, vr, e, ha, hl, hr⟩ => by
    obtain ⟨pl, rfl⟩ := hl.ptr
    obtain ⟨pr, rfl⟩ := hr.ptr
    exact ⟨B, pl, pr, _, _, e, ha.lt, ha, isTn_of hl, isTn_of hr⟩
theorem IsTn.below {n₀ : Nat} {w w' : World} (hb : Below n₀ w w') : ∀ {v : Value} {t : Bt}, IsTn n₀ w v t → IsTn n₀ w' v t
  | _, .nil, h => h
  | _, .node _ _ _, ⟨B, pl, pr, c, d, e, hB, ha, hl, hr⟩ => ⟨B, pl, pr, c, d, e, hB, ha.below hb hB, IsTn.below hb hl, IsTn.below hb hr⟩
theorem IsTn.ptr {n₀ : Nat} {w : World} {v : Value} {t : Bt} (h : IsTn n₀ w v t) : ∃ p, v = .pointer p := by
  cases t with
  | nil => exact ⟨_, h⟩
  | node l x r => obtain ⟨B, pl, pr, c, d, e, _⟩ := h; exact ⟨_, e⟩

theorem undef_no {b : Bool} (h : some undef = some (Value.bool b)) : False := by cases h
theorem hdd (k : Nat) : Fence.wide.depth.isSome = true → 1 ≤ k := fun h => by cases h
abbrev encP (x : Int × Int) : Array Value := #[pv x]
set_option maxRecDepth 100000 in
set_option maxHeartbeats 2000000 in
/-- walk: all pairs come, rising; or a round says no more. -/
theorem walk_in (l n₀ N : Nat) (J Jx : List (Int × Int) → World → Prop)
    (hY : ∀ m pre x W, J pre W → pre.length < N → YieldAt Fence.wide m Try.prog l #[.agg #[.int .u64 x.1, .int .i64 x.2]] W fun e W' =>
      (e = .returned (.bool true) ∧ J (pre ++ [x]) W' ∧ Below n₀ W W') ∨ (e = .returned (.bool false) ∧ Jx (pre ++ [x]) W')) (T : Bt) :
    ∀ (n : Nat) (v : Value) (pre : List (Int × Int)) (W : World), IsTn n₀ W v T → J pre W → pre.length + T.flat.length ≤ N →
      CallsIn Fence.wide n Try.prog 52 #[v, .func (.yield l) #[] #[]] W fun e W' =>
        (e = .returned (.bool true) ∧ J (pre ++ T.flat) W' ∧ Below n₀ W W') ∨ (e = .returned (.bool false) ∧ ∃ q, q <+: T.flat ∧ Jx (pre ++ q) W') := by
  induction T with
  | nil =>
    intro n v pre W ht hJ _
    obtain rfl : v = .pointer none := ht
    refine callsIn_of_wp Try.func52 rfl trivial ?_ rfl
    simp only [Try.ntmps52, List.size_toArray, List.length_cons, List.length_nil, Nat.reduceAdd, Nat.reduceSub, Array.replicate_succ, Array.replicate_zero, List.push_toArray, List.append_toArray, List.nil_append, List.cons_append]
    gi_wp2
    all_goals first
      | exact (undef_no (by assumption)).elim
      | (go_ret; exact .inl ⟨rfl, by simpa [Bt.flat] using hJ, Below.refl _ _⟩)
  | node tl x tr ihl ihr =>
    intro n v pre W ht hJ hN
    obtain ⟨b, pl, pr, cs, ds, rfl, hb, ha, hl, hr⟩ := ht
    have c0 := (ha.cell 0).trans rfl
    have c1 := (ha.cell 1).trans rfl
    have c2 := (ha.cell 2).trans rfl
    simp only [Bt.flat, List.length_append, List.length_cons] at hN
    have hy2 : ∀ W1, J (pre ++ tl.flat) W1 → Below n₀ W W1 → YieldAt Fence.wide (n - 1) Try.prog l #[.agg #[.int .u64 x.1, .int .i64 x.2]] W1 fun e W2 =>
        (e = .returned (.bool true) ∧ J (pre ++ tl.flat ++ [x]) W2 ∧ Below n₀ W W2 ∧ W2.cell? ⟨b, 3, none⟩ = some (.pointer pr) ∧ IsTn n₀ W2 (.pointer pr) tr) ∨ (e = .returned (.bool false) ∧ Jx (pre ++ tl.flat ++ [x]) W2) := fun W1 hJ1 hb1 =>
      YieldAt.mono (hY (n - 1) _ x W1 hJ1 (by simp; omega)) fun e W2 h => h.elim
        (fun ⟨he, hj, hb2⟩ => .inl ⟨he, hj, hb1.trans hb2, ((ha.below (hb1.trans hb2) hb).cell 3).trans rfl, hr.below (hb1.trans hb2)⟩) .inr
    have ih1 := (ihl (n - 1) (.pointer pl) pre W hl hJ (by omega)).mono (R' := fun e W1 =>
        (e = .returned (.bool true) ∧ W1.cell? ⟨b, 0, none⟩ = some (.int .u64 x.1) ∧ W1.cell? ⟨b, 1, none⟩ = some (.int .i64 x.2) ∧ YieldAt Fence.wide (n - 1) Try.prog l #[.agg #[.int .u64 x.1, .int .i64 x.2]] W1 fun e W2 =>
          (e = .returned (.bool true) ∧ J (pre ++ tl.flat ++ [x]) W2 ∧ Below n₀ W W2 ∧ W2.cell? ⟨b, 3, none⟩ = some (.pointer pr) ∧ IsTn n₀ W2 (.pointer pr) tr) ∨ (e = .returned (.bool false) ∧ Jx (pre ++ tl.flat ++ [x]) W2)) ∨
        (e = .returned (.bool false) ∧ ∃ q, q <+: tl.flat ∧ Jx (pre ++ q) W1))
      (fun e W1 h => h.elim (fun ⟨he, hj, hb1⟩ => .inl ⟨he, ((ha.below hb1 hb).cell 0).trans rfl, ((ha.below hb1 hb).cell 1).trans rfl, hy2 W1 hj hb1⟩) .inr)
    clear hy2 ihl ha
    refine callsIn_of_wp Try.func52 rfl trivial ?_ rfl
    simp only [Try.ntmps52, List.size_toArray, List.length_cons, List.length_nil, Nat.reduceAdd, Nat.reduceSub, Array.replicate_succ, Array.replicate_zero, List.push_toArray, List.append_toArray, List.nil_append, List.cons_append]
    gi_wp2_with (first
      | ((try refine ⟨hdd _, ?_⟩); gi_at_call 52; refine ih1.mono ?_; clear ih1; rintro e W1 (⟨rfl, c0', c1', fn, tmps, assign, body, hy, hR⟩ | ⟨rfl, q, hq, hx1⟩))
      | ((try refine ⟨hdd _, ?_⟩); refine hR.mono ?_; clear hR; rintro e W2 (⟨rfl, hJ2, hb2, c3', hr2⟩ | ⟨rfl, hx2⟩))
      | ((try refine ⟨hdd _, ?_⟩); gi_at_call 52; refine (ihr (n - 1) _ _ _ hr2 hJ2 (by simp; omega)).mono ?_; rintro e W3 (⟨rfl, hJ3, hb3⟩ | ⟨rfl, q, hq, hx3⟩)))
    · go_ret
      exact .inl ⟨rfl, by simpa [Bt.flat, List.append_assoc] using hJ3, hb2.trans hb3⟩
    · go_ret
      obtain ⟨r, hr'⟩ := hq
      exact .inr ⟨rfl, tl.flat ++ x :: q, ⟨r, by simp [Bt.flat, ← hr']⟩, by simpa [List.append_assoc] using hx3⟩
    · go_ret
      exact .inr ⟨rfl, tl.flat ++ [x], ⟨tr.flat, by simp [Bt.flat]⟩, by simpa [List.append_assoc] using hx2⟩
    · go_ret
      exact .inr ⟨rfl, q, hq.trans (by simp [Bt.flat]), hx1⟩

set_option maxHeartbeats 1000000 in
theorem rising1_in (n l Bo n₀ : Nat) (p0 : Option Addr) (T : Bt) (J Jx : List (Int × Int) → World → Prop)
    (hY : ∀ pre x W, J pre W → pre.length < T.flat.length → YieldAt Fence.wide (n - 1) Try.prog l #[.agg #[.int .u64 x.1, .int .i64 x.2]] W fun e W' =>
      (e = .returned (.bool true) ∧ J (pre ++ [x]) W' ∧ Below n₀ W W') ∨ (e = .returned (.bool false) ∧ Jx (pre ++ [x]) W'))
    (W : World) (hBt : W.cell? ⟨Bo, 0, none⟩ = some (.pointer p0)) (hT : IsTn n₀ W (.pointer p0) T) (h0 : J [] W) :
    CallsIn Fence.wide n Try.prog 51 #[.func (.yield l) #[] #[], .pointer (some ⟨Bo, 0, none⟩)] W fun e W' => (∃ v, e = .returned v) ∧
      ((∃ ys, ys = T.flat ∧ J ys W') ∨ (∃ pre, pre <+: T.flat ∧ Jx pre W')) := by
  have hp := walk_in l n₀ T.flat.length J Jx (fun m pre x W hj hl => yieldAt_anyDepth m (hY pre x W hj hl)) T (n - 1) (.pointer p0) [] W hT h0 (by simp)
  refine callsIn_of_wp Try.func51 rfl trivial ?_ rfl
  simp only [Try.ntmps51, List.size_toArray, List.length_cons, List.length_nil, Nat.reduceAdd, Nat.reduceSub, Array.replicate_succ, Array.replicate_zero, List.push_toArray, List.append_toArray, List.nil_append, List.cons_append]
  gi_wp2_with ((try refine ⟨hdd _, ?_⟩); gi_at_call 52; refine hp.mono ?_; clear hp; rintro e W1 (⟨rfl, hJ1, _⟩ | ⟨rfl, q, hq, hx⟩))
  · go_end0
    exact ⟨⟨_, rfl⟩, .inl ⟨_, rfl, by simpa using hJ1⟩⟩
  · go_end0
    exact ⟨⟨_, rfl⟩, .inr ⟨q, hq, by simpa using hx⟩⟩
theorem rising_in (n : Nat) (p0 : Option Addr) (w : World) :
    CallsIn Fence.wide n Try.prog 41 #[.pointer p0] w fun e w' => e = .returned (.func (.func 51) #[] #[.pointer (some ⟨w.heap.size, 0, none⟩)]) ∧ w' = w.alloc (.cells #[.pointer p0] 84) := by
  refine callsIn_of_wp Try.func41 rfl trivial ?_ rfl
  simp only [Try.ntmps41, List.size_toArray, List.length_cons, List.length_nil, Nat.reduceAdd, Nat.reduceSub, Array.replicate_succ, Array.replicate_zero, List.push_toArray, List.append_toArray, List.nil_append, List.cons_append]
  gi_wp2
  go_ret
  exact ⟨rfl, rfl⟩
theorem rising_stops (n Bo n₀ : Nat) (p0 : Option Addr) (T : Bt) (w : World) (hBt : Bo < w.heap.size) (hn₀ : n₀ ≤ w.heap.size) (hc : w.cell? ⟨Bo, 0, none⟩ = some (.pointer p0)) (hT : IsTn n₀ w (.pointer p0) T) :
    SeqStopsK Fence.wide n Try.prog 51 #[.pointer (some ⟨Bo, 0, none⟩)] (fun x : Int × Int => #[.agg #[.int .u64 x.1, .int .i64 x.2]]) (Below n₀) (fun ys => ys = T.flat) (fun pre => pre <+: T.flat) T.flat.length w := fun l J Jx W hW _ _ hY h0 =>
  rising1_in n l Bo n₀ p0 T J Jx hY W ((hW.cell (p := ⟨Bo, 0, none⟩) hBt).trans hc) (hT.below (hW.mono hn₀)) h0
end Go.Proofs.Ytjljkpecpofbcaa
