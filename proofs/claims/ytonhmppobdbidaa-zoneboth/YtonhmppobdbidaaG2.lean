/- Contracts: slices.Values. -/
import Derived.Test.YtonhmppobdbidaaG1
namespace Go.Proofs.Ytonhmppobdbidaa
open Go.RowKit Go.Shelf
attribute [local go_sem] Oper.semAt_some
attribute [local go_sem] wide_fn

theorem vals_cons {rest : List R32} {q : Nat × Nat} {t : List (Nat × Nat)} (h : vals rest = q :: t) : ∃ (x : R32) (r' : List R32), rest = x :: r' ∧ x.1 = q ∧ vals r' = t := by
  cases rest with
  | nil => simp [vals] at h
  | cons x r' =>
    simp only [vals, List.map_cons, List.cons.injEq] at h
    exact ⟨x, r', rfl, h.1, h.2⟩
theorem vals_nil {rest : List R32} (h : vals rest = []) : rest = [] := by simpa [vals] using h
/-- Ranges whose numbers fit are such values. -/
theorem vals_of {L : List (Nat × Nat)} (h : U32 L) : ∃ xs : List R32, vals xs = L := by
  induction L with
  | nil => exact ⟨[], rfl⟩
  | cons r L ih =>
    obtain ⟨xs, rfl⟩ := ih (fun q hq => h q (by simp [hq]))
    exact ⟨⟨r, h r (by simp)⟩ :: xs, rfl⟩
/-- What a loop's body does with what is handed over. -/
def Yields3 (l n₀ N : Nat) (J Jx : List R32 → World → Prop) : Prop :=
  ∀ pre (x : R32) W, J pre W → pre.length < N → YieldAt Fence.wide 3 Try.prog l #[.agg #[.int .u32 x.1.1, .int .u32 x.1.2]] W fun e W' => (e = .returned (.bool true) ∧ J (pre ++ [x]) W' ∧ Kg n₀ W W') ∨ (e = .returned (.bool false) ∧ Jx (pre ++ [x]) W')
/-- How an iterator ends. -/
def Ends (xs : List R32) (J Jx : List R32 → World → Prop) (e : Ending) (W' : World) : Prop := (∃ v, e = .returned v) ∧ ((∃ ys, ys = xs ∧ J ys W') ∨ (∃ pre, pre <+: xs ∧ Jx pre W'))
theorem hands_of {gf : Nat} {lb : Array Value} {xs : List R32} {w : World}
    (h : ∀ (l : Nat) (J Jx : List R32 → World → Prop) (W : World), Below w.heap.size w W → At W w.heap.size #[.slice none 0 0] 22 → (∀ s A B, J s A → A.grownBy B none → J s B) → Yields3 l w.heap.size xs.length J Jx → J [] W → CallsIn Fence.wide 4 Try.prog gf (#[.func (.yield l) #[] #[]] ++ lb) W (Ends xs J Jx)) :
    ∀ W, Below w.heap.size w W → At W w.heap.size #[.slice none 0 0] 22 → Hands gf lb w.heap.size xs W := fun W hW hA l J Jx W1 hW1 hJ _ hY h0 =>
  h l J Jx W1 (hW.trans (hW1.mono hW.size)) (hA.belows hW1) (fun s A B hs hg => hJ s A B none hs hg (fun r e => by cases e)) hY h0

set_option maxRecDepth 100000 in
set_option maxHeartbeats 2000000 in
theorem values_hands (Bs : Nat) (v : Value) (xs : List R32) (w : World) (hA : At w Bs #[v] 22) (hz : IsZ w v (vals xs)) : ∀ W, Below w.heap.size w W → At W w.heap.size #[.slice none 0 0] 22 → Hands 49 #[.pointer (some ⟨Bs, 0, none⟩)] w.heap.size xs W := by
  refine hands_of fun l J Jx W hW _ hJ hY h0 => ?_
  obtain ⟨A, c, rfl, n1, m1, z⟩ := hz
  rw [vals_len] at n1 hA
  have hL : xs.length ≤ 9223372036854775807 := Nat.le_trans n1 m1
  have HZ : Hid (∀ W, Below w.heap.size w W → Zs W A (vals xs)) := Lib.hid fun W hW => z.belows hW
  have HY := Lib.hid hY
  have hc := ((hA.belows hW).cell 0).trans rfl
  clear z hY
  show CallsIn Fence.wide 4 Try.prog 49 #[.func (.yield l) #[] #[], .pointer (some ⟨Bs, 0, none⟩)] W _
  refine callsIn_of_wp Try.func49 rfl trivial ?_ rfl
  simp only [Try.ntmps49, List.size_toArray, List.length_cons, List.length_nil, Nat.reduceAdd, Nat.reduceSub, Array.replicate_succ, Array.replicate_zero, List.push_toArray, List.append_toArray, List.nil_append, List.cons_append]
  gi_wp2
  gi_loopw [7] (fun i wr => ∃ k : Nat, i = .int .i64 k ∧ k ≤ xs.length ∧ Hid (J (xs.take k) wr) ∧ Below w.heap.size w wr) (fun i _ => xs.length - (intOf i).toNat)
  case atStart => exact ⟨0, rfl, by omega, Lib.hid (by simpa using h0), hW⟩
  case round =>
    obtain ⟨k, rfl, hk, HJ, hb⟩ := hrel
    by_cases hlt : k < xs.length
    · obtain ⟨g1, o1, e1, hg1, r1⟩ := (HZ.out wr hb) (by rw [vals_len]; omega)
      subst e1
      obtain ⟨c10, c11⟩ := r1 k (by rw [vals_len]; exact hlt)
      have ex : (vals xs)[k]'(by rw [vals_len]; exact hlt) = xs[k].1 := by simp [vals]
      rw [ex] at c10 c11
      have htk : xs.take (k + 1) = xs.take k ++ [xs[k]] := List.take_succ_eq_append_getElem hlt
      have hpre : xs.take k ++ [xs[k]] <+: xs := by rw [← htk]; exact List.take_prefix _ _
      clear ex r1
      generalize xs[k] = x at c10 c11 htk hpre
      have i0 : (0 : Int) ≤ (k : Int) := by omega
      have i1 : (k : Int) < (xs.length : Int) := by omega
      have hJ2 : J (xs.take k) (wr.alloc (.cells #[.int .u32 x.1.1, .int .u32 x.1.2] 33)) := hJ _ _ _ HJ.out (World.grownBy_alloc _ _ none)
      obtain ⟨fn, tmps, assign, body, hy, hR⟩ := HY.out (xs.take k) x _ hJ2 (by simp; omega)
      have HTK := Lib.hid htk
      have HPR := Lib.hid hpre
      clear hJ2 htk hpre
      have hb2 : Below w.heap.size w (wr.alloc (.cells #[.int .u32 x.1.1, .int .u32 x.1.2] 33)) := hb.alloc hb.size _
      gi_wp2
      refine hR.mono ?_
      rintro e W3 (⟨rfl, hJ3, hk3⟩ | ⟨rfl, hJx3⟩)
      · gi_wp2
        go_roundw
        case rel => exact ⟨k + 1, by go_num, by omega, Lib.hid (by rw [HTK.out]; exact hJ3), hb2.trans hk3.1⟩
        case measure => simp [intOf]; omega
      · gi_wp2
        refine bodyPost_ret (results_none rfl _ _ _) rfl ?_
        exact ⟨⟨_, rfl⟩, .inr ⟨_, HPR.out, hJx3⟩⟩
    · obtain rfl : k = xs.length := by omega
      gi_wp2
      go_end0
      exact ⟨⟨_, rfl⟩, .inl ⟨xs, rfl, by simpa using HJ.out⟩⟩

theorem values_any (A : Option Addr) (n c : Nat) (w : World) : Calls Try.prog 34 #[.slice A n c] w fun e w' => e = .returned (.func (.func 49) #[] #[.pointer (some ⟨w.heap.size, 0, none⟩)]) ∧ w' = w.alloc (.cells #[.slice A n c] 22) := by
  go_enter Try.func34, Try.ntmps34
  go_wp2
  go_ret
  exact ⟨rfl, rfl⟩
/-- The box holds nothing yet. -/
theorem Vd.start {n₀ : Nat} {W : World} (h : At W n₀ #[.slice none 0 0] 22) : Vd n₀ W := fun v b hv hb => by
  rw [h.cell 0] at hv
  cases hv; cases hb
theorem Vd.same {n₀ : Nat} {W W' : World} (h : Vd n₀ W) (hn : n₀ < W.heap.size) (hb : Below W.heap.size W W') : Vd n₀ W' := (Kg.same hn hb).2.1 h
/-- A new block is none of the loop's. -/
theorem Vd.fresh {n₀ : Nat} {W W' : World} (h : Vd n₀ W) (hn : n₀ < W.heap.size) (hb : Below W.heap.size W W') {b : Nat} (hb' : W.heap.size ≤ b) : ¬ rowIn n₀ W' b := by
  rintro (e | ⟨u, hu, e⟩)
  · omega
  · rw [hb.cell (p := ⟨n₀, 0, none⟩) hn] at hu
    have := h u b hu e
    omega
end Go.Proofs.Ytonhmppobdbidaa
