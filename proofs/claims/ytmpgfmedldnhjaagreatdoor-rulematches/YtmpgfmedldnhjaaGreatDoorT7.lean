/- Contracts: prefix.ParseRange. -/
import Derived.Test.YtmpgfmedldnhjaaGreatDoorT6
namespace Go.Proofs.YtmpgfmedldnhjaaGreatDoor
open Go.RowKit

theorem mem_parts {c x : UInt8} : ∀ {l : List UInt8}, x ∈ l → x = c ∨ ∃ p ∈ partsL c l, x ∈ p
  | [], h => by simp at h
  | y :: l, h => by
    unfold partsL
    by_cases hy : y = c
    · rw [if_pos hy]
      rcases List.mem_cons.1 h with h | h
      · left; rw [h]; exact hy
      · rcases mem_parts h with h | ⟨p, hp, hx⟩
        · exact .inl h
        · exact .inr ⟨p, by simp [hp], hx⟩
    · rw [if_neg hy]
      cases hp : partsL c l with
      | nil => exact absurd hp (parts_ne c l)
      | cons q qs =>
        rcases List.mem_cons.1 h with h | h
        · exact .inr ⟨y :: q, by simp, by rw [h]; simp⟩
        · rcases mem_parts h with h | ⟨p, hm, hx⟩
          · exact .inl h
          · rw [hp] at hm
            rcases List.mem_cons.1 hm with hm | hm
            · exact .inr ⟨y :: q, by simp, by rw [hm] at hx; simp [hx]⟩
            · exact .inr ⟨p, by simp [hm], hx⟩
theorem addr_chars {l : List UInt8} {a : Nat} (h : addrOf l = some a) : ∀ x ∈ l, x = 46 ∨ fig x = true := by
  intro x hx
  unfold addrOf at h
  split at h
  · rename_i hc
    rcases mem_parts (c := 46) hx with h1 | ⟨p, hp, hm⟩
    · exact .inl h1
    · obtain ⟨n, hn⟩ := Option.isSome_iff_exists.1 (hc.2 p hp)
      exact .inr (numOf_fig hn x hm)
  · cases h
theorem no45a {l : List UInt8} {a : Nat} (h : addrOf l = some a) : 45 ∉ l := fun hm => by
  rcases addr_chars h 45 hm with h | h <;> revert h <;> decide
theorem pref_no45 {l : List UInt8} {x : Nat × Nat} (h : prefOf l = some x) : 45 ∉ l := by
  intro hm
  unfold prefOf at h
  split at h
  · rename_i u v hp
    split at h
    · rename_i a n ha hn
      rcases mem_parts (c := 47) hm with h1 | ⟨p, hp', hx⟩
      · revert h1; decide
      · rw [hp] at hp'
        simp only [List.mem_cons, List.not_mem_nil, or_false] at hp'
        rcases hp' with rfl | rfl
        · exact no45a ha hx
        · have := numOf_fig hn 45 hx; revert this; decide
    · cases h
  · cases h

/-- The range of a text. -/
def rangeOf (l : List UInt8) : Option (Nat × Nat) := match prefOf l with
  | some (a, n) => some (a, a + (sz n - 1))
  | none => match partsL 45 l with
    | [x, y] => match addrOf x, addrOf y with
      | some f, some t => if f ≤ t then some (f, t) else none
      | _, _ => none
    | _ => none
theorem rg_pref {l : List UInt8} {a n : Nat} (h : prefOf l = some (a, n)) : rangeOf l = some (a, a + (sz n - 1)) := by unfold rangeOf; rw [h]
theorem rg_no {l : List UInt8} (h : 45 ∉ l) (hp : prefOf l = none) : rangeOf l = none := by unfold rangeOf; rw [hp, parts_none h]
theorem pref_cut {p q : List UInt8} : prefOf (p ++ 45 :: q) = none := by
  cases h : prefOf (p ++ 45 :: q) with
  | none => rfl
  | some x => exact absurd (by simp) (pref_no45 h)
theorem rg_cut {l p q : List UInt8} (hl : l = p ++ 45 :: q) (hp : 45 ∉ p) : rangeOf l = match addrOf p, addrOf q with
    | some f, some t => if f ≤ t then some (f, t) else none
    | _, _ => none := by
  subst hl
  unfold rangeOf
  rw [pref_cut, parts_cut q hp]
  rcases split_at 45 q with hq | ⟨b, a, hq, hb⟩
  · rw [parts_none hq]
  · have : addrOf q = none := by
      cases h : addrOf q with
      | none => rfl
      | some x => exact absurd (by rw [hq]; simp) (no45a h)
    rw [this, hq, parts_cut a hb]
    cases hp : partsL 45 a with
    | nil => exact absurd hp (parts_ne 45 a)
    | cons x y => cases addrOf p <;> rfl
/-- What ParseRange answers. -/
def prV (l : List UInt8) : Value := match rangeOf l with
  | some (f, t) => .tuple #[.agg #[.int .u32 f, .int .u32 t], .int .i64 0]
  | none => .tuple #[.agg #[.int .u32 0, .int .u32 0], .int .i64 21]
theorem prV_none {l : List UInt8} (h : rangeOf l = none) : prV l = .tuple #[.agg #[.int .u32 0, .int .u32 0], .int .i64 21] := by unfold prV; rw [h]
theorem prV_some {l : List UInt8} {f t : Nat} (h : rangeOf l = some (f, t)) : prV l = .tuple #[.agg #[.int .u32 f, .int .u32 t], .int .i64 0] := by unfold prV; rw [h]
theorem prefOf_right {l : List UInt8} {a n : Nat} (h : prefOf l = some (a, n)) : a < 4294967296 ∧ n ≤ 32 ∧ a % sz n = 0 := by
  unfold prefOf at h
  split at h
  · split at h
    · rename_i a' n' ha hn
      split at h
      · rename_i hr
        simp only [Option.some.injEq, Prod.mk.injEq] at h
        obtain ⟨rfl, rfl⟩ := h
        obtain ⟨k, e, h1, h2⟩ := rightB_yes hr
        have : k = n' := by omega
        subst this
        exact ⟨addrOf_lt ha, h1, h2⟩
      · cases h
    · cases h
  · cases h

set_option maxRecDepth 100000 in
set_option maxHeartbeats 1000000 in
theorem ppr_none (s : ByteArray) (w : World) (hz : s.size ≤ 1000) (h : prefOf s.data.toList = none) : Calls Tryz.prog 66 #[.string s] w fun e w' => e = .returned (.tuple #[.agg #[.int .u32 0, .int .u32 0], .int .i64 21]) ∧ Below w.heap.size w w' := by
  have hp := fun u => parse_any s u hz
  rw [ppV_none h] at hp
  clear h
  go_enter Tryz.func66, Tryz.ntmps66
  go_wp2_with fail
  refine (hp _).mono ?_
  rintro e w1 ⟨rfl, b1⟩
  have r2 := (At.new w _ _).belows b1
  have hz1 : w.heap.size < w1.heap.size := r2.lt
  have c0 : w1.cell? ⟨w.heap.size, 0, none⟩ = some (.int .u32 0) := (r2.cell 0).trans rfl
  have c1 : w1.cell? ⟨w.heap.size, 1, none⟩ = some (.int .u32 0) := (r2.cell 1).trans rfl
  have f0 := r2.frozen 0
  have f1 := r2.frozen 1
  have hB : Below w.heap.size w w1 := ((Below.refl _ w).alloc (Nat.le_refl _) _).trans (b1.mono (by simp))
  have R := Lib.hid r2
  clear r2 b1
  go_wp2
  have A1 := ((R.out.set0 0 (.int .u32 0)).set0 1 (.int .u32 0)).alloc (.cells #[.int .u32 0, .int .i64 0] 81)
  refine bodyPost_ret (v := .tuple #[.agg #[.int .u32 0, .int .u32 0], .int .i64 21]) (by simp [results, Tryz.results66, go_sem, A1.cell 0, A1.cell 1]) rfl ⟨rfl, ?_⟩
  exact ((hB.setCell (by simp) _).setCell (by simp) _).alloc (by simp [World.setCell]; omega) _
set_option maxRecDepth 100000 in
set_option maxHeartbeats 1000000 in
theorem ppr_some (s : ByteArray) (a n : Nat) (w : World) (hz : s.size ≤ 1000) (h : prefOf s.data.toList = some (a, n)) : Calls Tryz.prog 66 #[.string s] w fun e w' => e = .returned (.tuple #[.agg #[.int .u32 a, .int .u32 (a + (sz n - 1) : Nat)], .int .i64 0]) ∧ Below w.heap.size w w' := by
  have hp := fun u => parse_any s u hz
  rw [ppV_some h] at hp
  obtain ⟨ha, hn, hm⟩ := prefOf_right h
  have hrg := fun u => range_yes a n u ha hn hm
  obtain ⟨m, hm'⟩ : ∃ m, a + (sz n - 1) = m := ⟨_, rfl⟩
  rw [hm'] at hrg ⊢
  clear h hm hm'
  go_enter Tryz.func66, Tryz.ntmps66
  go_wp2_with fail
  refine (hp _).mono ?_
  rintro e w1 ⟨rfl, b1⟩
  have hz0 : w.heap.size < w1.heap.size := ((At.new w #[.int .u32 0, .int .u32 0] 29).belows b1).lt
  go_wp2_with fail
  refine (hrg _).mono ?_
  rintro e w2 ⟨rfl, b2⟩
  have r2 := (((At.new w _ _).belows b1).alloc (.cells #[.int .u32 a, .int .i64 n] 81)).belows b2
  have hz1 : w.heap.size < w2.heap.size := r2.lt
  have c0 : w2.cell? ⟨w.heap.size, 0, none⟩ = some (.int .u32 0) := (r2.cell 0).trans rfl
  have c1 : w2.cell? ⟨w.heap.size, 1, none⟩ = some (.int .u32 0) := (r2.cell 1).trans rfl
  have f0 := r2.frozen 0
  have f1 := r2.frozen 1
  have hB1 : Below w.heap.size w w1 := ((Below.refl _ w).alloc (Nat.le_refl _) _).trans (b1.mono (by simp))
  have hB : Below w.heap.size w w2 := (hB1.alloc (by omega) _).trans (b2.mono (by simp; omega))
  have R := Lib.hid r2
  clear r2 b1 b2
  go_wp2
  have A1 := (R.out.set0 0 (.int .u32 a)).set0 1 (.int .u32 m)
  refine bodyPost_ret (v := .tuple #[.agg #[.int .u32 a, .int .u32 m], .int .i64 0]) (by simp [results, Tryz.results66, go_sem, A1.cell 0, A1.cell 1]) rfl ⟨rfl, ?_⟩
  exact (hB.setCell (by simp) _).setCell (by simp) _

set_option maxRecDepth 100000 in
set_option maxHeartbeats 1000000 in
theorem prg_pref (s : ByteArray) (x y : Nat) (er : Int) (w : World) (hC : CutIs s 45 s ⟨#[]⟩ false) (hP : ∀ u, Calls Tryz.prog 66 #[.string s] u fun e w' => e = .returned (.tuple #[.agg #[.int .u32 x, .int .u32 y], .int .i64 er]) ∧ Below u.heap.size u w') :
    Calls Tryz.prog 52 #[.string s] w fun e w' => e = .returned (.tuple #[.agg #[.int .u32 x, .int .u32 y], .int .i64 er]) ∧ Below w.heap.size w w' := by
  go_enter Tryz.func52, Tryz.ntmps52
  go_wp2_with fail
  refine (hC _).mono ?_
  rintro e w1 ⟨rfl, b1⟩
  go_wp2_with fail
  refine (hP _).mono ?_
  rintro e w2 ⟨rfl, b2⟩
  have r2 := ((At.new w _ _).belows b1).belows b2
  have hz1 : w.heap.size < w2.heap.size := r2.lt
  have c0 : w2.cell? ⟨w.heap.size, 0, none⟩ = some (.int .u32 0) := (r2.cell 0).trans rfl
  have c1 : w2.cell? ⟨w.heap.size, 1, none⟩ = some (.int .u32 0) := (r2.cell 1).trans rfl
  have f0 := r2.frozen 0
  have f1 := r2.frozen 1
  have hB : Below w.heap.size w w2 := (((Below.refl _ w).alloc (Nat.le_refl _) _).trans (b1.mono (by simp))).trans (b2.mono (by have := b1.size; simp at this; omega))
  have R := Lib.hid r2
  clear r2 b1 b2
  go_wp2
  have A1 := (R.out.set0 0 (.int .u32 x)).set0 1 (.int .u32 y)
  refine bodyPost_ret (v := .tuple #[.agg #[.int .u32 x, .int .u32 y], .int .i64 er]) (by simp [results, Tryz.results52, go_sem, A1.cell 0, A1.cell 1]) rfl ⟨rfl, ?_⟩
  exact (hB.setCell (by simp) _).setCell (by simp) _
set_option maxRecDepth 100000 in
set_option maxHeartbeats 1000000 in
theorem prg_failA (s P Q : ByteArray) (a b : Nat) (eb : Int) (w : World) (hC : CutIs s 45 P Q true) (hA : AddrIs P a 21) (hB' : AddrIs Q b eb) :
    Calls Tryz.prog 52 #[.string s] w fun e w' => e = .returned (.tuple #[.agg #[.int .u32 0, .int .u32 0], .int .i64 21]) ∧ Below w.heap.size w w' := by
  go_enter Tryz.func52, Tryz.ntmps52
  go_wp2_with fail
  refine (hC _).mono ?_
  rintro e w1 ⟨rfl, b1⟩
  go_wp2_with fail
  refine (hA _).mono ?_
  rintro e w2 ⟨rfl, b2⟩
  go_wp2_with fail
  refine (hB' _).mono ?_
  rintro e w3 ⟨rfl, b3⟩
  have r3 := (((At.new w #[.int .u32 0, .int .u32 0] 29).belows b1).belows b2).belows b3
  have hz3 : w.heap.size < w3.heap.size := r3.lt
  have hB3 : Below w.heap.size w w3 := ((((Below.refl _ w).alloc (Nat.le_refl _) _).trans (b1.mono (by simp))).trans (b2.mono (by have := b1.size; simp at this; omega))).trans (b3.mono (by have h1 := b1.size; have h2 := b2.size; simp at h1; omega))
  have c0 : w3.cell? ⟨w.heap.size, 0, none⟩ = some (.int .u32 0) := (r3.cell 0).trans rfl
  have c1 : w3.cell? ⟨w.heap.size, 1, none⟩ = some (.int .u32 0) := (r3.cell 1).trans rfl
  have f0 := r3.frozen 0
  have f1 := r3.frozen 1
  have R := Lib.hid r3
  clear r3 b1 b2 b3
  go_wp2
  have A1 := ((R.out.set0 0 (.int .u32 0)).set0 1 (.int .u32 0)).alloc (.cells #[.int .u32 a, .int .u32 b] 29)
  refine bodyPost_ret (v := .tuple #[.agg #[.int .u32 0, .int .u32 0], .int .i64 21]) (by simp [results, Tryz.results52, go_sem, A1.cell 0, A1.cell 1]) rfl ⟨rfl, ?_⟩
  exact ((hB3.setCell (by simp) _).setCell (by simp) _).alloc (by simp [World.setCell]; omega) _
set_option maxRecDepth 100000 in
set_option maxHeartbeats 1000000 in
theorem prg_failB (s P Q : ByteArray) (a b : Nat) (w : World) (hC : CutIs s 45 P Q true) (hA : AddrIs P a 0) (hB' : AddrIs Q b 21) :
    Calls Tryz.prog 52 #[.string s] w fun e w' => e = .returned (.tuple #[.agg #[.int .u32 0, .int .u32 0], .int .i64 21]) ∧ Below w.heap.size w w' := by
  go_enter Tryz.func52, Tryz.ntmps52
  go_wp2_with fail
  refine (hC _).mono ?_
  rintro e w1 ⟨rfl, b1⟩
  go_wp2_with fail
  refine (hA _).mono ?_
  rintro e w2 ⟨rfl, b2⟩
  go_wp2_with fail
  refine (hB' _).mono ?_
  rintro e w3 ⟨rfl, b3⟩
  have r3 := (((At.new w #[.int .u32 0, .int .u32 0] 29).belows b1).belows b2).belows b3
  have hz3 : w.heap.size < w3.heap.size := r3.lt
  have hB3 : Below w.heap.size w w3 := ((((Below.refl _ w).alloc (Nat.le_refl _) _).trans (b1.mono (by simp))).trans (b2.mono (by have := b1.size; simp at this; omega))).trans (b3.mono (by have h1 := b1.size; have h2 := b2.size; simp at h1; omega))
  have c0 : w3.cell? ⟨w.heap.size, 0, none⟩ = some (.int .u32 0) := (r3.cell 0).trans rfl
  have c1 : w3.cell? ⟨w.heap.size, 1, none⟩ = some (.int .u32 0) := (r3.cell 1).trans rfl
  have f0 := r3.frozen 0
  have f1 := r3.frozen 1
  have R := Lib.hid r3
  clear r3 b1 b2 b3
  go_wp2
  have A1 := ((R.out.set0 0 (.int .u32 0)).set0 1 (.int .u32 0)).alloc (.cells #[.int .u32 a, .int .u32 b] 29)
  refine bodyPost_ret (v := .tuple #[.agg #[.int .u32 0, .int .u32 0], .int .i64 21]) (by simp [results, Tryz.results52, go_sem, A1.cell 0, A1.cell 1]) rfl ⟨rfl, ?_⟩
  exact ((hB3.setCell (by simp) _).setCell (by simp) _).alloc (by simp [World.setCell]; omega) _
set_option maxRecDepth 100000 in
set_option maxHeartbeats 1000000 in
theorem prg_failC (s P Q : ByteArray) (a b : Nat) (w : World) (hC : CutIs s 45 P Q true) (hA : AddrIs P a 0) (hB' : AddrIs Q b 0) (hr : decide (a ≤ b) = false) :
    Calls Tryz.prog 52 #[.string s] w fun e w' => e = .returned (.tuple #[.agg #[.int .u32 0, .int .u32 0], .int .i64 21]) ∧ Below w.heap.size w w' := by
  go_enter Tryz.func52, Tryz.ntmps52
  go_wp2_with fail
  refine (hC _).mono ?_
  rintro e w1 ⟨rfl, b1⟩
  go_wp2_with fail
  refine (hA _).mono ?_
  rintro e w2 ⟨rfl, b2⟩
  go_wp2_with fail
  refine (hB' _).mono ?_
  rintro e w3 ⟨rfl, b3⟩
  have r3 := (((At.new w #[.int .u32 0, .int .u32 0] 29).belows b1).belows b2).belows b3
  have hz3 : w.heap.size < w3.heap.size := r3.lt
  have hB3 : Below w.heap.size w w3 := ((((Below.refl _ w).alloc (Nat.le_refl _) _).trans (b1.mono (by simp))).trans (b2.mono (by have := b1.size; simp at this; omega))).trans (b3.mono (by have h1 := b1.size; have h2 := b2.size; simp at h1; omega))
  clear b1 b2 b3
  go_wp2_with fail
  refine (rightRange_any a b _).mono ?_
  rw [hr]
  rintro e w4 ⟨rfl, b4⟩
  have r2 := (r3.alloc (.cells #[.int .u32 a, .int .u32 b] 29)).belows b4
  have p2 := (At.new w3 #[.int .u32 a, .int .u32 b] 29).belows b4
  have hz : w.heap.size < w4.heap.size := r2.lt
  have hz2 : w3.heap.size < w4.heap.size := p2.lt
  have c0 : w4.cell? ⟨w.heap.size, 0, none⟩ = some (.int .u32 0) := (r2.cell 0).trans rfl
  have c1 : w4.cell? ⟨w.heap.size, 1, none⟩ = some (.int .u32 0) := (r2.cell 1).trans rfl
  have d0 : w4.cell? ⟨w3.heap.size, 0, none⟩ = some (.int .u32 a) := (p2.cell 0).trans rfl
  have d1 : w4.cell? ⟨w3.heap.size, 1, none⟩ = some (.int .u32 b) := (p2.cell 1).trans rfl
  have f0 := r2.frozen 0
  have f1 := r2.frozen 1
  have hB : Below w.heap.size w w4 := (hB3.alloc (by omega) _).trans (b4.mono (by simp; omega))
  have R := Lib.hid r2
  clear r2 r3 p2 b4
  go_wp2
  have A1 := (R.out.set0 0 (.int .u32 0)).set0 1 (.int .u32 0)
  refine bodyPost_ret (v := .tuple #[.agg #[.int .u32 0, .int .u32 0], .int .i64 21]) (by simp [results, Tryz.results52, go_sem, A1.cell 0, A1.cell 1]) rfl ⟨rfl, ?_⟩
  exact (hB.setCell (by simp) _).setCell (by simp) _
set_option maxRecDepth 100000 in
set_option maxHeartbeats 1000000 in
theorem prg_yes (s P Q : ByteArray) (a b : Nat) (w : World) (hC : CutIs s 45 P Q true) (hA : AddrIs P a 0) (hB' : AddrIs Q b 0) (hr : decide (a ≤ b) = true) :
    Calls Tryz.prog 52 #[.string s] w fun e w' => e = .returned (.tuple #[.agg #[.int .u32 a, .int .u32 b], .int .i64 0]) ∧ Below w.heap.size w w' := by
  go_enter Tryz.func52, Tryz.ntmps52
  go_wp2_with fail
  refine (hC _).mono ?_
  rintro e w1 ⟨rfl, b1⟩
  go_wp2_with fail
  refine (hA _).mono ?_
  rintro e w2 ⟨rfl, b2⟩
  go_wp2_with fail
  refine (hB' _).mono ?_
  rintro e w3 ⟨rfl, b3⟩
  have r3 := (((At.new w #[.int .u32 0, .int .u32 0] 29).belows b1).belows b2).belows b3
  have hz3 : w.heap.size < w3.heap.size := r3.lt
  have hB3 : Below w.heap.size w w3 := ((((Below.refl _ w).alloc (Nat.le_refl _) _).trans (b1.mono (by simp))).trans (b2.mono (by have := b1.size; simp at this; omega))).trans (b3.mono (by have h1 := b1.size; have h2 := b2.size; simp at h1; omega))
  clear b1 b2 b3
  go_wp2_with fail
  refine (rightRange_any a b _).mono ?_
  rw [hr]
  rintro e w4 ⟨rfl, b4⟩
  have r2 := (r3.alloc (.cells #[.int .u32 a, .int .u32 b] 29)).belows b4
  have p2 := (At.new w3 #[.int .u32 a, .int .u32 b] 29).belows b4
  have hz : w.heap.size < w4.heap.size := r2.lt
  have hz2 : w3.heap.size < w4.heap.size := p2.lt
  have c0 : w4.cell? ⟨w.heap.size, 0, none⟩ = some (.int .u32 0) := (r2.cell 0).trans rfl
  have c1 : w4.cell? ⟨w.heap.size, 1, none⟩ = some (.int .u32 0) := (r2.cell 1).trans rfl
  have d0 : w4.cell? ⟨w3.heap.size, 0, none⟩ = some (.int .u32 a) := (p2.cell 0).trans rfl
  have d1 : w4.cell? ⟨w3.heap.size, 1, none⟩ = some (.int .u32 b) := (p2.cell 1).trans rfl
  have f0 := r2.frozen 0
  have f1 := r2.frozen 1
  have hB : Below w.heap.size w w4 := (hB3.alloc (by omega) _).trans (b4.mono (by simp; omega))
  have R := Lib.hid r2
  clear r2 r3 p2 b4
  go_wp2
  have A1 := (R.out.set0 0 (.int .u32 a)).set0 1 (.int .u32 b)
  refine bodyPost_ret (v := .tuple #[.agg #[.int .u32 a, .int .u32 b], .int .i64 0]) (by simp [results, Tryz.results52, go_sem, A1.cell 0, A1.cell 1]) rfl ⟨rfl, ?_⟩
  exact (hB.setCell (by simp) _).setCell (by simp) _
/-- prefix.ParseRange. -/
theorem parseRange_any (s : ByteArray) (w : World) (hz : s.size ≤ 1000) : Calls Tryz.prog 52 #[.string s] w fun e w' => e = .returned (prV s.data.toList) ∧ Below w.heap.size w w' := by
  rcases split_at 45 s.data.toList with hno | ⟨p, q, hs, hp⟩
  · have hC : CutIs s 45 s ⟨#[]⟩ false := fun u => cut_no s 45 u hno
    cases h : prefOf s.data.toList with
    | none =>
      rw [prV_none (rg_no hno h)]
      exact prg_pref s 0 0 21 w hC (fun u => ppr_none s u hz h)
    | some x =>
      obtain ⟨a, n⟩ := x
      rw [prV_some (rg_pref h)]
      exact prg_pref s a _ 0 w hC (fun u => ppr_some s a n u hz h)
  · have hl := congrArg List.length hs
    rw [← str_size] at hl
    simp only [List.length_append, List.length_cons] at hl
    have hC : CutIs s 45 ⟨p.toArray⟩ ⟨q.toArray⟩ true := fun u => cut_yes s 45 u p q hs hp hz
    have hrg := rg_cut hs hp
    cases ha : addrOf p with
    | none =>
      have hA : AddrIs ⟨p.toArray⟩ 0 21 := fun u => pad_none _ u rfl (by rw [str_len]; omega) ha
      rw [ha] at hrg
      rw [prV_none hrg]
      cases hb : addrOf q with
      | none => exact prg_failA s _ _ 0 0 21 w hC hA (fun u => pad_none _ u rfl (by rw [str_len]; omega) hb)
      | some b => exact prg_failA s _ _ 0 b 0 w hC hA (fun u => pad_some _ u rfl (by rw [str_len]; omega) hb)
    | some a =>
      have hA : AddrIs ⟨p.toArray⟩ a 0 := fun u => pad_some _ u rfl (by rw [str_len]; omega) ha
      rw [ha] at hrg
      cases hb : addrOf q with
      | none =>
        rw [hb] at hrg
        rw [prV_none hrg]
        exact prg_failB s _ _ a 0 w hC hA (fun u => pad_none _ u rfl (by rw [str_len]; omega) hb)
      | some b =>
        have hB : AddrIs ⟨q.toArray⟩ b 0 := fun u => pad_some _ u rfl (by rw [str_len]; omega) hb
        rw [hb] at hrg
        by_cases hab : a ≤ b
        · have hrg' : rangeOf s.data.toList = some (a, b) := by rw [hrg]; simp [hab]
          rw [prV_some hrg']
          exact prg_yes s _ _ a b w hC hA hB (by simpa using hab)
        · have hrg' : rangeOf s.data.toList = none := by rw [hrg]; simp [hab]
          rw [prV_none hrg']
          exact prg_failC s _ _ a b w hC hA hB (by simpa using hab)
end Go.Proofs.YtmpgfmedldnhjaaGreatDoor
