/- Contracts: prefix.Parse, prefix.ParseRange. -/
import Derived.Test.YtmpgfmedldnhjaaGreatDoorT5
namespace Go.Proofs.YtmpgfmedldnhjaaGreatDoor
open Go.RowKit

/-- The prefix of a text. -/
def prefOf (l : List UInt8) : Option (Nat × Nat) := match partsL 47 l with
  | [x, y] => match addrOf x, numOf y 32 with
    | some a, some n => if rightB a n then some (a, n) else none
    | _, _ => none
  | _ => none
theorem pf_no {l : List UInt8} (h : 47 ∉ l) : prefOf l = none := by unfold prefOf; rw [parts_none h]
theorem pf_addr {l p : List UInt8} {rest : List (List UInt8)} (h : partsL 47 l = p :: rest) (ha : addrOf p = none) : prefOf l = none := by
  unfold prefOf; rw [h]
  match rest with
  | [] => rfl
  | [q] => simp only [ha]
  | _ :: _ :: _ => rfl
theorem no47 {q : List UInt8} {n most : Nat} (h : numOf q most = some n) : 47 ∉ q := fun hm => by have := numOf_fig h 47 hm; revert this; decide
theorem pf_num {l p q : List UInt8} (h : partsL 47 l = p :: partsL 47 q) (hn : numOf q 32 = none) : prefOf l = none := by
  unfold prefOf; rw [h]
  rcases split_at 47 q with hq | ⟨b, a, rfl, hb⟩
  · rw [parts_none hq]; simp only [hn]
    cases addrOf p <;> rfl
  · rw [parts_cut a hb]
    cases hp : partsL 47 a with
    | nil => exact absurd hp (parts_ne 47 a)
    | cons x y => rfl
theorem pf_yes {l p q : List UInt8} {a n : Nat} (h : partsL 47 l = p :: partsL 47 q) (ha : addrOf p = some a) (hn : numOf q 32 = some n) : prefOf l = if rightB a n then some (a, n) else none := by
  unfold prefOf; rw [h, parts_none (no47 hn)]; simp only [ha, hn]
/-- What Parse answers. -/
def ppV (l : List UInt8) : Value := match prefOf l with
  | some (a, n) => .tuple #[.agg #[.int .u32 a, .int .i64 n], .int .i64 0]
  | none => .tuple #[.agg #[.int .u32 0, .int .i64 0], .int .i64 21]
theorem ppV_none {l : List UInt8} (h : prefOf l = none) : ppV l = .tuple #[.agg #[.int .u32 0, .int .i64 0], .int .i64 21] := by unfold ppV; rw [h]
theorem ppV_some {l : List UInt8} {a n : Nat} (h : prefOf l = some (a, n)) : ppV l = .tuple #[.agg #[.int .u32 a, .int .i64 n], .int .i64 0] := by unfold ppV; rw [h]

theorem pad_none {l : List UInt8} (s : ByteArray) (w : World) (hs : s.data.toList = l) (hz : s.size ≤ 1000) (h : addrOf l = none) : Calls Tryz.prog 67 #[.string s] w fun e w' => e = .returned (.tuple #[.int .u32 0, .int .i64 21]) ∧ Below w.heap.size w w' := by
  subst hs
  have := parseAddr_any s w hz
  rwa [paV_none h] at this
theorem pad_some {l : List UInt8} {a : Nat} (s : ByteArray) (w : World) (hs : s.data.toList = l) (hz : s.size ≤ 1000) (h : addrOf l = some a) : Calls Tryz.prog 67 #[.string s] w fun e w' => e = .returned (.tuple #[.int .u32 a, .int .i64 0]) ∧ Below w.heap.size w w' := by
  subst hs
  have := parseAddr_any s w hz
  rwa [paV_some h] at this

/-- One of the library's or the program's calls, in any world. -/
def CutIs (s : ByteArray) (c : UInt8) (P Q : ByteArray) (f : Bool) : Prop := ∀ u : World, Calls Tryz.prog 65 #[.string s, .string ⟨#[c]⟩] u fun e w' => e = .returned (.tuple #[.string P, .string Q, .bool f]) ∧ Below u.heap.size u w'
def AddrIs (P : ByteArray) (a : Nat) (er : Int) : Prop := ∀ u : World, Calls Tryz.prog 67 #[.string P] u fun e w' => e = .returned (.tuple #[.int .u32 a, .int .i64 er]) ∧ Below u.heap.size u w'
def FigIs (Q : ByteArray) (most n : Nat) (ok : Bool) : Prop := ∀ u : World, Calls Tryz.prog 84 #[.string Q, .int .i64 most] u fun e w' => e = .returned (.tuple #[.int .i64 n, .bool ok]) ∧ u = w'

set_option maxRecDepth 100000 in
set_option maxHeartbeats 1000000 in
theorem parse_failA (s P Q : ByteArray) (f ok : Bool) (a n : Nat) (w : World) (hC : CutIs s 47 P Q f) (hA : AddrIs P a 21) (hF : FigIs Q 32 n ok) :
    Calls Tryz.prog 82 #[.string s] w fun e w' => e = .returned (.tuple #[.agg #[.int .u32 0, .int .i64 0], .int .i64 21]) ∧ Below w.heap.size w w' := by
  go_enter Tryz.func82, Tryz.ntmps82
  go_wp2_with fail
  refine (hC _).mono ?_
  rintro e w1 ⟨rfl, b1⟩
  go_wp2_with fail
  refine (hA _).mono ?_
  rintro e w2 ⟨rfl, b2⟩
  go_wp2_with fail
  refine (hF _).mono ?_
  rintro e w3 ⟨rfl, rfl⟩
  have r2 := ((At.new w _ _).belows b1).belows b2
  have hz : w.heap.size < w2.heap.size := r2.lt
  have c0 : w2.cell? ⟨w.heap.size, 0, none⟩ = some (.int .u32 0) := (r2.cell 0).trans rfl
  have c1 : w2.cell? ⟨w.heap.size, 1, none⟩ = some (.int .i64 0) := (r2.cell 1).trans rfl
  have f0 := r2.frozen 0
  have f1 := r2.frozen 1
  have hB : Below w.heap.size w w2 := (((Below.refl _ w).alloc (Nat.le_refl _) _).trans (b1.mono (by simp))).trans (b2.mono (by have := b1.size; simp at this; omega))
  have R := Lib.hid r2
  clear r2 b1 b2
  go_wp2
  have A1 := ((R.out.set0 0 (.int .u32 0)).set0 1 (.int .i64 0)).alloc (.cells #[.int .u32 a, .int .i64 n] 81)
  refine bodyPost_ret (v := .tuple #[.agg #[.int .u32 0, .int .i64 0], .int .i64 21]) (by simp [results, Tryz.results82, go_sem, A1.cell 0, A1.cell 1]) rfl ⟨rfl, ?_⟩
  exact ((hB.setCell (by simp) _).setCell (by simp) _).alloc (by simp [World.setCell]; omega) _
set_option maxRecDepth 100000 in
set_option maxHeartbeats 1000000 in
theorem parse_failB (s P Q : ByteArray) (f : Bool) (a n : Nat) (w : World) (hC : CutIs s 47 P Q f) (hA : AddrIs P a 0) (hF : FigIs Q 32 n false) :
    Calls Tryz.prog 82 #[.string s] w fun e w' => e = .returned (.tuple #[.agg #[.int .u32 0, .int .i64 0], .int .i64 21]) ∧ Below w.heap.size w w' := by
  go_enter Tryz.func82, Tryz.ntmps82
  go_wp2_with fail
  refine (hC _).mono ?_
  rintro e w1 ⟨rfl, b1⟩
  go_wp2_with fail
  refine (hA _).mono ?_
  rintro e w2 ⟨rfl, b2⟩
  go_wp2_with fail
  refine (hF _).mono ?_
  rintro e w3 ⟨rfl, rfl⟩
  have r2 := ((At.new w _ _).belows b1).belows b2
  have hz : w.heap.size < w2.heap.size := r2.lt
  have c0 : w2.cell? ⟨w.heap.size, 0, none⟩ = some (.int .u32 0) := (r2.cell 0).trans rfl
  have c1 : w2.cell? ⟨w.heap.size, 1, none⟩ = some (.int .i64 0) := (r2.cell 1).trans rfl
  have f0 := r2.frozen 0
  have f1 := r2.frozen 1
  have hB : Below w.heap.size w w2 := (((Below.refl _ w).alloc (Nat.le_refl _) _).trans (b1.mono (by simp))).trans (b2.mono (by have := b1.size; simp at this; omega))
  have R := Lib.hid r2
  clear r2 b1 b2
  go_wp2
  have A1 := ((R.out.set0 0 (.int .u32 0)).set0 1 (.int .i64 0)).alloc (.cells #[.int .u32 a, .int .i64 n] 81)
  refine bodyPost_ret (v := .tuple #[.agg #[.int .u32 0, .int .i64 0], .int .i64 21]) (by simp [results, Tryz.results82, go_sem, A1.cell 0, A1.cell 1]) rfl ⟨rfl, ?_⟩
  exact ((hB.setCell (by simp) _).setCell (by simp) _).alloc (by simp [World.setCell]; omega) _
set_option maxRecDepth 100000 in
set_option maxHeartbeats 1000000 in
theorem parse_failC (s P Q : ByteArray) (f : Bool) (a n : Nat) (w : World) (hC : CutIs s 47 P Q f) (hA : AddrIs P a 0) (hF : FigIs Q 32 n true) (ha : a < 4294967296) (hr : rightB a n = false) :
    Calls Tryz.prog 82 #[.string s] w fun e w' => e = .returned (.tuple #[.agg #[.int .u32 0, .int .i64 0], .int .i64 21]) ∧ Below w.heap.size w w' := by
  go_enter Tryz.func82, Tryz.ntmps82
  go_wp2_with fail
  refine (hC _).mono ?_
  rintro e w1 ⟨rfl, b1⟩
  go_wp2_with fail
  refine (hA _).mono ?_
  rintro e w2 ⟨rfl, b2⟩
  go_wp2_with fail
  refine (hF _).mono ?_
  rintro e w3 ⟨rfl, rfl⟩
  go_wp2_with fail
  refine (right_any a n _ ha).mono ?_
  rw [hr]
  rintro e w4 ⟨rfl, b4⟩
  have r2 := ((((At.new w _ _).belows b1).belows b2).alloc (.cells #[.int .u32 a, .int .i64 n] 81)).belows b4
  have p2 := (At.new w2 #[.int .u32 a, .int .i64 n] 81).belows b4
  have hz : w.heap.size < w4.heap.size := r2.lt
  have hz2 : w2.heap.size < w4.heap.size := p2.lt
  have hne : w.heap.size < w2.heap.size := (((At.new w #[.int .u32 0, .int .i64 0] 81).belows b1).belows b2).lt
  have c0 : w4.cell? ⟨w.heap.size, 0, none⟩ = some (.int .u32 0) := (r2.cell 0).trans rfl
  have c1 : w4.cell? ⟨w.heap.size, 1, none⟩ = some (.int .i64 0) := (r2.cell 1).trans rfl
  have d0 : w4.cell? ⟨w2.heap.size, 0, none⟩ = some (.int .u32 a) := (p2.cell 0).trans rfl
  have d1 : w4.cell? ⟨w2.heap.size, 1, none⟩ = some (.int .i64 n) := (p2.cell 1).trans rfl
  have f0 := r2.frozen 0
  have f1 := r2.frozen 1
  have hB2 : Below w.heap.size w w2 := (((Below.refl _ w).alloc (Nat.le_refl _) _).trans (b1.mono (by simp))).trans (b2.mono (by have := b1.size; simp at this; omega))
  have hB : Below w.heap.size w w4 := (hB2.alloc (by omega) _).trans (b4.mono (by simp; omega))
  have R := Lib.hid r2
  clear r2 b1 b2 p2 b4
  go_wp2
  have A1 := (R.out.set0 0 (.int .u32 0)).set0 1 (.int .i64 0)
  refine bodyPost_ret (v := .tuple #[.agg #[.int .u32 0, .int .i64 0], .int .i64 21]) (by simp [results, Tryz.results82, go_sem, A1.cell 0, A1.cell 1]) rfl ⟨rfl, ?_⟩
  exact (hB.setCell (by simp) _).setCell (by simp) _
set_option maxRecDepth 100000 in
set_option maxHeartbeats 1000000 in
theorem parse_yes (s P Q : ByteArray) (f : Bool) (a n : Nat) (w : World) (hC : CutIs s 47 P Q f) (hA : AddrIs P a 0) (hF : FigIs Q 32 n true) (ha : a < 4294967296) (hr : rightB a n = true) :
    Calls Tryz.prog 82 #[.string s] w fun e w' => e = .returned (.tuple #[.agg #[.int .u32 a, .int .i64 n], .int .i64 0]) ∧ Below w.heap.size w w' := by
  go_enter Tryz.func82, Tryz.ntmps82
  go_wp2_with fail
  refine (hC _).mono ?_
  rintro e w1 ⟨rfl, b1⟩
  go_wp2_with fail
  refine (hA _).mono ?_
  rintro e w2 ⟨rfl, b2⟩
  go_wp2_with fail
  refine (hF _).mono ?_
  rintro e w3 ⟨rfl, rfl⟩
  go_wp2_with fail
  refine (right_any a n _ ha).mono ?_
  rw [hr]
  rintro e w4 ⟨rfl, b4⟩
  have r2 := ((((At.new w _ _).belows b1).belows b2).alloc (.cells #[.int .u32 a, .int .i64 n] 81)).belows b4
  have p2 := (At.new w2 #[.int .u32 a, .int .i64 n] 81).belows b4
  have hz : w.heap.size < w4.heap.size := r2.lt
  have hz2 : w2.heap.size < w4.heap.size := p2.lt
  have hne : w.heap.size < w2.heap.size := (((At.new w #[.int .u32 0, .int .i64 0] 81).belows b1).belows b2).lt
  have c0 : w4.cell? ⟨w.heap.size, 0, none⟩ = some (.int .u32 0) := (r2.cell 0).trans rfl
  have c1 : w4.cell? ⟨w.heap.size, 1, none⟩ = some (.int .i64 0) := (r2.cell 1).trans rfl
  have d0 : w4.cell? ⟨w2.heap.size, 0, none⟩ = some (.int .u32 a) := (p2.cell 0).trans rfl
  have d1 : w4.cell? ⟨w2.heap.size, 1, none⟩ = some (.int .i64 n) := (p2.cell 1).trans rfl
  have f0 := r2.frozen 0
  have f1 := r2.frozen 1
  have hB2 : Below w.heap.size w w2 := (((Below.refl _ w).alloc (Nat.le_refl _) _).trans (b1.mono (by simp))).trans (b2.mono (by have := b1.size; simp at this; omega))
  have hB : Below w.heap.size w w4 := (hB2.alloc (by omega) _).trans (b4.mono (by simp; omega))
  have R := Lib.hid r2
  clear r2 b1 b2 p2 b4
  go_wp2
  have A1 := (R.out.set0 0 (.int .u32 a)).set0 1 (.int .i64 n)
  refine bodyPost_ret (v := .tuple #[.agg #[.int .u32 a, .int .i64 n], .int .i64 0]) (by simp [results, Tryz.results82, go_sem, A1.cell 0, A1.cell 1]) rfl ⟨rfl, ?_⟩
  exact (hB.setCell (by simp) _).setCell (by simp) _
/-- prefix.Parse. -/
theorem parse_any (s : ByteArray) (w : World) (hz : s.size ≤ 1000) : Calls Tryz.prog 82 #[.string s] w fun e w' => e = .returned (ppV s.data.toList) ∧ Below w.heap.size w w' := by
  rcases split_at 47 s.data.toList with hno | ⟨p, q, hs, hp⟩
  · rw [ppV_none (pf_no hno)]
    have hC : CutIs s 47 s ⟨#[]⟩ false := fun u => cut_no s 47 u hno
    have hF : FigIs ⟨#[]⟩ 32 0 false := fun u => figs_none _ u rfl (by omega) (by decide) (numOf_nil 32)
    cases ha : addrOf s.data.toList with
    | none => exact parse_failA s s _ false false 0 0 w hC (fun u => pad_none s u rfl hz ha) hF
    | some a => exact parse_failB s s _ false a 0 w hC (fun u => pad_some s u rfl hz ha) hF
  · have hl := congrArg List.length hs
    rw [← str_size] at hl
    simp only [List.length_append, List.length_cons] at hl
    have hC : CutIs s 47 ⟨p.toArray⟩ ⟨q.toArray⟩ true := fun u => cut_yes s 47 u p q hs hp hz
    have hP : partsL 47 s.data.toList = p :: partsL 47 q := by rw [hs]; exact parts_cut q hp
    cases ha : addrOf p with
    | none =>
      rw [ppV_none (pf_addr hP ha)]
      have hA : AddrIs ⟨p.toArray⟩ 0 21 := fun u => pad_none _ u rfl (by rw [str_len]; omega) ha
      cases hn : numOf q 32 with
      | none => exact parse_failA s _ _ true false 0 0 w hC hA (fun u => figs_none _ u rfl (by omega) (by rw [str_len]; omega) hn)
      | some n => exact parse_failA s _ _ true true 0 n w hC hA (fun u => figs_some _ u rfl (by omega) (by rw [str_len]; omega) hn)
    | some a =>
      have hA : AddrIs ⟨p.toArray⟩ a 0 := fun u => pad_some _ u rfl (by rw [str_len]; omega) ha
      cases hn : numOf q 32 with
      | none =>
        rw [ppV_none (pf_num hP hn)]
        exact parse_failB s _ _ true a 0 w hC hA (fun u => figs_none _ u rfl (by omega) (by rw [str_len]; omega) hn)
      | some n =>
        have hF : FigIs ⟨q.toArray⟩ 32 n true := fun u => figs_some _ u rfl (by omega) (by rw [str_len]; omega) hn
        have hy := pf_yes hP ha hn
        by_cases hr : rightB a n = true
        · rw [if_pos hr] at hy
          rw [ppV_some hy]
          exact parse_yes s _ _ true a n w hC hA hF (addrOf_lt ha) hr
        · rw [if_neg hr] at hy
          rw [ppV_none hy]
          exact parse_failC s _ _ true a n w hC hA hF (addrOf_lt ha) (by simpa using hr)
end Go.Proofs.YtmpgfmedldnhjaaGreatDoor
