/- Contracts: the document's Parse and ParseRange. -/
import Derived.Test.YtmpgfmedldnhjaaGreatDoorR3
namespace Go.Proofs.YtmpgfmedldnhjaaGreatDoor
open Go.RowKit

/-- The document's calls, in any world. -/
def PartsIs (s : ByteArray) (c : UInt8) (ps : List (List UInt8)) : Prop := ∀ u : World, Calls Tryz.prog 56 #[.string s, .int .u8 c.toNat] u fun e w' => ∃ v, e = .returned v ∧ w'.ownsRow u.heap.size 9 1 v ps.length (scells ps) ∧ Below u.heap.size u w'
theorem parts_is (s : ByteArray) (c : UInt8) (ps : List (List UInt8)) (hz : s.size ≤ 80) (h : partsL c s.data.toList = ps) : PartsIs s c ps := fun u => by
  have := parts_any s c u hz
  unfold PartsOut at this
  rw [h] at this
  exact this
def RAddrIs (P : ByteArray) (a : Nat) (er : Int) : Prop := ∀ u : World, Calls Tryz.prog 57 #[.string P] u fun e w' => e = .returned (.tuple #[.int .u32 a, .int .i64 er]) ∧ Below u.heap.size u w'
theorem rowform {w : World} {base : Nat} {e : TypeId} {size : Nat} {v : Value} {k : Nat} {xs : List Value} (h : w.ownsRow base e size v k xs) : ∃ A c, v = .slice A k c := by
  rcases h.2 with ⟨rfl, h0⟩ | ⟨g, cap, cur, rfl, _⟩
  · exact ⟨none, 0, by rw [h0]⟩
  · exact ⟨_, cap, rfl⟩

set_option maxRecDepth 100000 in
set_option maxHeartbeats 1000000 in
theorem rparse_len (s : ByteArray) (ps : List (List UInt8)) (w : World) (hP : PartsIs s 47 ps) (hl : ps.length ≠ 2) : Calls Tryz.prog 54 #[.string s] w fun e w' => e = .returned (.tuple #[.agg #[.int .u32 0, .int .i64 0], .int .i64 21]) ∧ Below w.heap.size w w' := by
  have l1 : ((ps.length : Int) != 2) = true := by simp; omega
  have l2 : ((ps.length : Int) == 2) = false := by rw [beq_eq_false_iff_ne]; omega
  go_enter Tryz.func54, Tryz.ntmps54
  go_wp2_with fail
  refine (hP _).mono ?_
  rintro e w1 ⟨v, rfl, row, b1⟩
  obtain ⟨A, c, rfl⟩ := rowform row
  have r1 := (At.new w #[.int .u32 0, .int .i64 0] 81).belows b1
  have c0 : w1.cell? ⟨w.heap.size, 0, none⟩ = some (.int .u32 0) := (r1.cell 0).trans rfl
  have c1 : w1.cell? ⟨w.heap.size, 1, none⟩ = some (.int .i64 0) := (r1.cell 1).trans rfl
  have f0 := r1.frozen 0
  have f1 := r1.frozen 1
  have hB : Below w.heap.size w w1 := ((Below.refl _ w).alloc (Nat.le_refl _) _).trans (b1.mono (by simp))
  have R := Lib.hid r1
  clear r1 b1 row
  go_wp2
  have A1 := (R.out.set0 0 (.int .u32 0)).set0 1 (.int .i64 0)
  refine bodyPost_ret (v := .tuple #[.agg #[.int .u32 0, .int .i64 0], .int .i64 21]) (by simp [results, Tryz.results54, go_sem, A1.cell 0, A1.cell 1]) rfl ⟨rfl, ?_⟩
  exact (hB.setCell (by simp) _).setCell (by simp) _
set_option maxRecDepth 100000 in
set_option maxHeartbeats 2000000 in
theorem rparse_A (s : ByteArray) (x y : List UInt8) (a : Nat) (n : Int) (rb : Bool) (w : World) (hP : PartsIs s 47 [x, y]) (hA : RAddrIs ⟨x.toArray⟩ a 21) (hN : ∀ u : World, Calls Tryz.prog 35 #[.string ⟨y.toArray⟩, .int .i64 32] u fun e w' => e = .returned (.int .i64 n) ∧ u = w') (ha : a < 4294967296) (hr : rightB a n = rb) :
    Calls Tryz.prog 54 #[.string s] w fun e w' => e = .returned (.tuple #[.agg #[.int .u32 0, .int .i64 0], .int .i64 21]) ∧ Below w.heap.size w w' := by
  go_enter Tryz.func54, Tryz.ntmps54
  go_wp2_with fail
  refine (hP _).mono ?_
  rintro e w1 ⟨v, rfl, row, b1⟩
  obtain ⟨g, cap, rfl, hcap, _, hg, hcell⟩ := srow row (by simp)
  have hcap2 : 2 ≤ cap := hcap
  have t0 : w1.cell? ⟨g, 0, none⟩ = some (.string ⟨x.toArray⟩) := hcell 0 (by simp)
  have t1' : w1.cell? ⟨g, 1, none⟩ = some (.string ⟨y.toArray⟩) := hcell 1 (by simp)
  have r1 := (At.new w #[.int .u32 0, .int .i64 0] 81).belows b1
  have B1 : Below w.heap.size w w1 := ((Below.refl _ w).alloc (Nat.le_refl _) _).trans (b1.mono (by simp))
  clear row hcell hcap b1
  go_wp2_with fail
  refine (hA _).mono ?_
  rintro e w2 ⟨rfl, b2⟩
  have t1 : w2.cell? ⟨g, 1, none⟩ = some (.string ⟨y.toArray⟩) := (b2.cell (p := ⟨g, 1, none⟩) hg).trans t1'
  have r2 := r1.belows b2
  have B2 : Below w.heap.size w w2 := B1.trans (b2.mono B1.size)
  clear b2 r1 t0 t1'
  go_wp2_with fail
  refine (hN _).mono ?_
  rintro e w3 ⟨rfl, rfl⟩
  go_wp2_with fail
  refine (rright_any a n _ ha).mono ?_
  rw [hr]
  rintro e w4 ⟨rfl, b4⟩
  have r4 := (r2.alloc (.cells #[.int .u32 a, .int .i64 n] 81)).belows b4
  have p4 := (At.new w2 #[.int .u32 a, .int .i64 n] 81).belows b4
  have hz : w.heap.size < w4.heap.size := r4.lt
  have hz2 : w2.heap.size < w4.heap.size := p4.lt
  have c0 : w4.cell? ⟨w.heap.size, 0, none⟩ = some (.int .u32 0) := (r4.cell 0).trans rfl
  have c1 : w4.cell? ⟨w.heap.size, 1, none⟩ = some (.int .i64 0) := (r4.cell 1).trans rfl
  have d0 : w4.cell? ⟨w2.heap.size, 0, none⟩ = some (.int .u32 a) := (p4.cell 0).trans rfl
  have d1 : w4.cell? ⟨w2.heap.size, 1, none⟩ = some (.int .i64 n) := (p4.cell 1).trans rfl
  have f0 := r4.frozen 0
  have f1 := r4.frozen 1
  have hB : Below w.heap.size w w4 := (B2.alloc B2.size _).trans (b4.mono (by simp; have := B2.size; omega))
  have R := Lib.hid r4
  clear r2 r4 p4 b4 t1
  go_wp2
  have A1 := (R.out.set0 0 (.int .u32 0)).set0 1 (.int .i64 0)
  refine bodyPost_ret (v := .tuple #[.agg #[.int .u32 0, .int .i64 0], .int .i64 21]) (by simp [results, Tryz.results54, go_sem, A1.cell 0, A1.cell 1]) rfl ⟨rfl, ?_⟩
  exact (hB.setCell (by simp) _).setCell (by simp) _
set_option maxRecDepth 100000 in
set_option maxHeartbeats 2000000 in
theorem rparse_B (s : ByteArray) (x y : List UInt8) (a : Nat) (n : Int) (w : World) (hP : PartsIs s 47 [x, y]) (hA : RAddrIs ⟨x.toArray⟩ a 0) (hN : ∀ u : World, Calls Tryz.prog 35 #[.string ⟨y.toArray⟩, .int .i64 32] u fun e w' => e = .returned (.int .i64 n) ∧ u = w') (ha : a < 4294967296) (hr : rightB a n = false) :
    Calls Tryz.prog 54 #[.string s] w fun e w' => e = .returned (.tuple #[.agg #[.int .u32 0, .int .i64 0], .int .i64 21]) ∧ Below w.heap.size w w' := by
  go_enter Tryz.func54, Tryz.ntmps54
  go_wp2_with fail
  refine (hP _).mono ?_
  rintro e w1 ⟨v, rfl, row, b1⟩
  obtain ⟨g, cap, rfl, hcap, _, hg, hcell⟩ := srow row (by simp)
  have hcap2 : 2 ≤ cap := hcap
  have t0 : w1.cell? ⟨g, 0, none⟩ = some (.string ⟨x.toArray⟩) := hcell 0 (by simp)
  have t1' : w1.cell? ⟨g, 1, none⟩ = some (.string ⟨y.toArray⟩) := hcell 1 (by simp)
  have r1 := (At.new w #[.int .u32 0, .int .i64 0] 81).belows b1
  have B1 : Below w.heap.size w w1 := ((Below.refl _ w).alloc (Nat.le_refl _) _).trans (b1.mono (by simp))
  clear row hcell hcap b1
  go_wp2_with fail
  refine (hA _).mono ?_
  rintro e w2 ⟨rfl, b2⟩
  have t1 : w2.cell? ⟨g, 1, none⟩ = some (.string ⟨y.toArray⟩) := (b2.cell (p := ⟨g, 1, none⟩) hg).trans t1'
  have r2 := r1.belows b2
  have B2 : Below w.heap.size w w2 := B1.trans (b2.mono B1.size)
  clear b2 r1 t0 t1'
  go_wp2_with fail
  refine (hN _).mono ?_
  rintro e w3 ⟨rfl, rfl⟩
  go_wp2_with fail
  refine (rright_any a n _ ha).mono ?_
  rw [hr]
  rintro e w4 ⟨rfl, b4⟩
  have r4 := (r2.alloc (.cells #[.int .u32 a, .int .i64 n] 81)).belows b4
  have p4 := (At.new w2 #[.int .u32 a, .int .i64 n] 81).belows b4
  have hz : w.heap.size < w4.heap.size := r4.lt
  have hz2 : w2.heap.size < w4.heap.size := p4.lt
  have c0 : w4.cell? ⟨w.heap.size, 0, none⟩ = some (.int .u32 0) := (r4.cell 0).trans rfl
  have c1 : w4.cell? ⟨w.heap.size, 1, none⟩ = some (.int .i64 0) := (r4.cell 1).trans rfl
  have d0 : w4.cell? ⟨w2.heap.size, 0, none⟩ = some (.int .u32 a) := (p4.cell 0).trans rfl
  have d1 : w4.cell? ⟨w2.heap.size, 1, none⟩ = some (.int .i64 n) := (p4.cell 1).trans rfl
  have f0 := r4.frozen 0
  have f1 := r4.frozen 1
  have hB : Below w.heap.size w w4 := (B2.alloc B2.size _).trans (b4.mono (by simp; have := B2.size; omega))
  have R := Lib.hid r4
  clear r2 r4 p4 b4 t1
  go_wp2
  have A1 := (R.out.set0 0 (.int .u32 0)).set0 1 (.int .i64 0)
  refine bodyPost_ret (v := .tuple #[.agg #[.int .u32 0, .int .i64 0], .int .i64 21]) (by simp [results, Tryz.results54, go_sem, A1.cell 0, A1.cell 1]) rfl ⟨rfl, ?_⟩
  exact (hB.setCell (by simp) _).setCell (by simp) _
set_option maxRecDepth 100000 in
set_option maxHeartbeats 2000000 in
theorem rparse_yes (s : ByteArray) (x y : List UInt8) (a : Nat) (n : Int) (w : World) (hP : PartsIs s 47 [x, y]) (hA : RAddrIs ⟨x.toArray⟩ a 0) (hN : ∀ u : World, Calls Tryz.prog 35 #[.string ⟨y.toArray⟩, .int .i64 32] u fun e w' => e = .returned (.int .i64 n) ∧ u = w') (ha : a < 4294967296) (hr : rightB a n = true) :
    Calls Tryz.prog 54 #[.string s] w fun e w' => e = .returned (.tuple #[.agg #[.int .u32 a, .int .i64 n], .int .i64 0]) ∧ Below w.heap.size w w' := by
  go_enter Tryz.func54, Tryz.ntmps54
  go_wp2_with fail
  refine (hP _).mono ?_
  rintro e w1 ⟨v, rfl, row, b1⟩
  obtain ⟨g, cap, rfl, hcap, _, hg, hcell⟩ := srow row (by simp)
  have hcap2 : 2 ≤ cap := hcap
  have t0 : w1.cell? ⟨g, 0, none⟩ = some (.string ⟨x.toArray⟩) := hcell 0 (by simp)
  have t1' : w1.cell? ⟨g, 1, none⟩ = some (.string ⟨y.toArray⟩) := hcell 1 (by simp)
  have r1 := (At.new w #[.int .u32 0, .int .i64 0] 81).belows b1
  have B1 : Below w.heap.size w w1 := ((Below.refl _ w).alloc (Nat.le_refl _) _).trans (b1.mono (by simp))
  clear row hcell hcap b1
  go_wp2_with fail
  refine (hA _).mono ?_
  rintro e w2 ⟨rfl, b2⟩
  have t1 : w2.cell? ⟨g, 1, none⟩ = some (.string ⟨y.toArray⟩) := (b2.cell (p := ⟨g, 1, none⟩) hg).trans t1'
  have r2 := r1.belows b2
  have B2 : Below w.heap.size w w2 := B1.trans (b2.mono B1.size)
  clear b2 r1 t0 t1'
  go_wp2_with fail
  refine (hN _).mono ?_
  rintro e w3 ⟨rfl, rfl⟩
  go_wp2_with fail
  refine (rright_any a n _ ha).mono ?_
  rw [hr]
  rintro e w4 ⟨rfl, b4⟩
  have r4 := (r2.alloc (.cells #[.int .u32 a, .int .i64 n] 81)).belows b4
  have p4 := (At.new w2 #[.int .u32 a, .int .i64 n] 81).belows b4
  have hz : w.heap.size < w4.heap.size := r4.lt
  have hz2 : w2.heap.size < w4.heap.size := p4.lt
  have c0 : w4.cell? ⟨w.heap.size, 0, none⟩ = some (.int .u32 0) := (r4.cell 0).trans rfl
  have c1 : w4.cell? ⟨w.heap.size, 1, none⟩ = some (.int .i64 0) := (r4.cell 1).trans rfl
  have d0 : w4.cell? ⟨w2.heap.size, 0, none⟩ = some (.int .u32 a) := (p4.cell 0).trans rfl
  have d1 : w4.cell? ⟨w2.heap.size, 1, none⟩ = some (.int .i64 n) := (p4.cell 1).trans rfl
  have f0 := r4.frozen 0
  have f1 := r4.frozen 1
  have hB : Below w.heap.size w w4 := (B2.alloc B2.size _).trans (b4.mono (by simp; have := B2.size; omega))
  have R := Lib.hid r4
  clear r2 r4 p4 b4 t1
  go_wp2
  have A1 := (R.out.set0 0 (.int .u32 a)).set0 1 (.int .i64 n)
  refine bodyPost_ret (v := .tuple #[.agg #[.int .u32 a, .int .i64 n], .int .i64 0]) (by simp [results, Tryz.results54, go_sem, A1.cell 0, A1.cell 1]) rfl ⟨rfl, ?_⟩
  exact (hB.setCell (by simp) _).setCell (by simp) _
/-- The document's Parse. -/
theorem rparse_any (s : ByteArray) (w : World) (hz : s.size ≤ 80) : Calls Tryz.prog 54 #[.string s] w fun e w' => e = .returned (ppV s.data.toList) ∧ Below w.heap.size w w' := by
  match hp : partsL 47 s.data.toList with
  | [] => exact absurd hp (parts_ne _ _)
  | [x] =>
    have h : prefOf s.data.toList = none := by unfold prefOf; rw [hp]
    rw [ppV_none h]
    exact rparse_len s _ w (parts_is s 47 _ hz hp) (by simp)
  | x :: y :: z :: r =>
    have h : prefOf s.data.toList = none := by unfold prefOf; rw [hp]
    rw [ppV_none h]
    exact rparse_len s _ w (parts_is s 47 _ hz hp) (by simp)
  | [x, y] =>
    have hx : x.length ≤ 80 := by have := part_len 47 s.data.toList x (by rw [hp]; simp); rw [← str_size] at this; omega
    have hy : y.length ≤ 80 := by have := part_len 47 s.data.toList y (by rw [hp]; simp); rw [← str_size] at this; omega
    have hP := parts_is s 47 _ hz hp
    have hN := fun u => rnumber_any ⟨y.toArray⟩ 32 u (by omega) (by rw [str_len]; omega)
    cases ha : addrOf x with
    | none =>
      have h : prefOf s.data.toList = none := by unfold prefOf; rw [hp]; simp only [ha]
      rw [ppV_none h]
      exact rparse_A s x y 0 _ (rightB 0 (numI y 32)) w hP (fun u => rpad_none _ u rfl (by rw [str_len]; omega) ha) hN (by omega) rfl
    | some a =>
      have hA : RAddrIs ⟨x.toArray⟩ a 0 := fun u => rpad_some _ u rfl (by rw [str_len]; omega) ha
      cases hn : numOf y 32 with
      | none =>
        have h : prefOf s.data.toList = none := by unfold prefOf; rw [hp]; simp only [ha, hn]
        rw [ppV_none h]
        refine rparse_B s x y a (numI y 32) w hP hA hN (addrOf_lt ha) ?_
        rw [numI_none hn]; rfl
      | some n =>
        by_cases hr : rightB a n = true
        · have h : prefOf s.data.toList = some (a, n) := by unfold prefOf; rw [hp]; simp only [ha, hn]; rw [if_pos hr]
          rw [ppV_some h]
          have := rparse_yes s x y a (numI y 32) w hP hA hN (addrOf_lt ha) (by rw [numI_some hn]; exact hr)
          rwa [numI_some hn] at this
        · have h : prefOf s.data.toList = none := by unfold prefOf; rw [hp]; simp only [ha, hn]; rw [if_neg hr]
          rw [ppV_none h]
          exact rparse_B s x y a (numI y 32) w hP hA hN (addrOf_lt ha) (by rw [numI_some hn]; simpa using hr)

def RParseIs (s : ByteArray) (a : Nat) (n : Nat) (er : Int) : Prop := ∀ u : World, Calls Tryz.prog 54 #[.string s] u fun e w' => e = .returned (.tuple #[.agg #[.int .u32 a, .int .i64 n], .int .i64 er]) ∧ Below u.heap.size u w'
set_option maxRecDepth 100000 in
set_option maxHeartbeats 1000000 in
theorem rprg_pref (s : ByteArray) (a n m : Nat) (w : World) (hP : RParseIs s a n 0) (hR : ∀ u : World, Calls Tryz.prog 55 #[.agg #[.int .u32 a, .int .i64 n]] u fun e w' => e = .returned (.tuple #[.agg #[.int .u32 a, .int .u32 m], .int .i64 0]) ∧ Below u.heap.size u w') :
    Calls Tryz.prog 36 #[.string s] w fun e w' => e = .returned (.tuple #[.agg #[.int .u32 a, .int .u32 m], .int .i64 0]) ∧ Below w.heap.size w w' := by
  go_enter Tryz.func36, Tryz.ntmps36
  go_wp2_with fail
  refine (hP _).mono ?_
  rintro e w1 ⟨rfl, b1⟩
  have r1 := (At.new w #[.int .u32 0, .int .u32 0] 29).belows b1
  have B1 : Below w.heap.size w w1 := ((Below.refl _ w).alloc (Nat.le_refl _) _).trans (b1.mono (by simp))
  have z1 : w.heap.size < w1.heap.size := r1.lt
  clear b1
  go_wp2_with fail
  refine (hR _).mono ?_
  rintro e w2 ⟨rfl, b2⟩
  have r2 := (r1.alloc (.cells #[.int .u32 a, .int .i64 n] 81)).belows b2
  have hB : Below w.heap.size w w2 := (B1.alloc B1.size _).trans (b2.mono (by simp; omega))
  have c0 : w2.cell? ⟨w.heap.size, 0, none⟩ = some (.int .u32 0) := (r2.cell 0).trans rfl
  have c1 : w2.cell? ⟨w.heap.size, 1, none⟩ = some (.int .u32 0) := (r2.cell 1).trans rfl
  have f0 := r2.frozen 0
  have f1 := r2.frozen 1
  have R := Lib.hid r2
  clear r1 r2 b2
  go_wp2
  have A1 := (R.out.set0 0 (.int .u32 a)).set0 1 (.int .u32 m)
  refine bodyPost_ret (v := .tuple #[.agg #[.int .u32 a, .int .u32 m], .int .i64 0]) (by simp [results, Tryz.results36, go_sem, A1.cell 0, A1.cell 1]) rfl ⟨rfl, ?_⟩
  exact (hB.setCell (by simp) _).setCell (by simp) _
set_option maxRecDepth 100000 in
set_option maxHeartbeats 1000000 in
theorem rprg_len (s : ByteArray) (ps : List (List UInt8)) (w : World) (hP : RParseIs s 0 0 21) (hQ : PartsIs s 45 ps) (hl : ps.length ≠ 2) :
    Calls Tryz.prog 36 #[.string s] w fun e w' => e = .returned (.tuple #[.agg #[.int .u32 0, .int .u32 0], .int .i64 21]) ∧ Below w.heap.size w w' := by
  have l1 : ((ps.length : Int) != 2) = true := by simp; omega
  have l2 : ((ps.length : Int) == 2) = false := by rw [beq_eq_false_iff_ne]; omega
  go_enter Tryz.func36, Tryz.ntmps36
  go_wp2_with fail
  refine (hP _).mono ?_
  rintro e w1 ⟨rfl, b1⟩
  have r1 := (At.new w #[.int .u32 0, .int .u32 0] 29).belows b1
  have B1 : Below w.heap.size w w1 := ((Below.refl _ w).alloc (Nat.le_refl _) _).trans (b1.mono (by simp))
  have z1 : w.heap.size < w1.heap.size := r1.lt
  clear b1
  go_wp2_with fail
  refine (hQ _).mono ?_
  rintro e w2 ⟨v, rfl, row, b2⟩
  obtain ⟨A, c, rfl⟩ := rowform row
  have r2 := (r1.alloc (.cells #[.int .u32 0, .int .i64 0] 81)).belows b2
  have hB : Below w.heap.size w w2 := (B1.alloc B1.size _).trans (b2.mono (by simp; omega))
  have c0 : w2.cell? ⟨w.heap.size, 0, none⟩ = some (.int .u32 0) := (r2.cell 0).trans rfl
  have c1 : w2.cell? ⟨w.heap.size, 1, none⟩ = some (.int .u32 0) := (r2.cell 1).trans rfl
  have f0 := r2.frozen 0
  have f1 := r2.frozen 1
  have R := Lib.hid r2
  clear r1 r2 b2 row
  go_wp2
  have A1 := (R.out.set0 0 (.int .u32 0)).set0 1 (.int .u32 0)
  refine bodyPost_ret (v := .tuple #[.agg #[.int .u32 0, .int .u32 0], .int .i64 21]) (by simp [results, Tryz.results36, go_sem, A1.cell 0, A1.cell 1]) rfl ⟨rfl, ?_⟩
  exact (hB.setCell (by simp) _).setCell (by simp) _
set_option maxRecDepth 100000 in
set_option maxHeartbeats 2000000 in
theorem rprg_A (s : ByteArray) (x y : List UInt8) (a b : Nat) (eb : Int) (w : World) (hP : RParseIs s 0 0 21) (hQ : PartsIs s 45 [x, y]) (hA : RAddrIs ⟨x.toArray⟩ a 21) (hB' : RAddrIs ⟨y.toArray⟩ b eb) :
    Calls Tryz.prog 36 #[.string s] w fun e w' => e = .returned (.tuple #[.agg #[.int .u32 0, .int .u32 0], .int .i64 21]) ∧ Below w.heap.size w w' := by
  go_enter Tryz.func36, Tryz.ntmps36
  go_wp2_with fail
  refine (hP _).mono ?_
  rintro e w1 ⟨rfl, b1⟩
  have r1 := (At.new w #[.int .u32 0, .int .u32 0] 29).belows b1
  have B1 : Below w.heap.size w w1 := ((Below.refl _ w).alloc (Nat.le_refl _) _).trans (b1.mono (by simp))
  have z1 : w.heap.size < w1.heap.size := r1.lt
  clear b1
  go_wp2_with fail
  refine (hQ _).mono ?_
  rintro e w2 ⟨v, rfl, row, b2⟩
  obtain ⟨g, cap, rfl, hcap, _, hg, hcell⟩ := srow row (by simp)
  have hcap2 : 2 ≤ cap := hcap
  have t0 : w2.cell? ⟨g, 0, none⟩ = some (.string ⟨x.toArray⟩) := hcell 0 (by simp)
  have t1' : w2.cell? ⟨g, 1, none⟩ = some (.string ⟨y.toArray⟩) := hcell 1 (by simp)
  have r2 := (r1.alloc (.cells #[.int .u32 0, .int .i64 0] 81)).belows b2
  have B2 : Below w.heap.size w w2 := (B1.alloc B1.size _).trans (b2.mono (by simp; omega))
  clear r1 b2 row hcell hcap
  go_wp2_with fail
  refine (hA _).mono ?_
  rintro e w3 ⟨rfl, b3⟩
  have t1 : w3.cell? ⟨g, 1, none⟩ = some (.string ⟨y.toArray⟩) := (b3.cell (p := ⟨g, 1, none⟩) hg).trans t1'
  have r3 := r2.belows b3
  have B3 : Below w.heap.size w w3 := B2.trans (b3.mono B2.size)
  clear b3 r2 t0 t1'
  go_wp2_with fail
  refine (hB' _).mono ?_
  rintro e w4 ⟨rfl, b4⟩
  have r4 := r3.belows b4
  have hB : Below w.heap.size w w4 := B3.trans (b4.mono B3.size)
  have c0 : w4.cell? ⟨w.heap.size, 0, none⟩ = some (.int .u32 0) := (r4.cell 0).trans rfl
  have c1 : w4.cell? ⟨w.heap.size, 1, none⟩ = some (.int .u32 0) := (r4.cell 1).trans rfl
  have f0 := r4.frozen 0
  have f1 := r4.frozen 1
  have R := Lib.hid r4
  clear r3 r4 b4 t1
  go_wp2
  have A1 := (R.out.set0 0 (.int .u32 0)).set0 1 (.int .u32 0)
  refine bodyPost_ret (v := .tuple #[.agg #[.int .u32 0, .int .u32 0], .int .i64 21]) (by simp [results, Tryz.results36, go_sem, A1.cell 0, A1.cell 1]) rfl ⟨rfl, ?_⟩
  exact (hB.setCell (by simp) _).setCell (by simp) _
set_option maxRecDepth 100000 in
set_option maxHeartbeats 2000000 in
theorem rprg_B (s : ByteArray) (x y : List UInt8) (a b : Nat) (w : World) (hP : RParseIs s 0 0 21) (hQ : PartsIs s 45 [x, y]) (hA : RAddrIs ⟨x.toArray⟩ a 0) (hB' : RAddrIs ⟨y.toArray⟩ b 21) :
    Calls Tryz.prog 36 #[.string s] w fun e w' => e = .returned (.tuple #[.agg #[.int .u32 0, .int .u32 0], .int .i64 21]) ∧ Below w.heap.size w w' := by
  go_enter Tryz.func36, Tryz.ntmps36
  go_wp2_with fail
  refine (hP _).mono ?_
  rintro e w1 ⟨rfl, b1⟩
  have r1 := (At.new w #[.int .u32 0, .int .u32 0] 29).belows b1
  have B1 : Below w.heap.size w w1 := ((Below.refl _ w).alloc (Nat.le_refl _) _).trans (b1.mono (by simp))
  have z1 : w.heap.size < w1.heap.size := r1.lt
  clear b1
  go_wp2_with fail
  refine (hQ _).mono ?_
  rintro e w2 ⟨v, rfl, row, b2⟩
  obtain ⟨g, cap, rfl, hcap, _, hg, hcell⟩ := srow row (by simp)
  have hcap2 : 2 ≤ cap := hcap
  have t0 : w2.cell? ⟨g, 0, none⟩ = some (.string ⟨x.toArray⟩) := hcell 0 (by simp)
  have t1' : w2.cell? ⟨g, 1, none⟩ = some (.string ⟨y.toArray⟩) := hcell 1 (by simp)
  have r2 := (r1.alloc (.cells #[.int .u32 0, .int .i64 0] 81)).belows b2
  have B2 : Below w.heap.size w w2 := (B1.alloc B1.size _).trans (b2.mono (by simp; omega))
  clear r1 b2 row hcell hcap
  go_wp2_with fail
  refine (hA _).mono ?_
  rintro e w3 ⟨rfl, b3⟩
  have t1 : w3.cell? ⟨g, 1, none⟩ = some (.string ⟨y.toArray⟩) := (b3.cell (p := ⟨g, 1, none⟩) hg).trans t1'
  have r3 := r2.belows b3
  have B3 : Below w.heap.size w w3 := B2.trans (b3.mono B2.size)
  clear b3 r2 t0 t1'
  go_wp2_with fail
  refine (hB' _).mono ?_
  rintro e w4 ⟨rfl, b4⟩
  have r4 := r3.belows b4
  have hB : Below w.heap.size w w4 := B3.trans (b4.mono B3.size)
  have c0 : w4.cell? ⟨w.heap.size, 0, none⟩ = some (.int .u32 0) := (r4.cell 0).trans rfl
  have c1 : w4.cell? ⟨w.heap.size, 1, none⟩ = some (.int .u32 0) := (r4.cell 1).trans rfl
  have f0 := r4.frozen 0
  have f1 := r4.frozen 1
  have R := Lib.hid r4
  clear r3 r4 b4 t1
  go_wp2
  have A1 := (R.out.set0 0 (.int .u32 0)).set0 1 (.int .u32 0)
  refine bodyPost_ret (v := .tuple #[.agg #[.int .u32 0, .int .u32 0], .int .i64 21]) (by simp [results, Tryz.results36, go_sem, A1.cell 0, A1.cell 1]) rfl ⟨rfl, ?_⟩
  exact (hB.setCell (by simp) _).setCell (by simp) _
set_option maxRecDepth 100000 in
set_option maxHeartbeats 2000000 in
theorem rprg_C (s : ByteArray) (x y : List UInt8) (a b : Nat) (w : World) (hP : RParseIs s 0 0 21) (hQ : PartsIs s 45 [x, y]) (hA : RAddrIs ⟨x.toArray⟩ a 0) (hB' : RAddrIs ⟨y.toArray⟩ b 0) (hab : decide (b < a) = true) :
    Calls Tryz.prog 36 #[.string s] w fun e w' => e = .returned (.tuple #[.agg #[.int .u32 0, .int .u32 0], .int .i64 21]) ∧ Below w.heap.size w w' := by
  go_enter Tryz.func36, Tryz.ntmps36
  go_wp2_with fail
  refine (hP _).mono ?_
  rintro e w1 ⟨rfl, b1⟩
  have r1 := (At.new w #[.int .u32 0, .int .u32 0] 29).belows b1
  have B1 : Below w.heap.size w w1 := ((Below.refl _ w).alloc (Nat.le_refl _) _).trans (b1.mono (by simp))
  have z1 : w.heap.size < w1.heap.size := r1.lt
  clear b1
  go_wp2_with fail
  refine (hQ _).mono ?_
  rintro e w2 ⟨v, rfl, row, b2⟩
  obtain ⟨g, cap, rfl, hcap, _, hg, hcell⟩ := srow row (by simp)
  have hcap2 : 2 ≤ cap := hcap
  have t0 : w2.cell? ⟨g, 0, none⟩ = some (.string ⟨x.toArray⟩) := hcell 0 (by simp)
  have t1' : w2.cell? ⟨g, 1, none⟩ = some (.string ⟨y.toArray⟩) := hcell 1 (by simp)
  have r2 := (r1.alloc (.cells #[.int .u32 0, .int .i64 0] 81)).belows b2
  have B2 : Below w.heap.size w w2 := (B1.alloc B1.size _).trans (b2.mono (by simp; omega))
  clear r1 b2 row hcell hcap
  go_wp2_with fail
  refine (hA _).mono ?_
  rintro e w3 ⟨rfl, b3⟩
  have t1 : w3.cell? ⟨g, 1, none⟩ = some (.string ⟨y.toArray⟩) := (b3.cell (p := ⟨g, 1, none⟩) hg).trans t1'
  have r3 := r2.belows b3
  have B3 : Below w.heap.size w w3 := B2.trans (b3.mono B2.size)
  clear b3 r2 t0 t1'
  go_wp2_with fail
  refine (hB' _).mono ?_
  rintro e w4 ⟨rfl, b4⟩
  have r4 := r3.belows b4
  have hB : Below w.heap.size w w4 := B3.trans (b4.mono B3.size)
  have c0 : w4.cell? ⟨w.heap.size, 0, none⟩ = some (.int .u32 0) := (r4.cell 0).trans rfl
  have c1 : w4.cell? ⟨w.heap.size, 1, none⟩ = some (.int .u32 0) := (r4.cell 1).trans rfl
  have f0 := r4.frozen 0
  have f1 := r4.frozen 1
  have R := Lib.hid r4
  clear r3 r4 b4 t1
  go_wp2
  have A1 := (R.out.set0 0 (.int .u32 0)).set0 1 (.int .u32 0)
  refine bodyPost_ret (v := .tuple #[.agg #[.int .u32 0, .int .u32 0], .int .i64 21]) (by simp [results, Tryz.results36, go_sem, A1.cell 0, A1.cell 1]) rfl ⟨rfl, ?_⟩
  exact (hB.setCell (by simp) _).setCell (by simp) _
set_option maxRecDepth 100000 in
set_option maxHeartbeats 2000000 in
theorem rprg_yes (s : ByteArray) (x y : List UInt8) (a b : Nat) (w : World) (hP : RParseIs s 0 0 21) (hQ : PartsIs s 45 [x, y]) (hA : RAddrIs ⟨x.toArray⟩ a 0) (hB' : RAddrIs ⟨y.toArray⟩ b 0) (hab : decide (b < a) = false) :
    Calls Tryz.prog 36 #[.string s] w fun e w' => e = .returned (.tuple #[.agg #[.int .u32 a, .int .u32 b], .int .i64 0]) ∧ Below w.heap.size w w' := by
  go_enter Tryz.func36, Tryz.ntmps36
  go_wp2_with fail
  refine (hP _).mono ?_
  rintro e w1 ⟨rfl, b1⟩
  have r1 := (At.new w #[.int .u32 0, .int .u32 0] 29).belows b1
  have B1 : Below w.heap.size w w1 := ((Below.refl _ w).alloc (Nat.le_refl _) _).trans (b1.mono (by simp))
  have z1 : w.heap.size < w1.heap.size := r1.lt
  clear b1
  go_wp2_with fail
  refine (hQ _).mono ?_
  rintro e w2 ⟨v, rfl, row, b2⟩
  obtain ⟨g, cap, rfl, hcap, _, hg, hcell⟩ := srow row (by simp)
  have hcap2 : 2 ≤ cap := hcap
  have t0 : w2.cell? ⟨g, 0, none⟩ = some (.string ⟨x.toArray⟩) := hcell 0 (by simp)
  have t1' : w2.cell? ⟨g, 1, none⟩ = some (.string ⟨y.toArray⟩) := hcell 1 (by simp)
  have r2 := (r1.alloc (.cells #[.int .u32 0, .int .i64 0] 81)).belows b2
  have B2 : Below w.heap.size w w2 := (B1.alloc B1.size _).trans (b2.mono (by simp; omega))
  clear r1 b2 row hcell hcap
  go_wp2_with fail
  refine (hA _).mono ?_
  rintro e w3 ⟨rfl, b3⟩
  have t1 : w3.cell? ⟨g, 1, none⟩ = some (.string ⟨y.toArray⟩) := (b3.cell (p := ⟨g, 1, none⟩) hg).trans t1'
  have r3 := r2.belows b3
  have B3 : Below w.heap.size w w3 := B2.trans (b3.mono B2.size)
  clear b3 r2 t0 t1'
  go_wp2_with fail
  refine (hB' _).mono ?_
  rintro e w4 ⟨rfl, b4⟩
  have r4 := r3.belows b4
  have hB : Below w.heap.size w w4 := B3.trans (b4.mono B3.size)
  have c0 : w4.cell? ⟨w.heap.size, 0, none⟩ = some (.int .u32 0) := (r4.cell 0).trans rfl
  have c1 : w4.cell? ⟨w.heap.size, 1, none⟩ = some (.int .u32 0) := (r4.cell 1).trans rfl
  have f0 := r4.frozen 0
  have f1 := r4.frozen 1
  have R := Lib.hid r4
  clear r3 r4 b4 t1
  go_wp2
  have A1 := (R.out.set0 0 (.int .u32 a)).set0 1 (.int .u32 b)
  refine bodyPost_ret (v := .tuple #[.agg #[.int .u32 a, .int .u32 b], .int .i64 0]) (by simp [results, Tryz.results36, go_sem, A1.cell 0, A1.cell 1]) rfl ⟨rfl, ?_⟩
  exact (hB.setCell (by simp) _).setCell (by simp) _
/-- The document's ParseRange. -/
theorem rparseRange_any (s : ByteArray) (w : World) (hz : s.size ≤ 80) : Calls Tryz.prog 36 #[.string s] w fun e w' => e = .returned (prV s.data.toList) ∧ Below w.heap.size w w' := by
  cases hpf : prefOf s.data.toList with
  | some q =>
    obtain ⟨a, n⟩ := q
    obtain ⟨ha, hn, hm⟩ := prefOf_right hpf
    rw [prV_some (rg_pref hpf)]
    refine rprg_pref s a n _ w (fun u => ?_) (fun u => rrange_yes a n u ha hn hm)
    have := rparse_any s u hz
    rwa [ppV_some hpf] at this
  | none =>
    have hP : RParseIs s 0 0 21 := fun u => by
      have := rparse_any s u hz
      rwa [ppV_none hpf] at this
    match hp : partsL 45 s.data.toList with
    | [] => exact absurd hp (parts_ne _ _)
    | [x] =>
      have h : rangeOf s.data.toList = none := by unfold rangeOf; rw [hpf, hp]
      rw [prV_none h]
      exact rprg_len s _ w hP (parts_is s 45 _ hz hp) (by simp)
    | x :: y :: z :: r =>
      have h : rangeOf s.data.toList = none := by unfold rangeOf; rw [hpf, hp]
      rw [prV_none h]
      exact rprg_len s _ w hP (parts_is s 45 _ hz hp) (by simp)
    | [x, y] =>
      have hx : x.length ≤ 80 := by have := part_len 45 s.data.toList x (by rw [hp]; simp); rw [← str_size] at this; omega
      have hy : y.length ≤ 80 := by have := part_len 45 s.data.toList y (by rw [hp]; simp); rw [← str_size] at this; omega
      have hQ := parts_is s 45 _ hz hp
      have hrg : rangeOf s.data.toList = match addrOf x, addrOf y with
          | some f, some t => if f ≤ t then some (f, t) else none
          | _, _ => none := by unfold rangeOf; rw [hpf, hp]; rfl
      cases ha : addrOf x with
      | none =>
        have hA : RAddrIs ⟨x.toArray⟩ 0 21 := fun u => rpad_none _ u rfl (by rw [str_len]; omega) ha
        rw [ha] at hrg
        rw [prV_none hrg]
        cases hb : addrOf y with
        | none => exact rprg_A s x y 0 0 21 w hP hQ hA (fun u => rpad_none _ u rfl (by rw [str_len]; omega) hb)
        | some b => exact rprg_A s x y 0 b 0 w hP hQ hA (fun u => rpad_some _ u rfl (by rw [str_len]; omega) hb)
      | some a =>
        have hA : RAddrIs ⟨x.toArray⟩ a 0 := fun u => rpad_some _ u rfl (by rw [str_len]; omega) ha
        rw [ha] at hrg
        cases hb : addrOf y with
        | none =>
          rw [hb] at hrg
          rw [prV_none hrg]
          exact rprg_B s x y a 0 w hP hQ hA (fun u => rpad_none _ u rfl (by rw [str_len]; omega) hb)
        | some b =>
          have hB : RAddrIs ⟨y.toArray⟩ b 0 := fun u => rpad_some _ u rfl (by rw [str_len]; omega) hb
          rw [hb] at hrg
          by_cases hab : a ≤ b
          · have hrg' : rangeOf s.data.toList = some (a, b) := by rw [hrg]; simp [hab]
            rw [prV_some hrg']
            exact rprg_yes s x y a b w hP hQ hA hB (by simpa using hab)
          · have hrg' : rangeOf s.data.toList = none := by rw [hrg]; simp [hab]
            rw [prV_none hrg']
            exact rprg_C s x y a b w hP hQ hA hB (by simpa using hab)
end Go.Proofs.YtmpgfmedldnhjaaGreatDoor
