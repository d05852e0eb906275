/- Contracts of a table: Count, Len, Add, Drop. -/
import Derived.Test.YtjljkpecpofbcaaB4
namespace Go.Proofs.Ytjljkpecpofbcaa
open Go.RowKit Go.Shelf

set_option maxRecDepth 100000 in
set_option maxHeartbeats 1000000 in
theorem len5_any {v : Value} (L : List (Nat × Nat)) (w : World) (h : IsTab0 w v L) : Calls Try.prog 23 #[v] w fun e w' => e = .returned (.int .i64 ((bnds L).length : Int)) ∧ Below w.heap.size w w' := by
  have hs := some_any L w h
  obtain ⟨p, rfl⟩ := h.ptr
  go_enter Try.func23, Try.ntmps23
  go_wp2_with fail
  refine hs.mono ?_
  rintro e w1 ⟨v1, rfl, ⟨hL, B, vr, vc, R, C, rfl, ha, ir, ic, tr, tc⟩, b1⟩
  obtain ⟨pc, rfl⟩ := ic.ptr
  have c1 := (ha.cell 1).trans rfl
  have hbl := bnds_len hL tc
  have hcl := ic.up.2
  clear hs ha ir tr tc hL
  go_wp2_with fail
  refine (len_any C _ ic).mono ?_
  rintro e w2 ⟨rfl, rfl⟩
  go_wp2
  go_ret
  exact ⟨ret_int (by omega), b1⟩
set_option maxRecDepth 100000 in
set_option maxHeartbeats 1000000 in
theorem count_tab {v : Value} (L : List (Nat × Nat)) (f t : Nat) (w : World) (hf : f < 4294967296) (ht : t < 4294967296) (h : IsTab w v L) : Calls Try.prog 12 #[v, .agg #[.int .u32 f, .int .u32 t]] w fun e w' => e = .returned (.int .i64 (L.count (f, t) : Int)) ∧ Below w.heap.size w w' := by
  have b0 : Below w.heap.size w (w.alloc (.cells #[.int .u32 f, .int .u32 t] 32)) := (Below.refl _ w).alloc (Nat.le_refl _) _
  have A0 := At.new w #[.int .u32 f, .int .u32 t] 32
  have hcnt := nR_count h.1 (r := (f, t)) ht
  obtain ⟨hL, B, vr, vc, R, C, rfl, ha, ir, ic, tr, tc⟩ := h
  obtain ⟨pr, rfl⟩ := ir.ptr
  go_enter Try.func12, Try.ntmps12
  go_wp2_with fail
  obtain ⟨W0, hW0⟩ : ∃ W0, w.alloc (.cells #[.int .u32 f, .int .u32 t] 32) = W0 := ⟨_, rfl⟩
  rw [hW0] at A0 b0 ⊢
  have a0 := ha.belows b0
  have KS : Hid (∀ W, Below W0.heap.size W0 W → W.cell? ⟨w.heap.size, 0, none⟩ = some (.int .u32 f) ∧ W.cell? ⟨w.heap.size, 1, none⟩ = some (.int .u32 t) ∧ W.cell? ⟨B, 0, none⟩ = some (.pointer pr)) := Lib.hid fun W hW => ⟨((A0.belows hW).cell 0).trans rfl, ((A0.belows hW).cell 1).trans rfl, ((a0.belows hW).cell 0).trans rfl⟩
  have HR := Lib.hid (And.intro (ir.belows b0) tr)
  clear A0 hW0 a0 ha ir ic tr tc hL
  have hb1 := Below.refl W0.heap.size W0
  obtain ⟨q0, q1, q2⟩ := KS.out W0 hb1
  go_region_held3 (fun W => W.cell? ⟨w.heap.size, 0, none⟩ = some (.int .u32 f) ∧ W.cell? ⟨w.heap.size, 1, none⟩ = some (.int .u32 t) ∧ W.cell? ⟨B, 0, none⟩ = some (.pointer pr)) (first | exact KS.out _ bb2 | exact KS.out _ hb1.drew | exact KS.out _ hb1) (first
    | (go_at_call 29; refine (some_same _).mono ?_; rintro e w1 ⟨rfl, rfl⟩)
    | (go_at_call 28; refine (oftenS_any R L f t _ hf ht (by first | exact HR.out.1 | exact HR.out.1.belows hb1.drew) HR.out.2).mono ?_; rintro e w2 ⟨rfl, b2⟩; have bb2 : Below W0.heap.size W0 w2 := (by first | exact b2 | exact hb1.drew.trans (b2.mono hb1.size))))
  rename_i hHeld
  clear hHeld
  go_wp2
  go_ret
  exact ⟨rfl, b0.trans (bb2.mono b0.size)⟩
theorem nilTab (W : World) : IsTab0 W (.pointer none) [] := .inl ⟨rfl, rfl⟩
set_option maxRecDepth 100000 in
set_option maxHeartbeats 1000000 in
theorem count_nil (f t : Nat) (w : World) (hf : f < 4294967296) (ht : t < 4294967296) : Calls Try.prog 12 #[.pointer none, .agg #[.int .u32 f, .int .u32 t]] w fun e w' => e = .returned (.int .i64 0) ∧ Below w.heap.size w w' := by
  have b0 : Below w.heap.size w (w.alloc (.cells #[.int .u32 f, .int .u32 t] 32)) := (Below.refl _ w).alloc (Nat.le_refl _) _
  have A0 := At.new w #[.int .u32 f, .int .u32 t] 32
  go_enter Try.func12, Try.ntmps12
  go_wp2_with fail
  obtain ⟨W0, hW0⟩ : ∃ W0, w.alloc (.cells #[.int .u32 f, .int .u32 t] 32) = W0 := ⟨_, rfl⟩
  rw [hW0] at A0 b0 ⊢
  have k0 := (A0.cell 0).trans rfl
  have k1 := (A0.cell 1).trans rfl
  clear hW0
  have hb1 := Below.refl W0.heap.size W0
  go_region_with (first
    | (go_at_call 29; refine (some_any [] _ (nilTab _)).mono ?_; rintro e w1 ⟨v1, rfl, ⟨hL, B1, vr, vc, R, C, rfl, ha, ir, ic, tr, tc⟩, b1⟩; obtain ⟨pr, rfl⟩ := ir.ptr; have c0 := (ha.cell 0).trans rfl; have bb1 : Below W0.heap.size W0 w1 := hb1.drew.trans (b1.mono hb1.size); have A1 := A0.belows bb1; have k2 := (A1.cell 0).trans rfl; have k3 := (A1.cell 1).trans rfl)
    | (go_at_call 28; refine (oftenS_any R [] f t _ hf ht ir tr).mono ?_; rintro e w2 ⟨rfl, b2⟩))
  all_goals (go_wp2; go_ret; exact ⟨rfl, b0.trans ((bb1.trans (b2.mono bb1.size)).mono b0.size)⟩)
theorem count_any5 {v : Value} (L : List (Nat × Nat)) (f t : Nat) (w : World) (hf : f < 4294967296) (ht : t < 4294967296) (h : IsTab0 w v L) : Calls Try.prog 12 #[v, .agg #[.int .u32 f, .int .u32 t]] w fun e w' => e = .returned (.int .i64 (L.count (f, t) : Int)) ∧ Below w.heap.size w w' := by
  rcases h with ⟨rfl, rfl⟩ | h
  · exact count_nil f t w hf ht
  · exact count_tab L f t w hf ht h

/-- A pair of a new table, and no error. -/
def TabOut (w : World) (M : List (Nat × Nat)) (e : Ending) (w' : World) : Prop := ∃ v', e = .returned (.tuple #[v', .int .i64 0]) ∧ IsTab w' v' M ∧ Below w.heap.size w w'
/-- An error. -/
def ErrOut (w : World) (n : Int) (e : Ending) (w' : World) : Prop := e = .returned (.tuple #[.pointer none, .int .i64 n]) ∧ Below w.heap.size w w'
set_option maxRecDepth 100000 in
set_option maxHeartbeats 1000000 in
theorem add_wrong {v : Value} (L : List (Nat × Nat)) (f t : Nat) (w : World) (h : IsTab0 w v L) (h1 : t < f) : Calls Try.prog 24 #[v, .agg #[.int .u32 f, .int .u32 t]] w (ErrOut w 51) := by
  have b0 : Below w.heap.size w (w.alloc (.cells #[.int .u32 f, .int .u32 t] 32)) := (Below.refl _ w).alloc (Nat.le_refl _) _
  have A0 := At.new w #[.int .u32 f, .int .u32 t] 32
  have hs := some_any L _ (h.belows b0)
  obtain ⟨p, rfl⟩ := h.ptr
  clear h
  go_enter Try.func24, Try.ntmps24
  go_wp2_with fail
  refine hs.mono ?_
  rintro e w1 ⟨v1, rfl, ⟨hL, B1, vr, vc, R, C, rfl, ha, ir, ic, tr, tc⟩, b1⟩
  have A1 := A0.belows b1
  have k0 := (A1.cell 0).trans rfl
  have k1 := (A1.cell 1).trans rfl
  have bb := b0.trans (b1.mono b0.size)
  clear A0 A1 b0 b1 ha ir ic tr tc hs hL
  go_wp2
  go_ret2
  exact ⟨rfl, bb⟩
set_option maxRecDepth 100000 in
set_option maxHeartbeats 1000000 in
theorem add_full {v : Value} (L : List (Nat × Nat)) (f t : Nat) (w : World) (h : IsTab0 w v L) (h1 : f ≤ t) (h2 : L.length = 500) : Calls Try.prog 24 #[v, .agg #[.int .u32 f, .int .u32 t]] w (ErrOut w 41) := by
  have b0 : Below w.heap.size w (w.alloc (.cells #[.int .u32 f, .int .u32 t] 32)) := (Below.refl _ w).alloc (Nat.le_refl _) _
  have A0 := At.new w #[.int .u32 f, .int .u32 t] 32
  have hs := some_any L _ (h.belows b0)
  obtain ⟨p, rfl⟩ := h.ptr
  clear h
  go_enter Try.func24, Try.ntmps24
  go_wp2_with fail
  refine hs.mono ?_
  rintro e w1 ⟨v1, rfl, ⟨hL, B1, vr, vc, R, C, rfl, ha, ir, ic, tr, tc⟩, b1⟩
  have A1 := A0.belows b1
  have k0 := (A1.cell 0).trans rfl
  have k1 := (A1.cell 1).trans rfl
  have k2 := (ha.cell 2).trans rfl
  rw [h2] at k2
  have bb := b0.trans (b1.mono b0.size)
  clear A0 A1 b0 b1 ha ir ic tr tc hs hL h2
  go_wp2
  go_ret2
  exact ⟨rfl, bb⟩
set_option maxRecDepth 100000 in
set_option maxHeartbeats 1000000 in
theorem add_ok {v : Value} (L : List (Nat × Nat)) (f t : Nat) (w : World) (h : IsTab0 w v L) (h1 : f ≤ t) (ht : t < 4294967296) (h2 : L.length < 500) : Calls Try.prog 24 #[v, .agg #[.int .u32 f, .int .u32 t]] w (TabOut w (L ++ [(f, t)])) := by
  have b0 : Below w.heap.size w (w.alloc (.cells #[.int .u32 f, .int .u32 t] 32)) := (Below.refl _ w).alloc (Nat.le_refl _) _
  have A0 := At.new w #[.int .u32 f, .int .u32 t] 32
  have hs := some_any L _ (h.belows b0)
  have HC : Hid (Chg 1 (f, t) L (L ++ [(f, t)])) := Lib.hid (.inl ⟨rfl, rfl, h.rl.snoc h1 ht h2⟩)
  obtain ⟨p, rfl⟩ := h.ptr
  clear h
  go_enter Try.func24, Try.ntmps24
  go_wp2_with fail
  refine hs.mono ?_
  rintro e w1 ⟨v1, rfl, ht1, b1⟩
  have HT := Lib.hid ht1
  obtain ⟨hL, B1, vr, vc, R, C, rfl, ha, ir, ic, tr, tc⟩ := ht1
  have A1 := A0.belows b1
  have k0 := (A1.cell 0).trans rfl
  have k1 := (A1.cell 1).trans rfl
  have k2 := (ha.cell 2).trans rfl
  have bb := b0.trans (b1.mono b0.size)
  have d1 : decide (500 ≤ (L.length : Int)) = false := by simp; omega
  clear A0 A1 b0 b1 ha ir ic tr tc hs hL h2
  go_wp2_with (go_at_call 38; refine (changed_any 1 f t L _ _ HT.out HC.out).mono ?_; rintro e w2 ⟨v2, rfl, t2, b2⟩; obtain ⟨B2, rfl⟩ := t2.ptr)
  go_ret2
  exact ⟨_, rfl, t2, bb.trans (b2.mono bb.size)⟩
set_option maxRecDepth 100000 in
set_option maxHeartbeats 1000000 in
theorem drop5_no {v : Value} (L : List (Nat × Nat)) (f t : Nat) (w : World) (hf : f < 4294967296) (ht : t < 4294967296) (h : IsTab0 w v L) (h2 : (f, t) ∉ L) : Calls Try.prog 25 #[v, .agg #[.int .u32 f, .int .u32 t]] w (ErrOut w 51) := by
  have b0 : Below w.heap.size w (w.alloc (.cells #[.int .u32 f, .int .u32 t] 32)) := (Below.refl _ w).alloc (Nat.le_refl _) _
  have hc := count_any5 L f t _ hf ht (h.belows b0)
  rw [List.count_eq_zero_of_not_mem h2] at hc
  obtain ⟨p, rfl⟩ := h.ptr
  clear h
  go_enter Try.func25, Try.ntmps25
  go_wp2_with (go_at_call 12; refine hc.mono ?_; rintro e w1 ⟨rfl, b1⟩)
  go_ret2
  exact ⟨rfl, b0.trans (b1.mono b0.size)⟩
set_option maxRecDepth 100000 in
set_option maxHeartbeats 1000000 in
theorem drop5_ok {v : Value} (L : List (Nat × Nat)) (f t : Nat) (w : World) (h : IsTab0 w v L) (h2 : (f, t) ∈ L) : Calls Try.prog 25 #[v, .agg #[.int .u32 f, .int .u32 t]] w (TabOut w (L.erase (f, t))) := by
  have h3 := h.rl.1 _ h2
  simp only at h3
  obtain ⟨h4, ht⟩ := h3
  have hf : f < 4294967296 := by omega
  have b0 : Below w.heap.size w (w.alloc (.cells #[.int .u32 f, .int .u32 t] 32)) := (Below.refl _ w).alloc (Nat.le_refl _) _
  have A0 := At.new w #[.int .u32 f, .int .u32 t] 32
  have hc := count_any5 L f t _ hf ht (h.belows b0)
  have hpos : 0 < L.count (f, t) := List.count_pos_iff.2 h2
  have d1 : (((L.count (f, t) : Nat) : Int) == 0) = false := by rw [beq_eq_false_iff_ne]; omega
  rcases h with ⟨rfl, rfl⟩ | h
  · simp at h2
  have HC : Hid (Chg (-1) (f, t) L (L.erase (f, t))) := Lib.hid (.inr ⟨rfl, h2, rfl⟩)
  have HT := Lib.hid (h.belows b0)
  obtain ⟨B, rfl⟩ := h.ptr
  clear h h2 h4
  generalize L.count (f, t) = n at *
  go_enter Try.func25, Try.ntmps25
  go_wp2_with fail
  refine hc.mono ?_
  rintro e w1 ⟨rfl, b1⟩
  have A1 := A0.belows b1
  have k0 := (A1.cell 0).trans rfl
  have k1 := (A1.cell 1).trans rfl
  have HT1 := Lib.hid (HT.out.belows b1)
  have bb := b0.trans (b1.mono b0.size)
  clear A0 A1 b0 b1 hc
  go_wp2_with (go_at_call 38; refine (changed_any (-1) f t L _ _ HT1.out HC.out).mono ?_; rintro e w2 ⟨v2, rfl, t2, b2⟩; obtain ⟨B2, rfl⟩ := t2.ptr)
  go_ret2
  exact ⟨_, rfl, t2, bb.trans (b2.mono bb.size)⟩
end Go.Proofs.Ytjljkpecpofbcaa
