/- AtomsNil, walked. -/
import Derived.Test.YtjljkpecpofbcaaA1
namespace Go.Proofs.Ytjljkpecpofbcaa
open Go.RowKit Go.Shelf

set_option maxRecDepth 100000 in
set_option maxHeartbeats 2000000 in
theorem atomsNil_walk (a f t : Nat) (w : World) (ha : a < 4294967296) (hf : f < 4294967296) (ht : t < 4294967296) : Calls Try.prog 8 #[.int .u32 a, .agg #[.int .u32 f, .int .u32 t]] w fun e w' => e = .returned (.bool true) ∧ Below w.heap.size w w' := by
  have A0 := At.new w #[.int .u32 f, .int .u32 t] 32
  have b0 : Below w.heap.size w (w.alloc (.cells #[.int .u32 f, .int .u32 t] 32)) := (Below.refl _ w).alloc (Nat.le_refl _) _
  have hatom : ∀ W : World, Calls Try.prog 22 #[.pointer none, .int .i64 0] W fun e w' => e = .returned (.tuple #[.agg #[.int .u32 0, .int .u32 4294967295], .bool true]) ∧ Below W.heap.size W w' := fun W => by
    have := atom_ok [] 0 W (nilTab W) (by rw [bnds0]; decide)
    rw [bnds0] at this; exact this
  have hlen : ∀ W : World, Calls Try.prog 23 #[.pointer none] W fun e w' => e = .returned (.int .i64 1) ∧ Below W.heap.size W w' := fun W => by
    have := len5_any [] W (nilTab W)
    rw [bnds0] at this; exact this
  have hof : ∀ W : World, Calls Try.prog 19 #[.pointer none, .int .u32 a] W fun e w' => e = .returned (.int .i64 0) ∧ Below W.heap.size W w' := fun W => by
    have := of_any [] a W ha (nilTab W)
    rw [bnds0] at this; exact this
  have HAT := Lib.hid hatom
  have HLEN := Lib.hid hlen
  have HOF := Lib.hid hof
  clear hatom hlen hof
  go_enter Try.func8, Try.ntmps8
  go_wp2_with fail
  obtain ⟨W0, hW0⟩ : ∃ W0, w.alloc (.cells #[.int .u32 f, .int .u32 t] 32) = W0 := ⟨_, rfl⟩
  rw [hW0] at A0 b0 ⊢
  clear hW0
  refine (HAT.out W0).mono ?_
  rintro e w1 ⟨rfl, b1⟩
  have b1' := b1.alloc b1.size (.cells #[.int .u32 0, .int .u32 4294967295] 32)
  have X1 := At.new w1 #[.int .u32 0, .int .u32 4294967295] 32
  have A1 := A0.belows b1'
  have bb1 := b0.trans (b1'.mono b0.size)
  have k0 := (A1.cell 0).trans rfl
  have k1 := (A1.cell 1).trans rfl
  clear b1 b1' A0 b0
  go_wp2_with fail
  generalize w1.alloc (.cells #[.int .u32 0, .int .u32 4294967295] 32) = w2 at X1 A1 bb1 k0 k1 ⊢
  refine (within_no [] f t w2 hf ht (nilTab w2) (by simp)).mono ?_
  rintro e w3 ⟨rfl, b3⟩
  have X1 := X1.belows b3
  have A1 := A1.belows b3
  have bb3 := bb1.trans (b3.mono bb1.size)
  have k0 := (A1.cell 0).trans rfl
  have k1 := (A1.cell 1).trans rfl
  clear b3 bb1
  go_wp2_with fail
  refine (drop5_no [] f t w3 hf ht (nilTab w3) (by simp)).mono ?_
  rintro e w4 ⟨rfl, b4⟩
  have X1 := X1.belows b4
  have A1 := A1.belows b4
  have bb4 := bb3.trans (b4.mono bb3.size)
  clear b4 bb3 k0 k1
  go_wp2_with fail
  refine (add_ok [] 5 9 w4 (nilTab w4) (by decide) (by decide) (by decide)).mono ?_
  rintro e w5 ⟨v5, rfl, t5, b5⟩
  obtain ⟨B5, rfl⟩ := t5.ptr
  change IsTab w5 _ [(5, 9)] at t5
  have X1 := X1.belows b5
  have A1 := A1.belows b5
  have bb5 := bb4.trans (b5.mono bb4.size)
  clear b5 bb4
  have hl5 : ∀ W, Below w5.heap.size w5 W → Calls Try.prog 23 #[.pointer (some ⟨B5, 0, none⟩)] W fun e w' => e = .returned (.int .i64 3) ∧ Below W.heap.size W w' := fun W hW => by
    have := len5_any _ W (t5.belows hW).any
    rw [bnds1] at this; exact this
  have HL5 := Lib.hid hl5
  clear hl5 t5
  go_wp2_with fail
  refine (alive_any w5).mono ?_
  rintro e w6 ⟨rfl, b6⟩
  go_wp2_with fail
  refine (HLEN.out w6).mono ?_
  rintro e w7 ⟨rfl, b7⟩
  have c7 := b6.trans (b7.mono b6.size)
  have X7 := X1.belows c7
  have x0 := (X7.cell 0).trans rfl
  have x1 := (X7.cell 1).trans rfl
  clear b6 b7 X7
  go_wp2_with fail
  refine (HOF.out w7).mono ?_
  rintro e w8 ⟨rfl, b8⟩
  have c8 := c7.trans (b8.mono c7.size)
  have A8 := A1.belows c8
  have k0 := (A8.cell 0).trans rfl
  have k1 := (A8.cell 1).trans rfl
  clear b8 c7 A8 x0 x1
  go_wp2_with fail
  refine (count_nil f t w8 hf ht).mono ?_
  rintro e w9 ⟨rfl, b9⟩
  have c9 := c8.trans (b9.mono c8.size)
  clear b9 c8 k0 k1
  go_wp2_with fail
  refine (ranges_any [] w9 (nilTab w9)).mono ?_
  rintro e w10 ⟨v10, l10, rfl, hrs, ⟨A10, c10, rfl, _⟩, b10⟩
  have hl0 : l10 = [] := by
    cases l10 with
    | nil => rfl
    | cons r l => exact absurd ((hrs.2 r).1 (by simp)) (by simp)
  subst hl0
  have cc := c9.trans (b10.mono c9.size)
  clear b10 c9 hrs
  simp only [List.length_nil]
  go_wp2_with fail
  refine (HL5.out w10 cc).mono ?_
  rintro e w11 ⟨rfl, b11⟩
  go_wp2
  go_ret
  exact ⟨rfl, bb5.trans ((cc.trans (b11.mono cc.size)).mono bb5.size)⟩
end Go.Proofs.Ytjljkpecpofbcaa
