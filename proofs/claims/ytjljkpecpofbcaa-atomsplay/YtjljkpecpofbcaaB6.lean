/- Contracts of a table: Of, Atom, Within. -/
import Derived.Test.YtjljkpecpofbcaaB5
namespace Go.Proofs.Ytjljkpecpofbcaa
open Go.RowKit Go.Shelf

set_option maxRecDepth 100000 in
set_option maxHeartbeats 1000000 in
theorem of_any {v : Value} (L : List (Nat × Nat)) (a : Nat) (w : World) (ha : a < 4294967296) (h : IsTab0 w v L) : Calls Try.prog 19 #[v, .int .u32 a] w fun e w' => e = .returned (.int .i64 (ofL (bnds L) a : Int)) ∧ Below w.heap.size w w' := by
  have hs := some_any L w h
  obtain ⟨p, rfl⟩ := h.ptr
  go_enter Try.func19, Try.ntmps19
  go_wp2_with fail
  refine hs.mono ?_
  rintro e w1 ⟨v1, rfl, ⟨hL, B, vr, vc, R, C, rfl, hB, ir, ic, tr, tc⟩, b1⟩
  obtain ⟨pc, rfl⟩ := ic.ptr
  have c1 := (hB.cell 1).trans rfl
  have hlow := low_of hL tc a
  clear hs hB ir tr tc hL
  have j1 : IntKind.u64.wrap ((a : Int) + 1) = (a : Int) + 1 := IntWalk.u64_in _ (by omega)
  go_wp2_with fail
  refine (split_any C ((a : Int) + 1) _ ic).mono ?_
  rintro e w2 ⟨v2, v3, rfl, t2, t3, b2⟩
  obtain ⟨B2, rfl⟩ := t2.ptr
  obtain ⟨B3, rfl⟩ := t3.ptr
  have hl := len_any _ w2 t2.any
  rw [hlow] at hl
  go_wp2_with (go_at_call 36; refine hl.mono ?_; rintro e w3 ⟨rfl, rfl⟩)
  go_ret
  exact ⟨rfl, b1.trans (b2.mono b1.size)⟩
set_option maxRecDepth 100000 in
set_option maxHeartbeats 1000000 in
theorem atom_no {v : Value} (L : List (Nat × Nat)) (i : Int) (w : World) (h : IsTab0 w v L) (hi : ¬ (0 ≤ i ∧ i < (bnds L).length)) : Calls Try.prog 22 #[v, .int .i64 i] w fun e w' => e = .returned (.tuple #[.agg #[.int .u32 0, .int .u32 0], .bool false]) ∧ Below w.heap.size w w' := by
  have A0 := At.new w #[.int .u32 0, .int .u32 0] 32
  have b0 : Below w.heap.size w (w.alloc (.cells #[.int .u32 0, .int .u32 0] 32)) := (Below.refl _ w).alloc (Nat.le_refl _) _
  have hs := some_any L _ (h.belows b0)
  obtain ⟨p, rfl⟩ := h.ptr
  go_enter Try.func22, Try.ntmps22
  go_wp2_with fail
  refine hs.mono ?_
  rintro e w1 ⟨v1, rfl, t1, b1⟩
  have hlen := len5_any L w1 t1.any
  obtain ⟨B, rfl⟩ := t1.ptr
  have A1 := A0.belows b1
  have bb1 := b0.trans (b1.mono b0.size)
  clear hs A0 t1 b0 b1
  generalize (bnds L).length = n at *
  by_cases h0 : i < 0
  · have A2 := (A1.set0 0 (.int .u32 0)).set0 1 (.int .u32 0)
    have f0 := A1.frozen 0
    have f1 := A1.frozen 1
    have e0 := (A1.cell 0).trans rfl
    have e1 := (A1.cell 1).trans rfl
    go_wp2
    refine bodyPost_ret (v := .tuple #[.agg #[.int .u32 0, .int .u32 0], .bool false]) (by simp [results, Try.results22, go_sem, A2.cell 0, A2.cell 1]) rfl ⟨rfl, ?_⟩
    exact (bb1.setCell (p := ⟨w.heap.size, 0, none⟩) (Nat.le_refl _) _).setCell (p := ⟨w.heap.size, 1, none⟩) (Nat.le_refl _) _
  · have h1 : (n : Int) ≤ i := by omega
    clear hi
    go_wp2_with fail
    refine hlen.mono ?_
    rintro e w2 ⟨rfl, b2⟩
    have A1 := A1.belows b2
    have A2 := (A1.set0 0 (.int .u32 0)).set0 1 (.int .u32 0)
    have f0 := A1.frozen 0
    have f1 := A1.frozen 1
    have e0 := (A1.cell 0).trans rfl
    have e1 := (A1.cell 1).trans rfl
    have bb2 := bb1.trans (b2.mono bb1.size)
    clear hlen b2 bb1
    go_wp2
    refine bodyPost_ret (v := .tuple #[.agg #[.int .u32 0, .int .u32 0], .bool false]) (by simp [results, Try.results22, go_sem, A2.cell 0, A2.cell 1]) rfl ⟨rfl, ?_⟩
    exact (bb2.setCell (p := ⟨w.heap.size, 0, none⟩) (Nat.le_refl _) _).setCell (p := ⟨w.heap.size, 1, none⟩) (Nat.le_refl _) _
end Go.Proofs.Ytjljkpecpofbcaa
