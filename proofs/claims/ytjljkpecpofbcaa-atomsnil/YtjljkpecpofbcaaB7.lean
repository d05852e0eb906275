/- Contracts of a table: Atom, Within; a range of a key. -/
import Derived.Test.YtjljkpecpofbcaaB6a
import Derived.Test.YtjljkpecpofbcaaB6b
import Derived.Test.YtjljkpecpofbcaaB6c
import Derived.Test.YtjljkpecpofbcaaB6d
import Derived.Test.YtjljkpecpofbcaaCls
namespace Go.Proofs.Ytjljkpecpofbcaa
open Go.RowKit Go.Shelf

theorem atom_ok {v : Value} (L : List (Nat × Nat)) (i : Nat) (w : World) (h : IsTab0 w v L) (hi : i < (bnds L).length) : Calls Try.prog 22 #[v, .int .i64 (i : Int)] w fun e w' => e = .returned (.tuple #[.agg #[.int .u32 (frm (bnds L) i : Nat), .int .u32 (too (bnds L) i : Nat)], .bool true]) ∧ Below w.heap.size w w' := by
  by_cases h0 : i = 0
  · by_cases h9 : i + 1 = (bnds L).length
    · exact atom_ok1 L i w h hi h0 h9
    · exact atom_ok2 L i w h hi h0 h9
  · by_cases h9 : i + 1 = (bnds L).length
    · exact atom_ok3 L i w h hi h0 h9
    · exact atom_ok4 L i w h hi h0 h9
set_option maxRecDepth 100000 in
set_option maxHeartbeats 1000000 in
theorem within_no {v : Value} (L : List (Nat × Nat)) (f t : Nat) (w : World) (hf : f < 4294967296) (ht : t < 4294967296) (h : IsTab0 w v L) (h2 : (f, t) ∉ L) : Calls Try.prog 21 #[v, .agg #[.int .u32 f, .int .u32 t]] w fun e w' => e = .returned (.tuple #[.int .i64 0, .int .i64 0, .bool false]) ∧ Below w.heap.size w w' := by
  have b0 : Below w.heap.size w (w.alloc (.cells #[.int .u32 f, .int .u32 t] 32)) := (Below.refl _ w).alloc (Nat.le_refl _) _
  have hc := count_any5 L f t _ hf ht (h.belows b0)
  rw [List.count_eq_zero_of_not_mem h2] at hc
  obtain ⟨p, rfl⟩ := h.ptr
  clear h
  go_enter Try.func21, Try.ntmps21
  go_wp2_with (go_at_call 12; refine hc.mono ?_; rintro e w1 ⟨rfl, b1⟩)
  exact bodyPost_ret (v := .tuple #[.int .i64 0, .int .i64 0, .bool false]) (by simp [results, Try.results21, go_sem]) rfl ⟨rfl, b0.trans (b1.mono b0.size)⟩
set_option maxRecDepth 100000 in
set_option maxHeartbeats 1000000 in
theorem within_ok {v : Value} (L : List (Nat × Nat)) (f t : Nat) (w : World) (h : IsTab0 w v L) (h2 : (f, t) ∈ L) : Calls Try.prog 21 #[v, .agg #[.int .u32 f, .int .u32 t]] w fun e w' => e = .returned (.tuple #[.int .i64 (ofL (bnds L) f : Nat), .int .i64 ((ofL (bnds L) t : Nat) + 1 : Int), .bool true]) ∧ Below w.heap.size w w' := by
  have h3 := h.rl.1 _ h2
  simp only at h3
  obtain ⟨h4, ht⟩ := h3
  have hf : f < 4294967296 := by omega
  have b0 : Below w.heap.size w (w.alloc (.cells #[.int .u32 f, .int .u32 t] 32)) := (Below.refl _ w).alloc (Nat.le_refl _) _
  have A0 := At.new w #[.int .u32 f, .int .u32 t] 32
  have hc := count_any5 L f t _ hf ht (h.belows b0)
  have hpos : 0 < L.count (f, t) := List.count_pos_iff.2 h2
  have d1 : (((L.count (f, t) : Nat) : Int) == 0) = false := by rw [beq_eq_false_iff_ne]; omega
  have hlt := (bd_of L).of_le t
  have hlen2 : (bnds L).length ≤ 4294967296 := by
    rcases rising_len (bnds_rise L) with h | h
    · omega
    · rw [h]; simp
  have HT := Lib.hid (h.belows b0)
  obtain ⟨p, rfl⟩ := h.ptr
  clear h h2 h4
  have HO : Hid (∀ a : Nat, a < 4294967296 → ∀ W, Below (w.alloc (.cells #[.int .u32 f, .int .u32 t] 32)).heap.size (w.alloc (.cells #[.int .u32 f, .int .u32 t] 32)) W → Calls Try.prog 19 #[.pointer p, .int .u32 a] W fun e w' => e = .returned (.int .i64 (ofL (bnds L) a : Int)) ∧ Below W.heap.size W w') := Lib.hid fun a ha W hW => of_any L a W ha (HT.out.belows hW)
  have j1 : IntKind.i64.wrap ((ofL (bnds L) t : Int) + 1) = (ofL (bnds L) t : Int) + 1 := IntWalk.i64_in _ (by omega)
  generalize L.count (f, t) = n at *
  generalize ofL (bnds L) = o at *
  clear HT hlt hlen2 hpos
  go_enter Try.func21, Try.ntmps21
  go_wp2_with fail
  refine hc.mono ?_
  rintro e w1 ⟨rfl, b1⟩
  have A1 := A0.belows b1
  have k1 : ∀ a : Nat, a < 4294967296 → ∀ z : Sub w1, Calls Try.prog 19 #[.pointer p, .int .u32 a] z.u fun e w' => e = .returned (.int .i64 (o a : Int)) ∧ Below z.u.heap.size z.u w' := fun a ha z => HO.out a ha z.u (b1.trans (z.h.mono b1.size))
  have c0 : ∀ x : Sub w1, x.u.cell? ⟨w.heap.size, 0, none⟩ = some (.int .u32 f) := fun x => ((A1.belows x.h).cell 0).trans rfl
  have c1 : ∀ x : Sub w1, x.u.cell? ⟨w.heap.size, 1, none⟩ = some (.int .u32 t) := fun x => ((A1.belows x.h).cell 1).trans rfl
  have bb := b0.trans (b1.mono b0.size)
  clear A0 A1 b0 b1 hc
  go_wp2_with fail
  refine wp_region_cls (by kernel_rfl) (by kernel_rfl) ?_
  repeat (go_big_quiet_step ((go_at_call 19; exact Calls.cls_of (k1 _ (by assumption) _))))
  refine wpQuiet_nil ?_
  rintro w2 ⟨x2, hx⟩
  have b2 := x2.h
  rw [← hx] at b2
  clear hx x2
  go_wp2
  exact bodyPost_ret (v := .tuple #[.int .i64 (o f : Nat), .int .i64 ((o t : Nat) + 1 : Int), .bool true]) (by simp [results, Try.results21, go_sem]) rfl ⟨rfl, bb.trans (b2.mono bb.size)⟩
end Go.Proofs.Ytjljkpecpofbcaa
