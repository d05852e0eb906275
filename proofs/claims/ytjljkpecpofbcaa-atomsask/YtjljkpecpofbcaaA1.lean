/- Contracts: the live question; AtomsNil, walked. -/
import Derived.Test.YtjljkpecpofbcaaH3
namespace Go.Proofs.Ytjljkpecpofbcaa
open Go.RowKit Go.Shelf

theorem bnds_is {L : List (Nat × Nat)} {C : List Nat} (hr : Rising 0 4294967296 C) (hm : ∀ x, x ∈ C ↔ x ∈ ends L ∧ x < 4294967296) : bnds L = C := by
  have e : (bnds L).map (fun c : Nat => (c : Int)) = C.map (fun c : Nat => (c : Int)) := by
    refine rise_eq (rising_pw (bnds_rise L)) (rising_pw hr) fun a => ?_
    rw [List.mem_map, List.mem_map]
    have key : ∀ x, x ∈ bnds L ↔ x ∈ C := fun x => (bnds_mem L x).trans (hm x).symm
    simp only [key]
  have := congrArg (List.map Int.toNat) e
  rw [List.map_map, List.map_map] at this
  have hid : (Int.toNat ∘ fun c : Nat => (c : Int)) = id := funext fun c => by simp
  rw [hid, List.map_id, List.map_id] at this
  exact this
theorem bnds0 : bnds [] = [0] := bnds_is (by simp [Rising]) fun x => by simp [ends]; omega
theorem bnds1 : bnds [(5, 9)] = [0, 5, 10] := bnds_is (by simp [Rising]) fun x => by simp [ends]; omega
theorem bnds2 : bnds [(5, 9), (8, 4294967295)] = [0, 5, 8, 10] := bnds_is (by simp [Rising]) fun x => by simp [ends]; omega
set_option maxRecDepth 100000 in
set_option maxHeartbeats 2000000 in
theorem alive_any (w : World) : Calls Try.prog 17 #[] w fun e w' => e = .returned (.bool true) ∧ Below w.heap.size w w' := by
  go_enter Try.func17, Try.ntmps17
  go_wp2_with fail
  refine (new_any w).mono ?_
  rintro e w1 ⟨v1, rfl, t1, b1⟩
  obtain ⟨B1, rfl⟩ := t1.ptr
  go_wp2_with fail
  refine (add_ok [] 5 9 w1 t1.any (by decide) (by decide) (by decide)).mono ?_
  rintro e w2 ⟨v2, rfl, t2, b2⟩
  obtain ⟨B2, rfl⟩ := t2.ptr
  change IsTab w2 _ [(5, 9)] at t2
  have bb2 := b1.trans (b2.mono b1.size)
  clear b1 b2 t1
  go_wp2_with fail
  refine (add_ok [(5, 9)] 8 4294967295 w2 t2.any (by decide) (by decide) (by decide)).mono ?_
  rintro e w3 ⟨v3, rfl, t3, b3⟩
  obtain ⟨B3, rfl⟩ := t3.ptr
  change IsTab w3 _ [(5, 9), (8, 4294967295)] at t3
  have bb3 := bb2.trans (b3.mono bb2.size)
  have t2 := t2.belows b3
  clear b3 bb2
  have hA := atom_ok [(5, 9), (8, 4294967295)] 2 w3 t3.any (by rw [bnds2]; decide)
  rw [bnds2] at hA
  have hA' : Calls Try.prog 22 #[.pointer (some ⟨B3, 0, none⟩), .int .i64 2] w3 fun e w' => e = .returned (.tuple #[.agg #[.int .u32 8, .int .u32 9], .bool true]) ∧ Below w3.heap.size w3 w' := hA
  clear hA
  go_wp2_with fail
  refine hA'.mono ?_
  rintro e w4 ⟨rfl, b4⟩
  have b4' : Below w3.heap.size w3 (w4.alloc (.cells #[.int .u32 8, .int .u32 9] 32)) := b4.alloc b4.size _
  have A4 := At.new w4 #[.int .u32 8, .int .u32 9] 32
  have t2 := t2.belows b4'
  have t3 := t3.belows b4'
  have bb4 := bb3.trans (b4'.mono bb3.size)
  clear b4 b4' bb3 hA'
  go_wp2_with fail
  generalize w4.alloc (.cells #[.int .u32 8, .int .u32 9] 32) = w5 at A4 t2 t3 bb4 ⊢
  have hW := within_ok [(5, 9), (8, 4294967295)] 5 9 w5 t3.any (by simp)
  rw [bnds2] at hW
  have hW' : Calls Try.prog 21 #[.pointer (some ⟨B3, 0, none⟩), .agg #[.int .u32 5, .int .u32 9]] w5 fun e w' => e = .returned (.tuple #[.int .i64 1, .int .i64 3, .bool true]) ∧ Below w5.heap.size w5 w' := hW
  clear hW
  refine hW'.mono ?_
  rintro e w6 ⟨rfl, b6⟩
  have A6 := A4.belows b6
  have t2 := t2.belows b6
  have t3 := t3.belows b6
  have bb6 := bb4.trans (b6.mono bb4.size)
  clear hW' b6 A4 bb4
  have l3 : ∀ W, Below w6.heap.size w6 W → Calls Try.prog 23 #[.pointer (some ⟨B3, 0, none⟩)] W fun e w' => e = .returned (.int .i64 4) ∧ Below W.heap.size W w' := fun W hW => by
    have := len5_any _ W (t3.belows hW).any
    rw [bnds2] at this; exact this
  have l2 : ∀ W, Below w6.heap.size w6 W → Calls Try.prog 23 #[.pointer (some ⟨B2, 0, none⟩)] W fun e w' => e = .returned (.int .i64 3) ∧ Below W.heap.size W w' := fun W hW => by
    have := len5_any _ W (t2.belows hW).any
    rw [bnds1] at this; exact this
  have o3 : ∀ W, Below w6.heap.size w6 W → Calls Try.prog 19 #[.pointer (some ⟨B3, 0, none⟩), .int .u32 9] W fun e w' => e = .returned (.int .i64 2) ∧ Below W.heap.size W w' := fun W hW => by
    have := of_any _ 9 W (by decide) (t3.belows hW).any
    rw [bnds2] at this; exact this
  have HL3 := Lib.hid l3
  have HL2 := Lib.hid l2
  have HO3 := Lib.hid o3
  clear l3 l2 o3 t2 t3
  go_wp2_with fail
  refine (HL3.out w6 (Below.refl _ _)).mono ?_
  rintro e w7 ⟨rfl, b7⟩
  go_wp2_with fail
  refine (HL2.out w7 b7).mono ?_
  rintro e w8 ⟨rfl, b8⟩
  have bb8 := b7.trans (b8.mono b7.size)
  have A8 := A6.belows bb8
  have k0 := (A8.cell 0).trans rfl
  have k1 := (A8.cell 1).trans rfl
  clear A6 A8 b7 b8
  go_wp2_with fail
  refine (HO3.out w8 bb8).mono ?_
  rintro e w9 ⟨rfl, b9⟩
  have bb9 := bb8.trans (b9.mono bb8.size)
  clear bb8 b9
  go_wp2
  go_ret
  exact ⟨rfl, bb6.trans (bb9.mono bb6.size)⟩
end Go.Proofs.Ytjljkpecpofbcaa
