/- Contracts: keys of ranges and boundaries, how often they stand, a range's boundaries. -/
import Derived.Test.YtjljkpecpofbcaaZ2
namespace Go.Proofs.Ytjljkpecpofbcaa
open Go.RowKit Go.Shelf

theorem or_disj (f t : Nat) (ht : t < 4294967296) : (f * 4294967296) ||| t = f * 4294967296 + t := by
  have h := Nat.shiftLeft_add_eq_or_of_lt (i := 32) (b := t) (by omega) f
  rw [Nat.shiftLeft_eq] at h
  exact h.symm
theorem bits_key (f t : Nat) (hf : f < 4294967296) (ht : t < 4294967296) : bits .or .u64 ((f : Int) * 4294967296) (t : Int) = (f : Int) * 4294967296 + (t : Int) := by
  have e0 : ((f : Int) * 4294967296) = ((f * 4294967296 : Nat) : Int) := by omega
  rw [e0]
  have h1 : (BitVec.ofInt 64 ((f * 4294967296 : Nat) : Int)).toNat = f * 4294967296 := by
    rw [BitVec.ofInt_natCast, BitVec.toNat_ofNat]; exact Nat.mod_eq_of_lt (by omega)
  have h2 : (BitVec.ofInt 64 (t : Int)).toNat = t := by
    rw [BitVec.ofInt_natCast, BitVec.toNat_ofNat]; exact Nat.mod_eq_of_lt (by omega)
  show IntKind.u64.wrap ((BitVec.ofInt 64 ((f * 4294967296 : Nat) : Int) ||| BitVec.ofInt 64 (t : Int)).toNat : Int) = _
  rw [BitVec.toNat_or, h1, h2, or_disj f t ht, IntWalk.u64_in _ (by omega)]
  omega
theorem keyS_any (f t : Nat) (w : World) (hf : f < 4294967296) (ht : t < 4294967296) : Calls Try.prog 79 #[.agg #[.int .u32 f, .int .u32 t]] w fun e w' => e = .returned (.int .u64 (keyI (f, t))) ∧ Below w.heap.size w w' := by
  have hk := bits_key f t hf ht
  go_enter Try.func79, Try.ntmps79
  go_wp2
  go_ret
  exact ⟨rfl, (Below.refl _ w).alloc (Nat.le_refl _) _⟩
theorem keyC_any (c : Int) (w : World) (h0 : 0 ≤ c) (h1 : c < 4294967296) : Calls Try.prog 80 #[.int .u32 c] w fun e w' => e = .returned (.int .u64 c) ∧ w = w' := by
  go_enter Try.func80, Try.ntmps80
  go_wp2
  go_ret
  exact ⟨rfl, rfl⟩
theorem getV_tal {P : List (Int × Int)} {f : Int → Nat} (h : Tal P f) (k : Int) : ∃ b, getV (getL P k) = .tuple #[.int .i64 (f k : Int), .bool b] := by
  rw [h.2 k]
  by_cases e : f k = 0
  · rw [if_pos e, e]; exact ⟨false, rfl⟩
  · rw [if_neg e]; exact ⟨true, rfl⟩
set_option maxRecDepth 100000 in
theorem oftenS_any {v : Value} (P : List (Int × Int)) (L : List (Nat × Nat)) (f t : Nat) (w : World) (hf : f < 4294967296) (ht : t < 4294967296) (h : IsTree w v P) (hT : Tal P (nR L)) : Calls Try.prog 28 #[v, .agg #[.int .u32 f, .int .u32 t]] w fun e w' => e = .returned (.int .i64 (nR L (keyI (f, t)) : Int)) ∧ Below w.heap.size w w' := by
  obtain ⟨p, rfl⟩ := h.ptr
  have HH := Lib.hid h
  obtain ⟨b, hb⟩ := getV_tal hT (keyI (f, t))
  have HT := Lib.hid hb
  clear h hT hb
  generalize hn : nR L (keyI (f, t)) = n at HT
  clear hn
  go_enter Try.func28, Try.ntmps28
  go_wp2_with fail
  refine (keyS_any f t _ hf ht).mono ?_
  rintro e w1 ⟨rfl, b1⟩
  have b1' : Below w.heap.size w w1 := ((Below.refl _ w).alloc (Nat.le_refl _) _).trans (b1.mono (by simp))
  go_wp2_with fail
  refine (get_any P _ w1 (HH.out.belows b1')).mono ?_
  rintro e w2 ⟨rfl, b2⟩
  rw [HT.out]
  go_wp2
  go_ret
  exact ⟨rfl, b1'.trans (b2.mono b1'.size)⟩
set_option maxRecDepth 100000 in
theorem oftenC_any {v : Value} (P : List (Int × Int)) (g : Int → Nat) (c : Int) (w : World) (h0 : 0 ≤ c) (h1 : c < 4294967296) (h : IsTree w v P) (hT : Tal P g) : Calls Try.prog 56 #[v, .int .u32 c] w fun e w' => e = .returned (.int .i64 (g c : Int)) ∧ Below w.heap.size w w' := by
  obtain ⟨p, rfl⟩ := h.ptr
  have HH := Lib.hid h
  obtain ⟨b, hb⟩ := getV_tal hT c
  have HT := Lib.hid hb
  clear h hT hb
  generalize hn : g c = n at HT
  clear hn
  go_enter Try.func56, Try.ntmps56
  go_wp2_with fail
  refine (keyC_any c _ h0 h1).mono ?_
  rintro e w1 ⟨rfl, rfl⟩
  go_wp2_with fail
  refine (get_any P _ w (HH.out)).mono ?_
  rintro e w2 ⟨rfl, b2⟩
  rw [HT.out]
  go_wp2
  go_ret
  exact ⟨rfl, b2⟩
end Go.Proofs.Ytjljkpecpofbcaa
