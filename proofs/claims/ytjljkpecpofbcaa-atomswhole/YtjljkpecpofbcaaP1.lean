/- Contracts: the calls of a tree, but Pairs. -/
import Derived.Test.YtjljkpecpofbcaaJ4
namespace Go.Proofs.Ytjljkpecpofbcaa
open Go.RowKit

/-- A tree that is not nil, with these pairs. -/
def IsTree1 (w : World) (v : Value) (L : List (Int × Int)) : Prop := Up L ∧ L.length ≤ 1024 ∧ ∃ (B : Nat) (vn : Value) (t : Bt), v = .pointer (some ⟨B, 0, none⟩) ∧ At w B #[vn] 94 ∧ IsT w vn t ∧ t.even ∧ t.flat = L
/-- A tree with these pairs: nil has none. -/
def IsTree (w : World) (v : Value) (L : List (Int × Int)) : Prop := (v = .pointer none ∧ L = []) ∨ IsTree1 w v L
theorem IsTree1.belows {w w' : World} {v : Value} {L : List (Int × Int)} (h : IsTree1 w v L) (hb : Below w.heap.size w w') : IsTree1 w' v L := by
  obtain ⟨h1, h2, B, vn, t, e, ha, hi, he, hf⟩ := h
  exact ⟨h1, h2, B, vn, t, e, ha.belows hb, hi.belows hb, he, hf⟩
theorem IsTree.belows {w w' : World} {v : Value} {L : List (Int × Int)} (h : IsTree w v L) (hb : Below w.heap.size w w') : IsTree w' v L := h.imp id fun h => h.belows hb
theorem IsTree1.any {w : World} {v : Value} {L : List (Int × Int)} (h : IsTree1 w v L) : IsTree w v L := .inr h
theorem IsTree.up {w : World} {v : Value} {L : List (Int × Int)} (h : IsTree w v L) : Up L ∧ L.length ≤ 1024 := by
  rcases h with ⟨_, rfl⟩ | ⟨h1, h2, _⟩
  · exact ⟨Up.nil, by simp⟩
  · exact ⟨h1, h2⟩
theorem IsTree1.ptr {w : World} {v : Value} {L : List (Int × Int)} (h : IsTree1 w v L) : ∃ B, v = .pointer (some ⟨B, 0, none⟩) := by
  obtain ⟨h1, h2, B, vn, t, e, _⟩ := h
  exact ⟨B, e⟩
theorem IsTree.ptr {w : World} {v : Value} {L : List (Int × Int)} (h : IsTree w v L) : ∃ p, v = .pointer p := by
  rcases h with ⟨rfl, _⟩ | h
  · exact ⟨_, rfl⟩
  · obtain ⟨B, rfl⟩ := h.ptr; exact ⟨_, rfl⟩
theorem tree_new (W : World) {vn : Value} {t : Bt} {L : List (Int × Int)} (hi : IsT W vn t) (he : t.even) (hf : t.flat = L) (hu : Up L) (hl : L.length ≤ 1024) : IsTree1 (W.alloc (.cells #[vn] 94)) (.pointer (some ⟨W.heap.size, 0, none⟩)) L :=
  ⟨hu, hl, W.heap.size, vn, t, rfl, At.new W _ _, hi.belows ((Below.refl _ W).alloc (Nat.le_refl _) _), he, hf⟩

def TopOut (w : World) (L : List (Int × Int)) (e : Ending) (w' : World) : Prop := ∃ (p : Option Addr) (t : Bt), e = .returned (.pointer p) ∧ IsT w (.pointer p) t ∧ t.even ∧ t.flat = L ∧ t.size = L.length ∧ w = w'
theorem top_any {v : Value} (L : List (Int × Int)) (w : World) (h : IsTree w v L) : Calls Try.prog 40 #[v] w (TopOut w L) := by
  rcases h with ⟨rfl, rfl⟩ | ⟨_, _, B, vn, t, rfl, ha, hi, he, hf⟩
  · go_enter Try.func40, Try.ntmps40
    go_wp2
    go_ret
    exact ⟨none, .nil, rfl, rfl, trivial, rfl, rfl, rfl⟩
  · have c0 := (ha.cell 0).trans rfl
    obtain ⟨p, rfl⟩ := hi.ptr
    go_enter Try.func40, Try.ntmps40
    go_wp2
    go_ret
    exact ⟨p, t, rfl, hi, he, hf, by rw [← hf, Bt.flat_len], rfl⟩
theorem len_any {v : Value} (L : List (Int × Int)) (w : World) (h : IsTree w v L) : Calls Try.prog 36 #[v] w fun e w' => e = .returned (.int .i64 (L.length : Int)) ∧ w = w' := by
  have ht := top_any L w h
  obtain ⟨p, rfl⟩ := h.ptr
  go_enter Try.func36, Try.ntmps36
  go_wp2_with (first | (go_at_call 40; refine ht.mono ?_; rintro e w1 ⟨q, t, rfl, hi, he, hf, hs, rfl⟩) | (go_at_call 44; refine (count_any t _ hi).mono ?_; rintro e w1 ⟨rfl, rfl⟩))
  go_ret
  exact ⟨ret_int (by omega), rfl⟩
/-- The value, and whether there is one. -/
def getV : Option (Int × Int) → Value
  | none => .tuple #[.int .i64 0, .bool false]
  | some x => .tuple #[.int .i64 x.2, .bool true]
set_option maxRecDepth 100000 in
theorem get_any {v : Value} (L : List (Int × Int)) (k : Int) (w : World) (h : IsTree w v L) : Calls Try.prog 39 #[v, .int .u64 k] w fun e w' => e = .returned (getV (getL L k)) ∧ Below w.heap.size w w' := by
  have hu := Lib.hid h.up
  obtain ⟨p, rfl⟩ := h.ptr
  cases ho : getL L k with
  | none =>
    have HO := Lib.hid ho
    clear ho
    go_enter Try.func39, Try.ntmps39
    go_wp2_with fail
    refine (top_any L _ (h)).mono ?_
    rintro e w1 ⟨q, t, rfl, hi, he, hf, hs, rfl⟩
    go_wp2_with fail
    refine (find_any t k w hi (by rw [hf]; exact hu.out.1)).mono ?_
    rintro e w1 ⟨v1, rfl, ia, rfl⟩
    rw [hf, HO.out] at ia
    clear hf hs
    obtain ⟨p1, rfl⟩ := ia.ptr
    go_wp2_with fail
    refine (told_any (none) _ ia).mono ?_
    rintro e w2 ⟨rfl, b2⟩
    simp only [toldV]
    go_wp2
    go_ret2
    exact ⟨rfl, b2.alloc b2.size _⟩
  | some x =>
    have HO := Lib.hid ho
    clear ho
    go_enter Try.func39, Try.ntmps39
    go_wp2_with fail
    refine (top_any L _ (h)).mono ?_
    rintro e w1 ⟨q, t, rfl, hi, he, hf, hs, rfl⟩
    go_wp2_with fail
    refine (find_any t k w hi (by rw [hf]; exact hu.out.1)).mono ?_
    rintro e w1 ⟨v1, rfl, ia, rfl⟩
    rw [hf, HO.out] at ia
    clear hf hs
    obtain ⟨p1, rfl⟩ := ia.ptr
    go_wp2_with fail
    refine (told_any (some x) _ ia).mono ?_
    rintro e w2 ⟨rfl, b2⟩
    simp only [toldV]
    go_wp2
    go_ret2
    exact ⟨rfl, b2.alloc b2.size _⟩
set_option maxRecDepth 100000 in
theorem At_any {v : Value} (L : List (Int × Int)) (i : Int) (w : World) (h : IsTree w v L) (hi1 : -9223372036854775808 ≤ i) (hi2 : i ≤ 9223372036854775807) : Calls Try.prog 37 #[v, .int .i64 i] w fun e w' => e = .returned (toldV (atL L i)) ∧ Below w.heap.size w w' := by
  have hu := Lib.hid h.up
  have b0 : Below w.heap.size w (w.alloc (.cells #[.int .u64 0, .int .i64 0] 68)) := (Below.refl _ w).alloc (Nat.le_refl _) _
  have A0 := At.new w #[.int .u64 0, .int .i64 0] 68
  obtain ⟨p, rfl⟩ := h.ptr
  cases ho : atL L i with
  | none =>
    have HO := Lib.hid ho
    clear ho
    go_enter Try.func37, Try.ntmps37
    go_wp2_with fail
    refine (top_any L _ (h.belows b0)).mono ?_
    rintro e w1 ⟨q, t, rfl, hi, he, hf, hs, rfl⟩
    go_wp2_with fail
    refine (place_any t i _ hi hi1 hi2 (by have := hu.out.2; omega)).mono ?_
    rintro e w1 ⟨v1, rfl, ia, rfl⟩
    rw [hf, HO.out] at ia
    clear hf hs
    obtain ⟨p1, rfl⟩ := ia.ptr
    go_wp2_with fail
    refine (told_any (none) _ ia).mono ?_
    rintro e w2 ⟨rfl, b2⟩
    simp only [toldV]
    have bb2 : Below (w.alloc (.cells #[.int .u64 0, .int .i64 0] 68)).heap.size (w.alloc (.cells #[.int .u64 0, .int .i64 0] 68)) w2 := (b2)
    have A2 := A0.belows bb2
    have A3 := (A2.set0 0 (.int .u64 0)).set0 1 (.int .i64 0)
    have f0 := A2.frozen 0
    have f1 := A2.frozen 1
    have e0 := (A2.cell 0).trans rfl
    have e1 := (A2.cell 1).trans rfl
    go_wp2
    refine bodyPost_ret (v := toldV (none)) (by simp [results, Try.results37, go_sem, toldV, A3.cell 0, A3.cell 1]) rfl ⟨rfl, ?_⟩
    have hs2 := bb2.size
    exact ((b0.trans (bb2.mono b0.size)).setCell (p := ⟨w.heap.size, 0, none⟩) (Nat.le_refl _) _).setCell (p := ⟨w.heap.size, 1, none⟩) (Nat.le_refl _) _
  | some x =>
    have HO := Lib.hid ho
    clear ho
    go_enter Try.func37, Try.ntmps37
    go_wp2_with fail
    refine (top_any L _ (h.belows b0)).mono ?_
    rintro e w1 ⟨q, t, rfl, hi, he, hf, hs, rfl⟩
    go_wp2_with fail
    refine (place_any t i _ hi hi1 hi2 (by have := hu.out.2; omega)).mono ?_
    rintro e w1 ⟨v1, rfl, ia, rfl⟩
    rw [hf, HO.out] at ia
    clear hf hs
    obtain ⟨p1, rfl⟩ := ia.ptr
    go_wp2_with fail
    refine (told_any (some x) _ ia).mono ?_
    rintro e w2 ⟨rfl, b2⟩
    simp only [toldV]
    have bb2 : Below (w.alloc (.cells #[.int .u64 0, .int .i64 0] 68)).heap.size (w.alloc (.cells #[.int .u64 0, .int .i64 0] 68)) w2 := (b2)
    have A2 := A0.belows bb2
    have A3 := (A2.set0 0 (.int .u64 x.1)).set0 1 (.int .i64 x.2)
    have f0 := A2.frozen 0
    have f1 := A2.frozen 1
    have e0 := (A2.cell 0).trans rfl
    have e1 := (A2.cell 1).trans rfl
    go_wp2
    refine bodyPost_ret (v := toldV (some x)) (by simp [results, Try.results37, go_sem, toldV, A3.cell 0, A3.cell 1]) rfl ⟨rfl, ?_⟩
    have hs2 := bb2.size
    exact ((b0.trans (bb2.mono b0.size)).setCell (p := ⟨w.heap.size, 0, none⟩) (Nat.le_refl _) _).setCell (p := ⟨w.heap.size, 1, none⟩) (Nat.le_refl _) _
end Go.Proofs.Ytjljkpecpofbcaa
