/- Texts of this seat, put together: RtP1, RtP2, RtP3, RtP4, RtB1, RtB2, RtB3, LX, F9, F10, F3, F4, Lb2, LI, La1, La2p, La2, La2d, La3, RtB4, RtB5, La4, La5, La6p, F5, F2, SF, F6, K1, K2, J1, M1, N1. -/
import Derived.Test.YtlhfaildeemngaaZ2
import Derived.RangeFuncNested
import Derived.RangeFuncBound
import Derived.RangeFuncCalls
import Derived.RangeFuncLeaves
import Derived.Shelf.Abstract
import Derived.Shelf.RegionOpen
import Derived.OwnWalkIn
import Derived.TacticsInMore
import Derived.LoopNIn
import Derived.LoopIn
import Derived.Maps.AppendAt
import Derived.Maps.OwnIn
import Derived.Test.YtlhfaildeemngaaZ1
import Derived.Lib.SliceRun
import Derived.Shelf.Spec.SlicesInsert
import Derived.Lib.AppendZerosOnto
import Derived.Deep.OwnRows
import Derived.Maps.OwnSet
import Derived.Maps.OwnOps
import Derived.Maps.Views
import Derived.DeepKeys4
/- Contracts: the calls of a tree, but Pairs. -/
namespace Go.Proofs.Ytlhfaildeemngaa.Tr
open Go.RowKit

/-- A tree that is not nil, with these pairs. -/
def IsTree1 (w : World) (v : Value) (L : List (Int × Int)) : Prop := Up L ∧ L.length ≤ 1024 ∧ ∃ (B : Nat) (vn : Value) (t : Bt), v = .pointer (some ⟨B, 0, none⟩) ∧ At w B #[vn] 130 ∧ IsT w vn t ∧ t.even ∧ t.flat = L
/-- A tree with these pairs: nil has none. -/
def IsTree (w : World) (v : Value) (L : List (Int × Int)) : Prop := (v = .pointer none ∧ L = []) ∨ IsTree1 w v L
theorem IsTree1.belows {w w' : World} {v : Value} {L : List (Int × Int)} (h : IsTree1 w v L) (hb : Below w.heap.size w w') : IsTree1 w' v L := by
  obtain ⟨h1, h2, B, vn, t, e, ha, hi, he, hf⟩ := h
  exact ⟨h1, h2, B, vn, t, e, ha.belows hb, hi.belows hb, he, hf⟩
theorem IsTree.belows {w w' : World} {v : Value} {L : List (Int × Int)} (h : IsTree w v L) (hb : Below w.heap.size w w') : IsTree w' v L := h.imp id fun h => h.belows hb
theorem IsTree1.any {w : World} {v : Value} {L : List (Int × Int)} (h : IsTree1 w v L) : IsTree w v L := .inr h
theorem IsTree.up {w : World} {v : Value} {L : List (Int × Int)} (h : IsTree w v L) : Up L ∧ L.length ≤ 1024 := by
  rcases h with ⟨_, rfl⟩ | ⟨h1, h2, _⟩
  · exact ⟨Up.nil, by simp⟩
  · exact ⟨h1, h2⟩
theorem IsTree1.ptr {w : World} {v : Value} {L : List (Int × Int)} (h : IsTree1 w v L) : ∃ B, v = .pointer (some ⟨B, 0, none⟩) := by
  obtain ⟨h1, h2, B, vn, t, e, _⟩ := h
  exact ⟨B, e⟩
theorem IsTree.ptr {w : World} {v : Value} {L : List (Int × Int)} (h : IsTree w v L) : ∃ p, v = .pointer p := by
  rcases h with ⟨rfl, _⟩ | h
  · exact ⟨_, rfl⟩
  · obtain ⟨B, rfl⟩ := h.ptr; exact ⟨_, rfl⟩
theorem tree_new (W : World) {vn : Value} {t : Bt} {L : List (Int × Int)} (hi : IsT W vn t) (he : t.even) (hf : t.flat = L) (hu : Up L) (hl : L.length ≤ 1024) : IsTree1 (W.alloc (.cells #[vn] 130)) (.pointer (some ⟨W.heap.size, 0, none⟩)) L :=
  ⟨hu, hl, W.heap.size, vn, t, rfl, At.new W _ _, hi.belows ((Below.refl _ W).alloc (Nat.le_refl _) _), he, hf⟩

def TopOut (w : World) (L : List (Int × Int)) (e : Ending) (w' : World) : Prop := ∃ (p : Option Addr) (t : Bt), e = .returned (.pointer p) ∧ IsT w (.pointer p) t ∧ t.even ∧ t.flat = L ∧ t.size = L.length ∧ w = w'
theorem top_any {v : Value} (L : List (Int × Int)) (w : World) (h : IsTree w v L) : Calls Try.prog 72 #[v] w (TopOut w L) := by
  rcases h with ⟨rfl, rfl⟩ | ⟨_, _, B, vn, t, rfl, ha, hi, he, hf⟩
  · go_enter Try.func72, Try.ntmps72
    go_wp2
    go_ret
    exact ⟨none, .nil, rfl, rfl, trivial, rfl, rfl, rfl⟩
  · have c0 := (ha.cell 0).trans rfl
    obtain ⟨p, rfl⟩ := hi.ptr
    go_enter Try.func72, Try.ntmps72
    go_wp2
    go_ret
    exact ⟨p, t, rfl, hi, he, hf, by rw [← hf, Bt.flat_len], rfl⟩
theorem len_any {v : Value} (L : List (Int × Int)) (w : World) (h : IsTree w v L) : Calls Try.prog 48 #[v] w fun e w' => e = .returned (.int .i64 (L.length : Int)) ∧ w = w' := by
  have ht := top_any L w h
  obtain ⟨p, rfl⟩ := h.ptr
  go_enter Try.func48, Try.ntmps48
  go_wp2_with (first | (go_at_call 72; refine ht.mono ?_; rintro e w1 ⟨q, t, rfl, hi, he, hf, hs, rfl⟩) | (go_at_call 73; refine (count_any t _ hi).mono ?_; rintro e w1 ⟨rfl, rfl⟩))
  go_ret
  exact ⟨ret_int (by omega), rfl⟩
/-- The value, and whether there is one. -/
def getV : Option (Int × Int) → Value
  | none => .tuple #[.int .i64 0, .bool false]
  | some x => .tuple #[.int .i64 x.2, .bool true]
set_option maxRecDepth 100000 in
theorem get_any {v : Value} (L : List (Int × Int)) (k : Int) (w : World) (h : IsTree w v L) : Calls Try.prog 94 #[v, .int .u64 k] w fun e w' => e = .returned (getV (getL L k)) ∧ Below w.heap.size w w' := by
  have hu := Lib.hid h.up
  obtain ⟨p, rfl⟩ := h.ptr
  cases ho : getL L k with
  | none =>
    have HO := Lib.hid ho
    clear ho
    go_enter Try.func94, Try.ntmps94
    go_wp2_with fail
    refine (top_any L _ (h)).mono ?_
    rintro e w1 ⟨q, t, rfl, hi, he, hf, hs, rfl⟩
    go_wp2_with fail
    refine (find_any t k w hi (by rw [hf]; exact hu.out.1)).mono ?_
    rintro e w1 ⟨v1, rfl, ia, rfl⟩
    rw [hf, HO.out] at ia
    clear hf hs
    obtain ⟨p1, rfl⟩ := ia.ptr
    go_wp2_with fail
    refine (told_any (none) _ ia).mono ?_
    rintro e w2 ⟨rfl, b2⟩
    simp only [toldV]
    go_wp2
    go_ret2
    exact ⟨rfl, b2.alloc b2.size _⟩
  | some x =>
    have HO := Lib.hid ho
    clear ho
    go_enter Try.func94, Try.ntmps94
    go_wp2_with fail
    refine (top_any L _ (h)).mono ?_
    rintro e w1 ⟨q, t, rfl, hi, he, hf, hs, rfl⟩
    go_wp2_with fail
    refine (find_any t k w hi (by rw [hf]; exact hu.out.1)).mono ?_
    rintro e w1 ⟨v1, rfl, ia, rfl⟩
    rw [hf, HO.out] at ia
    clear hf hs
    obtain ⟨p1, rfl⟩ := ia.ptr
    go_wp2_with fail
    refine (told_any (some x) _ ia).mono ?_
    rintro e w2 ⟨rfl, b2⟩
    simp only [toldV]
    go_wp2
    go_ret2
    exact ⟨rfl, b2.alloc b2.size _⟩
set_option maxRecDepth 100000 in
theorem At_any {v : Value} (L : List (Int × Int)) (i : Int) (w : World) (h : IsTree w v L) (hi1 : -9223372036854775808 ≤ i) (hi2 : i ≤ 9223372036854775807) : Calls Try.prog 49 #[v, .int .i64 i] w fun e w' => e = .returned (toldV (atL L i)) ∧ Below w.heap.size w w' := by
  have hu := Lib.hid h.up
  have b0 : Below w.heap.size w (w.alloc (.cells #[.int .u64 0, .int .i64 0] 92)) := (Below.refl _ w).alloc (Nat.le_refl _) _
  have A0 := At.new w #[.int .u64 0, .int .i64 0] 92
  obtain ⟨p, rfl⟩ := h.ptr
  cases ho : atL L i with
  | none =>
    have HO := Lib.hid ho
    clear ho
    go_enter Try.func49, Try.ntmps49
    go_wp2_with fail
    refine (top_any L _ (h.belows b0)).mono ?_
    rintro e w1 ⟨q, t, rfl, hi, he, hf, hs, rfl⟩
    go_wp2_with fail
    refine (place_any t i _ hi hi1 hi2 (by have := hu.out.2; omega)).mono ?_
    rintro e w1 ⟨v1, rfl, ia, rfl⟩
    rw [hf, HO.out] at ia
    clear hf hs
    obtain ⟨p1, rfl⟩ := ia.ptr
    go_wp2_with fail
    refine (told_any (none) _ ia).mono ?_
    rintro e w2 ⟨rfl, b2⟩
    simp only [toldV]
    have bb2 : Below (w.alloc (.cells #[.int .u64 0, .int .i64 0] 92)).heap.size (w.alloc (.cells #[.int .u64 0, .int .i64 0] 92)) w2 := (b2)
    have A2 := A0.belows bb2
    have A3 := (A2.set0 0 (.int .u64 0)).set0 1 (.int .i64 0)
    have f0 := A2.frozen 0
    have f1 := A2.frozen 1
    have e0 := (A2.cell 0).trans rfl
    have e1 := (A2.cell 1).trans rfl
    go_wp2
    refine bodyPost_ret (v := toldV (none)) (by simp [results, Try.results49, go_sem, toldV, A3.cell 0, A3.cell 1]) rfl ⟨rfl, ?_⟩
    have hs2 := bb2.size
    exact ((b0.trans (bb2.mono b0.size)).setCell (p := ⟨w.heap.size, 0, none⟩) (Nat.le_refl _) _).setCell (p := ⟨w.heap.size, 1, none⟩) (Nat.le_refl _) _
  | some x =>
    have HO := Lib.hid ho
    clear ho
    go_enter Try.func49, Try.ntmps49
    go_wp2_with fail
    refine (top_any L _ (h.belows b0)).mono ?_
    rintro e w1 ⟨q, t, rfl, hi, he, hf, hs, rfl⟩
    go_wp2_with fail
    refine (place_any t i _ hi hi1 hi2 (by have := hu.out.2; omega)).mono ?_
    rintro e w1 ⟨v1, rfl, ia, rfl⟩
    rw [hf, HO.out] at ia
    clear hf hs
    obtain ⟨p1, rfl⟩ := ia.ptr
    go_wp2_with fail
    refine (told_any (some x) _ ia).mono ?_
    rintro e w2 ⟨rfl, b2⟩
    simp only [toldV]
    have bb2 : Below (w.alloc (.cells #[.int .u64 0, .int .i64 0] 92)).heap.size (w.alloc (.cells #[.int .u64 0, .int .i64 0] 92)) w2 := (b2)
    have A2 := A0.belows bb2
    have A3 := (A2.set0 0 (.int .u64 x.1)).set0 1 (.int .i64 x.2)
    have f0 := A2.frozen 0
    have f1 := A2.frozen 1
    have e0 := (A2.cell 0).trans rfl
    have e1 := (A2.cell 1).trans rfl
    go_wp2
    refine bodyPost_ret (v := toldV (some x)) (by simp [results, Try.results49, go_sem, toldV, A3.cell 0, A3.cell 1]) rfl ⟨rfl, ?_⟩
    have hs2 := bb2.size
    exact ((b0.trans (bb2.mono b0.size)).setCell (p := ⟨w.heap.size, 0, none⟩) (Nat.le_refl _) _).setCell (p := ⟨w.heap.size, 1, none⟩) (Nat.le_refl _) _
end Go.Proofs.Ytlhfaildeemngaa.Tr
/- Contracts: Put, Drop, Split. -/
namespace Go.Proofs.Ytlhfaildeemngaa.Tr
open Go.RowKit

theorem put_length {L : List (Int × Int)} {k v : Int} (_hu : Up L) : (putL L k v).length = (lowL L k).length + 1 + (gtL L k).length := by unfold putL; rw [List.length_append, List.length_cons]; omega
theorem put_fits {L : List (Int × Int)} {k v : Int} (hu : Up L) (hl : L.length ≤ 1024) (h : getL L k ≠ none ∨ L.length < 1024) : (putL L k v).length ≤ 1024 := by
  rw [put_len hu]
  rcases h with h | h
  · rw [if_neg h]; exact hl
  · split <;> omega
set_option maxRecDepth 100000 in
set_option maxHeartbeats 1000000 in
theorem put_full {tv : Value} (L : List (Int × Int)) (k v : Int) (w : World) (h : IsTree w tv L) (hg : getL L k = none) (hl : L.length = 1024) : Calls Try.prog 90 #[tv, .int .u64 k, .int .i64 v] w fun e w' => e = .returned (.tuple #[.pointer none, .int .i64 41]) ∧ Below w.heap.size w w' := by
  have hu := Lib.hid h.up
  obtain ⟨p, rfl⟩ := h.ptr
  have HG := Lib.hid hg
  have HLEN := Lib.hid hl
  have HH := Lib.hid h
  clear hg hl h
  go_enter Try.func90, Try.ntmps90
  go_wp2_with fail
  refine (top_any L _ HH.out).mono ?_
  rintro e w1 ⟨q, t, rfl, hi, he, hf, hs, rfl⟩
  go_wp2_with fail
  refine (cut_any t k _ w hi he (by rw [hf]; exact hu.out.1) (by have := hu.out.2; omega)).mono ?_
  rintro e w1 ⟨vb, va, vc, b, c, rfl, ib, ia, ic, b1⟩
  rw [hf, HG.out] at ia
  obtain rfl := ia
  obtain ⟨pb, rfl⟩ := ib.1.ptr
  obtain ⟨pc, rfl⟩ := ic.1.ptr
  have hlen := len_any L w1 (HH.out.belows b1)
  rw [HLEN.out] at hlen
  clear hf hs
  go_wp2_with (go_at_call 48; refine hlen.mono ?_; rintro e w2 ⟨rfl, rfl⟩)
  go_ret2
  exact ⟨rfl, b1⟩
/-- A new tree with these pairs. -/
def TreeOut (w : World) (L : List (Int × Int)) (e : Ending) (w' : World) : Prop := ∃ v', e = .returned (.tuple #[v', .int .i64 0]) ∧ IsTree1 w' v' L ∧ Below w.heap.size w w'
set_option maxRecDepth 100000 in
set_option maxHeartbeats 1000000 in
theorem put_ok {tv : Value} (L : List (Int × Int)) (k v : Int) (w : World) (h : IsTree w tv L) (hg : getL L k ≠ none ∨ L.length < 1024) : Calls Try.prog 90 #[tv, .int .u64 k, .int .i64 v] w (TreeOut w (putL L k v)) := by
  have hu := Lib.hid h.up
  obtain ⟨p, rfl⟩ := h.ptr
  have HFIT := Lib.hid (put_fits (v := v) hu.out.1 hu.out.2 hg)
  have HLL := Lib.hid (And.intro (low_len (l := L) (k := k)) (gt_len (l := L) (k := k)))
  have HH := Lib.hid h
  clear h
  cases ho : getL L k with
  | none =>
    have hlt : L.length < 1024 := hg.elim (fun h => absurd ho h) id
    have HO := Lib.hid ho
    clear ho hg
    go_enter Try.func90, Try.ntmps90
    go_wp2_with fail
    refine (top_any L _ HH.out).mono ?_
    rintro e w1 ⟨q, t, rfl, hi, he, hf, hs, rfl⟩
    go_wp2_with fail
    refine (cut_any t k _ w hi he (by rw [hf]; exact hu.out.1) (by have := hu.out.2; omega)).mono ?_
    rintro e w1 ⟨vb, va, vc, b, c, rfl, ib, ia, ic, b1⟩
    rw [hf, HO.out] at ia
    rw [hf] at ib ic
    obtain rfl := ia
    obtain ⟨pb, rfl⟩ := ib.1.ptr
    obtain ⟨pc, rfl⟩ := ic.1.ptr
    have hlen := len_any L w1 (HH.out.belows b1)
    have HS := Lib.hid (And.intro hf hs)
    clear hf hs
    have hz : b.size + c.size ≤ 10000 := by have := HLL.out; have := hu.out.2; rw [← b.flat_len, ← c.flat_len, ib.2.2, ic.2.2]; omega
    have HIB := Lib.hid ib
    have HIC := Lib.hid ic
    clear ib ic
    have d1 : decide (1024 ≤ (L.length : Int)) = false := by simp; omega
    go_wp2_with (first | (go_at_call 48; refine hlen.mono ?_; rintro e w2 ⟨rfl, rfl⟩) | (go_at_call 97; refine (join_any b c (k, v) _ HIB.out.1 HIC.out.1 HIB.out.2.1 HIC.out.2.1 hz).mono ?_; rintro e w3 ⟨v3, t3, rfl, i3, f3, b3⟩; obtain ⟨p3, rfl⟩ := i3.ptr))
    go_ret2
    exact ⟨_, rfl, tree_new w3 i3 f3.2.1 (by rw [f3.1, HIB.out.2.2, HIC.out.2.2]; rfl) (hu.out.1.put k v) HFIT.out, (b1.trans (b3.mono b1.size)).alloc (b1.trans (b3.mono b1.size)).size _⟩
  | some x =>
    have HO := Lib.hid ho
    clear ho hg
    go_enter Try.func90, Try.ntmps90
    go_wp2_with fail
    refine (top_any L _ HH.out).mono ?_
    rintro e w1 ⟨q, t, rfl, hi, he, hf, hs, rfl⟩
    go_wp2_with fail
    refine (cut_any t k _ w hi he (by rw [hf]; exact hu.out.1) (by have := hu.out.2; omega)).mono ?_
    rintro e w1 ⟨vb, va, vc, b, c, rfl, ib, ia, ic, b1⟩
    rw [hf, HO.out] at ia
    rw [hf] at ib ic
    obtain ⟨Bn, n1, n2, n3, n4, rfl, han⟩ := ia
    obtain ⟨pb, rfl⟩ := ib.1.ptr
    obtain ⟨pc, rfl⟩ := ic.1.ptr
    clear hf hs han
    have hz : b.size + c.size ≤ 10000 := by have := HLL.out; have := hu.out.2; rw [← b.flat_len, ← c.flat_len, ib.2.2, ic.2.2]; omega
    have HIB := Lib.hid ib
    have HIC := Lib.hid ic
    clear ib ic
    go_wp2_with (go_at_call 97; refine (join_any b c (k, v) _ HIB.out.1 HIC.out.1 HIB.out.2.1 HIC.out.2.1 hz).mono ?_; rintro e w3 ⟨v3, t3, rfl, i3, f3, b3⟩; obtain ⟨p3, rfl⟩ := i3.ptr)
    go_ret2
    exact ⟨_, rfl, tree_new w3 i3 f3.2.1 (by rw [f3.1, HIB.out.2.2, HIC.out.2.2]; rfl) (hu.out.1.put k v) HFIT.out, (b1.trans (b3.mono b1.size)).alloc (b1.trans (b3.mono b1.size)).size _⟩
set_option maxRecDepth 100000 in
set_option maxHeartbeats 1000000 in
theorem drop_no {tv : Value} (L : List (Int × Int)) (k : Int) (w : World) (h : IsTree w tv L) (hg : getL L k = none) : Calls Try.prog 89 #[tv, .int .u64 k] w fun e w' => e = .returned (.tuple #[.pointer none, .int .i64 42]) ∧ Below w.heap.size w w' := by
  have hu := Lib.hid h.up
  obtain ⟨p, rfl⟩ := h.ptr
  have HG := Lib.hid hg
  have HH := Lib.hid h
  clear hg h
  go_enter Try.func89, Try.ntmps89
  go_wp2_with fail
  refine (top_any L _ HH.out).mono ?_
  rintro e w1 ⟨q, t, rfl, hi, he, hf, hs, rfl⟩
  go_wp2_with fail
  refine (cut_any t k _ w hi he (by rw [hf]; exact hu.out.1) (by have := hu.out.2; omega)).mono ?_
  rintro e w1 ⟨vb, va, vc, b, c, rfl, ib, ia, ic, b1⟩
  rw [hf, HG.out] at ia
  obtain rfl := ia
  obtain ⟨pb, rfl⟩ := ib.1.ptr
  obtain ⟨pc, rfl⟩ := ic.1.ptr
  clear hf hs ib ic
  go_wp2
  go_ret2
  exact ⟨rfl, b1⟩
set_option maxRecDepth 100000 in
set_option maxHeartbeats 1000000 in
theorem drop_ok {tv : Value} (L : List (Int × Int)) (k : Int) (w : World) (h : IsTree w tv L) (hg : getL L k ≠ none) : Calls Try.prog 89 #[tv, .int .u64 k] w (TreeOut w (dropL L k)) := by
  have hu := Lib.hid h.up
  obtain ⟨p, rfl⟩ := h.ptr
  have HLEN := Lib.hid (drop_len hu.out.1 hg)
  have HLL := Lib.hid (And.intro (low_len (l := L) (k := k)) (gt_len (l := L) (k := k)))
  have HH := Lib.hid h
  clear h
  cases ho : getL L k with
  | none => exact absurd ho hg
  | some x =>
    have HO := Lib.hid ho
    clear ho hg
    go_enter Try.func89, Try.ntmps89
    go_wp2_with fail
    refine (top_any L _ HH.out).mono ?_
    rintro e w1 ⟨q, t, rfl, hi, he, hf, hs, rfl⟩
    go_wp2_with fail
    refine (cut_any t k _ w hi he (by rw [hf]; exact hu.out.1) (by have := hu.out.2; omega)).mono ?_
    rintro e w1 ⟨vb, va, vc, b, c, rfl, ib, ia, ic, b1⟩
    rw [hf, HO.out] at ia
    rw [hf] at ib ic
    obtain ⟨Bn, n1, n2, n3, n4, rfl, han⟩ := ia
    obtain ⟨pb, rfl⟩ := ib.1.ptr
    obtain ⟨pc, rfl⟩ := ic.1.ptr
    clear hf hs han
    have hz : b.size + c.size ≤ 4000 := by have := HLL.out; have := hu.out.2; rw [← b.flat_len, ← c.flat_len, ib.2.2, ic.2.2]; omega
    have HIB := Lib.hid ib
    have HIC := Lib.hid ic
    clear ib ic
    go_wp2_with (go_at_call 96; refine (joinTwo_any b c _ HIB.out.1 HIC.out.1 HIB.out.2.1 HIC.out.2.1 (by rw [HIC.out.2.2]; exact hu.out.1.gt k) hz).mono ?_; rintro e w3 ⟨v3, t3, rfl, i3, e3, f3, b3⟩; obtain ⟨p3, rfl⟩ := i3.ptr)
    go_ret2
    exact ⟨_, rfl, tree_new w3 i3 e3 (by rw [f3, HIB.out.2.2, HIC.out.2.2]; rfl) (hu.out.1.drop k) (by have := HLEN.out; have := hu.out.2; omega), (b1.trans (b3.mono b1.size)).alloc (b1.trans (b3.mono b1.size)).size _⟩
/-- What Split answers. -/
def SplitOut (w : World) (L : List (Int × Int)) (k : Int) (e : Ending) (w' : World) : Prop := ∃ v1 v2, e = .returned (.tuple #[v1, v2]) ∧ IsTree1 w' v1 (lowL L k) ∧ IsTree1 w' v2 (highL L k) ∧ Below w.heap.size w w'
theorem high_len {l : List (Int × Int)} {k : Int} : (highL l k).length ≤ l.length := List.length_filter_le _ _
theorem split_fin {w W : World} {L : List (Int × Int)} {k : Int} {vb vc : Value} {b c : Bt} (hu : Up L ∧ L.length ≤ 1024) (hb : Below w.heap.size w W) (ib : IsT W vb b) (eb : b.even) (fb : b.flat = lowL L k) (ic : IsT W vc c) (ec : c.even) (fc : c.flat = highL L k) :
    SplitOut w L k (.returned (.tuple #[.pointer (some ⟨W.heap.size, 0, none⟩), .pointer (some ⟨W.heap.size + 1, 0, none⟩)])) ((W.alloc (.cells #[vb] 130)).alloc (.cells #[vc] 130)) := by
  have h1 := tree_new W ib eb fb (hu.1.low k) (Nat.le_trans low_len hu.2)
  have b1 : Below W.heap.size W (W.alloc (.cells #[vb] 130)) := (Below.refl _ W).alloc (Nat.le_refl _) _
  have h2 := tree_new (W.alloc (.cells #[vb] 130)) (ic.belows b1) ec fc (hu.1.high k) (Nat.le_trans high_len hu.2)
  rw [World.size_alloc] at h2
  exact ⟨_, _, rfl, h1.belows ((Below.refl _ _).alloc (Nat.le_refl _) _), h2, (hb.alloc hb.size _).alloc (hb.alloc hb.size _).size _⟩
end Go.Proofs.Ytlhfaildeemngaa.Tr
/- Contracts: the iterator that calls itself. -/
namespace Go.Proofs.Ytlhfaildeemngaa.Tr
open Go.RowKit Go.Shelf
attribute [local go_sem] Oper.semAt_some
theorem wide_fn (f : FuncId) : Fence.wide.fn f = True := eq_true trivial
attribute [local go_sem] wide_fn

theorem room_wide (k : Nat) : Fence.wide.room k := fun d h => by cases h
theorem roundIn_anyDepth {m m' : Nat} {P : Program} {l : Nat} {f : FuncId} {tmps : Array Value} {assign body : Code} {w : World} {R : Ending → World → Prop}
    (h : RoundIn Fence.wide m P l f tmps assign body w R) : RoundIn Fence.wide m' P l f tmps assign body w R := ⟨h.1, fun c cs _ => h.2 c cs (room_wide _)⟩
theorem yieldAt_anyDepth {m : Nat} (m' : Nat) {P : Program} {l : Nat} {args : Array Value} {W : World} {R : Ending → World → Prop} (h : YieldAt Fence.wide m P l args W R) : YieldAt Fence.wide m' P l args W R := by
  obtain ⟨fn, tmps, assign, body, hy, hR⟩ := h
  exact ⟨fn, tmps, assign, body, hy, roundIn_anyDepth hR⟩

/-- A tree in blocks below n₀. -/
def IsTn (n₀ : Nat) (w : World) : Value → Bt → Prop
  | v, .nil => v = .pointer none
  | v, .node l x r => ∃ (B : Nat) (pl pr : Option Addr) (c d : Value), v = .pointer (some ⟨B, 0, none⟩) ∧ B < n₀ ∧ At w B #[.int .u64 x.1, .int .i64 x.2, .pointer pl, .pointer pr, c, d] 132 ∧ IsTn n₀ w (.pointer pl) l ∧ IsTn n₀ w (.pointer pr) r
theorem isTn_of {w : World} : ∀ {v : Value} {t : Bt}, IsT w v t → IsTn w.heap.size w v t
  | _, .nil, h => h
  | _, .node _ _ _, ⟨B, vl, vr, e, ha, hl, hr⟩ => by
    obtain ⟨pl, rfl⟩ := hl.ptr
    obtain ⟨pr, rfl⟩ := hr.ptr
    exact ⟨B, pl, pr, _, _, e, ha.lt, ha, isTn_of hl, isTn_of hr⟩
theorem IsTn.below {n₀ : Nat} {w w' : World} (hb : Below n₀ w w') : ∀ {v : Value} {t : Bt}, IsTn n₀ w v t → IsTn n₀ w' v t
  | _, .nil, h => h
  | _, .node _ _ _, ⟨B, pl, pr, c, d, e, hB, ha, hl, hr⟩ => ⟨B, pl, pr, c, d, e, hB, ha.below hb hB, IsTn.below hb hl, IsTn.below hb hr⟩
theorem IsTn.ptr {n₀ : Nat} {w : World} {v : Value} {t : Bt} (h : IsTn n₀ w v t) : ∃ p, v = .pointer p := by
  cases t with
  | nil => exact ⟨_, h⟩
  | node l x r => obtain ⟨B, pl, pr, c, d, e, _⟩ := h; exact ⟨_, e⟩

theorem undef_no {b : Bool} (h : some undef = some (Value.bool b)) : False := by cases h
theorem hdd (k : Nat) : Fence.wide.depth.isSome = true → 1 ≤ k := fun h => by cases h
abbrev encP (x : Int × Int) : Array Value := #[pv x]
end Go.Proofs.Ytlhfaildeemngaa.Tr
/- Contract: Pairs. -/
namespace Go.Proofs.Ytlhfaildeemngaa.Tr
open Go.RowKit Go.Shelf
attribute [local go_sem] Oper.semAt_some
attribute [local go_sem] wide_fn

theorem at_own {β : Type} (B : Nat) (cs : Array Value) (t : TypeId) : Own (fun (_ : β) W => At W B cs t) := fun s X Y row hs hg hrow =>
  hs.kept hg (fun e' => by obtain ⟨o, ho, hc⟩ := hrow B e'.symm; rw [show X.heap[B]? = _ from hs] at ho; cases ho; cases hc)
theorem top_from {v : Value} (L : List (Int × Int)) (w W : World) (h : IsTree w v L) (hW : Below w.heap.size w W) : Calls Try.prog 72 #[v] W fun e w' => ∃ (p : Option Addr) (t : Bt), e = .returned (.pointer p) ∧ IsT w (.pointer p) t ∧ t.flat = L ∧ W = w' := by
  rcases h with ⟨rfl, rfl⟩ | ⟨_, _, B, vn, t, rfl, ha, hi, he, hf⟩
  · go_enter Try.func72, Try.ntmps72
    go_wp2
    go_ret
    exact ⟨none, .nil, rfl, rfl, rfl, rfl⟩
  · have c0 := ((ha.belows hW).cell 0).trans rfl
    obtain ⟨p, rfl⟩ := hi.ptr
    go_enter Try.func72, Try.ntmps72
    go_wp2
    go_ret
    exact ⟨p, t, rfl, hi, hf, rfl⟩
def PairsOut (w : World) (L : List (Int × Int)) (e : Ending) (w' : World) : Prop := ∃ v, e = .returned v ∧ IsP w' v L ∧ Below w.heap.size w w'
end Go.Proofs.Ytlhfaildeemngaa.Tr
/- Contracts: keys of ranges and boundaries, how often they stand, a range's boundaries. -/
namespace Go.Proofs.Ytlhfaildeemngaa.Tr
open Go.RowKit Go.Shelf

theorem or_disj (f t : Nat) (ht : t < 4294967296) : (f * 4294967296) ||| t = f * 4294967296 + t := by
  have h := Nat.shiftLeft_add_eq_or_of_lt (i := 32) (b := t) (by omega) f
  rw [Nat.shiftLeft_eq] at h
  exact h.symm
theorem bits_key (f t : Nat) (hf : f < 4294967296) (ht : t < 4294967296) : bits .or .u64 ((f : Int) * 4294967296) (t : Int) = (f : Int) * 4294967296 + (t : Int) := by
  have e0 : ((f : Int) * 4294967296) = ((f * 4294967296 : Nat) : Int) := by omega
  rw [e0]
  have h1 : (BitVec.ofInt 64 ((f * 4294967296 : Nat) : Int)).toNat = f * 4294967296 := by
    rw [BitVec.ofInt_natCast, BitVec.toNat_ofNat]; exact Nat.mod_eq_of_lt (by omega)
  have h2 : (BitVec.ofInt 64 (t : Int)).toNat = t := by
    rw [BitVec.ofInt_natCast, BitVec.toNat_ofNat]; exact Nat.mod_eq_of_lt (by omega)
  show IntKind.u64.wrap ((BitVec.ofInt 64 ((f * 4294967296 : Nat) : Int) ||| BitVec.ofInt 64 (t : Int)).toNat : Int) = _
  rw [BitVec.toNat_or, h1, h2, or_disj f t ht, IntWalk.u64_in _ (by omega)]
  omega
theorem keyS_any (f t : Nat) (w : World) (hf : f < 4294967296) (ht : t < 4294967296) : Calls Try.prog 122 #[.agg #[.int .u32 f, .int .u32 t]] w fun e w' => e = .returned (.int .u64 (keyI (f, t))) ∧ Below w.heap.size w w' := by
  have hk := bits_key f t hf ht
  go_enter Try.func122, Try.ntmps122
  go_wp2
  go_ret
  exact ⟨rfl, (Below.refl _ w).alloc (Nat.le_refl _) _⟩
theorem keyC_any (c : Int) (w : World) (h0 : 0 ≤ c) (h1 : c < 4294967296) : Calls Try.prog 121 #[.int .u32 c] w fun e w' => e = .returned (.int .u64 c) ∧ w = w' := by
  go_enter Try.func121, Try.ntmps121
  go_wp2
  go_ret
  exact ⟨rfl, rfl⟩
theorem getV_tal {P : List (Int × Int)} {f : Int → Nat} (h : Tal P f) (k : Int) : ∃ b, getV (getL P k) = .tuple #[.int .i64 (f k : Int), .bool b] := by
  rw [h.2 k]
  by_cases e : f k = 0
  · rw [if_pos e, e]; exact ⟨false, rfl⟩
  · rw [if_neg e]; exact ⟨true, rfl⟩
set_option maxRecDepth 100000 in
theorem oftenS_any {v : Value} (P : List (Int × Int)) (L : List (Nat × Nat)) (f t : Nat) (w : World) (hf : f < 4294967296) (ht : t < 4294967296) (h : IsTree w v P) (hT : Tal P (nR L)) : Calls Try.prog 91 #[v, .agg #[.int .u32 f, .int .u32 t]] w fun e w' => e = .returned (.int .i64 (nR L (keyI (f, t)) : Int)) ∧ Below w.heap.size w w' := by
  obtain ⟨p, rfl⟩ := h.ptr
  have HH := Lib.hid h
  obtain ⟨b, hb⟩ := getV_tal hT (keyI (f, t))
  have HT := Lib.hid hb
  clear h hT hb
  generalize hn : nR L (keyI (f, t)) = n at HT
  clear hn
  go_enter Try.func91, Try.ntmps91
  go_wp2_with fail
  refine (keyS_any f t _ hf ht).mono ?_
  rintro e w1 ⟨rfl, b1⟩
  have b1' : Below w.heap.size w w1 := ((Below.refl _ w).alloc (Nat.le_refl _) _).trans (b1.mono (by simp))
  go_wp2_with fail
  refine (get_any P _ w1 (HH.out.belows b1')).mono ?_
  rintro e w2 ⟨rfl, b2⟩
  rw [HT.out]
  go_wp2
  go_ret
  exact ⟨rfl, b1'.trans (b2.mono b1'.size)⟩
set_option maxRecDepth 100000 in
theorem oftenC_any {v : Value} (P : List (Int × Int)) (g : Int → Nat) (c : Int) (w : World) (h0 : 0 ≤ c) (h1 : c < 4294967296) (h : IsTree w v P) (hT : Tal P g) : Calls Try.prog 88 #[v, .int .u32 c] w fun e w' => e = .returned (.int .i64 (g c : Int)) ∧ Below w.heap.size w w' := by
  obtain ⟨p, rfl⟩ := h.ptr
  have HH := Lib.hid h
  obtain ⟨b, hb⟩ := getV_tal hT c
  have HT := Lib.hid hb
  clear h hT hb
  generalize hn : g c = n at HT
  clear hn
  go_enter Try.func88, Try.ntmps88
  go_wp2_with fail
  refine (keyC_any c _ h0 h1).mono ?_
  rintro e w1 ⟨rfl, rfl⟩
  go_wp2_with fail
  refine (get_any P _ w (HH.out)).mono ?_
  rintro e w2 ⟨rfl, b2⟩
  rw [HT.out]
  go_wp2
  go_ret
  exact ⟨rfl, b2⟩
end Go.Proofs.Ytlhfaildeemngaa.Tr
/- Contracts: a thing stands once more, or once less. -/
namespace Go.Proofs.Ytlhfaildeemngaa.Tr
open Go.RowKit Go.Shelf

/-- A new tree that tells how often. -/
def RecOut (w : World) (f : Int → Nat) (e : Ending) (w' : World) : Prop := ∃ v' P', e = .returned v' ∧ IsTree1 w' v' P' ∧ Tal P' f ∧ Below w.heap.size w w'
set_option maxRecDepth 100000 in
set_option maxHeartbeats 1000000 in
theorem recountC_more {v : Value} (P : List (Int × Int)) (g : Int → Nat) (c : Int) (w : World) (h0 : 0 ≤ c) (h1 : c < 4294967296) (h : IsTree w v P) (hT : Tal P g) (hl : P.length < 1024) (hn : g c ≤ 1000) : Calls Try.prog 83 #[v, .int .u32 c, .int .i64 1] w (RecOut w (fun j => g j + if j = c then 1 else 0)) := by
  have HH := Lib.hid h
  have HT := Lib.hid hT
  have HG := Lib.hid (hT.more c (n := ((g c : Nat) : Int) + 1) rfl)
  have hgn : getL P c ≠ none ∨ P.length < 1024 := .inr hl
  have HN := Lib.hid hgn
  obtain ⟨p, rfl⟩ := h.ptr
  clear h hT hgn
  go_enter Try.func83, Try.ntmps83
  go_wp2_with fail
  refine (oftenC_any P g c _ h0 h1 HH.out HT.out).mono ?_
  rintro e w1 ⟨rfl, b1⟩
  have dz : (((g c : Nat) : Int) + 1 == 0) = false := by rw [beq_eq_false_iff_ne]; omega
  generalize g c = n at *
  go_wp2_with fail
  refine (keyC_any c _ h0 h1).mono ?_
  rintro e w2 ⟨rfl, rfl⟩
  go_wp2_with fail
  refine (put_ok P c ((n : Int) + 1) _ (HH.out.belows b1) HN.out).mono ?_
  rintro e w3 ⟨v3, rfl, t3, b3⟩
  obtain ⟨B3, rfl⟩ := t3.ptr
  go_wp2
  go_ret
  exact ⟨_, _, rfl, t3, HG.out, b1.trans (b3.mono b1.size)⟩
set_option maxRecDepth 100000 in
set_option maxHeartbeats 1000000 in
theorem recountC_less {v : Value} (P : List (Int × Int)) (g : Int → Nat) (c : Int) (w : World) (h0 : 0 ≤ c) (h1 : c < 4294967296) (h : IsTree w v P) (hT : Tal P g) (_hl : P.length ≤ 1024) (hn : g c ≤ 1000) (h2 : 1 < g c) (q : Int → Nat) (hq : ∀ j, g j = q j + if j = c then 1 else 0) : Calls Try.prog 83 #[v, .int .u32 c, .int .i64 (-1)] w (RecOut w q) := by
  have HH := Lib.hid h
  have HT := Lib.hid hT
  have HG := Lib.hid (hT.less c (n := ((g c : Nat) : Int) - 1) rfl h2 hq)
  have hgn : getL P c ≠ none ∨ P.length < 1024 := .inl (by rw [hT.2, if_neg (by omega)]; simp)
  have HN := Lib.hid hgn
  obtain ⟨p, rfl⟩ := h.ptr
  clear h hT hgn
  go_enter Try.func83, Try.ntmps83
  go_wp2_with fail
  refine (oftenC_any P g c _ h0 h1 HH.out HT.out).mono ?_
  rintro e w1 ⟨rfl, b1⟩
  have dz : (((g c : Nat) : Int) + -1 == 0) = false := by rw [beq_eq_false_iff_ne]; omega
  have e0 : ((g c : Nat) : Int) + -1 = ((g c : Nat) : Int) - 1 := rfl
  generalize g c = n at *
  go_wp2_with fail
  refine (keyC_any c _ h0 h1).mono ?_
  rintro e w2 ⟨rfl, rfl⟩
  go_wp2_with fail
  refine (put_ok P c ((n : Int) - 1) _ (HH.out.belows b1) HN.out).mono ?_
  rintro e w3 ⟨v3, rfl, t3, b3⟩
  obtain ⟨B3, rfl⟩ := t3.ptr
  go_wp2
  go_ret
  exact ⟨_, _, rfl, t3, HG.out, b1.trans (b3.mono b1.size)⟩
set_option maxRecDepth 100000 in
set_option maxHeartbeats 1000000 in
theorem recountC_gone {v : Value} (P : List (Int × Int)) (g : Int → Nat) (c : Int) (w : World) (h0 : 0 ≤ c) (h1 : c < 4294967296) (h : IsTree w v P) (hT : Tal P g) (h2 : g c = 1) (q : Int → Nat) (hq : ∀ j, g j = q j + if j = c then 1 else 0) : Calls Try.prog 83 #[v, .int .u32 c, .int .i64 (-1)] w (RecOut w q) := by
  have HH := Lib.hid h
  have HT := Lib.hid hT
  have HG := Lib.hid (hT.gone c h2 hq)
  have hgn : getL P c ≠ none := by rw [hT.2, if_neg (by omega)]; simp
  have HN := Lib.hid hgn
  obtain ⟨p, rfl⟩ := h.ptr
  clear h hT hgn
  go_enter Try.func83, Try.ntmps83
  go_wp2_with fail
  refine (oftenC_any P g c _ h0 h1 HH.out HT.out).mono ?_
  rintro e w1 ⟨rfl, b1⟩
  rw [h2]
  go_wp2_with fail
  refine (keyC_any c _ h0 h1).mono ?_
  rintro e w2 ⟨rfl, rfl⟩
  go_wp2_with fail
  refine (drop_ok P c _ (HH.out.belows b1) HN.out).mono ?_
  rintro e w3 ⟨v3, rfl, t3, b3⟩
  obtain ⟨B3, rfl⟩ := t3.ptr
  go_wp2
  go_ret
  exact ⟨_, _, rfl, t3, HG.out, b1.trans (b3.mono b1.size)⟩
set_option maxRecDepth 100000 in
set_option maxHeartbeats 1000000 in
theorem recountS_more {v : Value} (P : List (Int × Int)) (L : List (Nat × Nat)) (f t : Nat) (w : World) (hf : f < 4294967296) (ht : t < 4294967296) (h : IsTree w v P) (hT : Tal P (nR L)) (hl : P.length < 1024) (hn : (nR L) (keyI (f, t)) ≤ 1000) : Calls Try.prog 84 #[v, .agg #[.int .u32 f, .int .u32 t], .int .i64 1] w (RecOut w (fun j => (nR L) j + if j = (keyI (f, t)) then 1 else 0)) := by
  have HH := Lib.hid h
  have HT := Lib.hid hT
  have HG := Lib.hid (hT.more (keyI (f, t)) (n := (((nR L) (keyI (f, t)) : Nat) : Int) + 1) rfl)
  have hgn : getL P (keyI (f, t)) ≠ none ∨ P.length < 1024 := .inr hl
  have HN := Lib.hid hgn
  obtain ⟨p, rfl⟩ := h.ptr
  clear h hT hgn
  go_enter Try.func84, Try.ntmps84
  go_wp2_with fail
  refine (oftenS_any P L f t _ hf ht (HH.out.belows ((Below.refl _ w).alloc (Nat.le_refl _) _)) HT.out).mono ?_
  rintro e w1 ⟨rfl, b1⟩
  have A1 := (At.new w #[.int .u32 f, .int .u32 t] 126).belows b1
  have k0 := (A1.cell 0).trans rfl
  have k1 := (A1.cell 1).trans rfl
  clear A1
  have b1 : Below w.heap.size w w1 := ((Below.refl _ w).alloc (Nat.le_refl _) _).trans (b1.mono (by simp))
  have dz : ((((nR L) (keyI (f, t)) : Nat) : Int) + 1 == 0) = false := by rw [beq_eq_false_iff_ne]; omega
  generalize (nR L) (keyI (f, t)) = n at *
  go_wp2_with fail
  refine (keyS_any f t _ hf ht).mono ?_
  rintro e w2 ⟨rfl, b2⟩
  have b2' : Below w.heap.size w w2 := b1.trans (b2.mono b1.size)
  go_wp2_with fail
  refine (put_ok P (keyI (f, t)) ((n : Int) + 1) _ (HH.out.belows b2') HN.out).mono ?_
  rintro e w3 ⟨v3, rfl, t3, b3⟩
  obtain ⟨B3, rfl⟩ := t3.ptr
  go_wp2
  go_ret
  exact ⟨_, _, rfl, t3, HG.out, b2'.trans (b3.mono b2'.size)⟩
set_option maxRecDepth 100000 in
set_option maxHeartbeats 1000000 in
theorem recountS_less {v : Value} (P : List (Int × Int)) (L : List (Nat × Nat)) (f t : Nat) (w : World) (hf : f < 4294967296) (ht : t < 4294967296) (h : IsTree w v P) (hT : Tal P (nR L)) (_hl : P.length ≤ 1024) (hn : (nR L) (keyI (f, t)) ≤ 1000) (h2 : 1 < (nR L) (keyI (f, t))) (q : Int → Nat) (hq : ∀ j, (nR L) j = q j + if j = (keyI (f, t)) then 1 else 0) : Calls Try.prog 84 #[v, .agg #[.int .u32 f, .int .u32 t], .int .i64 (-1)] w (RecOut w q) := by
  have HH := Lib.hid h
  have HT := Lib.hid hT
  have HG := Lib.hid (hT.less (keyI (f, t)) (n := (((nR L) (keyI (f, t)) : Nat) : Int) - 1) rfl h2 hq)
  have hgn : getL P (keyI (f, t)) ≠ none ∨ P.length < 1024 := .inl (by rw [hT.2, if_neg (by omega)]; simp)
  have HN := Lib.hid hgn
  obtain ⟨p, rfl⟩ := h.ptr
  clear h hT hgn
  go_enter Try.func84, Try.ntmps84
  go_wp2_with fail
  refine (oftenS_any P L f t _ hf ht (HH.out.belows ((Below.refl _ w).alloc (Nat.le_refl _) _)) HT.out).mono ?_
  rintro e w1 ⟨rfl, b1⟩
  have A1 := (At.new w #[.int .u32 f, .int .u32 t] 126).belows b1
  have k0 := (A1.cell 0).trans rfl
  have k1 := (A1.cell 1).trans rfl
  clear A1
  have b1 : Below w.heap.size w w1 := ((Below.refl _ w).alloc (Nat.le_refl _) _).trans (b1.mono (by simp))
  have dz : ((((nR L) (keyI (f, t)) : Nat) : Int) + -1 == 0) = false := by rw [beq_eq_false_iff_ne]; omega
  have e0 : (((nR L) (keyI (f, t)) : Nat) : Int) + -1 = (((nR L) (keyI (f, t)) : Nat) : Int) - 1 := rfl
  generalize (nR L) (keyI (f, t)) = n at *
  go_wp2_with fail
  refine (keyS_any f t _ hf ht).mono ?_
  rintro e w2 ⟨rfl, b2⟩
  have b2' : Below w.heap.size w w2 := b1.trans (b2.mono b1.size)
  go_wp2_with fail
  refine (put_ok P (keyI (f, t)) ((n : Int) - 1) _ (HH.out.belows b2') HN.out).mono ?_
  rintro e w3 ⟨v3, rfl, t3, b3⟩
  obtain ⟨B3, rfl⟩ := t3.ptr
  go_wp2
  go_ret
  exact ⟨_, _, rfl, t3, HG.out, b2'.trans (b3.mono b2'.size)⟩
set_option maxRecDepth 100000 in
set_option maxHeartbeats 1000000 in
theorem recountS_gone {v : Value} (P : List (Int × Int)) (L : List (Nat × Nat)) (f t : Nat) (w : World) (hf : f < 4294967296) (ht : t < 4294967296) (h : IsTree w v P) (hT : Tal P (nR L)) (h2 : (nR L) (keyI (f, t)) = 1) (q : Int → Nat) (hq : ∀ j, (nR L) j = q j + if j = (keyI (f, t)) then 1 else 0) : Calls Try.prog 84 #[v, .agg #[.int .u32 f, .int .u32 t], .int .i64 (-1)] w (RecOut w q) := by
  have HH := Lib.hid h
  have HT := Lib.hid hT
  have HG := Lib.hid (hT.gone (keyI (f, t)) h2 hq)
  have hgn : getL P (keyI (f, t)) ≠ none := by rw [hT.2, if_neg (by omega)]; simp
  have HN := Lib.hid hgn
  obtain ⟨p, rfl⟩ := h.ptr
  clear h hT hgn
  go_enter Try.func84, Try.ntmps84
  go_wp2_with fail
  refine (oftenS_any P L f t _ hf ht (HH.out.belows ((Below.refl _ w).alloc (Nat.le_refl _) _)) HT.out).mono ?_
  rintro e w1 ⟨rfl, b1⟩
  have A1 := (At.new w #[.int .u32 f, .int .u32 t] 126).belows b1
  have k0 := (A1.cell 0).trans rfl
  have k1 := (A1.cell 1).trans rfl
  clear A1
  have b1 : Below w.heap.size w w1 := ((Below.refl _ w).alloc (Nat.le_refl _) _).trans (b1.mono (by simp))
  rw [h2]
  go_wp2_with fail
  refine (keyS_any f t _ hf ht).mono ?_
  rintro e w2 ⟨rfl, b2⟩
  have b2' : Below w.heap.size w w2 := b1.trans (b2.mono b1.size)
  go_wp2_with fail
  refine (drop_ok P (keyI (f, t)) _ (HH.out.belows b2') HN.out).mono ?_
  rintro e w3 ⟨v3, rfl, t3, b3⟩
  obtain ⟨B3, rfl⟩ := t3.ptr
  go_wp2
  go_ret
  exact ⟨_, _, rfl, t3, HG.out, b2'.trans (b3.mono b2'.size)⟩
end Go.Proofs.Ytlhfaildeemngaa.Tr
/- Contracts: a range's boundaries; a table in memory; New, some. -/
namespace Go.Proofs.Ytlhfaildeemngaa.Tr
open Go.RowKit Go.Shelf

/-- A step of a count. -/
def Stp (s : Int) (c : Int) (g q : Int → Nat) : Prop := (s = 1 ∧ ∀ j, q j = g j + if j = c then 1 else 0) ∨ (s = -1 ∧ ∀ j, g j = q j + if j = c then 1 else 0)
theorem recC_any {v : Value} (P : List (Int × Int)) (g q : Int → Nat) (s c : Int) (w : World) (h0 : 0 ≤ c) (h1 : c < 4294967296) (h : IsTree w v P) (hT : Tal P g) (hl : P.length < 1024) (hn : g c ≤ 1000) (hs : Stp s c g q) : Calls Try.prog 83 #[v, .int .u32 c, .int .i64 s] w (RecOut w q) := by
  rcases hs with ⟨rfl, hq⟩ | ⟨rfl, hq⟩
  · obtain rfl : q = fun j => g j + if j = c then 1 else 0 := funext hq
    exact recountC_more P g c w h0 h1 h hT hl hn
  · have h2 := hq c
    rw [if_pos rfl] at h2
    by_cases h3 : 1 < g c
    · exact recountC_less P g c w h0 h1 h hT (by omega) hn h3 q hq
    · exact recountC_gone P g c w h0 h1 h hT (by omega) q hq
theorem recS_any {v : Value} (P : List (Int × Int)) (L : List (Nat × Nat)) (q : Int → Nat) (s : Int) (f t : Nat) (w : World) (hf : f < 4294967296) (ht : t < 4294967296) (h : IsTree w v P) (hT : Tal P (nR L)) (hl : P.length < 1024) (hn : nR L (keyI (f, t)) ≤ 1000) (hs : Stp s (keyI (f, t)) (nR L) q) : Calls Try.prog 84 #[v, .agg #[.int .u32 f, .int .u32 t], .int .i64 s] w (RecOut w q) := by
  rcases hs with ⟨rfl, hq⟩ | ⟨rfl, hq⟩
  · obtain rfl : q = fun j => nR L j + if j = keyI (f, t) then 1 else 0 := funext hq
    exact recountS_more P L f t w hf ht h hT hl hn
  · have h2 := hq (keyI (f, t))
    rw [if_pos rfl] at h2
    by_cases h3 : 1 < nR L (keyI (f, t))
    · exact recountS_less P L f t w hf ht h hT (by omega) hn h3 q hq
    · exact recountS_gone P L f t w hf ht h hT (by omega) q hq

/-- A slice that reads as these boundaries. -/
def IsC (w : World) (v : Value) (C : List Int) : Prop := ∃ A c, v = .slice A C.length c ∧ (0 < C.length → ∃ g, A = some ⟨g, 0, none⟩ ∧ g < w.heap.size ∧ ∀ k (hk : k < C.length), w.cell? ⟨g, k, none⟩ = some (.int .u32 C[k]))
def ucells (C : List Int) : List Value := C.map fun c => .int .u32 c
theorem isC_of_row {w : World} {base : Nat} {v : Value} {C : List Int} (h : w.ownsRow base 123 1 v C.length (ucells C)) : IsC w v C := by
  rcases h.2 with ⟨rfl, h0⟩ | ⟨g, cap, cur, rfl, hb, hg, hnc, hm, _⟩
  · obtain rfl := List.eq_nil_of_length_eq_zero h0
    exact ⟨none, 0, rfl, fun h => absurd h (by simp)⟩
  · refine ⟨_, cap, rfl, fun _ => ⟨g, rfl, (Array.getElem?_eq_some_iff.1 hg).1, fun k hk => ?_⟩⟩
    rw [World.ownsRow.cellAt h k (by omega)]
    simp [ucells, hk]
theorem info99 : (Try.prog.info? 123).map (fun i => (i.zero, i.size, i.bytes)) = some (some (.int .u32 0), 1, 4) := by kernel_rfl
set_option maxRecDepth 100000 in
set_option maxHeartbeats 1000000 in
theorem cutsOf_any (f t : Nat) (w : World) (hf : f < 4294967296) (ht : t < 4294967296) : Calls Try.prog 82 #[.agg #[.int .u32 f, .int .u32 t]] w fun e w' => ∃ v, e = .returned v ∧ IsC w' v (cutsR (f, t)) ∧ Below w.heap.size w w' := by
  obtain ⟨i0, hi, hz0, hz1, hz2⟩ := info_parts info99
  have A0 := At.new w #[.int .u32 f, .int .u32 t] 43
  have b0 : Below w.heap.size w (w.alloc (.cells #[.int .u32 f, .int .u32 t] 43)) := (Below.refl _ w).alloc (Nat.le_refl _) _
  by_cases h1 : 0 < f
  · by_cases h2 : t < 4294967295
    · have e : cutsR (f, t) = [(f : Int), (t : Int) + 1] := by simp [cutsR, h1, h2]
      rw [e]
      have d2 : decide ((t : Int) < 4294967295) = true := by simp; omega
      have d3 : decide (t < 4294967295) = true := by simp; omega
      have j1 : IntKind.u32.wrap ((t : Int) + 1) = (t : Int) + 1 := IntWalk.u32_in _ (by omega)
      clear e h2
      go_enter Try.func82, Try.ntmps82
      go_wp2_with (first | (at_builtin; refine wpList_append_own _ rfl _ _ 121 rfl (w.heap.size + 1) 123 i0 (.int .u32 0) 1 4 Try.underlying121 hi hz0 hz1 hz2 rfl (by decide) _ 1 [.int .u32 f] rfl (own1.alloc _) ⟨w1.heap.size, 0, none⟩ 1 1 [.int .u32 ((t : Int) + 1)] rfl rfl (cell_one_new w1 _ _) (by simp [Value.oneCell']) (by simp [maxLen]) (by simp) (by simp; omega) ?_; intro v2 w2 own2 grow2 _) | (at_builtin; refine wpList_append_own _ rfl _ _ 121 rfl (w.heap.size + 1) 123 i0 (.int .u32 0) 1 4 Try.underlying121 hi hz0 hz1 hz2 rfl (by decide) _ 0 [] rfl (World.ownsRow_nil _ _ _ _) ⟨w.heap.size + 1, 0, none⟩ 1 1 [.int .u32 f] rfl rfl (by simpa using cell_one_new (w.alloc (.cells #[.int .u32 f, .int .u32 t] 43)) (.int .u32 f) 123) (by simp [Value.oneCell']) (by simp [maxLen]) (by simp) (by simp) ?_; intro v1 w1 own1 grow1 _; have b1 : Below (w.heap.size + 1) (w.alloc (.cells #[.int .u32 f, .int .u32 t] 43)) w1 := ((Below.refl (w.heap.size + 1) (w.alloc (.cells #[.int .u32 f, .int .u32 t] 43))).alloc (by simp) _).grown grow1 (by simp) (fun k hk => by cases hk); obtain ⟨g1, cap1, rfl⟩ := ownsRow_succ own1; have A1 := A0.below b1 (by omega); have c1 := (A1.cell 1).trans rfl; have hs1 := b1.size; simp only [World.size_alloc] at hs1))
      go_ret
      have b2 : Below w.heap.size w w2 := (b0.trans (b1.mono (by omega))).trans (((Below.refl w.heap.size w1).alloc (by omega) _).grown grow2 (by simp; omega) (fun k hk => by have := (own1.lt k hk).1; omega))
      exact ⟨_, rfl, isC_of_row (base := w.heap.size + 1) (C := [(f : Int), (t : Int) + 1]) (by simpa [ucells] using own2), b2⟩
    · have e : cutsR (f, t) = [(f : Int)] := by simp [cutsR, h1, h2]
      rw [e]
      have d2 : decide ((t : Int) < 4294967295) = false := by simp; omega
      have d3 : decide (t < 4294967295) = false := by simp; omega
      clear e h2
      go_enter Try.func82, Try.ntmps82
      go_wp2_with (at_builtin; refine wpList_append_own _ rfl _ _ 121 rfl (w.heap.size + 1) 123 i0 (.int .u32 0) 1 4 Try.underlying121 hi hz0 hz1 hz2 rfl (by decide) _ 0 [] rfl (World.ownsRow_nil _ _ _ _) ⟨w.heap.size + 1, 0, none⟩ 1 1 [.int .u32 f] rfl rfl (by simpa using cell_one_new (w.alloc (.cells #[.int .u32 f, .int .u32 t] 43)) (.int .u32 f) 123) (by simp [Value.oneCell']) (by simp [maxLen]) (by simp) (by simp) ?_; intro v1 w1 own1 grow1 _; have b1 : Below (w.heap.size + 1) (w.alloc (.cells #[.int .u32 f, .int .u32 t] 43)) w1 := ((Below.refl (w.heap.size + 1) (w.alloc (.cells #[.int .u32 f, .int .u32 t] 43))).alloc (by simp) _).grown grow1 (by simp) (fun k hk => by cases hk); obtain ⟨g1, cap1, rfl⟩ := ownsRow_succ own1; have A1 := A0.below b1 (by omega); have c1 := (A1.cell 1).trans rfl; have hs1 := b1.size; simp only [World.size_alloc] at hs1)
      go_ret
      exact ⟨_, rfl, isC_of_row (base := w.heap.size + 1) (C := [(f : Int)]) (by simpa [ucells] using own1), b0.trans (b1.mono (by omega))⟩
  · obtain rfl : f = 0 := by omega
    by_cases h2 : t < 4294967295
    · have e : cutsR (0, t) = [(t : Int) + 1] := by simp [cutsR, h2]
      rw [e]
      have d2 : decide ((t : Int) < 4294967295) = true := by simp; omega
      have d3 : decide (t < 4294967295) = true := by simp; omega
      have j1 : IntKind.u32.wrap ((t : Int) + 1) = (t : Int) + 1 := IntWalk.u32_in _ (by omega)
      clear e h2 h1 hf
      go_enter Try.func82, Try.ntmps82
      go_wp2_with (at_builtin; refine wpList_append_own _ rfl _ _ 121 rfl (w.heap.size + 1) 123 i0 (.int .u32 0) 1 4 Try.underlying121 hi hz0 hz1 hz2 rfl (by decide) _ 0 [] rfl (World.ownsRow_nil _ _ _ _) ⟨w.heap.size + 1, 0, none⟩ 1 1 [.int .u32 ((t : Int) + 1)] rfl rfl (by simpa using cell_one_new (w.alloc (.cells #[.int .u32 (0 : Nat), .int .u32 t] 43)) (.int .u32 ((t : Int) + 1)) 123) (by simp [Value.oneCell']) (by simp [maxLen]) (by simp) (by simp) ?_; intro v1 w1 own1 grow1 _; have b1 : Below (w.heap.size + 1) (w.alloc (.cells #[.int .u32 (0 : Nat), .int .u32 t] 43)) w1 := ((Below.refl (w.heap.size + 1) (w.alloc (.cells #[.int .u32 (0 : Nat), .int .u32 t] 43))).alloc (by simp) _).grown grow1 (by simp) (fun k hk => by cases hk); obtain ⟨g1, cap1, rfl⟩ := ownsRow_succ own1; have A1 := A0.below b1 (by omega); have c1 := (A1.cell 1).trans rfl; have hs1 := b1.size; simp only [World.size_alloc] at hs1)
      go_ret
      exact ⟨_, rfl, isC_of_row (base := w.heap.size + 1) (C := [(t : Int) + 1]) (by simpa [ucells] using own1), b0.trans (b1.mono (by omega))⟩
    · have e : cutsR (0, t) = [] := by simp [cutsR, h2]
      rw [e]
      have d2 : decide ((t : Int) < 4294967295) = false := by simp; omega
      have d3 : decide (t < 4294967295) = false := by simp; omega
      clear e h2 h1 hf
      go_enter Try.func82, Try.ntmps82
      go_wp2
      go_ret
      exact ⟨_, rfl, ⟨none, 0, rfl, fun h => absurd h (by simp)⟩, b0⟩

/-- A table with these ranges. -/
def IsTab (w : World) (v : Value) (L : List (Nat × Nat)) : Prop := RL L ∧ ∃ (B : Nat) (vr vc : Value) (R C : List (Int × Int)), v = .pointer (some ⟨B, 0, none⟩) ∧ At w B #[vr, vc, .int .i64 (L.length : Int)] 89 ∧ IsTree w vr R ∧ IsTree w vc C ∧ Tal R (nR L) ∧ Tal C (nC L)
/-- A table with these ranges: nil has none. -/
def IsTab0 (w : World) (v : Value) (L : List (Nat × Nat)) : Prop := (v = .pointer none ∧ L = []) ∨ IsTab w v L
theorem IsTab.belows {w w' : World} {v : Value} {L : List (Nat × Nat)} (h : IsTab w v L) (hb : Below w.heap.size w w') : IsTab w' v L := by
  obtain ⟨h1, B, vr, vc, R, C, e, ha, hr, hc, tr, tc⟩ := h
  exact ⟨h1, B, vr, vc, R, C, e, ha.belows hb, hr.belows hb, hc.belows hb, tr, tc⟩
theorem IsTab0.belows {w w' : World} {v : Value} {L : List (Nat × Nat)} (h : IsTab0 w v L) (hb : Below w.heap.size w w') : IsTab0 w' v L := h.imp id fun h => h.belows hb
theorem IsTab.perm {w : World} {v : Value} {L M : List (Nat × Nat)} (h : IsTab w v L) (hp : L.Perm M) : IsTab w v M := by
  obtain ⟨h1, B, vr, vc, R, C, e, ha, hr, hc, tr, tc⟩ := h
  exact ⟨h1.perm hp, B, vr, vc, R, C, e, by rw [← hp.length_eq]; exact ha, hr, hc, by rw [← nR_perm hp]; exact tr, by rw [← nC_perm hp]; exact tc⟩
theorem IsTab.any {w : World} {v : Value} {L : List (Nat × Nat)} (h : IsTab w v L) : IsTab0 w v L := .inr h
theorem IsTab.ptr {w : World} {v : Value} {L : List (Nat × Nat)} (h : IsTab w v L) : ∃ B, v = .pointer (some ⟨B, 0, none⟩) := by
  obtain ⟨h1, B, vr, vc, R, C, e, _⟩ := h
  exact ⟨B, e⟩
theorem IsTab0.ptr {w : World} {v : Value} {L : List (Nat × Nat)} (h : IsTab0 w v L) : ∃ p, v = .pointer p := by
  rcases h with ⟨rfl, _⟩ | h
  · exact ⟨_, rfl⟩
  · obtain ⟨B, rfl⟩ := h.ptr; exact ⟨_, rfl⟩
theorem IsTab0.rl {w : World} {v : Value} {L : List (Nat × Nat)} (h : IsTab0 w v L) : RL L := by
  rcases h with ⟨_, rfl⟩ | h
  · exact RL.nil
  · exact h.1
theorem tab_new (W : World) {vr vc : Value} {R C : List (Int × Int)} {L : List (Nat × Nat)} {n : Int} (hL : RL L) (hn : n = (L.length : Int)) (hr : IsTree W vr R) (hc : IsTree W vc C) (tr : Tal R (nR L)) (tc : Tal C (nC L)) : IsTab (W.alloc (.cells #[vr, vc, .int .i64 n] 89)) (.pointer (some ⟨W.heap.size, 0, none⟩)) L := by
  subst hn
  have b : Below W.heap.size W (W.alloc (.cells #[vr, vc, .int .i64 (L.length : Int)] 89)) := (Below.refl _ W).alloc (Nat.le_refl _) _
  exact ⟨hL, W.heap.size, vr, vc, R, C, rfl, At.new W _ _, hr.belows b, hc.belows b, tr, tc⟩
theorem new_any (w : World) : Calls Try.prog 41 #[] w fun e w' => ∃ v, e = .returned v ∧ IsTab w' v [] ∧ Below w.heap.size w w' := by
  go_enter Try.func41, Try.ntmps41
  go_wp2
  go_ret
  exact ⟨_, rfl, tab_new w RL.nil rfl (.inl ⟨rfl, rfl⟩) (.inl ⟨rfl, rfl⟩) Tal.nil Tal.nil, (Below.refl _ w).alloc (Nat.le_refl _) _⟩
theorem some_any {v : Value} (L : List (Nat × Nat)) (w : World) (h : IsTab0 w v L) : Calls Try.prog 47 #[v] w fun e w' => ∃ v', e = .returned v' ∧ IsTab w' v' L ∧ Below w.heap.size w w' := by
  rcases h with ⟨rfl, rfl⟩ | h
  · go_enter Try.func47, Try.ntmps47
    go_wp2_with (go_at_call 41; refine (new_any _).mono ?_; rintro e w1 ⟨v1, rfl, t1, b1⟩)
    go_ret
    exact ⟨_, rfl, t1, b1⟩
  · obtain ⟨B, rfl⟩ := h.ptr
    go_enter Try.func47, Try.ntmps47
    go_wp2
    go_ret
    exact ⟨_, rfl, h, Below.refl _ _⟩
/-- Of a table that is not nil. -/
theorem some_same {B : Nat} (w : World) : Calls Try.prog 47 #[.pointer (some ⟨B, 0, none⟩)] w fun e w' => e = .returned (.pointer (some ⟨B, 0, none⟩)) ∧ w = w' := by
  go_enter Try.func47, Try.ntmps47
  go_wp2
  go_ret
  exact ⟨rfl, rfl⟩
end Go.Proofs.Ytlhfaildeemngaa.Tr
/- For the program's labels (stage 10): trees and tables do not see the blocks that hold networks; the ranges of rules that come and go. -/
namespace Go.Proofs.Ytlhfaildeemngaa
open Go.RowKit Go.Shelf

/-- The blocks of H hold networks. -/
def Nets (H : Nat → Prop) (W : World) : Prop := ∀ b, H b → ∃ cs, At W b cs 28
theorem Nets.belows {H : Nat → Prop} {W W' : World} (h : Nets H W) (hb : Below W.heap.size W W') : Nets H W' := fun b hh => by
  obtain ⟨cs, ha⟩ := h b hh
  exact ⟨cs, ha.belows hb⟩
theorem At.exc {H : Nat → Prop} {W W' : World} {B : Nat} {cs : Array Value} {t : TypeId} (h : At W B cs t) (hx : Exc H W W') (hn : Nets H W) (ht : t ≠ 28) : At W' B cs t :=
  (hx.block B h.lt fun hh => by
    obtain ⟨cs', h'⟩ := hn B hh
    have e := (show W.heap[B]? = _ from h).symm.trans h'
    simp only [Option.some.injEq, Obj.cells.injEq] at e
    exact ht e.2.1).trans h
/-- What is new, too. -/
theorem At.exc_new {H : Nat → Prop} {W W' : World} {B n : Nat} {cs : Array Value} {t : TypeId} (h : At W B cs t) (hx : Exc H W W') (hn : ∀ b, H b → b < n) (hB : n ≤ B) : At W' B cs t :=
  (hx.block B h.lt fun hh => by have := hn B hh; omega).trans h
theorem exc_is_t {H : Nat → Prop} {W W' : World} (hx : Exc H W W') (hn : Nets H W) : ∀ {v : Value} {t : Tr.Bt}, Tr.IsT W v t → Tr.IsT W' v t
  | _, .nil, h => h
  | _, .node _ _ _, ⟨B, vl, vr, e, ha, hl, hr⟩ => ⟨B, vl, vr, e, ha.exc hx hn (by decide), exc_is_t hx hn hl, exc_is_t hx hn hr⟩
theorem exc_is_tree {H : Nat → Prop} {W W' : World} (hx : Exc H W W') (hn : Nets H W) {v : Value} {L : List (Int × Int)} (h : Tr.IsTree W v L) : Tr.IsTree W' v L := by
  rcases h with h | ⟨h1, h2, B, vn, t, e, ha, hi, he, hf⟩
  · exact .inl h
  · exact .inr ⟨h1, h2, B, vn, t, e, ha.exc hx hn (by decide), exc_is_t hx hn hi, he, hf⟩
theorem exc_is_tab {H : Nat → Prop} {W W' : World} (hx : Exc H W W') (hn : Nets H W) {v : Value} {L : List (Nat × Nat)} (h : Tr.IsTab W v L) : Tr.IsTab W' v L := by
  obtain ⟨h1, B, vr, vc, R, C, e, ha, hr, hc, tr, tc⟩ := h
  exact ⟨h1, B, vr, vc, R, C, e, ha.exc hx hn (by decide), exc_is_tree hx hn hr, exc_is_tree hx hn hc, tr, tc⟩
/-- A row that is new. -/
theorem exc_row {H : Nat → Prop} {W W' : World} {base : Nat} {e : TypeId} {n : Nat} {v : Value} {k : Nat} {xs : List Value} (h : W.ownsRow base e n v k xs) (hx : Exc H W W') (hn : ∀ b, H b → b < base) : W'.ownsRow base e n v k xs := by
  refine ⟨h.1, ?_⟩
  rcases h.2 with h0 | ⟨g, cap, cur, e', hb, hg, rest⟩
  · exact .inl h0
  · exact .inr ⟨g, cap, cur, e', hb, (hx.block g (Array.getElem?_eq_some_iff.1 hg).1 fun hh => by have := hn g hh; omega).trans hg, rest⟩
/-! Ranges. -/
theorem ins_perm (r : Ru) (L : List Ru) : (insL r L).Perm (r :: L) := by
  induction L with
  | nil => exact List.Perm.refl _
  | cons x L ih =>
    unfold insL
    split
    · exact List.Perm.refl _
    · exact (ih.cons x).trans (List.Perm.swap r x L)
theorem rgL_ins (r : Ru) (L : List Ru) : (rgL (insL r L)).Perm (rgL L ++ [(r.f, r.t)]) :=
  ((ins_perm r L).map _).trans (List.perm_append_singleton (r.f, r.t) (rgL L)).symm
theorem rgL_del {L : List Ru} (hp : L.Pairwise (fun a b => a.id < b.id)) {x : Ru} (hx : x ∈ L) : (rgL (delL x.id L)).Perm ((rgL L).erase (x.f, x.t)) := by
  have e := ins_del hp hx
  have h1 : (rgL L).Perm (rgL (delL x.id L) ++ [(x.f, x.t)]) := by
    have := rgL_ins x (delL x.id L)
    rwa [e] at this
  have h2 := h1.erase (x.f, x.t)
  refine List.Perm.symm (h2.trans ?_)
  have h3 := (List.perm_append_singleton (x.f, x.t) (rgL (delL x.id L))).erase (x.f, x.t)
  rw [List.erase_cons_head] at h3
  exact h3
theorem bnds_len_perm {L M : List (Nat × Nat)} (h : L.Perm M) : Tr.bnds L = Tr.bnds M := Tr.bnds_perm fun _r => h.mem_iff
end Go.Proofs.Ytlhfaildeemngaa
/- Words: traces in memory. The document's Has, Ints, Same. -/
namespace Go.Proofs.Ytlhfaildeemngaa
open Go.RowKit Go.Shelf

/-- A trace's value. -/
def tcV (v : Value) (x : Tc) : Value := .agg #[v, .int .i64 x.ft, .int .i64 x.out.d, .int .i64 x.out.p]
end Go.Proofs.Ytlhfaildeemngaa
/- Contracts: the document's Trace, of a right network. -/
namespace Go.Proofs.Ytlhfaildeemngaa
open Go.RowKit Go.Shelf

theorem intA_one (x : Int) : ∀ u ∈ (intA x).toList, u.oneCell' = true := by
  intro u hu; simp [intA] at hu; subst hu; rfl
theorem infoInt : (Try.prog.info? 3).map (fun i => (i.zero, i.size, i.bytes)) = some (some (.int .i64 0), 1, 8) := by kernel_rfl
/-- What Trace answers, of a device that there is. -/
def TrOut (x : Tc) (w : World) (e : Ending) (w' : World) : Prop := ∃ v, e = .returned (.tuple #[tcV v x, .int .i64 0]) ∧ IsF 1 intA w' v x.ds ∧ (∀ g o n c, v = .slice (some ⟨g, o, none⟩) n c → w.heap.size ≤ g) ∧ Below w.heap.size w w'
/-- .. and of one that there is not. -/
def trNo : Value := .tuple #[.agg #[.slice none 0 0, .int .i64 0, .int .i64 0, .int .i64 0], .int .i64 91]
/-- Four stores into the result. -/
def putW (W : World) (R g n cap : Nat) (f pd pp : Int) : World := (((W.setCell ⟨R, 0, none⟩ (.slice (some ⟨g, 0, none⟩) n cap)).setCell ⟨R, 1, none⟩ (.int .i64 f)).setCell ⟨R, 2, none⟩ (.int .i64 pd)).setCell ⟨R, 3, none⟩ (.int .i64 pp)
theorem putW_at {W : World} {R g n cap : Nat} {f pd pp : Int} {v : Value} {x y z : Value} {T : TypeId} (h : At W R #[v, x, y, z] T) : At (putW W R g n cap f pd pp) R #[.slice (some ⟨g, 0, none⟩) n cap, .int .i64 f, .int .i64 pd, .int .i64 pp] T :=
  (((h.set0 0 _).set0 1 _).set0 2 _).set0 3 _
theorem tr_end {V : Tc} {w W : World} {g n cap : Nat} {f pd pp : Int} {D : List Int} (ho : W.ownsRow (w.heap.size + 1 + 1 + 1) 3 1 (.slice (some ⟨g, 0, none⟩) n cap) D.length (fcs intA D)) (hb : Below w.heap.size w W) (hV : V = ⟨D, f, ⟨pd, pp⟩⟩) :
    TrOut V w (.returned (.tuple #[.agg #[.slice (some ⟨g, 0, none⟩) n cap, .int .i64 f, .int .i64 pd, .int .i64 pp], .int .i64 0])) (putW W (w.heap.size + 1) g n cap f pd pp) := by
  subst hV
  have hsz : ∀ j, w.heap.size ≤ (⟨w.heap.size + 1, j, none⟩ : Addr).block := fun j => by show w.heap.size ≤ w.heap.size + 1; omega
  have o1 := row_far ho (grownBy_set W (w.heap.size + 1) 0 (.slice (some ⟨g, 0, none⟩) n cap)) (by omega)
  have o2 := row_far o1 (grownBy_set _ (w.heap.size + 1) 1 (.int .i64 f)) (by omega)
  have o3 := row_far o2 (grownBy_set _ (w.heap.size + 1) 2 (.int .i64 pd)) (by omega)
  have o4 := row_far o3 (grownBy_set _ (w.heap.size + 1) 3 (.int .i64 pp)) (by omega)
  have hge := (ho.lt g rfl).1
  exact ⟨_, rfl, isF_of_row intA_size o4, fun g' o' n' c' e => by cases e; omega, (((hb.setCell (hsz 0) _).setCell (hsz 1) _).setCell (hsz 2) _).setCell (hsz 3) _⟩
end Go.Proofs.Ytlhfaildeemngaa
/- Contracts: ahead, taking's closure. -/
namespace Go.Proofs.Ytlhfaildeemngaa
open Go.RowKit Go.Shelf

set_option maxRecDepth 100000 in
theorem ahead_any (x y : Ru) (w : World) : Calls Try.prog 92 #[.agg (ruA x), .agg (ruA y)] w fun e w' => e = .returned (.bool (aheadB x y)) ∧ Below w.heap.size w w' := by
  obtain ⟨id, dv, pr, kd, f, t, pt⟩ := x
  obtain ⟨id', dv', pr', kd', f', t', pt'⟩ := y
  have hb : Below w.heap.size w ((w.alloc (.cells #[.int .i64 id, .int .i64 dv, .int .i64 pr, .int .i64 kd, .int .u32 f, .int .u32 t, .int .i64 pt] 50)).alloc (.cells #[.int .i64 id', .int .i64 dv', .int .i64 pr', .int .i64 kd', .int .u32 f', .int .u32 t', .int .i64 pt'] 50)) := ((Below.refl _ _).alloc (Nat.le_refl _) _).alloc (by simp) _
  rw [ruA_mk, ruA_mk]
  unfold aheadB
  dsimp only
  cases h1 : decide (pr' < pr) with
  | true =>
    rw [Bool.true_or]
    have := of_decide_eq_true h1
    go_enter Try.func92, Try.ntmps92
    go_wp2
    go_ret
    exact ⟨rfl, hb⟩
  | false =>
    rw [Bool.false_or]
    have := of_decide_eq_false h1
    cases h2 : decide (pr = pr') with
    | true =>
      have e := of_decide_eq_true h2
      have h3 : (pr == pr') = true := by simpa using e
      clear e
      rw [Bool.true_and]
      go_enter Try.func92, Try.ntmps92
      go_wp2
      go_ret
      exact ⟨rfl, hb⟩
    | false =>
      have e := of_decide_eq_false h2
      have h3 : (pr == pr') = false := by simpa using e
      clear e
      rw [Bool.false_and]
      go_enter Try.func92, Try.ntmps92
      go_wp2
      go_ret
      exact ⟨rfl, hb⟩

set_option maxRecDepth 100000 in
/-- taking's closure. -/
theorem taking1_any (x : Ru) (d one oth : Int) (a C0 C1 C2 C3 : Nat) (w : World) (hA0 : At w C0 #[.int .i64 d] 3) (hA1 : At w C1 #[.int .i64 one] 48) (hA2 : At w C2 #[.int .i64 oth] 48) (hA3 : At w C3 #[.int .u32 a] 41) :
    Calls Try.prog 93 (#[.agg (ruA x)] ++ #[.pointer (some ⟨C0, 0, none⟩), .pointer (some ⟨C1, 0, none⟩), .pointer (some ⟨C2, 0, none⟩), .pointer (some ⟨C3, 0, none⟩)]) w fun e w' => e = .returned (.bool (takesB x d one oth a)) ∧ Below w.heap.size w w' := by
  obtain ⟨id, dv, pr, kd, f, t, pt⟩ := x
  have c0 := ((hA0.alloc (.cells #[.int .i64 id, .int .i64 dv, .int .i64 pr, .int .i64 kd, .int .u32 f, .int .u32 t, .int .i64 pt] 50)).cell 0).trans rfl
  have c1 := ((hA1.alloc (.cells #[.int .i64 id, .int .i64 dv, .int .i64 pr, .int .i64 kd, .int .u32 f, .int .u32 t, .int .i64 pt] 50)).cell 0).trans rfl
  have c2 := ((hA2.alloc (.cells #[.int .i64 id, .int .i64 dv, .int .i64 pr, .int .i64 kd, .int .u32 f, .int .u32 t, .int .i64 pt] 50)).cell 0).trans rfl
  have c3 := ((hA3.alloc (.cells #[.int .i64 id, .int .i64 dv, .int .i64 pr, .int .i64 kd, .int .u32 f, .int .u32 t, .int .i64 pt] 50)).cell 0).trans rfl
  have hb : Below w.heap.size w (w.alloc (.cells #[.int .i64 id, .int .i64 dv, .int .i64 pr, .int .i64 kd, .int .u32 f, .int .u32 t, .int .i64 pt] 50)) := (Below.refl _ _).alloc (Nat.le_refl _) _
  clear hA0 hA1 hA2 hA3
  rw [ruA_mk]
  unfold takesB
  dsimp only
  show Calls Try.prog 93 #[_, _, _, _, _] w _
  cases h1 : decide (dv = d) with
  | false =>
    have h1b : (dv == d) = false := by have e := of_decide_eq_false h1; simpa using e
    simp only [Bool.false_and]
    go_enter Try.func93, Try.ntmps93
    go_wp2
    go_ret
    exact ⟨rfl, hb⟩
  | true =>
    have h1b : (dv == d) = true := by have e := of_decide_eq_true h1; simpa using e
    cases h2 : decide (kd = one) with
    | true =>
      have h2b : (kd == one) = true := by have e := of_decide_eq_true h2; simpa using e
      cases h4 : decide (f ≤ a) with
      | false =>
        have h4i : decide ((f : Int) ≤ (a : Int)) = false := by rw [← h4]; congr 1; simp
        simp only [Bool.true_and, Bool.false_and, Bool.true_or]
        go_enter Try.func93, Try.ntmps93
        go_wp2
        go_ret
        exact ⟨rfl, hb⟩
      | true =>
        have h4i : decide ((f : Int) ≤ (a : Int)) = true := by rw [← h4]; congr 1; simp
        simp only [Bool.true_and, Bool.true_or]
        go_enter Try.func93, Try.ntmps93
        go_wp2
        go_ret
        exact ⟨rfl, hb⟩
    | false =>
      have h2b : (kd == one) = false := by have e := of_decide_eq_false h2; simpa using e
      cases h3 : decide (kd = oth) with
      | false =>
        have h3b : (kd == oth) = false := by have e := of_decide_eq_false h3; simpa using e
        simp only [Bool.true_and, Bool.or_self, Bool.false_and]
        go_enter Try.func93, Try.ntmps93
        go_wp2
        go_ret
        exact ⟨rfl, hb⟩
      | true =>
        have h3b : (kd == oth) = true := by have e := of_decide_eq_true h3; simpa using e
        cases h4 : decide (f ≤ a) with
        | false =>
          have h4i : decide ((f : Int) ≤ (a : Int)) = false := by rw [← h4]; congr 1; simp
          simp only [Bool.true_and, Bool.false_and, Bool.false_or]
          go_enter Try.func93, Try.ntmps93
          go_wp2
          go_ret
          exact ⟨rfl, hb⟩
        | true =>
          have h4i : decide ((f : Int) ≤ (a : Int)) = true := by rw [← h4]; congr 1; simp
          simp only [Bool.true_and, Bool.false_or]
          go_enter Try.func93, Try.ntmps93
          go_wp2
          go_ret
          exact ⟨rfl, hb⟩
end Go.Proofs.Ytlhfaildeemngaa
/- Contracts: first, over any closure that asks. -/
namespace Go.Proofs.Ytlhfaildeemngaa
open Go.RowKit Go.Shelf

/-- What is asked of a closure at each rule of a list. -/
def Asks (g : Nat) (lb : Array Value) (L : List Ru) (p : Ru → Bool) (w : World) : Prop :=
  ∀ k (hk : k < L.length) W, Below w.heap.size w W → Calls Try.prog g (#[.agg (ruA L[k])] ++ lb) W fun e W' => e = .returned (.bool (p L[k])) ∧ Below W.heap.size W W'

set_option maxRecDepth 100000 in
set_option maxHeartbeats 1000000 in
theorem first_any {v : Value} (g : Nat) (lb : Array Value) (eg : ∀ args w, (callFunc g args).run Try.prog w = .ok (.enter g args) w) (L : List Ru) (p : Ru → Bool) (w : World) (hs : Asks g lb L p w) (h : IsR w v L) :
    Calls Try.prog 85 #[v, .func (.func g) #[] lb] w fun e w' => e = .returned (firstV (firstL p L)) ∧ Below w.heap.size w w' := by
  obtain ⟨A1, c1, rfl, n1, m1, z1⟩ := h
  have hL : L.length ≤ 9223372036854775807 := Nat.le_trans n1 m1
  have H1 := Lib.hid z1
  have HS := Lib.hid hs
  clear z1 hs
  obtain ⟨fo, hfo⟩ : ∃ fo, fo = firstL p L := ⟨_, rfl⟩
  rw [← hfo]
  have HFO := Lib.hid hfo
  clear hfo
  go_enter Try.func85, Try.ntmps85
  go_wp2
  go_loopw [7, 12] (fun b i wr => ∃ k : Nat, Hid (FirI p L w i b k wr)) (fun _ i _ => L.length - (intOf i).toNat)
  case atStart =>
    refine ⟨0, Lib.hid ⟨rfl, rfl, by omega, ?_, ?_, ?_⟩⟩
    · exact ((Below.refl _ _).alloc (Nat.le_refl _) _).alloc (by simp) _
    · exact (At.new w _ _).alloc _
    · exact At.new1 w _ _ _
  case round =>
    obtain ⟨k, HF⟩ := hrel
    obtain ⟨rfl, rfl, hk, hb, hA, hB⟩ := HF.out
    clear HF
    by_cases hlt : k < L.length
    · have hq := firstL_snoc p L k hlt
      obtain ⟨g1, o1, e1, _, r0, r1, r2, r3, r4, r5, r6⟩ := (H1.out.belows hb).at k hlt
      subst e1
      have i0 : (0 : Int) ≤ (k : Int) := by omega
      have i1 : (k : Int) < (L.length : Int) := by omega
      have hcall := HS.out k hlt
      generalize hx : L[k] = x at r0 r1 r2 r3 r4 r5 r6 hcall hq
      obtain ⟨id, dv, pr, kd, f, t, pt⟩ := x
      dsimp only at r0 r1 r2 r3 r4 r5 r6
      have hcall2 := hcall (wr.alloc (.cells (ruA ⟨id, dv, pr, kd, f, t, pt⟩) 50)) (hb.alloc hb.size _)
      have hA1 := hA.alloc (.cells (ruA ⟨id, dv, pr, kd, f, t, pt⟩) 50)
      have hB1 := hB.alloc (.cells (ruA ⟨id, dv, pr, kd, f, t, pt⟩) 50)
      have hR1 := At.new wr (ruA ⟨id, dv, pr, kd, f, t, pt⟩) 50
      have hb1 : Below w.heap.size w (wr.alloc (.cells (ruA ⟨id, dv, pr, kd, f, t, pt⟩) 50)) := hb.alloc hb.size _
      have hs1 : wr.heap.size < (wr.alloc (.cells (ruA ⟨id, dv, pr, kd, f, t, pt⟩) 50)).heap.size := by simp
      clear hcall hA hB
      generalize ho : firstL p (L.take k) = o at hq hB1
      rw [ruA_mk] at hcall2 hR1 hA1 hB1 hb1 hs1
      cases hp : p ⟨id, dv, pr, kd, f, t, pt⟩ with
      | false =>
        rw [hp] at hcall2
        have hq2 : firstL p (L.take (k + 1)) = o := by rw [hq]; unfold stepF; rw [hp]; rfl
        clear hq
        go_wp2_with (go_at_fn g; refine hcall2.mono ?_; rintro e w2 ⟨rfl, b2⟩)
        go_roundw
        case rel =>
          refine ⟨k + 1, Lib.hid ⟨by go_num, ?_, by omega, hb1.trans (b2.mono hb1.size), hA1.belows b2, ?_⟩⟩
          · rw [hq2]
          · rw [hq2]; exact hB1.belows b2
        case measure => simp [intOf]; omega
      | true =>
        rw [hp] at hcall2
        cases o with
        | none =>
          have hq2 : firstL p (L.take (k + 1)) = some ⟨id, dv, pr, kd, f, t, pt⟩ := by rw [hq]; unfold stepF; rw [hp]; rfl
          clear hq
          rw [show ruA ((none : Option Ru).getD ru0) = #[.int .i64 0, .int .i64 0, .int .i64 0, .int .i64 0, .int .u32 0, .int .u32 0, .int .i64 0] from rfl] at hB1
          go_wp2_with (go_at_fn g; refine hcall2.mono ?_; rintro e w2 ⟨rfl, b2⟩; have R2 := hR1.belows b2; have B2 := hB1.belows b2; have c0 := (R2.cell 0).trans rfl; have c1 := (R2.cell 1).trans rfl; have c2 := (R2.cell 2).trans rfl; have c3 := (R2.cell 3).trans rfl; have c4 := (R2.cell 4).trans rfl; have c5 := (R2.cell 5).trans rfl; have c6 := (R2.cell 6).trans rfl; have d0 := (B2.cell 0).trans rfl; have d1 := (B2.cell 1).trans rfl; have d2 := (B2.cell 2).trans rfl; have d3 := (B2.cell 3).trans rfl; have d4 := (B2.cell 4).trans rfl; have d5 := (B2.cell 5).trans rfl; have d6 := (B2.cell 6).trans rfl; have z0 := B2.frozen 0; have z1 := B2.frozen 1; have z2 := B2.frozen 2; have z3 := B2.frozen 3; have z4 := B2.frozen 4; have z5 := B2.frozen 5; have z6 := B2.frozen 6)
          refine ⟨⟨k + 1, Lib.hid ⟨by go_num, ?_, by omega, ?_, ?_, ?_⟩⟩, by simp [intOf]; omega⟩
          · rw [hq2]; rfl
          · exact below_fill (hb1.trans (b2.mono hb1.size)) (by omega) ⟨id, dv, pr, kd, f, t, pt⟩
          · exact (hA1.belows b2).fillo (by omega) ⟨id, dv, pr, kd, f, t, pt⟩
          · rw [hq2]; exact At.fill (y := ru0) B2 ⟨id, dv, pr, kd, f, t, pt⟩
        | some y =>
          obtain ⟨id', dv', pr', kd', f', t', pt'⟩ := y
          have hah := fun u : World => ahead_any ⟨id, dv, pr, kd, f, t, pt⟩ ⟨id', dv', pr', kd', f', t', pt'⟩ u
          rw [ruA_mk, ruA_mk] at hah
          rw [show ruA ((some (⟨id', dv', pr', kd', f', t', pt'⟩ : Ru)).getD ru0) = #[.int .i64 id', .int .i64 dv', .int .i64 pr', .int .i64 kd', .int .u32 f', .int .u32 t', .int .i64 pt'] from rfl] at hB1
          cases hh : aheadB ⟨id, dv, pr, kd, f, t, pt⟩ ⟨id', dv', pr', kd', f', t', pt'⟩ with
          | true =>
            rw [hh] at hah
            have hq2 : firstL p (L.take (k + 1)) = some ⟨id, dv, pr, kd, f, t, pt⟩ := by rw [hq]; unfold stepF; rw [hp]; simp only [Option.getD_some, hh, Bool.or_true, Bool.and_true, if_true]
            clear hq
            go_wp2_with (first | (go_at_fn g; refine hcall2.mono ?_; rintro e w2 ⟨rfl, b2⟩; have R2 := hR1.belows b2; have B2 := hB1.belows b2; have c0 := (R2.cell 0).trans rfl; have c1 := (R2.cell 1).trans rfl; have c2 := (R2.cell 2).trans rfl; have c3 := (R2.cell 3).trans rfl; have c4 := (R2.cell 4).trans rfl; have c5 := (R2.cell 5).trans rfl; have c6 := (R2.cell 6).trans rfl; have d0 := (B2.cell 0).trans rfl; have d1 := (B2.cell 1).trans rfl; have d2 := (B2.cell 2).trans rfl; have d3 := (B2.cell 3).trans rfl; have d4 := (B2.cell 4).trans rfl; have d5 := (B2.cell 5).trans rfl; have d6 := (B2.cell 6).trans rfl; have z0 := B2.frozen 0; have z1 := B2.frozen 1; have z2 := B2.frozen 2; have z3 := B2.frozen 3; have z4 := B2.frozen 4; have z5 := B2.frozen 5; have z6 := B2.frozen 6) | (go_at_call 92; refine (hah _).mono ?_; rintro e w3 ⟨rfl, b3⟩; have R3 := R2.belows b3; have B3 := B2.belows b3; clear c0 d0 z0 c1 d1 z1 c2 d2 z2 c3 d3 z3 c4 d4 z4 c5 d5 z5 c6 d6 z6; have c0 := (R3.cell 0).trans rfl; have c1 := (R3.cell 1).trans rfl; have c2 := (R3.cell 2).trans rfl; have c3 := (R3.cell 3).trans rfl; have c4 := (R3.cell 4).trans rfl; have c5 := (R3.cell 5).trans rfl; have c6 := (R3.cell 6).trans rfl; have d0 := (B3.cell 0).trans rfl; have d1 := (B3.cell 1).trans rfl; have d2 := (B3.cell 2).trans rfl; have d3 := (B3.cell 3).trans rfl; have d4 := (B3.cell 4).trans rfl; have d5 := (B3.cell 5).trans rfl; have d6 := (B3.cell 6).trans rfl; have z0 := B3.frozen 0; have z1 := B3.frozen 1; have z2 := B3.frozen 2; have z3 := B3.frozen 3; have z4 := B3.frozen 4; have z5 := B3.frozen 5; have z6 := B3.frozen 6))
            refine ⟨⟨k + 1, Lib.hid ⟨by go_num, ?_, by omega, ?_, ?_, ?_⟩⟩, by simp [intOf]; omega⟩
            · rw [hq2]; rfl
            · exact below_fill ((hb1.trans (b2.mono hb1.size)).trans (b3.mono (Nat.le_trans hb1.size b2.size))) (by omega) ⟨id, dv, pr, kd, f, t, pt⟩
            · exact ((hA1.belows b2).belows b3).fillo (by omega) ⟨id, dv, pr, kd, f, t, pt⟩
            · rw [hq2]; exact At.fill (y := ⟨id', dv', pr', kd', f', t', pt'⟩) B3 ⟨id, dv, pr, kd, f, t, pt⟩
          | false =>
            rw [hh] at hah
            have hq2 : firstL p (L.take (k + 1)) = some ⟨id', dv', pr', kd', f', t', pt'⟩ := by rw [hq]; unfold stepF; rw [hp]; simp only [Option.getD_some, hh, Option.isNone_some, Bool.or_false, Bool.and_false, Bool.false_eq_true, if_false]
            clear hq
            go_wp2_with (first | (go_at_fn g; refine hcall2.mono ?_; rintro e w2 ⟨rfl, b2⟩; have R2 := hR1.belows b2; have B2 := hB1.belows b2; have c0 := (R2.cell 0).trans rfl; have c1 := (R2.cell 1).trans rfl; have c2 := (R2.cell 2).trans rfl; have c3 := (R2.cell 3).trans rfl; have c4 := (R2.cell 4).trans rfl; have c5 := (R2.cell 5).trans rfl; have c6 := (R2.cell 6).trans rfl; have d0 := (B2.cell 0).trans rfl; have d1 := (B2.cell 1).trans rfl; have d2 := (B2.cell 2).trans rfl; have d3 := (B2.cell 3).trans rfl; have d4 := (B2.cell 4).trans rfl; have d5 := (B2.cell 5).trans rfl; have d6 := (B2.cell 6).trans rfl; have z0 := B2.frozen 0; have z1 := B2.frozen 1; have z2 := B2.frozen 2; have z3 := B2.frozen 3; have z4 := B2.frozen 4; have z5 := B2.frozen 5; have z6 := B2.frozen 6) | (go_at_call 92; refine (hah _).mono ?_; rintro e w3 ⟨rfl, b3⟩; have R3 := R2.belows b3; have B3 := B2.belows b3; clear c0 d0 z0 c1 d1 z1 c2 d2 z2 c3 d3 z3 c4 d4 z4 c5 d5 z5 c6 d6 z6; have c0 := (R3.cell 0).trans rfl; have c1 := (R3.cell 1).trans rfl; have c2 := (R3.cell 2).trans rfl; have c3 := (R3.cell 3).trans rfl; have c4 := (R3.cell 4).trans rfl; have c5 := (R3.cell 5).trans rfl; have c6 := (R3.cell 6).trans rfl; have d0 := (B3.cell 0).trans rfl; have d1 := (B3.cell 1).trans rfl; have d2 := (B3.cell 2).trans rfl; have d3 := (B3.cell 3).trans rfl; have d4 := (B3.cell 4).trans rfl; have d5 := (B3.cell 5).trans rfl; have d6 := (B3.cell 6).trans rfl; have z0 := B3.frozen 0; have z1 := B3.frozen 1; have z2 := B3.frozen 2; have z3 := B3.frozen 3; have z4 := B3.frozen 4; have z5 := B3.frozen 5; have z6 := B3.frozen 6))
            go_roundw
            case rel =>
              refine ⟨k + 1, Lib.hid ⟨by go_num, ?_, by omega, (hb1.trans (b2.mono hb1.size)).trans (b3.mono (Nat.le_trans hb1.size b2.size)), (hA1.belows b2).belows b3, ?_⟩⟩
              · rw [hq2]; rfl
              · rw [hq2]; exact B3
            case measure => simp [intOf]; omega
    · obtain rfl : k = L.length := by omega
      rw [List.take_length, ← HFO.out] at hB
      rw [List.take_length, ← HFO.out]
      obtain ⟨y, hy⟩ : ∃ y, y = fo.getD ru0 := ⟨_, rfl⟩
      rw [← hy] at hB
      have hV : firstV fo = .tuple #[.agg (ruA y), .bool fo.isSome] := by rw [hy]; rfl
      have HV := Lib.hid hV
      clear hV hy
      generalize fo.isSome = q at HV ⊢
      obtain ⟨id', dv', pr', kd', f', t', pt'⟩ := y
      rw [ruA_mk] at hB
      have Z := At.fill (y := ru0) hA ⟨id', dv', pr', kd', f', t', pt'⟩
      rw [rd0] at hA
      have d0 := (hB.cell 0).trans rfl; have e0 := (hA.cell 0).trans rfl; have z0 := hA.frozen 0; have d1 := (hB.cell 1).trans rfl; have e1 := (hA.cell 1).trans rfl; have z1 := hA.frozen 1; have d2 := (hB.cell 2).trans rfl; have e2 := (hA.cell 2).trans rfl; have z2 := hA.frozen 2; have d3 := (hB.cell 3).trans rfl; have e3 := (hA.cell 3).trans rfl; have z3 := hA.frozen 3; have d4 := (hB.cell 4).trans rfl; have e4 := (hA.cell 4).trans rfl; have z4 := hA.frozen 4; have d5 := (hB.cell 5).trans rfl; have e5 := (hA.cell 5).trans rfl; have z5 := hA.frozen 5; have d6 := (hB.cell 6).trans rfl; have e6 := (hA.cell 6).trans rfl; have z6 := hA.frozen 6
      go_wp2
      refine bodyPost_ret (v := firstV fo) ?_ rfl ⟨rfl, below_fill hb (by omega) ⟨id', dv', pr', kd', f', t', pt'⟩⟩
      unfold fillW ruA at Z
      have y0 := Z.cell 0; have y1 := Z.cell 1; have y2 := Z.cell 2; have y3 := Z.cell 3; have y4 := Z.cell 4; have y5 := Z.cell 5; have y6 := Z.cell 6
      dsimp only at y0 y1 y2 y3 y4 y5 y6
      simp [results, Try.results85, go_sem, y0, y1, y2, y3, y4, y5, y6, HV.out, ruA_mk]
end Go.Proofs.Ytlhfaildeemngaa
/- Contract: the document's Find. -/
namespace Go.Proofs.Ytlhfaildeemngaa
open Go.RowKit Go.Shelf

end Go.Proofs.Ytlhfaildeemngaa
/- Contract: the document's Insert. -/
namespace Go.Proofs.Ytlhfaildeemngaa
open Go.RowKit Go.Shelf

theorem ruA_one (r : Ru) : ∀ u ∈ (ruA r).toList, u.oneCell' = true := by
  intro u hu
  obtain ⟨a, b, c, d, f, t, p⟩ := r
  simp [ruA_mk] at hu
  rcases hu with rfl | rfl | rfl | rfl | rfl | rfl | rfl <;> rfl
theorem ruA_size7 (r : Ru) : (ruA r).size = 7 := rfl
theorem infoRule : (Try.prog.info? 50).map (fun i => (i.zero, i.size, i.bytes)) = some (some (.agg #[.int .i64 0, .int .i64 0, .int .i64 0, .int .i64 0, .int .u32 0, .int .u32 0, .int .i64 0]), 7, 48) := by kernel_rfl
/-- Where Insert's loop stands. -/
def InsAt (r : Ru) (L : List Ru) (k : Nat) (dn : Bool) (M : List Ru) : Prop := M.length ≤ k + 1 ∧ ((dn = false ∧ M.length ≤ k ∧ insL r L = M ++ insL r (L.drop k)) ∨ (dn = true ∧ insL r L = M ++ L.drop k))
theorem InsAt.start (r : Ru) (L : List Ru) : InsAt r L 0 false [] := ⟨Nat.zero_le _, .inl ⟨rfl, Nat.le_refl _, rfl⟩⟩
theorem InsAt.ahead {r : Ru} {L : List Ru} {k : Nat} {M : List Ru} (h : InsAt r L k false M) (hk : k < L.length) (hx : r.id < L[k].id) : InsAt r L (k + 1) true (M ++ [r] ++ [L[k]]) := by
  rcases h.2 with ⟨_, hm, e⟩ | ⟨e, _⟩
  · refine ⟨by simp; omega, .inr ⟨rfl, ?_⟩⟩
    rw [e, List.drop_eq_getElem_cons hk, insL, if_pos hx]; simp
  · cases e
theorem InsAt.on {r : Ru} {L : List Ru} {k : Nat} {M : List Ru} (h : InsAt r L k false M) (hk : k < L.length) (hx : ¬ r.id < L[k].id) : InsAt r L (k + 1) false (M ++ [L[k]]) := by
  rcases h.2 with ⟨_, hm, e⟩ | ⟨e, _⟩
  · refine ⟨by simp; omega, .inl ⟨rfl, by simp; omega, ?_⟩⟩
    rw [e, List.drop_eq_getElem_cons hk, insL, if_neg hx]; simp
  · cases e
theorem InsAt.done {r : Ru} {L : List Ru} {k : Nat} {M : List Ru} (h : InsAt r L k true M) (hk : k < L.length) : InsAt r L (k + 1) true (M ++ [L[k]]) := by
  refine ⟨by have := h.1; simp; omega, .inr ⟨rfl, ?_⟩⟩
  rcases h.2 with ⟨e, _⟩ | ⟨_, e⟩
  · cases e
  · rw [e, List.drop_eq_getElem_cons hk]; simp
theorem InsAt.end0 {r : Ru} {L : List Ru} {M : List Ru} (h : InsAt r L L.length false M) : M ++ [r] = insL r L := by
  rcases h.2 with ⟨_, _, e⟩ | ⟨e, _⟩
  · rw [e, List.drop_length, insL]
  · cases e
theorem InsAt.end1 {r : Ru} {L : List Ru} {M : List Ru} (h : InsAt r L L.length true M) : M = insL r L := by
  rcases h.2 with ⟨e, _⟩ | ⟨_, e⟩
  · cases e
  · rw [e, List.drop_length, List.append_nil]
/-- What is found. -/
theorem find_some (L : List Ru) (i : Int) : (firstL (fun r => decide (r.id = i)) L).isSome = hasId i L := by
  rcases firstL_is (fun r => decide (r.id = i)) L with ⟨h, hn⟩ | ⟨x, h, hm, hx, _⟩
  · rw [h]
    symm
    exact hasId_no.2 fun x hx => of_decide_eq_false (hn x hx)
  · rw [h]
    symm
    exact List.any_eq_true.2 ⟨x, hm, hx⟩
def netZ : Value := .agg #[.slice none 0 0, .slice none 0 0, .slice none 0 0]
/-- What Insert, Delete answer: the network with its new rules. -/
def NewOut (er : Int) (M : List Ru) (vp vl : Value) (w : World) (e : Ending) (w' : World) : Prop :=
  ((er ≠ 0 ∧ e = .returned (.tuple #[netZ, .int .i64 er])) ∨ (er = 0 ∧ ∃ v base, w.heap.size ≤ base ∧ e = .returned (.tuple #[.agg #[vp, vl, v], .int .i64 0]) ∧ w'.ownsRow base 50 7 v M.length (rcs M))) ∧ Below w.heap.size w w'
/-- Three stores into the result. -/
theorem net_set {W : World} {B : Nat} {T : TypeId} {x y z a b c : Value} (h : At W B #[x, y, z] T) : At (((W.setCell ⟨B, 0, none⟩ a).setCell ⟨B, 1, none⟩ b).setCell ⟨B, 2, none⟩ c) B #[a, b, c] T := ((h.set0 0 a).set0 1 b).set0 2 c
end Go.Proofs.Ytlhfaildeemngaa
/- Contracts of package label: slices.Clone of numbers, links, rules; copied: a network with lists of its own. -/
namespace Go.Proofs.Ytlhfaildeemngaa
open Go.RowKit Go.Shelf

theorem fr_iff {w : World} {v : Value} {L : List Ru} : IsF 7 ruA w v L ↔ IsR w v L := Iff.rfl
theorem lkA_one (l : Lk) : ∀ u ∈ (lkA l).toList, u.oneCell' = true := by
  intro u hu
  obtain ⟨⟨a, b⟩, ⟨c, d⟩⟩ := l
  simp [lkA] at hu
  rcases hu with rfl | rfl | rfl | rfl <;> rfl
theorem infoLink : (Try.prog.info? 75).map (fun i => (i.zero, i.size, i.bytes)) = some (some (.agg #[.int .i64 0, .int .i64 0, .int .i64 0, .int .i64 0]), 4, 32) := by kernel_rfl
/-- A row's value is a slice. -/
theorem row_slice {w : World} {base : Nat} {e : TypeId} {n : Nat} {v : Value} {k : Nat} {xs : List Value} (h : w.ownsRow base e n v k xs) : ∃ A c, v = .slice A k c ∧ k ≤ c ∧ c ≤ maxLen := by
  rcases h.2 with ⟨rfl, rfl⟩ | ⟨g, cap, cur, rfl, _, _, h1, h2, _⟩
  · exact ⟨_, _, rfl, Nat.le_refl _, Nat.zero_le _⟩
  · exact ⟨_, _, rfl, h1, h2⟩
theorem row_mono {w : World} {base base' : Nat} {e : TypeId} {n : Nat} {v : Value} {k : Nat} {xs : List Value} (h : w.ownsRow base e n v k xs) (hb : base' ≤ base) : w.ownsRow base' e n v k xs :=
  ⟨h.1, h.2.imp id fun ⟨g, cap, cur, e, h1, rest⟩ => ⟨g, cap, cur, e, Nat.le_trans hb h1, rest⟩⟩

set_option maxRecDepth 100000 in
theorem clone_ints {v : Value} (L : List Int) (w : World) (hlen : L.length ≤ 100000) (hz : IsF 1 intA w v L) : Calls Try.prog 38 #[v] w fun e w' => ∃ v', e = .returned v' ∧ w'.ownsRow w.heap.size 3 1 v' L.length (fcs intA L) ∧ Below w.heap.size w w' := by
  obtain ⟨A, c, rfl, n1, m1, z⟩ := hz
  have q22 : ∀ (w : World) (a : Option Addr) (n c n' c' : Nat), (binOp .eql 22 (.slice a n c) (.slice none n' c')).run Try.prog w = .ok (.bool a.isNone) w := fun w a n c n' c' => Lib.run_eql_slice_nil w _ _ a n c n' c' Try.underlying22
  cases A with
  | none =>
    have hL : L = [] := by
      cases L with
      | nil => rfl
      | cons r L => obtain ⟨g, o, e, _⟩ := z (by simp); cases e
    subst hL
    go_enter Try.func38, Try.ntmps38
    go_wp2
    go_ret
    exact ⟨_, rfl, World.ownsRow_nil _ _ _ _, Below.refl _ _⟩
  | some ad =>
    have HZ := Lib.hid (z.belows ((Below.refl _ w).alloc (Nat.le_refl _) (.cells #[] 3)))
    clear z
    go_enter Try.func38, Try.ntmps38
    go_wp2_with (at_builtin; refine wpList_app_f intA_size intA_one Try.underlying22 infoInt rfl (by decide) rfl _ _ rfl w.heap.size _ [] rfl (RowF.empty 3 w) _ _ L rfl HZ.out (fun e => by cases e) (by simp only [maxLen, List.length_nil]; omega) (by simp only [List.length_nil]; omega) (by simp) ?_; intro g cap w1 hrow b1)
    go_ret
    exact ⟨_, rfl, by simpa using hrow.1, ((Below.refl _ w).alloc (Nat.le_refl _) _).trans b1⟩

set_option maxRecDepth 100000 in
theorem clone_links {v : Value} (L : List Lk) (w : World) (hlen : L.length ≤ 100000) (hz : IsF 4 lkA w v L) : Calls Try.prog 39 #[v] w fun e w' => ∃ v', e = .returned v' ∧ w'.ownsRow w.heap.size 75 4 v' L.length (fcs lkA L) ∧ Below w.heap.size w w' := by
  obtain ⟨A, c, rfl, n1, m1, z⟩ := hz
  have q22 : ∀ (w : World) (a : Option Addr) (n c n' c' : Nat), (binOp .eql 23 (.slice a n c) (.slice none n' c')).run Try.prog w = .ok (.bool a.isNone) w := fun w a n c n' c' => Lib.run_eql_slice_nil w _ _ a n c n' c' Try.underlying23
  cases A with
  | none =>
    have hL : L = [] := by
      cases L with
      | nil => rfl
      | cons r L => obtain ⟨g, o, e, _⟩ := z (by simp); cases e
    subst hL
    go_enter Try.func39, Try.ntmps39
    go_wp2
    go_ret
    exact ⟨_, rfl, World.ownsRow_nil _ _ _ _, Below.refl _ _⟩
  | some ad =>
    have HZ := Lib.hid (z.belows ((Below.refl _ w).alloc (Nat.le_refl _) (.cells #[] 75)))
    clear z
    go_enter Try.func39, Try.ntmps39
    go_wp2_with (at_builtin; refine wpList_app_f lkA_size lkA_one Try.underlying23 infoLink rfl (by decide) rfl _ _ rfl w.heap.size _ [] rfl (RowF.empty 75 w) _ _ L rfl HZ.out (fun e => by cases e) (by simp only [maxLen, List.length_nil]; omega) (by simp only [List.length_nil]; omega) (by simp) ?_; intro g cap w1 hrow b1)
    go_ret
    exact ⟨_, rfl, by simpa using hrow.1, ((Below.refl _ w).alloc (Nat.le_refl _) _).trans b1⟩

set_option maxRecDepth 100000 in
theorem clone_rules {v : Value} (L : List Ru) (w : World) (hlen : L.length ≤ 100000) (hz : IsF 7 ruA w v L) : Calls Try.prog 40 #[v] w fun e w' => ∃ v', e = .returned v' ∧ w'.ownsRow w.heap.size 50 7 v' L.length (fcs ruA L) ∧ Below w.heap.size w w' := by
  obtain ⟨A, c, rfl, n1, m1, z⟩ := hz
  have q22 : ∀ (w : World) (a : Option Addr) (n c n' c' : Nat), (binOp .eql 26 (.slice a n c) (.slice none n' c')).run Try.prog w = .ok (.bool a.isNone) w := fun w a n c n' c' => Lib.run_eql_slice_nil w _ _ a n c n' c' Try.underlying26
  cases A with
  | none =>
    have hL : L = [] := by
      cases L with
      | nil => rfl
      | cons r L => obtain ⟨g, o, e, _⟩ := z (by simp); cases e
    subst hL
    go_enter Try.func40, Try.ntmps40
    go_wp2
    go_ret
    exact ⟨_, rfl, World.ownsRow_nil _ _ _ _, Below.refl _ _⟩
  | some ad =>
    have HZ := Lib.hid (z.belows ((Below.refl _ w).alloc (Nat.le_refl _) (.cells #[] 50)))
    clear z
    go_enter Try.func40, Try.ntmps40
    go_wp2_with (at_builtin; refine wpList_app_f ruA_size7 ruA_one Try.underlying26 infoRule rfl (by decide) rfl _ _ rfl w.heap.size _ [] rfl (RowF.empty 50 w) _ _ L rfl HZ.out (fun e => by cases e) (by simp only [maxLen, List.length_nil]; omega) (by simp only [List.length_nil]; omega) (by simp) ?_; intro g cap w1 hrow b1)
    go_ret
    exact ⟨_, rfl, by simpa using hrow.1, ((Below.refl _ w).alloc (Nat.le_refl _) _).trans b1⟩
end Go.Proofs.Ytlhfaildeemngaa
/- Plain: rows of one's own, written in place (over any program): copy, append where there is room, clear. -/
namespace Go.Proofs.Ytlhfaildeemngaa
open Go.RowKit Go.Shelf

section
variable {P : Program} {α : Type} {n : Nat} {f : α → Array Value}
theorem fcs_take (hf : ∀ r, (f r).size = n) (L : List α) (i : Nat) : fcs f (L.take i) = (fcs f L).take (i * n) := by
  induction L generalizing i with
  | nil => simp [fcs]
  | cons x L ih =>
    cases i with
    | zero => simp [fcs]
    | succ i =>
      have h1 : (f x).toList.take ((i + 1) * n) = (f x).toList := List.take_of_length_le (by rw [Array.length_toList, hf, Nat.succ_mul]; omega)
      rw [List.take_succ_cons, fcs_cons, fcs_cons, ih, List.take_append, Array.length_toList, hf, h1, show (i + 1) * n - n = i * n by rw [Nat.succ_mul]; omega]
theorem fcs_drop (hf : ∀ r, (f r).size = n) (L : List α) (i : Nat) : fcs f (L.drop i) = (fcs f L).drop (i * n) := by
  induction L generalizing i with
  | nil => simp [fcs]
  | cons x L ih =>
    cases i with
    | zero => simp [fcs]
    | succ i =>
      have h1 : (f x).toList.drop ((i + 1) * n) = [] := List.drop_of_length_le (by rw [Array.length_toList, hf, Nat.succ_mul]; omega)
      rw [List.drop_succ_cons, fcs_cons, ih, List.drop_append, Array.length_toList, hf, h1, show (i + 1) * n - n = i * n by rw [Nat.succ_mul]; omega]
      simp
/-- 'copy' within or into a row of one's own. -/
theorem run_copy_rowk (w : World) (dT sT ty elem : TypeId) (k g o dLen dCap : Nat) (a : Addr) (sLen sCap : Nat) (cur : Array Value) (t : TypeId) (cs : List Value) (m : Nat)
    (hu : P.underlying dT = some (.slice elem)) (hs : (P.info? elem).map (·.size) = some k) (hg : At w g cur t) (hm : Nat.min sLen dLen = m) (hn : cs.length = m * k)
    (hsrc : ∀ j v, cs[j]? = some v → w.cell? (a.add j) = some v) (hfit : o + cs.length ≤ cur.size) (h1 : ∀ v ∈ cs, v.oneCell' = true) :
    (Builtin.copy_ #[dT, sT] ty #[.slice (some ⟨g, o, none⟩) dLen dCap, .slice (some a) sLen sCap]).run P w = .ok (goInt m) (w.setRow g (cur.toList.take o ++ cs ++ cur.toList.drop (o + cs.length)).toArray) := by
  have hl := run_firstCells_some (P := P) w k m a sLen sCap cs hn hsrc
  have hst := run_storeCells_at P g o t cs 0 cur w hg (by simpa using hfit) h1
  cases hq : P.info? elem with
  | none => simp [hq] at hs
  | some i =>
    have hi : i.size = k := by simpa [hq] using hs
    simp only [Nat.add_zero] at hst
    simp [Builtin.copy_, run_underlying hu, Builtin.lenOf, sizeOf, typeInfo, hq, hi, hm, hl, hst]
/-- 'append' onto a row of one's own that has room. -/
theorem run_append_rowk (w : World) (t tx ty e e' : TypeId) (i : TypeInfo) (ht : P.underlying t = some (.slice e)) (htx : P.underlying tx = some (.slice e')) (hi : P.info? e = some i) (g sLen sCap : Nat) (a : Addr) (m c : Nat) (cur : Array Value) (T : TypeId) (cs : List Value)
    (hg : At w g cur T) (hn : cs.length = m * i.size) (hsrc : ∀ j v, cs[j]? = some v → w.cell? (a.add j) = some v) (hroom : sLen + m ≤ sCap) (hfit : sLen * i.size + cs.length ≤ cur.size) (h1 : ∀ v ∈ cs, v.oneCell' = true) :
    (Builtin.append_ #[t, tx] ty #[.slice (some ⟨g, 0, none⟩) sLen sCap, .slice (some a) m c]).run P w = .ok (.slice (some ⟨g, 0, none⟩) (sLen + m) sCap) (w.setRow g (cur.toList.take (sLen * i.size) ++ cs ++ cur.toList.drop (sLen * i.size + cs.length)).toArray) := by
  have hl := run_firstCells_some (P := P) w i.size m a m c cs hn hsrc
  have hst := run_storeCells_at P g (sLen * i.size) T cs 0 cur w hg (by simpa using hfit) h1
  simp only [Nat.add_zero] at hst
  simp [Builtin.append_, Builtin.lenOf, run_underlying ht, run_underlying htx, sizeOf, typeInfo, hi, hroom, hl, Addr.add_lit, hst]
/-- 'clear' of a piece of a row of one's own. -/
theorem run_clear_rowk (w : World) (t e ty : TypeId) (z : Value) (ht : P.underlying t = some (.slice e)) (hv : ∀ w, (zeroValue e).run P w = .ok z w) (g o m c : Nat) (cur : Array Value) (T : TypeId) (hg : At w g cur T) (hm : 0 < m)
    (zs : List Value) (hz : (Builtin.zeroCells z.cells m).toList = zs) (hfit : o + zs.length ≤ cur.size) (h1 : ∀ v ∈ zs, v.oneCell' = true) :
    (Builtin.clear_ #[t] ty #[.slice (some ⟨g, o, none⟩) m c]).run P w = .ok (.tuple #[]) (w.setRow g (cur.toList.take o ++ zs ++ cur.toList.drop (o + zs.length)).toArray) := by
  have hst := run_storeCells_at P g o T zs 0 cur w hg (by simpa using hfit) h1
  simp only [Nat.add_zero] at hst
  obtain ⟨m, rfl⟩ : ∃ k, m = k + 1 := ⟨m - 1, by omega⟩
  simp [Builtin.clear_, run_underlying ht, hv, hz, hst]
/-- An append with a known run, as one step of a region that draws. -/
theorem step_app_run {ops : Array Oper} {o : Oper} {a : Act} {w : World} {K : Act → World → Prop} {Q : Exit → Act → World → Prop} {E : Prop}
    (hg : o.guard = none) (d x : Operand) (dT sT : TypeId) (hop : o.op = Op.call { callee := Callee.builtin Builtin.append, args := #[d, x], argTypes := #[dT, sT] })
    (v u : Value) (hd : a.eval d = v) (hx : a.eval x = u) {v' : Value} {w' : World} (hr : (Builtin.append_ #[dT, sT] o.type #[v, u]).run P w = .ok v' w') (hK : K (a.put o.dst v') w') :
    if Region.wanted o (yielded ops a.tmps) = true then Oper.wp P o a w K Q else E := by
  have hw : Region.wanted o (yielded ops a.tmps) = true := by simp [Region.wanted, hg]
  rw [if_pos hw]
  unfold Oper.wp
  simp [execOp, hop, resolve, invoke, builtin, hd, hx, hr, Result.andThen]
  exact hK

theorem grown_setRow (w : World) (g : Nat) (C : Array Value) : w.grownBy (w.setRow g C) (some g) :=
  ⟨rfl, rfl, rfl, by simp, fun k _ hk => setRow_other w g k C fun e => hk (by rw [e])⟩
theorem At.setRow {w : World} {g : Nat} {cur : Array Value} {t : TypeId} (h : At w g cur t) (C : Array Value) : At (w.setRow g C) g C t := setRow_heap w g cur C t (0, 0) h
theorem grown_drew {w w' : World} {o : Option Nat} (h : w.grownBy w' o) : w.grownBy w'.drew o := ⟨h.os, h.tape, h.output, h.size, h.block⟩
theorem grown_of_drew {w w' : World} {o : Option Nat} (h : w.drew.grownBy w' o) : w.grownBy w' o := ⟨h.os, h.tape, h.output, h.size, h.block⟩
theorem grown_tr2 {w w1 w2 : World} {o : Option Nat} (h : w.grownBy w1 o) (k : w1.grownBy w2 o) : w.grownBy w2 o :=
  ⟨k.os.trans h.os, k.tape.trans h.tape, k.output.trans h.output, Nat.le_trans h.size k.size, fun b hb hne => (k.block b (Nat.lt_of_lt_of_le hb h.size) hne).trans (h.block b hb hne)⟩
/-- A row by its block. -/
theorem own_of {w : World} {base : Nat} {e : TypeId} {g cap k : Nat} {cur : Array Value} {xs : List Value} (hb : base ≤ g) (hA : At w g cur e) (hk : k ≤ cap) (hm : cap ≤ maxLen) (hs : cur.size = cap * n) (hx : cur.toList.take (k * n) = xs) (hl : xs.length = k * n) :
    w.ownsRow base e n (.slice (some ⟨g, 0, none⟩) k cap) k xs := ⟨hl, .inr ⟨g, cap, cur, rfl, hb, hA, hk, hm, hs, hx⟩⟩
theorem shape_at {w : World} {B : Nat} {cs : Array Value} {t : TypeId} (h : At w B cs t) : w.shape? B = some (t, cs.size) := by
  unfold World.shape?
  rw [show w.heap[B]? = _ from h]
end
/-! Plain: where one element comes in, or goes. -/
section
variable {A B R S : List Value} {p q r : Nat}
/-- There is room: what stood from the place on is moved, then the new one is written. -/
theorem shift_in {X : List Value} (hX : X = A ++ B ++ S) (ha : A.length = p) (hb : B.length = q) (hr : R.length = r) (hs : r ≤ S.length) {C1 C2 : List Value}
    (h1 : C1 = X.take (p + r) ++ B ++ X.drop (p + r + q)) (h2 : C2 = C1.take p ++ R ++ C1.drop (p + r)) : C2.take (p + r + q) = A ++ R ++ B ∧ C2.length = X.length ∧ C1.length = X.length := by
  have hl : X.length = p + q + S.length := by rw [hX]; simp; omega
  have hl1 : C1.length = X.length := by rw [h1]; simp; omega
  have e1 : C1.take p = A := by
    rw [h1, List.append_assoc, List.take_append_of_le_length (by simp; omega), List.take_take, Nat.min_eq_left (by omega), hX, List.append_assoc, List.take_append_of_le_length (by omega), List.take_of_length_le (by omega)]
  have e2 : C1.drop (p + r) = B ++ X.drop (p + r + q) := by
    rw [h1, List.append_assoc, List.drop_append_of_le_length (by simp; omega), List.drop_of_length_le (by simp; omega), List.nil_append]
  refine ⟨?_, ?_, hl1⟩
  · rw [h2, e1, e2, ← List.append_assoc, List.take_append_of_le_length (by simp; omega), List.take_of_length_le (by simp; omega)]
  · rw [h2, e1, e2]; simp; omega
/-- There is none: a new row. -/
theorem grow_in {X : List Value} (hX : X.take p = A) (ha : A.length = p) (hb : B.length = q) (hr : R.length = r) (hs : p + r + q ≤ X.length) {C1 C2 : List Value}
    (h1 : C1 = X.take p ++ R ++ X.drop (p + r)) (h2 : C2 = C1.take (p + r) ++ B ++ C1.drop (p + r + q)) : C2.take (p + r + q) = A ++ R ++ B ∧ C2.length = X.length ∧ C1.length = X.length := by
  have hl1 : C1.length = X.length := by rw [h1]; simp; omega
  have e1 : C1.take (p + r) = A ++ R := by
    rw [h1, hX, List.take_append_of_le_length (by simp; omega), List.take_of_length_le (by simp; omega)]
  refine ⟨?_, ?_, hl1⟩
  · rw [h2, e1, List.take_append_of_le_length (by simp; omega), List.take_of_length_le (by simp; omega)]
  · rw [h2, e1]; simp; omega
/-- One goes. -/
theorem shift_out {X : List Value} (hX : X = A ++ R ++ B ++ S) (ha : A.length = p) (hb : B.length = q) (hr : R.length = r) {Z : List Value} (hz : Z.length = r) {C1 C2 : List Value}
    (h1 : C1 = X.take p ++ B ++ X.drop (p + q)) (h2 : C2 = C1.take (p + q) ++ Z ++ C1.drop (p + q + r)) : C2.take (p + q) = A ++ B ∧ C2.length = X.length ∧ C1.length = X.length := by
  have hl : X.length = p + r + q + S.length := by rw [hX]; simp; omega
  have hl1 : C1.length = X.length := by rw [h1]; simp; omega
  have e1 : X.take p = A := by
    rw [hX, List.append_assoc, List.append_assoc, List.take_append_of_le_length (by omega), List.take_of_length_le (by omega)]
  have e2 : C1.take (p + q) = A ++ B := by
    rw [h1, e1, List.take_append_of_le_length (by simp; omega), List.take_of_length_le (by simp; omega)]
  refine ⟨?_, ?_, hl1⟩
  · rw [h2, e2, List.append_assoc, List.take_append_of_le_length (by simp; omega), List.take_of_length_le (by simp; omega)]
  · rw [h2, e2]; simp; omega
end
end Go.Proofs.Ytlhfaildeemngaa
/- Contracts of package label: slices.Insert, slices.Delete on a row of rules of one's own. -/
namespace Go.Proofs.Ytlhfaildeemngaa
open Go.RowKit Go.Shelf

/-- A row of one's own that reads as these rules, written in place or made anew. -/
def RowOut (w : World) (base : Nat) (v : Value) (M : List Ru) (e : Ending) (w' : World) : Prop := ∃ v', e = .returned v' ∧ w'.ownsRow base 50 7 v' M.length (fcs ruA M) ∧ w.grownBy w' v.ownBlock
theorem sizeRule : (Try.prog.info? 50).map (·.size) = some 7 := by kernel_rfl
set_option maxRecDepth 100000 in
theorem insert_end {v : Value} {base : Nat} (L : List Ru) (r : Ru) (VB : Nat) (w : World) (hl : L.length ≤ 100000) (hrow : w.ownsRow base 50 7 v L.length (fcs ruA L)) (hbase : base ≤ w.heap.size) (hv : At w VB (ruA r) 50) :
    Calls Try.prog 30 #[v, .int .i64 (L.length : Int), .slice (some ⟨VB, 0, none⟩) 1 1] w (RowOut w base v (L ++ [r])) := by
  obtain ⟨i0, hi0, hz0, hz1, hz2⟩ := info_parts infoRule
  have hn : ∀ (j : Nat) (u : Value), (fcs ruA [r])[j]? = some u → w.cell? ((⟨VB, 0, none⟩ : Addr).add j) = some u := by
    intro j u h
    rw [add_none, hv.cell j, ← Array.getElem?_toList]
    simpa [fcs] using h
  have HN := Lib.hid hn
  have HR := Lib.hid hrow
  obtain ⟨A, c, rfl, hc1, hc2⟩ := row_slice hrow
  clear hn hrow hv
  go_enter Try.func30, Try.ntmps30
  go_wp2_with (at_builtin; refine wpList_append_own _ rfl _ _ 26 rfl base 50 i0 _ 7 48 Try.underlying26 hi0 hz0 hz1 hz2 rfl (by decide) _ _ _ rfl HR.out ⟨VB, 0, none⟩ 1 1 (fcs ruA [r]) rfl rfl HN.out (fcs_one ruA_one [r]) (by simp only [maxLen]; omega) (by omega) hbase ?_; intro v' w' h1 h2 h3; replace h2 : w.grownBy w' (Value.slice A L.length c).ownBlock := h2)
  all_goals go_ret
  all_goals exact ⟨v', rfl, by rw [fcs_append, List.length_append]; exact h1, by cases A <;> exact h2⟩

set_option maxRecDepth 100000 in
set_option maxHeartbeats 1000000 in
/-- There is room. -/
theorem insert_room {base g cap : Nat} {cur : Array Value} (L : List Ru) (i : Nat) (r : Ru) (VB : Nat) (w : World) (hi : i < L.length) (hl : L.length ≤ 100000) (hb : base ≤ g) (hA : At w g cur 50) (hcap : L.length + 1 ≤ cap) (hm : cap ≤ maxLen) (hs : cur.size = cap * 7) (hx : cur.toList.take (L.length * 7) = fcs ruA L) (hv : At w VB (ruA r) 50) (hne : VB ≠ g) :
    Calls Try.prog 30 #[.slice (some ⟨g, 0, none⟩) L.length cap, .int .i64 (i : Int), .slice (some ⟨VB, 0, none⟩) 1 1] w (RowOut w base (.slice (some ⟨g, 0, none⟩) L.length cap) (L.take i ++ [r] ++ L.drop i)) := by
  have hm' : cap ≤ 9223372036854775807 := by unfold maxLen at hm; omega
  obtain ⟨B, hB⟩ : ∃ B, B = fcs ruA (L.drop i) := ⟨_, rfl⟩
  obtain ⟨R, hR⟩ : ∃ R, R = (ruA r).toList := ⟨_, rfl⟩
  have hbl : B.length = (L.length - i) * 7 := by rw [hB, fcs_length ruA_size7, List.length_drop]
  have hrl : R.length = 7 := by rw [hR]; rfl
  have hB1 : ∀ u ∈ B, u.oneCell' = true := by rw [hB]; exact fcs_one ruA_one _
  have hR1 : ∀ u ∈ R, u.oneCell' = true := by rw [hR]; exact ruA_one r
  have hX : cur.toList = fcs ruA (L.take i) ++ B ++ cur.toList.drop (L.length * 7) := by
    conv => lhs; rw [← List.take_append_drop (L.length * 7) cur.toList, hx]
    rw [hB, ← fcs_append, List.take_append_drop]
  have hal : (fcs ruA (L.take i)).length = i * 7 := by rw [fcs_length ruA_size7, List.length_take, Nat.min_eq_left (by omega)]
  have hsl : 7 ≤ (cur.toList.drop (L.length * 7)).length := by rw [List.length_drop, Array.length_toList, hs]; omega
  obtain ⟨C1, hC1⟩ : ∃ C1, C1 = cur.toList.take (i * 7 + 7) ++ B ++ cur.toList.drop (i * 7 + 7 + (L.length - i) * 7) := ⟨_, rfl⟩
  obtain ⟨C2, hC2⟩ : ∃ C2, C2 = C1.take (i * 7) ++ R ++ C1.drop (i * 7 + 7) := ⟨_, rfl⟩
  obtain ⟨k1, k2, k3⟩ := shift_in hX hal hbl hrl hsl hC1 hC2
  have z1 : C1.toArray.size = cap * 7 := by rw [← hs, ← Array.length_toList (xs := cur), ← k3]; rfl
  have z2 : C2.toArray.size = cap * 7 := by rw [← hs, ← Array.length_toList (xs := cur), ← k2]; rfl
  have hsB : ∀ (W : World), (∀ x, W.cell? x = w.cell? x) → ∀ j u, B[j]? = some u → W.cell? ((⟨g, i * 7, none⟩ : Addr).add j) = some u := fun W hW j u h => by
    rw [addr_off, hW, hA.cell, ← Array.getElem?_toList, hX, List.append_assoc, List.getElem?_append_right (by omega), hal, show i * 7 + j - i * 7 = j by omega, List.getElem?_append_left (List.getElem?_eq_some_iff.1 h).1]
    exact h
  have hsR : ∀ (W : World), At W VB (ruA r) 50 → ∀ j u, R[j]? = some u → W.cell? ((⟨VB, 0, none⟩ : Addr).add j) = some u := fun W hW j u h => by
    rw [add_none, hW.cell j, ← Array.getElem?_toList, ← hR]; exact h
  have hcp1 : ∀ ty dc sc, (Builtin.copy_ #[26, 26] ty #[.slice (some ⟨g, (i + 1) * 7, none⟩) (L.length - i) dc, .slice (some ⟨g, i * 7, none⟩) (L.length + 1 - i) sc]).run Try.prog w.drew = .ok (goInt ((L.length - i : Nat) : Int)) (w.drew.setRow g C1.toArray) := fun ty dc sc => by
    have h := run_copy_rowk (P := Try.prog) w.drew 26 26 ty 50 7 g ((i + 1) * 7) (L.length - i) dc ⟨g, i * 7, none⟩ (L.length + 1 - i) sc cur 50 B (L.length - i) Try.underlying26 sizeRule hA (by simp only [Nat.min_def]; split <;> omega) hbl (hsB _ fun _ => rfl) (by rw [hs, hbl]; omega) hB1
    rw [h, hC1, hbl, show (i + 1) * 7 = i * 7 + 7 by omega]
  have A1 : At (w.drew.setRow g C1.toArray) g C1.toArray 50 := At.setRow (show At w.drew g cur 50 from hA) _
  have V1 : At (w.drew.setRow g C1.toArray) VB (ruA r) 50 := (show At w.drew VB (ruA r) 50 from hv).kept (grown_setRow _ _ _) (fun e => hne (Option.some.inj e))
  obtain ⟨W1, hW1⟩ : ∃ W1, W1 = w.drew.setRow g C1.toArray := ⟨_, rfl⟩
  rw [← hW1] at hcp1 A1 V1
  have hcp2 : ∀ ty dc, (Builtin.copy_ #[26, 26] ty #[.slice (some ⟨g, i * 7, none⟩) (L.length + 1 - i) dc, .slice (some ⟨VB, 0, none⟩) 1 1]).run Try.prog W1 = .ok (goInt 1) (W1.setRow g C2.toArray) := fun ty dc => by
    have h := run_copy_rowk (P := Try.prog) W1 26 26 ty 50 7 g (i * 7) (L.length + 1 - i) dc ⟨VB, 0, none⟩ 1 1 C1.toArray 50 R 1 Try.underlying26 sizeRule A1 (by simp only [Nat.min_def]; split <;> omega) (by rw [hrl]) (hsR _ V1) (by rw [z1, hrl]; omega) hR1
    rw [h, hrl, hC2]; rfl
  have hov : ∀ lb cb, (callFunc 55 #[.slice (some ⟨VB, 0, none⟩) 1 1, .slice (some ⟨g, (i + 1) * 7, none⟩) lb cb]).run Try.prog w = .ok (.value (.bool false)) w := fun lb cb => by
    rw [run_callFunc_extern Try.func55 (by kernel_rfl) (by kernel_rfl) (by kernel_rfl) (e := Extern.SlicesOverlaps.overlaps #[26, 26] #[4]) (by kernel_rfl),
      Lib.run_overlaps_apart w 26 4 50 Try.underlying26 7 Try.sizeOf50 ⟨VB, 0, none⟩ ⟨g, (i + 1) * 7, none⟩ 1 1 lb cb hne 50 50 7 (cap * 7) (shape_at hv) (by have := shape_at hA; rwa [hs] at this) (by omega) (hv.frozen 0) (hv.frozen 7)]
    rfl
  have HO := Lib.hid (show RowOut w base (.slice (some ⟨g, 0, none⟩) L.length cap) (L.take i ++ [r] ++ L.drop i) (.returned (.slice (some ⟨g, 0, none⟩) (L.length + 1) cap)) (W1.setRow g C2.toArray) from by
    have e1 : (L.take i ++ [r] ++ L.drop i).length = L.length + 1 := by simp; omega
    refine ⟨_, rfl, ?_, ?_⟩
    · rw [e1]
      refine own_of hb (At.setRow A1 _) (by omega) hm z2 ?_ (by rw [fcs_length ruA_size7, e1])
      simp only
      rw [show (L.length + 1) * 7 = i * 7 + 7 + (L.length - i) * 7 by omega, k1, fcs_append, fcs_append, hB, hR]
      simp [fcs]
    · rw [hW1]
      exact grown_tr2 (grown_of_drew (grown_setRow w.drew g _)) (grown_setRow _ _ _))
  have n1 : ¬ ((i : Int) = (L.length : Int)) := by omega
  have n2 : ¬ (cap = i) := by omega
  have n3 : ¬ (cap = i + 1) := by omega
  have j1 : IntKind.i64.wrap ((i : Int) + 1) = (i : Int) + 1 := IntWalk.i64_in _ (by omega)
  have j2 : IntKind.i64.wrap ((L.length : Int) + 1) = (L.length : Int) + 1 := IntWalk.i64_in _ (by omega)
  have t1 : ((i : Int) + 1).toNat = i + 1 := by omega
  have t2 : (0 : Int) ≤ (i : Int) + 1 := by omega
  have t4 : (i : Int) ≤ (L.length : Int) + 1 := by omega
  have t3 : i ≤ L.length := by omega
  have mixed : Try.prog.follows Departure.mixedOrders = true := by kernel_rfl
  clear k1 k2 k3 z1 z2 hC1 hC2 hX hal hsl hsB hsR hB1 hR1 hx hs hA A1 V1 hv hW1
  generalize L.length = N at *
  go_enter Try.func30, Try.ntmps30
  go_wp2_with (simp only [hov])
  go_region_law_o (refine step_copy_runI rfl _ _ 26 26 rfl _ _ (by simp [Act.eval, Act.put]) (by simp [Act.eval, Act.put]) (hcp1 _ _ _) ?_)
  go_wp2_with (at_builtin; refine wpList_copy_runI _ rfl _ _ 26 26 rfl _ _ rfl rfl (hcp2 _ _) ?_)
  go_ret
  exact HO.out

set_option maxRecDepth 100000 in
set_option maxHeartbeats 1000000 in
/-- There is none: a new row. -/
theorem insert_grow {base g cap : Nat} {cur : Array Value} (L : List Ru) (i : Nat) (r : Ru) (VB : Nat) (w : World) (hi : i < L.length) (hl : L.length ≤ 100000) (hbase : base ≤ w.heap.size) (hA : At w g cur 50) (hnc : L.length ≤ cap) (hcap : cap < L.length + 1) (hx : cur.toList.take (L.length * 7) = fcs ruA L) (hv : At w VB (ruA r) 50) :
    Calls Try.prog 30 #[.slice (some ⟨g, 0, none⟩) L.length cap, .int .i64 (i : Int), .slice (some ⟨VB, 0, none⟩) 1 1] w (RowOut w base (.slice (some ⟨g, 0, none⟩) L.length cap) (L.take i ++ [r] ++ L.drop i)) := by
  obtain ⟨i0, hi0, hz0, hz1, hz2⟩ := info_parts infoRule
  obtain ⟨z, hz⟩ : ∃ z, z = Value.agg #[.int .i64 0, .int .i64 0, .int .i64 0, .int .i64 0, .int .u32 0, .int .u32 0, .int .i64 0] := ⟨_, rfl⟩
  have hzs : z.cells.size = 7 := by rw [hz]; rfl
  rw [← hz] at hz0
  obtain ⟨B, hB⟩ : ∃ B, B = fcs ruA (L.drop i) := ⟨_, rfl⟩
  obtain ⟨R, hR⟩ : ∃ R, R = (ruA r).toList := ⟨_, rfl⟩
  obtain ⟨A, hAA⟩ : ∃ A, A = fcs ruA (L.take i) := ⟨_, rfl⟩
  have hbl : B.length = (L.length - i) * 7 := by rw [hB, fcs_length ruA_size7, List.length_drop]
  have hrl : R.length = 7 := by rw [hR]; rfl
  have hal : A.length = i * 7 := by rw [hAA, fcs_length ruA_size7, List.length_take, Nat.min_eq_left (by omega)]
  have hB1 : ∀ u ∈ B, u.oneCell' = true := by rw [hB]; exact fcs_one ruA_one _
  have hR1 : ∀ u ∈ R, u.oneCell' = true := by rw [hR]; exact ruA_one r
  have hX : cur.toList = A ++ B ++ cur.toList.drop (L.length * 7) := by
    conv => lhs; rw [← List.take_append_drop (L.length * 7) cur.toList, hx]
    rw [hAA, hB, ← fcs_append, List.take_append_drop]
  obtain ⟨G, hG⟩ : ∃ G, G = grownCap w (L.length + 1) cap 50 := ⟨_, rfl⟩
  have hGn : L.length + 1 ≤ G := by rw [hG]; exact grownCap_ge w _ _ _
  have hGm : G ≤ maxLen := by rw [hG]; exact grownCap_le_maxLen w _ _ _ (by unfold maxLen; omega)
  have hG63 : G ≤ 9223372036854775807 := by unfold maxLen at hGm; omega
  obtain ⟨ROW, hROW⟩ : ∃ ROW : Array Value, ROW = A.toArray ++ Builtin.zeroCells z.cells (L.length + 1 - i) ++ Builtin.zeroCells z.cells (G - (L.length + 1)) := ⟨_, rfl⟩
  have hRs : ROW.size = G * 7 := by
    rw [hROW]
    simp [Builtin.zeroCells, hzs, hal]
    omega
  have hRt : ROW.toList.take (i * 7) = A := by
    rw [hROW, Array.toList_append, Array.toList_append, List.append_assoc, ← hal, List.take_left']
    rfl
  obtain ⟨C1, hC1⟩ : ∃ C1, C1 = ROW.toList.take (i * 7) ++ R ++ ROW.toList.drop (i * 7 + 7) := ⟨_, rfl⟩
  obtain ⟨C2, hC2⟩ : ∃ C2, C2 = C1.take (i * 7 + 7) ++ B ++ C1.drop (i * 7 + 7 + (L.length - i) * 7) := ⟨_, rfl⟩
  obtain ⟨k1, k2, k3⟩ := grow_in hRt hal hbl hrl (by have e : ROW.toList.length = G * 7 := (Array.length_toList (xs := ROW)).trans hRs; omega) hC1 hC2
  have z1 : C1.toArray.size = G * 7 := by rw [← hRs, ← Array.length_toList (xs := ROW), ← k3]; rfl
  have z2 : C2.toArray.size = G * 7 := by rw [← hRs, ← Array.length_toList (xs := ROW), ← k2]; rfl
  have hold : (Builtin.firstCells i0.size i (.slice (some ⟨g, 0, none⟩) i cap)).run Try.prog w.drew = .ok A.toArray w.drew := by
    rw [hz1]
    exact run_firstCells_some w.drew 7 i ⟨g, 0, none⟩ i cap A hal (fun j v hj => by
      rw [add_none, (show At w.drew g cur 50 from hA).cell, ← Array.getElem?_toList, hX, List.append_assoc, List.getElem?_append_left (List.getElem?_eq_some_iff.1 hj).1]
      exact hj)
  have hrz : ∀ ty, (Builtin.append_ #[26, 3] ty #[.slice (some ⟨g, 0, none⟩) i cap, .int .i64 ((L.length : Int) + 1 - (i : Int))]).run Try.prog w =
      .ok (.slice (some ⟨w.heap.size, 0, none⟩) (L.length + 1) G) (w.drew.alloc (.cells ROW 50)) := fun ty => by
    have h := Lib.run_append_grow_zeros w 26 3 ty 50 i0 z .i64 .i64 Try.underlying26 Try.underlying3 hi0 hz0 (some ⟨g, 0, none⟩) i cap A hold (L.length + 1 - i) (by omega) (by omega) (by omega) (by omega) (by rw [hz2]; omega) (by rw [hz2, show i + (L.length + 1 - i) = L.length + 1 by omega]; exact growslice_fits hcap (by omega))
    rw [show i + (L.length + 1 - i) = L.length + 1 by omega, ← hG, ← hROW] at h
    rw [show (L.length : Int) + 1 - (i : Int) = ((L.length + 1 - i : Nat) : Int) by omega]
    exact h
  have hgw := hA.lt
  have hvw := hv.lt
  have hcpA : ∀ (W : World), W.heap = (w.alloc (.cells ROW 50)).heap → ∀ ty dc, (Builtin.copy_ #[26, 26] ty #[.slice (some ⟨w.heap.size, i * 7, none⟩) (L.length + 1 - i) dc, .slice (some ⟨VB, 0, none⟩) 1 1]).run Try.prog W = .ok (goInt 1) (W.setRow w.heap.size C1.toArray) := fun W hW ty dc => by
    have a1 : At W w.heap.size ROW 50 := by unfold At; rw [hW]; exact At.new w _ _
    have v1 : At W VB (ruA r) 50 := by unfold At; rw [hW]; exact hv.alloc _
    have h := run_copy_rowk (P := Try.prog) W 26 26 ty 50 7 w.heap.size (i * 7) (L.length + 1 - i) dc ⟨VB, 0, none⟩ 1 1 ROW 50 R 1 Try.underlying26 sizeRule a1 (by simp only [Nat.min_def]; split <;> omega) (by rw [hrl]) (fun j u h => by rw [add_none, v1.cell j, ← Array.getElem?_toList, ← hR]; exact h) (by rw [hRs, hrl]; omega) hR1
    rw [h, hrl, hC1]; rfl
  have hcpB : ∀ (W : World), W.heap = ((w.alloc (.cells ROW 50)).setRow w.heap.size C1.toArray).heap → ∀ ty dc sc, (Builtin.copy_ #[26, 26] ty #[.slice (some ⟨w.heap.size, (i + 1) * 7, none⟩) (L.length - i) dc, .slice (some ⟨g, i * 7, none⟩) (L.length - i) sc]).run Try.prog W = .ok (goInt ((L.length - i : Nat) : Int)) (W.setRow w.heap.size C2.toArray) := fun W hW ty dc sc => by
    have a1 : At W w.heap.size C1.toArray 50 := by unfold At; rw [hW]; exact At.setRow (At.new w ROW 50) _
    have a2 : At W g cur 50 := by unfold At; rw [hW]; exact (hA.alloc _).kept (grown_setRow _ _ _) (fun e => by cases e; omega)
    have h := run_copy_rowk (P := Try.prog) W 26 26 ty 50 7 w.heap.size ((i + 1) * 7) (L.length - i) dc ⟨g, i * 7, none⟩ (L.length - i) sc C1.toArray 50 B (L.length - i) Try.underlying26 sizeRule a1 (by simp only [Nat.min_def]; split <;> omega) hbl (fun j u h => by
      rw [addr_off, a2.cell, ← Array.getElem?_toList, hX, List.append_assoc, List.getElem?_append_right (by omega), hal, show i * 7 + j - i * 7 = j by omega, List.getElem?_append_left (List.getElem?_eq_some_iff.1 h).1]
      exact h) (by rw [z1, hbl]; omega) hB1
    rw [h, hC2, hbl, show (i + 1) * 7 = i * 7 + 7 by omega]
  have HO := Lib.hid (show ∀ W : World, W.heap = (((w.alloc (.cells ROW 50)).setRow w.heap.size C1.toArray).setRow w.heap.size C2.toArray).heap → W.os = w.os → W.tape = w.tape → W.output = w.output → RowOut w base (.slice (some ⟨g, 0, none⟩) L.length cap) (L.take i ++ [r] ++ L.drop i) (.returned (.slice (some ⟨w.heap.size, 0, none⟩) (L.length + 1) G)) W from fun W hW h1 h2 h3 => by
    have e1 : (L.take i ++ [r] ++ L.drop i).length = L.length + 1 := by simp; omega
    refine ⟨_, rfl, ?_, ?_⟩
    · rw [e1]
      refine own_of hbase (cur := C2.toArray) (by unfold At; rw [hW]; exact At.setRow (At.setRow (At.new w ROW 50) _) _) hGn hGm z2 ?_ (by rw [fcs_length ruA_size7, e1])
      simp only
      rw [show (L.length + 1) * 7 = i * 7 + 7 + (L.length - i) * 7 by omega, k1, fcs_append, fcs_append, hB, hR, hAA]
      simp [fcs]
    · refine ⟨h1, h2, h3, ?_, fun k hk _ => ?_⟩
      · rw [hW]; simp
      · rw [hW, setRow_other _ _ _ _ (by omega), setRow_other _ _ _ _ (by omega)]; exact (World.grownBy_alloc w _ none).block k hk (by simp))
  have n1 : ¬ ((i : Int) = (L.length : Int)) := by omega
  have n2 : ¬ (G = i) := by omega
  have n3 : ¬ (G = i + 1) := by omega
  have n4 : ¬ (cap = i) := by omega
  have n5 : (cap : Int) < (L.length : Int) + 1 := by omega
  have n6 : (i : Int) ≤ (L.length : Int) := by omega
  have j1 : IntKind.i64.wrap ((i : Int) + 1) = (i : Int) + 1 := IntWalk.i64_in _ (by omega)
  have j2 : IntKind.i64.wrap ((L.length : Int) + 1) = (L.length : Int) + 1 := IntWalk.i64_in _ (by omega)
  have j3 : IntKind.i64.wrap ((L.length : Int) + 1 - (i : Int)) = (L.length : Int) + 1 - (i : Int) := IntWalk.i64_in _ (by omega)
  have t1 : ((i : Int) + 1).toNat = i + 1 := by omega
  have t2 : (0 : Int) ≤ (i : Int) + 1 := by omega
  have t4 : (i : Int) ≤ (L.length : Int) + 1 := by omega
  have t3 : i ≤ L.length := by omega
  have mixed : Try.prog.follows Departure.mixedOrders = true := by kernel_rfl
  clear k1 k2 k3 z1 z2 hC1 hC2 hX hal hB1 hR1 hx hA hv hold hRs hRt hROW hG hGm
  generalize L.length = N at *
  have hE : ((w.alloc (.cells ROW 50)).drew).heap = (w.alloc (.cells ROW 50)).heap := rfl
  have hF : (((w.alloc (.cells ROW 50)).drew.setRow w.heap.size C1.toArray).drew).heap = ((w.alloc (.cells ROW 50)).setRow w.heap.size C1.toArray).heap := rfl
  go_enter Try.func30, Try.ntmps30
  go_wp2_with (first
    | (at_builtin; refine Lib.wpList_append_run _ rfl _ _ _ _ rfl _ _ rfl rfl _ _ (hrz _) ?_)
    | (at_builtin; refine wpList_copy_runI _ rfl _ _ 26 26 rfl _ _ rfl rfl (hcpA _ hE _ _) ?_))
  go_region_law_o (refine step_copy_runI rfl _ _ 26 26 rfl _ _ (by simp [Act.eval, Act.put]) (by simp [Act.eval, Act.put]) (hcpB _ hF _ _ _) ?_)
  go_wp2
  go_ret
  exact HO.out _ rfl rfl rfl rfl
end Go.Proofs.Ytlhfaildeemngaa
/- Contracts of package label: slices.Insert, slices.Delete on a row of rules of one's own, any way. -/
namespace Go.Proofs.Ytlhfaildeemngaa
open Go.RowKit Go.Shelf

/-- A rule comes in. -/
theorem insert_any {v : Value} {base : Nat} (L : List Ru) (i : Nat) (r : Ru) (VB : Nat) (w : World) (hi : i ≤ L.length) (hl : L.length ≤ 100000) (hrow : w.ownsRow base 50 7 v L.length (fcs ruA L)) (hbase : base ≤ w.heap.size) (hv : At w VB (ruA r) 50) (hne : v.ownBlock ≠ some VB) :
    Calls Try.prog 30 #[v, .int .i64 (i : Int), .slice (some ⟨VB, 0, none⟩) 1 1] w (RowOut w base v (L.take i ++ [r] ++ L.drop i)) := by
  by_cases h : i = L.length
  · subst h
    have := insert_end L r VB w hl hrow hbase hv
    simpa using this
  · have hlt : i < L.length := by omega
    rcases hrow.2 with ⟨_, h0⟩ | ⟨g, cap, cur, rfl, hb, hA, hnc, hm, hs, hx⟩
    · omega
    · have hne' : VB ≠ g := fun e => hne (by simp [Value.ownBlock, e])
      by_cases hc : L.length + 1 ≤ cap
      · exact insert_room L i r VB w hlt hl hb hA hc hm hs hx hv hne'
      · exact insert_grow L i r VB w hlt hl hbase hA hnc (by omega) hx hv
set_option maxRecDepth 100000 in
set_option maxHeartbeats 1000000 in
theorem delete_row {base g cap M : Nat} {cur : Array Value} (L : List Ru) (i : Nat) (w : World) (hM : L.length = M + 1) (hi : i ≤ M) (hl : M ≤ 100000) (hb : base ≤ g) (hA : At w g cur 50) (hnc : M + 1 ≤ cap) (hm : cap ≤ maxLen) (hs : cur.size = cap * 7) (hx : cur.toList.take (L.length * 7) = fcs ruA L) :
    Calls Try.prog 31 #[.slice (some ⟨g, 0, none⟩) (M + 1) cap, .int .i64 (i : Int), .int .i64 ((i : Int) + 1)] w (RowOut w base (.slice (some ⟨g, 0, none⟩) (M + 1) cap) (L.take i ++ L.drop (i + 1))) := by
  obtain ⟨i0, hi0, hz0, hz1, hz2⟩ := info_parts infoRule
  have hm' : cap ≤ 9223372036854775807 := by unfold maxLen at hm; omega
  obtain ⟨z, hz⟩ : ∃ z, z = Value.agg #[.int .i64 0, .int .i64 0, .int .i64 0, .int .i64 0, .int .u32 0, .int .u32 0, .int .i64 0] := ⟨_, rfl⟩
  obtain ⟨B, hB⟩ : ∃ B, B = fcs ruA (L.drop (i + 1)) := ⟨_, rfl⟩
  obtain ⟨R, hR⟩ : ∃ R, R = fcs ruA [L[i]'(by omega)] := ⟨_, rfl⟩
  obtain ⟨A, hAA⟩ : ∃ A, A = fcs ruA (L.take i) := ⟨_, rfl⟩
  obtain ⟨Z, hZ⟩ : ∃ Z, Z = (Builtin.zeroCells z.cells 1).toList := ⟨_, rfl⟩
  have hzc : z.cells = #[.int .i64 0, .int .i64 0, .int .i64 0, .int .i64 0, .int .u32 0, .int .u32 0, .int .i64 0] := by rw [hz]; rfl
  have hzl : Z.length = 7 := by rw [hZ]; simp [Builtin.zeroCells, hzc]
  have hbl : B.length = (M - i) * 7 := by rw [hB, fcs_length ruA_size7, List.length_drop, hM]; omega
  have hrl : R.length = 7 := by rw [hR, fcs_length ruA_size7]; rfl
  have hal : A.length = i * 7 := by rw [hAA, fcs_length ruA_size7, List.length_take, Nat.min_eq_left (by omega)]
  have hB1 : ∀ u ∈ B, u.oneCell' = true := by rw [hB]; exact fcs_one ruA_one _
  have hZ1 : ∀ u ∈ Z, u.oneCell' = true := by
    rw [hZ]
    intro u hu
    simp only [Builtin.zeroCells, hzc, Array.toList_map, List.mem_map] at hu
    obtain ⟨k, _, rfl⟩ := hu
    have h7 : k % 7 < 7 := Nat.mod_lt _ (by omega)
    generalize k % 7 = q at h7
    match q, h7 with
    | 0, _ => rfl
    | 1, _ => rfl
    | 2, _ => rfl
    | 3, _ => rfl
    | 4, _ => rfl
    | 5, _ => rfl
    | 6, _ => rfl
  have hX : cur.toList = A ++ R ++ B ++ cur.toList.drop (L.length * 7) := by
    conv => lhs; rw [← List.take_append_drop (L.length * 7) cur.toList, hx]
    rw [hAA, hB, hR, ← fcs_append, ← fcs_append]
    congr 2
    rw [List.append_assoc, List.singleton_append, ← List.drop_eq_getElem_cons, List.take_append_drop]
  obtain ⟨C1, hC1⟩ : ∃ C1, C1 = cur.toList.take (i * 7) ++ B ++ cur.toList.drop (i * 7 + (M - i) * 7) := ⟨_, rfl⟩
  obtain ⟨C2, hC2⟩ : ∃ C2, C2 = C1.take (i * 7 + (M - i) * 7) ++ Z ++ C1.drop (i * 7 + (M - i) * 7 + 7) := ⟨_, rfl⟩
  obtain ⟨k1, k2, k3⟩ := shift_out hX hal hbl hrl hzl hC1 hC2
  have z1 : C1.toArray.size = cap * 7 := by rw [← hs, ← Array.length_toList (xs := cur), ← k3]; rfl
  have z2 : C2.toArray.size = cap * 7 := by rw [← hs, ← Array.length_toList (xs := cur), ← k2]; rfl
  obtain ⟨AD, hAD, hsrc⟩ : ∃ AD : Addr, (if cap = i + 1 then some (⟨g, 0, none⟩ : Addr) else some ⟨g, (i + 1) * 7, none⟩) = some AD ∧ ∀ j u, B[j]? = some u → w.drew.cell? (AD.add j) = some u := by
    by_cases h : cap = i + 1
    · refine ⟨⟨g, 0, none⟩, by simp [h], fun j u hu => ?_⟩
      have h0 : B.length = 0 := by rw [hbl]; omega
      rw [List.length_eq_zero_iff.1 h0] at hu
      simp at hu
    · refine ⟨⟨g, (i + 1) * 7, none⟩, by simp [h], fun j u hu => ?_⟩
      rw [addr_off, (show At w.drew g cur 50 from hA).cell, ← Array.getElem?_toList, hX, List.append_assoc, List.getElem?_append_right (by rw [List.length_append]; omega), List.length_append, hal, hrl, show (i + 1) * 7 + j - (i * 7 + 7) = j by omega, List.getElem?_append_left (List.getElem?_eq_some_iff.1 hu).1]
      exact hu
  have hap : ∀ ty sc, (Builtin.append_ #[26, 26] ty #[.slice (some ⟨g, 0, none⟩) i cap, .slice (some AD) (M - i) sc]).run Try.prog w.drew = .ok (.slice (some ⟨g, 0, none⟩) M cap) (w.drew.setRow g C1.toArray) := fun ty sc => by
    have h := run_append_rowk (P := Try.prog) w.drew 26 26 ty 50 50 i0 Try.underlying26 Try.underlying26 hi0 g i cap AD (M - i) sc cur 50 B hA (by rw [hz1]; exact hbl) hsrc (by omega) (by rw [hz1, hs, hbl]; omega) hB1
    rw [h, hz1, hbl, hC1, show i + (M - i) = M by omega]
  have A1 : At (w.drew.setRow g C1.toArray) g C1.toArray 50 := At.setRow (show At w.drew g cur 50 from hA) _
  obtain ⟨W1, hW1⟩ : ∃ W1, W1 = w.drew.setRow g C1.toArray := ⟨_, rfl⟩
  rw [← hW1] at hap A1
  have hcl : ∀ ty, (Builtin.clear_ #[26] ty #[.slice (some ⟨g, M * 7, none⟩) 1 (cap - M)]).run Try.prog W1 = .ok (.tuple #[]) (W1.setRow g C2.toArray) := fun ty => by
    have h := run_clear_rowk (P := Try.prog) W1 26 50 ty z Try.underlying26 (fun w => by rw [hz]; exact Try.zeroValue50 w) g (M * 7) 1 (cap - M) C1.toArray 50 A1 (by omega) Z hZ.symm (by rw [z1, hzl]; omega) hZ1
    rw [h, hzl, hC2, show i * 7 + (M - i) * 7 = M * 7 by omega]
  have HO := Lib.hid (show RowOut w base (.slice (some ⟨g, 0, none⟩) (M + 1) cap) (L.take i ++ L.drop (i + 1)) (.returned (.slice (some ⟨g, 0, none⟩) M cap)) (W1.setRow g C2.toArray) from by
    have e1 : (L.take i ++ L.drop (i + 1)).length = M := by simp; omega
    refine ⟨_, rfl, ?_, ?_⟩
    · rw [e1]
      refine own_of hb (At.setRow A1 _) (by omega) hm z2 ?_ (by rw [fcs_length ruA_size7, e1])
      simp only
      rw [show M * 7 = i * 7 + (M - i) * 7 by omega, k1, fcs_append, hB, hAA]
    · rw [hW1]
      exact grown_tr2 (grown_of_drew (grown_setRow w.drew g _)) (grown_setRow _ _ _))
  have n1 : ¬ ((i : Int) = (i : Int) + 1) := by omega
  have n2 : ¬ (cap = M) := by omega
  have n3 : i ≤ cap := by omega
  have n4 : i ≤ M + 1 := by omega
  have n5 : (i : Int) + 1 ≤ (M : Int) + 1 := by omega
  have n6 : M ≤ cap := by omega
  have n7 : (0 : Int) ≤ (i : Int) + 1 := by omega
  have n8 : (i : Int) ≤ (i : Int) + 1 := by omega
  have n9 : (M : Int) ≤ (M : Int) + 1 := by omega
  have n10 : (M : Int) + 1 ≤ (cap : Int) := by omega
  have t1 : ((i : Int) + 1).toNat = i + 1 := by omega
  have t2 : ((M : Int) + 1).toNat = M + 1 := by omega
  have mixed : Try.prog.follows Departure.mixedOrders = true := by kernel_rfl
  clear k1 k2 k3 z1 z2 hC1 hC2 hX hal hsrc hB1 hZ1 hx hs hA A1 hW1
  go_enter Try.func31, Try.ntmps31
  go_wp2_with fail
  go_region_law_o (refine step_app_run rfl (.tmp 22) (.tmp 25) 26 26 rfl (.slice (some ⟨g, 0, none⟩) i cap) (.slice (some AD) (M - i) (cap - (i + 1))) (by simp [Act.eval, Act.put]) (by simp [Act.eval, Act.put]) (hap 26 (cap - (i + 1))) ?_)
  go_wp2
  go_ret
  exact HO.out
end Go.Proofs.Ytlhfaildeemngaa
/- Contracts of package label: sort.Search over any closure; place: where the rule with an ID stands, or would stand. -/
namespace Go.Proofs.Ytlhfaildeemngaa
open Go.RowKit Go.Shelf

/-- What is asked of a predicate that is looked for. -/
def AskAt (g : Nat) (lb : Array Value) (n : Nat) (p : Nat → Bool) (w : World) : Prop :=
  ∀ k, k < n → ∀ W, Below w.heap.size w W → Calls Try.prog g (#[.int .i64 (k : Int)] ++ lb) W fun e W' => e = .returned (.bool (p k)) ∧ Below W.heap.size W W'
set_option maxRecDepth 100000 in
set_option maxHeartbeats 1000000 in
theorem sortSearch_any (g : Nat) (lb : Array Value) (eg : ∀ args w, (callFunc g args).run Try.prog w = .ok (.enter g args) w) (n : Nat) (p : Nat → Bool) (w : World) (hn : n ≤ 1000000000) (hp : AskAt g lb n p w) (hm : ∀ a b, a ≤ b → b < n → p a = true → p b = true) :
    Calls Try.prog 53 #[.int .i64 (n : Int), .func (.func g) #[] lb] w fun e w' => ∃ i : Nat, e = .returned (.int .i64 (i : Int)) ∧ i ≤ n ∧ (∀ j, j < i → p j = false) ∧ (∀ j, i ≤ j → j < n → p j = true) ∧ Below w.heap.size w w' := by
  have HP := Lib.hid hp
  have HM := Lib.hid hm
  clear hp hm
  go_enter Try.func53, Try.ntmps53
  go_wp2
  go_loopw [5, 6] (fun s t wr => ∃ i j : Nat, s = .int .i64 i ∧ t = .int .i64 j ∧ i ≤ j ∧ j ≤ n ∧ Hid ((∀ q, q < i → p q = false) ∧ (∀ q, j ≤ q → q < n → p q = true)) ∧ Below w.heap.size w wr) (fun s t _ => (intOf t).toNat - (intOf s).toNat)
  case atStart => exact ⟨0, n, rfl, rfl, by omega, by omega, Lib.hid ⟨fun q hq => by omega, fun q h1 h2 => by omega⟩, Below.refl _ _⟩
  case round =>
    obtain ⟨i, j, rfl, rfl, hij, hj, HB, hb⟩ := hrel
    by_cases hlt : i < j
    · have hm2 : (i + j) / 2 < n := by omega
      have k1 : ((i : Int) + (j : Int)).fdiv (2 ^ min (Int.toNat 1) IntKind.u64.bits) = ((i : Int) + (j : Int)) / 2 := by
        show ((i : Int) + (j : Int)).fdiv 2 = _
        rw [Int.fdiv_eq_ediv_of_nonneg _ (by omega)]
      have hcall := HP.out ((i + j) / 2) hm2 wr hb
      have e2 : (((i + j) / 2 : Nat) : Int) = ((i : Int) + (j : Int)) / 2 := by omega
      rw [e2] at hcall
      cases hq : p ((i + j) / 2) with
      | true =>
        rw [hq] at hcall
        have HU := Lib.hid (show (∀ q, q < i → p q = false) ∧ (∀ q, (i + j) / 2 ≤ q → q < n → p q = true) from ⟨HB.out.1, fun q h1 h2 => HM.out _ q h1 h2 hq⟩)
        clear hq
        go_wp2_with (go_at_fn g; refine hcall.mono ?_; rintro e w' ⟨rfl, hb'⟩)
        go_roundw
        case rel => exact ⟨i, (i + j) / 2, rfl, by go_num, by omega, by omega, HU, hb.trans (hb'.mono hb.size)⟩
        case measure => simp [intOf]; omega
      | false =>
        rw [hq] at hcall
        have HU := Lib.hid (show (∀ q, q < (i + j) / 2 + 1 → p q = false) ∧ (∀ q, j ≤ q → q < n → p q = true) from ⟨fun q h => by
          cases hpq : p q with
          | false => rfl
          | true => exact absurd (HM.out q ((i + j) / 2) (by omega) hm2 hpq) (by rw [hq]; decide), HB.out.2⟩)
        clear hq
        go_wp2_with (go_at_fn g; refine hcall.mono ?_; rintro e w' ⟨rfl, hb'⟩)
        go_roundw
        case rel => exact ⟨(i + j) / 2 + 1, j, by go_num, rfl, by omega, hj, HU, hb.trans (hb'.mono hb.size)⟩
        case measure => simp [intOf]; omega
    · obtain rfl : i = j := by omega
      go_wp2
      go_ret
      exact ⟨i, rfl, hj, HB.out.1, HB.out.2, hb⟩
/-- The ID of the rule at a place. -/
def idAt (L : List Ru) (k : Nat) : Int := if h : k < L.length then L[k].id else 0
theorem idAt_in {L : List Ru} {k : Nat} (h : k < L.length) : idAt L k = L[k].id := dif_pos h
set_option maxRecDepth 100000 in
theorem place1_any (L : List Ru) (id : Int) (A : Option Addr) (c k LB IB : Nat) (w : World) (hk : k < L.length) (_h1 : L.length ≤ c) (_h2 : c ≤ maxLen) (hl : At w LB #[.slice A L.length c] 26) (hi : At w IB #[.int .i64 id] 3) (hz : Rs w A L) :
    Calls Try.prog 54 #[.int .i64 (k : Int), .pointer (some ⟨LB, 0, none⟩), .pointer (some ⟨IB, 0, none⟩)] w fun e w' => e = .returned (.bool (decide (id ≤ idAt L k))) ∧ Below w.heap.size w w' := by
  have c0 := (hl.cell 0).trans rfl
  have c1 := (hi.cell 0).trans rfl
  obtain ⟨g, o, rfl, _, r0, _⟩ := hz.at k hk
  rw [idAt_in hk]
  have i0 : (0 : Int) ≤ (k : Int) := by omega
  have i1 : (k : Int) < (L.length : Int) := by omega
  generalize L[k].id = x at r0 ⊢
  clear hl hi hz
  go_enter Try.func54, Try.ntmps54
  go_wp2_with fail
  go_quiet (fail)
  go_wp2
  go_ret
  exact ⟨rfl, bdrewN (Below.refl _ _) nq⟩
end Go.Proofs.Ytlhfaildeemngaa
/- Contract: a table with a range once more, or once less. -/
namespace Go.Proofs.Ytlhfaildeemngaa.Tr
open Go.RowKit Go.Shelf

/-- How far the counts of boundaries are turned. -/
def Far (s : Int) (g : Int → Nat) (C : List Int) (k : Nat) (q : Int → Nat) : Prop := (s = 1 ∧ ∀ j, q j = g j + (C.take k).count j) ∨ (s = -1 ∧ ∀ j, g j = q j + (C.take k).count j)
/-- A range once more, or once less. -/
def Chg (s : Int) (r : Nat × Nat) (L M : List (Nat × Nat)) : Prop := (s = 1 ∧ M = L ++ [r] ∧ RL M) ∨ (s = -1 ∧ r ∈ L ∧ M = L.erase r)
theorem Chg.zero {s : Int} {r : Nat × Nat} {L M : List (Nat × Nat)} (h : Chg s r L M) (g : Int → Nat) (C : List Int) : Far s g C 0 g := by
  rcases h with ⟨h, _⟩ | ⟨h, _⟩
  · exact .inl ⟨h, fun j => by simp⟩
  · exact .inr ⟨h, fun j => by simp⟩
theorem count_take_succ {C : List Int} {k : Nat} (hk : k < C.length) (j : Int) : (C.take (k + 1)).count j = (C.take k).count j + if j = C[k] then 1 else 0 := by
  rw [List.take_succ_eq_append_getElem hk, List.count_append, List.count_singleton]
  congr 1
  by_cases h : j = C[k]
  · simp [h]
  · rw [if_neg h, if_neg (by simpa using fun e => h e.symm)]
theorem count_take_le {C : List Int} {k : Nat} (j : Int) : (C.take k).count j ≤ C.count j := (List.take_sublist k C).count_le j
theorem Chg.next {s : Int} {r : Nat × Nat} {L M : List (Nat × Nat)} (h : Chg s r L M) {k : Nat} {q : Int → Nat} (hf : Far s (nC L) (cutsR r) k q) (hk : k < (cutsR r).length) :
    ∃ q', Stp s (cutsR r)[k] q q' ∧ Far s (nC L) (cutsR r) (k + 1) q' := by
  rcases hf with ⟨rfl, hq⟩ | ⟨rfl, hq⟩
  · exact ⟨fun j => q j + if j = (cutsR r)[k] then 1 else 0, .inl ⟨rfl, fun j => rfl⟩, .inl ⟨rfl, fun j => by show q j + _ = _; rw [hq, count_take_succ hk]; omega⟩⟩
  · rcases h with ⟨h, _⟩ | ⟨_, hr, _⟩
    · cases h
    · have key : ∀ j, q j = (q j - if j = (cutsR r)[k] then 1 else 0) + if j = (cutsR r)[k] then 1 else 0 := fun j => by
        have h1 := nC_erase hr j
        have h2 := hq j
        have h3 := count_take_le (C := cutsR r) (k := k + 1) j
        rw [count_take_succ hk] at h3
        split at h3 <;> rename_i e
        · rw [if_pos e]; omega
        · rw [if_neg e]; omega
      refine ⟨fun j => q j - if j = (cutsR r)[k] then 1 else 0, .inr ⟨rfl, key⟩, .inr ⟨rfl, fun j => ?_⟩⟩
      have := key j
      show _ = (q j - if j = (cutsR r)[k] then 1 else 0) + _
      rw [hq, count_take_succ hk]
      omega
theorem nC_le (X : List (Nat × Nat)) (j : Int) : nC X j ≤ 2 * X.length := Nat.le_trans List.count_le_length (flat_len X)
theorem nR_le (X : List (Nat × Nat)) (j : Int) : nR X j ≤ X.length := by
  have : nR X j ≤ (X.map keyI).length := List.count_le_length
  simpa using this
theorem Chg.bound {s : Int} {r : Nat × Nat} {L M : List (Nat × Nat)} (hL : RL L) (h : Chg s r L M) {k : Nat} {q : Int → Nat} (hf : Far s (nC L) (cutsR r) k q) {P : List (Int × Int)} (hT : Tal P q) : P.length < 1024 ∧ ∀ j, q j ≤ 1000 := by
  have key : ∃ X : List (Nat × Nat), X.length ≤ 500 ∧ ∀ j, q j ≤ nC X j := by
    rcases hf with ⟨rfl, hq⟩ | ⟨rfl, hq⟩
    · rcases h with ⟨_, rfl, hM⟩ | ⟨h, _⟩
      · refine ⟨L ++ [r], hM.2, fun j => ?_⟩
        rw [nC_snoc, hq]
        have := count_take_le (C := cutsR r) (k := k) j
        omega
      · cases h
    · exact ⟨L, hL.2, fun j => by have := hq j; omega⟩
  obtain ⟨X, hX, hq⟩ := key
  constructor
  · have := rise_len (ks := X.flatMap cutsR) hT.rise fun a ha => List.count_pos_iff.1 (Nat.lt_of_lt_of_le ((hT.mem a).1 ha) (hq a))
    have := flat_len X
    simp at *; omega
  · intro j; have := hq j; have := nC_le X j; omega
theorem Chg.fin {s : Int} {r : Nat × Nat} {L M : List (Nat × Nat)} (h : Chg s r L M) {q : Int → Nat} (hf : Far s (nC L) (cutsR r) (cutsR r).length q) : q = nC M := by
  funext j
  unfold Far at hf
  rw [List.take_length] at hf
  rcases hf with ⟨rfl, hq⟩ | ⟨rfl, hq⟩
  · rcases h with ⟨_, rfl, _⟩ | ⟨h, _⟩
    · rw [nC_snoc, hq]
    · cases h
  · rcases h with ⟨h, _⟩ | ⟨_, hr, rfl⟩
    · cases h
    · have := nC_erase hr j; have := hq j; omega
theorem Chg.stp {s : Int} {r : Nat × Nat} {L M : List (Nat × Nat)} (h : Chg s r L M) : Stp s (keyI r) (nR L) (nR M) := by
  rcases h with ⟨h, rfl, _⟩ | ⟨h, hr, rfl⟩
  · exact .inl ⟨h, fun j => nR_snoc r L j⟩
  · exact .inr ⟨h, fun j => nR_erase hr j⟩
theorem Chg.rl {s : Int} {r : Nat × Nat} {L M : List (Nat × Nat)} (hL : RL L) (h : Chg s r L M) : RL M ∧ (L.length : Int) + s = (M.length : Int) ∧ (s = 1 ∨ s = -1) ∧ r.1 ≤ r.2 ∧ r.2 < 4294967296 := by
  rcases h with ⟨h, rfl, hM⟩ | ⟨h, hr, rfl⟩
  · have := hM.1 r (by simp)
    exact ⟨hM, by simp [h], .inl h, this.1, this.2⟩
  · have h1 := List.length_erase_of_mem hr
    have h2 := List.length_pos_of_mem hr
    have := hL.1 r hr
    exact ⟨hL.erase r, by omega, .inr h, this.1, this.2⟩
theorem IsC.belows {w w' : World} {v : Value} {C : List Int} (h : IsC w v C) (hb : Below w.heap.size w w') : IsC w' v C := by
  obtain ⟨A, c, e, h3⟩ := h
  refine ⟨A, c, e, fun hn => ?_⟩
  obtain ⟨g, e, hg, hc⟩ := h3 hn
  exact ⟨g, e, Nat.lt_of_lt_of_le hg hb.size, fun k hk => (hb.cell (p := ⟨g, k, none⟩) hg).trans (hc k hk)⟩
/-- Where the loop over the boundaries stands. -/
def CF (s : Int) (r : Nat × Nat) (L : List (Nat × Nat)) (w1 : World) (k : Nat) (cv : Value) (W : World) : Prop := ∃ P q, IsTree W cv P ∧ Tal P q ∧ Far s (nC L) (cutsR r) k q ∧ Below w1.heap.size w1 W
set_option maxRecDepth 100000 in
set_option maxHeartbeats 2000000 in
theorem changed_any {v : Value} (s : Int) (f t : Nat) (L M : List (Nat × Nat)) (w : World) (h : IsTab w v L) (hc : Chg s (f, t) L M) : Calls Try.prog 66 #[v, .agg #[.int .u32 f, .int .u32 t], .int .i64 s] w fun e w' => ∃ v', e = .returned v' ∧ IsTab w' v' M ∧ Below w.heap.size w w' := by
  have HT := Lib.hid h
  obtain ⟨hL, B, vr, vc, R, C, rfl, ha, ir, ic, tr, tc⟩ := h
  obtain ⟨hM, hlen, hs, hft, ht⟩ := hc.rl hL
  have hf : f < 4294967296 := by simp at hft ht; omega
  simp only at ht
  have hLl := hL.2
  have HC := Lib.hid hc
  have HL := Lib.hid (And.intro hL hM)
  obtain ⟨pr, rfl⟩ := ir.ptr
  obtain ⟨pc, rfl⟩ := ic.ptr
  have A0 := At.new w #[.int .u32 f, .int .u32 t] 43
  have b0 : Below w.heap.size w (w.alloc (.cells #[.int .u32 f, .int .u32 t] 43)) := (Below.refl _ w).alloc (Nat.le_refl _) _
  have a0 := ha.belows b0
  have c1 := (a0.cell 1).trans rfl
  clear hc hL hM hft
  go_enter Try.func66, Try.ntmps66
  go_wp2_with fail
  refine (cutsOf_any f t _ hf ht).mono ?_
  rintro e w1 ⟨v1, rfl, ⟨Ac, cc, rfl, hcc⟩, b1⟩
  have bb1 := b0.trans (b1.mono b0.size)
  have A1 := A0.belows b1
  have a1 := a0.belows b1
  have HI := Lib.hid (And.intro (ir.belows bb1) (ic.belows bb1))
  have HTT := Lib.hid (And.intro tr tc)
  have HCC : Hid (∀ W, Below w1.heap.size w1 W → IsC W (.slice Ac (cutsR (f, t)).length cc) (cutsR (f, t))) := Lib.hid fun W hW => (show IsC w1 _ _ from ⟨Ac, cc, rfl, hcc⟩).belows hW
  have h2 := cutsR_len (f, t)
  have HK : Hid (∀ W, Below w1.heap.size w1 W → At W B #[.pointer pr, .pointer pc, .int .i64 (L.length : Int)] 89 ∧ At W w.heap.size #[.int .u32 f, .int .u32 t] 43) := Lib.hid fun W hW => ⟨a1.belows hW, A1.belows hW⟩
  have HB1 := Lib.hid bb1
  clear hcc ir ic tr tc A0 a0 A1 a1 c1 b0 b1 ha bb1
  go_wp2
  go_loopw [7, 17] (fun cv i wr => ∃ k : Nat, i = .int .i64 k ∧ k ≤ (cutsR (f, t)).length ∧ Hid (CF s (f, t) L w1 k cv wr)) (fun _ i _ => (cutsR (f, t)).length - (intOf i).toNat)
  case atStart => exact ⟨0, rfl, by omega, Lib.hid ⟨C, nC L, HI.out.2, HTT.out.2, HC.out.zero _ _, Below.refl _ _⟩⟩
  case round =>
    obtain ⟨k, rfl, hk, HF⟩ := hrel
    obtain ⟨P, q, hP, hTq, hfar, hbq⟩ := HF.out
    obtain ⟨pq, rfl⟩ := hP.ptr
    by_cases hlt : k < (cutsR (f, t)).length
    · obtain ⟨Ac', cc', e, hcell⟩ := HCC.out wr hbq
      injection e with e1 e2 e3
      subst e1
      obtain ⟨g, rfl, hg, hc'⟩ := hcell (by omega)
      have q0 := hc' k hlt
      obtain ⟨q', hstp, hfar'⟩ := HC.out.next hfar hlt
      obtain ⟨hl1, hl2⟩ := HC.out.bound HL.out.1 hfar hTq
      have hm := (cutsR_mem (r := (f, t)) ht (HC.out.rl HL.out.1).2.2.2.1).1 (List.getElem_mem hlt)
      obtain ⟨cx, hcx⟩ : ∃ cx, cx = (cutsR (f, t))[k] := ⟨_, rfl⟩
      rw [← hcx] at q0 hstp hm
      have HS := Lib.hid (And.intro hstp (And.intro hl1 (hl2 cx)))
      have HFF := Lib.hid hfar'
      have HP := Lib.hid (And.intro hP hTq)
      have HBQ := Lib.hid hbq
      have hm1 : 0 ≤ cx := by omega
      have hm2 : cx < 4294967296 := hm.2.1
      clear hcell hc' hstp hfar' hl1 hl2 hm hcx e2 e3 hP hTq hfar hbq HF
      have i0 : (0 : Int) ≤ (k : Int) := by omega
      have i1 : (k : Int) < ((cutsR (f, t)).length : Int) := by omega
      go_wp2_with (go_at_call 83; refine (recC_any P q q' s cx _ hm1 hm2 HP.out.1 HP.out.2 HS.out.2.1 HS.out.2.2 HS.out.1).mono ?_; rintro e w2 ⟨v2, P2, rfl, t2, tl2, b2⟩; obtain ⟨B2, rfl⟩ := t2.ptr)
      go_roundw
      case rel => exact ⟨k + 1, by go_num, by omega, Lib.hid ⟨P2, q', t2.any, tl2, HFF.out, HBQ.out.trans (b2.mono HBQ.out.size)⟩⟩
      case measure => simp [intOf]; omega
    · obtain rfl : k = (cutsR (f, t)).length := by omega
      have hq := HC.out.fin hfar
      subst hq
      have HP := Lib.hid (And.intro hP hTq)
      clear hP hTq hfar HF
      obtain ⟨wq, rfl⟩ : ∃ wq, wq = wr := ⟨_, rfl⟩
      have HR := Lib.hid ((HI.out.1).belows hbq)
      have hRl : R.length < 1024 := by have := talR_len HTT.out.1; omega
      have hRn : nR L (keyI (f, t)) ≤ 1000 := by have := nR_le L (keyI (f, t)); omega
      have hRs := Lib.hid (HC.out.stp)
      have KS : Hid (∀ W, Below wq.heap.size wq W → W.cell? ⟨B, 0, none⟩ = some (.pointer pr) ∧ W.cell? ⟨B, 2, none⟩ = some (.int .i64 (L.length : Int)) ∧ W.cell? ⟨w.heap.size, 0, none⟩ = some (.int .u32 f) ∧ W.cell? ⟨w.heap.size, 1, none⟩ = some (.int .u32 t)) := Lib.hid fun W hW => by
        obtain ⟨x1, x2⟩ := HK.out W (hbq.trans (hW.mono hbq.size))
        exact ⟨(x1.cell 0).trans rfl, (x1.cell 2).trans rfl, (x2.cell 0).trans rfl, (x2.cell 1).trans rfl⟩
      have hb1 := Below.refl wq.heap.size wq
      obtain ⟨q0, q1, q2, q3⟩ := KS.out wq hb1
      have j1 : IntKind.i64.wrap ((L.length : Int) + s) = (L.length : Int) + s := IntWalk.i64_in _ (by omega)
      have HBQ := Lib.hid (HB1.out.trans (hbq.mono HB1.out.size))
      have HLEN := Lib.hid hlen
      clear hbq hlt hk hlen
      go_wp2_with fail
      go_region_held3 (fun W => W.cell? ⟨B, 0, none⟩ = some (.pointer pr) ∧ W.cell? ⟨B, 2, none⟩ = some (.int .i64 (L.length : Int)) ∧ W.cell? ⟨w.heap.size, 0, none⟩ = some (.int .u32 f) ∧ W.cell? ⟨w.heap.size, 1, none⟩ = some (.int .u32 t)) (first | exact KS.out _ (bb2.alloc bb2.size _) | exact KS.out _ bb2 | exact KS.out _ hb1.drew | exact KS.out _ hb1) (first
        | (go_at_call 84; refine (recS_any R L (nR M) s f t _ hf ht (HR.out.belows (by first | exact hb1.drew | exact hb1)) HTT.out.1 hRl hRn hRs.out).mono ?_; rintro e w2 ⟨v2, P2, rfl, t2, tl2, b2⟩; obtain ⟨B2, rfl⟩ := t2.ptr; have bb2 : Below wq.heap.size wq w2 := (by first | exact hb1.drew.trans (b2.mono hb1.size) | exact b2)))
      rename_i hHeld
      clear hHeld
      go_wp2
      go_ret
      have bq := HBQ.out.trans (bb2.mono HBQ.out.size)
      exact ⟨_, rfl, tab_new w2 HL.out.2 HLEN.out t2.any (HP.out.1.belows bb2) tl2 HP.out.2, bq.alloc bq.size _⟩
end Go.Proofs.Ytlhfaildeemngaa.Tr
/- Contracts of a table: Count, Len, Add, Drop. -/
namespace Go.Proofs.Ytlhfaildeemngaa.Tr
open Go.RowKit Go.Shelf

set_option maxRecDepth 100000 in
set_option maxHeartbeats 1000000 in
theorem len5_any {v : Value} (L : List (Nat × Nat)) (w : World) (h : IsTab0 w v L) : Calls Try.prog 26 #[v] w fun e w' => e = .returned (.int .i64 ((bnds L).length : Int)) ∧ Below w.heap.size w w' := by
  have hs := some_any L w h
  obtain ⟨p, rfl⟩ := h.ptr
  go_enter Try.func26, Try.ntmps26
  go_wp2_with fail
  refine hs.mono ?_
  rintro e w1 ⟨v1, rfl, ⟨hL, B, vr, vc, R, C, rfl, ha, ir, ic, tr, tc⟩, b1⟩
  obtain ⟨pc, rfl⟩ := ic.ptr
  have c1 := (ha.cell 1).trans rfl
  have hbl := bnds_len hL tc
  have hcl := ic.up.2
  clear hs ha ir tr tc hL
  go_wp2_with fail
  refine (len_any C _ ic).mono ?_
  rintro e w2 ⟨rfl, rfl⟩
  go_wp2
  go_ret
  exact ⟨ret_int (by omega), b1⟩
theorem nilTab (W : World) : IsTab0 W (.pointer none) [] := .inl ⟨rfl, rfl⟩
/-- A pair of a new table, and no error. -/
def TabOut (w : World) (M : List (Nat × Nat)) (e : Ending) (w' : World) : Prop := ∃ v', e = .returned (.tuple #[v', .int .i64 0]) ∧ IsTab w' v' M ∧ Below w.heap.size w w'
/-- An error. -/
def ErrOut (w : World) (n : Int) (e : Ending) (w' : World) : Prop := e = .returned (.tuple #[.pointer none, .int .i64 n]) ∧ Below w.heap.size w w'
set_option maxRecDepth 100000 in
set_option maxHeartbeats 1000000 in
theorem add_wrong {v : Value} (L : List (Nat × Nat)) (f t : Nat) (w : World) (h : IsTab0 w v L) (h1 : t < f) : Calls Try.prog 42 #[v, .agg #[.int .u32 f, .int .u32 t]] w (ErrOut w 51) := by
  have b0 : Below w.heap.size w (w.alloc (.cells #[.int .u32 f, .int .u32 t] 43)) := (Below.refl _ w).alloc (Nat.le_refl _) _
  have A0 := At.new w #[.int .u32 f, .int .u32 t] 43
  have hs := some_any L _ (h.belows b0)
  obtain ⟨p, rfl⟩ := h.ptr
  clear h
  go_enter Try.func42, Try.ntmps42
  go_wp2_with fail
  refine hs.mono ?_
  rintro e w1 ⟨v1, rfl, ⟨hL, B1, vr, vc, R, C, rfl, ha, ir, ic, tr, tc⟩, b1⟩
  have A1 := A0.belows b1
  have k0 := (A1.cell 0).trans rfl
  have k1 := (A1.cell 1).trans rfl
  have bb := b0.trans (b1.mono b0.size)
  clear A0 A1 b0 b1 ha ir ic tr tc hs hL
  go_wp2
  go_ret2
  exact ⟨rfl, bb⟩
set_option maxRecDepth 100000 in
set_option maxHeartbeats 1000000 in
theorem add_full {v : Value} (L : List (Nat × Nat)) (f t : Nat) (w : World) (h : IsTab0 w v L) (h1 : f ≤ t) (h2 : L.length = 500) : Calls Try.prog 42 #[v, .agg #[.int .u32 f, .int .u32 t]] w (ErrOut w 41) := by
  have b0 : Below w.heap.size w (w.alloc (.cells #[.int .u32 f, .int .u32 t] 43)) := (Below.refl _ w).alloc (Nat.le_refl _) _
  have A0 := At.new w #[.int .u32 f, .int .u32 t] 43
  have hs := some_any L _ (h.belows b0)
  obtain ⟨p, rfl⟩ := h.ptr
  clear h
  go_enter Try.func42, Try.ntmps42
  go_wp2_with fail
  refine hs.mono ?_
  rintro e w1 ⟨v1, rfl, ⟨hL, B1, vr, vc, R, C, rfl, ha, ir, ic, tr, tc⟩, b1⟩
  have A1 := A0.belows b1
  have k0 := (A1.cell 0).trans rfl
  have k1 := (A1.cell 1).trans rfl
  have k2 := (ha.cell 2).trans rfl
  rw [h2] at k2
  have bb := b0.trans (b1.mono b0.size)
  clear A0 A1 b0 b1 ha ir ic tr tc hs hL h2
  go_wp2
  go_ret2
  exact ⟨rfl, bb⟩
set_option maxRecDepth 100000 in
set_option maxHeartbeats 1000000 in
theorem add_ok {v : Value} (L : List (Nat × Nat)) (f t : Nat) (w : World) (h : IsTab0 w v L) (h1 : f ≤ t) (ht : t < 4294967296) (h2 : L.length < 500) : Calls Try.prog 42 #[v, .agg #[.int .u32 f, .int .u32 t]] w (TabOut w (L ++ [(f, t)])) := by
  have b0 : Below w.heap.size w (w.alloc (.cells #[.int .u32 f, .int .u32 t] 43)) := (Below.refl _ w).alloc (Nat.le_refl _) _
  have A0 := At.new w #[.int .u32 f, .int .u32 t] 43
  have hs := some_any L _ (h.belows b0)
  have HC : Hid (Chg 1 (f, t) L (L ++ [(f, t)])) := Lib.hid (.inl ⟨rfl, rfl, h.rl.snoc h1 ht h2⟩)
  obtain ⟨p, rfl⟩ := h.ptr
  clear h
  go_enter Try.func42, Try.ntmps42
  go_wp2_with fail
  refine hs.mono ?_
  rintro e w1 ⟨v1, rfl, ht1, b1⟩
  have HT := Lib.hid ht1
  obtain ⟨hL, B1, vr, vc, R, C, rfl, ha, ir, ic, tr, tc⟩ := ht1
  have A1 := A0.belows b1
  have k0 := (A1.cell 0).trans rfl
  have k1 := (A1.cell 1).trans rfl
  have k2 := (ha.cell 2).trans rfl
  have bb := b0.trans (b1.mono b0.size)
  have d1 : decide (500 ≤ (L.length : Int)) = false := by simp; omega
  clear A0 A1 b0 b1 ha ir ic tr tc hs hL h2
  go_wp2_with (go_at_call 66; refine (changed_any 1 f t L _ _ HT.out HC.out).mono ?_; rintro e w2 ⟨v2, rfl, t2, b2⟩; obtain ⟨B2, rfl⟩ := t2.ptr)
  go_ret2
  exact ⟨_, rfl, t2, bb.trans (b2.mono bb.size)⟩
end Go.Proofs.Ytlhfaildeemngaa.Tr
/- Contracts of package label: place; labelOf; tableOf. -/
namespace Go.Proofs.Ytlhfaildeemngaa
open Go.RowKit Go.Shelf

/-- Where the rule with an ID stands, or would stand. -/
structure Plc (L : List Ru) (id : Int) (i : Nat) : Prop where
  le : i ≤ L.length
  low : ∀ j, j < i → idAt L j < id
  high : ∀ j, i ≤ j → j < L.length → id ≤ idAt L j
theorem idAt_lt {L : List Ru} (hp : L.Pairwise (fun a b => a.id < b.id)) {i j : Nat} (hij : i < j) (hj : j < L.length) : idAt L i < idAt L j := by
  rw [idAt_in (by omega), idAt_in hj]
  exact List.pairwise_iff_getElem.1 hp i j _ _ hij
/-- It is there just where it stands. -/
theorem Plc.has {L : List Ru} (hp : L.Pairwise (fun a b => a.id < b.id)) {id : Int} {i : Nat} (h : Plc L id i) : hasId id L = decide (i < L.length ∧ idAt L i = id) := by
  cases hq : hasId id L with
  | false =>
    have hno := hasId_no.1 hq
    symm
    apply decide_eq_false
    rintro ⟨h1, h2⟩
    rw [idAt_in h1] at h2
    exact hno _ (List.getElem_mem h1) h2
  | true =>
    symm
    apply decide_eq_true
    unfold hasId at hq
    rw [List.any_eq_true] at hq
    obtain ⟨x, hx, he⟩ := hq
    obtain ⟨j, hj, rfl⟩ := List.getElem_of_mem hx
    have he' : L[j].id = id := of_decide_eq_true he
    have hij : i ≤ j := by
      rcases Nat.lt_or_ge j i with h0 | h0
      · have := h.low j h0
        rw [idAt_in hj] at this
        omega
      · exact h0
    rcases Nat.lt_or_ge i j with h0 | h0
    · have h1 := h.high i (Nat.le_refl _) (by omega)
      have h2 := idAt_lt hp h0 hj
      rw [idAt_in hj] at h2
      omega
    · have e : i = j := by omega
      subst e
      exact ⟨hj, by rw [idAt_in hj]; exact he'⟩
set_option maxRecDepth 100000 in
set_option maxHeartbeats 1000000 in
theorem place_any {A : Option Addr} {c : Nat} (L : List Ru) (id : Int) (w : World) (hp : L.Pairwise (fun a b => a.id < b.id)) (hl : L.length ≤ 100000) (h1 : L.length ≤ c) (h2 : c ≤ maxLen) (hz : Rs w A L) :
    Calls Try.prog 29 #[.slice A L.length c, .int .i64 id] w fun e w' => ∃ i : Nat, e = .returned (.tuple #[.int .i64 (i : Int), .bool (hasId id L)]) ∧ Plc L id i ∧ Below w.heap.size w w' := by
  obtain ⟨w2, hw2⟩ : ∃ w2, w2 = (w.alloc (.cells #[.slice A L.length c] 26)).alloc (.cells #[.int .i64 id] 3) := ⟨_, rfl⟩
  have b2 : Below w.heap.size w w2 := by rw [hw2]; exact ((Below.refl _ w).alloc (Nat.le_refl _) _).alloc (by simp) _
  have L2 : At w2 w.heap.size #[.slice A L.length c] 26 := by rw [hw2]; exact (At.new w _ _).alloc _
  have I2 : At w2 (w.heap.size + 1) #[.int .i64 id] 3 := by rw [hw2]; exact At.new1 w _ _ _
  have HA : Hid (AskAt 54 #[.pointer (some ⟨w.heap.size, 0, none⟩), .pointer (some ⟨w.heap.size + 1, 0, none⟩)] L.length (fun k => decide (id ≤ idAt L k)) w2) := Lib.hid fun k hk W hW =>
    place1_any L id A c k _ _ W hk h1 h2 (L2.belows hW) (I2.belows hW) (hz.belows (b2.trans (hW.mono b2.size)))
  have HM : Hid (∀ a b, a ≤ b → b < L.length → decide (id ≤ idAt L a) = true → decide (id ≤ idAt L b) = true) := Lib.hid fun a b hab hb ha => by
    have := of_decide_eq_true ha
    apply decide_eq_true
    rcases Nat.lt_or_ge a b with h | h
    · have := idAt_lt hp h hb; omega
    · have : a = b := by omega
      subst this; exact of_decide_eq_true ha
  have HP := Lib.hid hp
  have HZ : Hid (∀ W, Below w2.heap.size w2 W → Rs W A L ∧ At W w.heap.size #[.slice A L.length c] 26 ∧ At W (w.heap.size + 1) #[.int .i64 id] 3) := Lib.hid fun W hW => ⟨hz.belows (b2.trans (hW.mono b2.size)), L2.belows hW, I2.belows hW⟩
  have c0 := (L2.cell 0).trans rfl
  have eg : ∀ args w, (callFunc 54 args).run Try.prog w = .ok (.enter 54 args) w := enters_of Try.func54 (by kernel_rfl) rfl
  have hN : L.length ≤ 9223372036854775807 := by omega
  clear hp hz L2 I2
  go_enter Try.func29, Try.ntmps29
  go_upto_region 1 with (fail)
  rw [← hw2]
  clear hw2
  go_upto_region 2 with (go_at_call 53; refine (sortSearch_any _ _ eg L.length _ w2 (by omega) HA.out HM.out).mono ?_; rintro e w3 ⟨i, rfl, hi, hlo, hhi, b3⟩)
  have PL : Hid (Plc L id i) := Lib.hid ⟨hi, fun j hj => by have := of_decide_eq_false (hlo j hj); omega, fun j h1 h2 => of_decide_eq_true (hhi j h1 h2)⟩
  have hq := PL.out.has HP.out
  have BB := Lib.hid (b2.trans (b3.mono b2.size))
  obtain ⟨z3, L3, I3⟩ := HZ.out w3 b3
  have d0 := (L3.cell 0).trans rfl
  have d1 := (I3.cell 0).trans rfl
  clear hlo hhi L3 I3 c0 b3 b2
  by_cases hlt : i < L.length
  · obtain ⟨g, o, rfl, _, r0, _⟩ := z3.at i hlt
    rw [idAt_in hlt] at hq
    have i0 : (0 : Int) ≤ (i : Int) := by omega
    have i1 : (i : Int) < (L.length : Int) := by omega
    generalize L[i].id = x at r0 hq
    by_cases hx : x = id
    · have hq' : hasId id L = true := by rw [hq]; exact decide_eq_true ⟨hlt, hx⟩
      have HQ := Lib.hid hq'
      subst hx
      clear hq hq' z3 hi
      go_wp2_with fail
      go_quiet (fail)
      go_wp2
      go_ret2
      exact ⟨i, by rw [HQ.out]; rfl, PL.out, bdrewN BB.out nq⟩
    · have hq' : hasId id L = false := by rw [hq]; exact decide_eq_false (fun h => hx h.2)
      have HQ := Lib.hid hq'
      have hx1 : (x == id) = false := by simp [hx]
      clear hq hq' z3 hi
      go_wp2_with fail
      go_quiet (fail)
      go_wp2
      go_ret2
      exact ⟨i, by rw [HQ.out]; rfl, PL.out, bdrewN BB.out nq⟩
  · have hq' : hasId id L = false := by rw [hq]; exact decide_eq_false (fun h => hlt h.1)
    have HQ := Lib.hid hq'
    obtain rfl : i = L.length := by omega
    clear hq hq' z3 hi hlt
    go_wp2_with fail
    go_quiet (fail)
    go_wp2
    go_ret2
    exact ⟨_, by rw [HQ.out]; rfl, PL.out, bdrewN BB.out nq⟩
set_option maxRecDepth 100000 in
/-- The label of a fate and a port. -/
theorem labelOf_any (f : Int) (p : Pt) (w : World) : Calls Try.prog 43 #[.int .i64 f, .agg (ptA p)] w fun e w' => e = .returned (.int .i64 (labP (f, p))) ∧ Below w.heap.size w w' := by
  obtain ⟨a, b⟩ := p
  unfold labP ptA
  dsimp only
  have c0 := (At.new w #[.int .i64 a, .int .i64 b] 68).cell 1
  have b0 : Below w.heap.size w (w.alloc (.cells #[.int .i64 a, .int .i64 b] 68)) := (Below.refl _ w).alloc (Nat.le_refl _) _
  by_cases h2 : f = 2
  · subst h2
    go_enter Try.func43, Try.ntmps43
    go_wp2
    go_ret
    exact ⟨rfl, b0⟩
  · by_cases h1 : f = 1
    · subst h1
      go_enter Try.func43, Try.ntmps43
      go_wp2
      go_ret
      exact ⟨rfl, b0⟩
    · by_cases h0 : f = 0
      · subst h0
        go_enter Try.func43, Try.ntmps43
        go_wp2
        go_ret
        exact ⟨rfl, b0⟩
      · rw [if_neg h2, if_neg h1, if_neg h0]
        go_enter Try.func43, Try.ntmps43
        go_wp2
        go_ret
        exact ⟨rfl, b0⟩
end Go.Proofs.Ytlhfaildeemngaa
/- Contract of package label: tableOf. -/
namespace Go.Proofs.Ytlhfaildeemngaa
open Go.RowKit Go.Shelf

theorem rgL_take {L : List Ru} {k : Nat} (hk : k < L.length) : rgL (L.take (k + 1)) = rgL (L.take k) ++ [(L[k].f, L[k].t)] := by
  rw [List.take_succ_eq_append_getElem hk]
  unfold rgL
  rw [List.map_append]
  rfl
theorem rgL_len (L : List Ru) : (rgL L).length = L.length := by simp [rgL]
set_option maxRecDepth 100000 in
set_option maxHeartbeats 1000000 in
theorem tableOf_any {v : Value} (L : List Ru) (w : World) (hR : Tr.RL (rgL L)) (hl : L.length ≤ 400) (h : IsR w v L) : Calls Try.prog 21 #[v] w fun e w' => ∃ t, e = .returned t ∧ Tr.IsTab w' t (rgL L) ∧ Below w.heap.size w w' := by
  obtain ⟨A, c, rfl, n1, m1, z⟩ := h
  have HZ := Lib.hid z
  have HR := Lib.hid hR
  have hN : L.length ≤ 9223372036854775807 := by omega
  clear z hR
  go_enter Try.func21, Try.ntmps21
  go_wp2_with (go_at_call 41; refine (Tr.new_any _).mono ?_; rintro e w1 ⟨vt, rfl, ht, b1⟩; obtain ⟨B1, rfl⟩ := ht.ptr)
  have HT := Lib.hid ht
  clear ht
  go_loopw [3, 9] (fun tv i wr => ∃ k B : Nat, i = .int .i64 k ∧ tv = .pointer (some ⟨B, 0, none⟩) ∧ k ≤ L.length ∧ Hid (Tr.IsTab wr (.pointer (some ⟨B, 0, none⟩)) (rgL (L.take k))) ∧ Below w.heap.size w wr) (fun _ i _ => L.length - (intOf i).toNat)
  case atStart => exact ⟨0, B1, rfl, rfl, by omega, HT, b1⟩
  case round =>
    obtain ⟨k, B, rfl, rfl, hk, HI, hb⟩ := hrel
    by_cases hlt : k < L.length
    · obtain ⟨g, o, rfl, hg, r0, r1, r2, r3, r4, r5, r6⟩ := (HZ.out.belows hb).at k hlt
      have hr := HR.out.1 (L[k].f, L[k].t) (by unfold rgL; exact List.mem_map.2 ⟨L[k], List.getElem_mem hlt, rfl⟩)
      have HE := Lib.hid (rgL_take hlt)
      have hlen : (rgL (L.take k)).length < 500 := by rw [rgL_len, List.length_take]; omega
      have i0 : (0 : Int) ≤ (k : Int) := by omega
      have i1 : (k : Int) < (L.length : Int) := by omega
      generalize L[k] = x at r0 r1 r2 r3 r4 r5 r6 HE hr
      obtain ⟨id, dv, pr, kd, f, t, pt⟩ := x
      dsimp only at r0 r1 r2 r3 r4 r5 r6 HE hr
      obtain ⟨w2, hw2⟩ : ∃ w2, w2 = wr.alloc (.cells #[.int .i64 id, .int .i64 dv, .int .i64 pr, .int .i64 kd, .int .u32 f, .int .u32 t, .int .i64 pt] 50) := ⟨_, rfl⟩
      have b2 : Below wr.heap.size wr w2 := by rw [hw2]; exact (Below.refl _ wr).alloc (Nat.le_refl _) _
      have ha := Tr.add_ok (rgL (L.take k)) f t w2 (HI.out.any.belows b2) hr.1 hr.2 hlen
      have HB2 := Lib.hid (hb.trans (b2.mono hb.size))
      rw [hw2] at ha HB2
      clear hw2 b2 hr hlen
      go_wp2_with (go_at_call 42; refine ha.mono ?_; rintro e w3 ⟨v3, rfl, t3, b3⟩; obtain ⟨B3, rfl⟩ := t3.ptr)
      go_roundw
      case rel => exact ⟨k + 1, B3, by go_num, rfl, by omega, Lib.hid (by rw [HE.out]; exact t3), HB2.out.trans (b3.mono HB2.out.size)⟩
      case measure => simp [intOf]; omega
    · obtain rfl : k = L.length := by omega
      go_wp2
      go_ret
      exact ⟨_, rfl, by have := HI.out; rwa [List.take_length] at this, hb⟩
end Go.Proofs.Ytlhfaildeemngaa
/- Words: a table of rows of numbers in memory, row by row filled (over any program, but for the element types' numbers). -/
namespace Go.Proofs.Ytlhfaildeemngaa
open Go.RowKit Go.Shelf

/-- A row of numbers of which so many are told. -/
def rwC (p : Nat → Int) (N i : Nat) : Array Value := ((List.range N).map fun j => Value.int .i64 (if j < i then p j else 0)).toArray
theorem rwC_size (p : Nat → Int) (N i : Nat) : (rwC p N i).size = N := by simp [rwC]
theorem rwC_at (p : Nat → Int) (N i j : Nat) (h : j < N) : (rwC p N i)[j]? = some (.int .i64 (if j < i then p j else 0)) := by simp [rwC, h]
theorem rwC_set (p : Nat → Int) (N i : Nat) : (rwC p N i).setIfInBounds i (.int .i64 (p i)) = rwC p N (i + 1) := by
  apply Array.ext_getElem?
  intro j
  rw [Array.getElem?_setIfInBounds]
  by_cases hij : i = j
  · subst hij
    by_cases hj : i < N <;> simp [rwC, hj]
  · rw [if_neg hij]
    by_cases hj : j < N
    · have : (j < i) = (j < i + 1) := propext ⟨fun h => by omega, fun h => by omega⟩
      simp [rwC, hj, this]
    · simp [rwC, hj]
theorem made_ints (p : Nat → Int) (n : Nat) : madeCells #[.int .i64 0] n = rwC p n 0 := by
  apply Array.ext
  · simp [madeCells, rwC]
  · intro i h1 h2
    simp [madeCells, rwC, Nat.mod_one]
theorem made_nils (n : Nat) : ∀ d, d < n → (madeCells #[.slice none 0 0] n)[d]? = some (.slice none 0 0) := by
  intro d h
  simp [madeCells, Nat.mod_one, h]
theorem infoInts : (Try.prog.info? 22).map (fun i => (i.zero, i.size, i.bytes)) = some (some (.slice none 0 0), 1, 24) := by kernel_rfl
/-- Rows, of which the first k are told. -/
def TB (w : World) (g N D k : Nat) (q : Nat → Nat → Int) : Prop := ∃ cs : Array Value, At w g cs 22 ∧ cs.size = D ∧
  (∀ d, d < k → d < D → ∃ gd, g < gd ∧ cs[d]? = some (.slice (some ⟨gd, 0, none⟩) N N) ∧ At w gd (rwC (q d) N N) 3) ∧ (∀ d, k ≤ d → d < D → cs[d]? = some (.slice none 0 0))
/-- .. and i numbers of the row k. -/
def TI (w : World) (g N D k gk i : Nat) (q : Nat → Nat → Int) : Prop := k < D ∧ g < gk ∧ At w gk (rwC (q k) N i) 3 ∧ ∃ cs : Array Value, At w g cs 22 ∧ cs.size = D ∧ cs[k]? = some (.slice (some ⟨gk, 0, none⟩) N N) ∧
  (∀ d, d < k → d < D → ∃ gd, g < gd ∧ gd ≠ gk ∧ cs[d]? = some (.slice (some ⟨gd, 0, none⟩) N N) ∧ At w gd (rwC (q d) N N) 3) ∧ (∀ d, k < d → d < D → cs[d]? = some (.slice none 0 0))
theorem TB.belows {w w' : World} {g N D k : Nat} {q : Nat → Nat → Int} (h : TB w g N D k q) (hb : Below w.heap.size w w') : TB w' g N D k q := by
  obtain ⟨cs, h1, h2, h3, h4⟩ := h
  exact ⟨cs, h1.belows hb, h2, fun d hd hD => by
    obtain ⟨gd, a, b, c⟩ := h3 d hd hD
    exact ⟨gd, a, b, c.belows hb⟩, h4⟩
theorem TI.belows {w w' : World} {g N D k gk i : Nat} {q : Nat → Nat → Int} (h : TI w g N D k gk i q) (hb : Below w.heap.size w w') : TI w' g N D k gk i q := by
  obtain ⟨h0, h1, h2, cs, h3, h4, h5, h6, h7⟩ := h
  exact ⟨h0, h1, h2.belows hb, cs, h3.belows hb, h4, h5, fun d hd hD => by
    obtain ⟨gd, a, b, c, e⟩ := h6 d hd hD
    exact ⟨gd, a, b, c, e.belows hb⟩, h7⟩
theorem TB.start {w : World} {g N D : Nat} {q : Nat → Nat → Int} {cs : Array Value} (h : At w g cs 22) (hs : cs.size = D) (hz : ∀ d, d < D → cs[d]? = some (.slice none 0 0)) : TB w g N D 0 q :=
  ⟨cs, h, hs, fun d hd => by omega, fun d _ hD => hz d hD⟩
theorem TB.lt {w : World} {g N D k : Nat} {q : Nat → Nat → Int} (h : TB w g N D k q) : g < w.heap.size := by
  obtain ⟨cs, h1, _⟩ := h
  exact h1.lt
/-- A row is made and put in. -/
theorem TI.of {w : World} {g N D k : Nat} {q : Nat → Nat → Int} (h : TB w g N D k q) (hk : k < D) : TI ((w.alloc (.cells (rwC (q k) N 0) 3)).setCell ⟨g, k, none⟩ (.slice (some ⟨w.heap.size, 0, none⟩) N N)) g N D k w.heap.size 0 q := by
  obtain ⟨cs, h1, h2, h3, h4⟩ := h
  have hg := h1.lt
  refine ⟨hk, hg, (At.new w _ _).other (by omega) k _, _, (h1.alloc _).set0 k _, by simpa using h2, ?_, fun d hd hD => ?_, fun d hd hD => ?_⟩
  · rw [Array.getElem?_setIfInBounds, if_pos rfl, if_pos (by omega)]
  · obtain ⟨gd, a, b, c⟩ := h3 d hd hD
    have hgd := c.lt
    refine ⟨gd, a, by omega, ?_, (c.alloc _).other (by omega) k _⟩
    rw [Array.getElem?_setIfInBounds, if_neg (by omega)]
    exact b
  · rw [Array.getElem?_setIfInBounds, if_neg (by omega)]
    exact h4 d (by omega) hD
/-- .. in the walk's order. -/
theorem TI.of' {w : World} {g N D k : Nat} {q : Nat → Nat → Int} (h : TB w g N D k q) (hk : k < D) : TI ((w.setCell ⟨g, k, none⟩ (.slice (some ⟨w.heap.size, 0, none⟩) N N)).alloc (.cells (rwC (q k) N 0) 3)) g N D k w.heap.size 0 q := by
  obtain ⟨cs, h1, h2, h3, h4⟩ := h
  have hg := h1.lt
  have hs : (w.setCell ⟨g, k, none⟩ (.slice (some ⟨w.heap.size, 0, none⟩) N N)).heap.size = w.heap.size := by simp
  refine ⟨hk, hg, ?_, _, (h1.set0 k _).alloc _, by simpa using h2, ?_, fun d hd hD => ?_, fun d hd hD => ?_⟩
  · have := At.new (w.setCell ⟨g, k, none⟩ (.slice (some ⟨w.heap.size, 0, none⟩) N N)) (rwC (q k) N 0) 3
    rwa [hs] at this
  · rw [Array.getElem?_setIfInBounds, if_pos rfl, if_pos (by omega)]
  · obtain ⟨gd, a, b, c⟩ := h3 d hd hD
    have hgd := c.lt
    refine ⟨gd, a, by omega, ?_, (c.other (by omega) k _).alloc _⟩
    rw [Array.getElem?_setIfInBounds, if_neg (by omega)]
    exact b
  · rw [Array.getElem?_setIfInBounds, if_neg (by omega)]
    exact h4 d (by omega) hD
/-- A number is told. -/
theorem TI.step {w : World} {g N D k gk i : Nat} {q : Nat → Nat → Int} (h : TI w g N D k gk i q) {v : Int} (hv : v = q k i) : TI (w.setCell ⟨gk, i, none⟩ (.int .i64 v)) g N D k gk (i + 1) q := by
  subst hv
  obtain ⟨h0, h1, h2, cs, h3, h4, h5, h6, h7⟩ := h
  refine ⟨h0, h1, ?_, cs, h3.other (by omega) i _, h4, h5, fun d hd hD => ?_, h7⟩
  · have := h2.set0 i (.int .i64 (q k i))
    rwa [rwC_set] at this
  · obtain ⟨gd, a, b, c, e⟩ := h6 d hd hD
    exact ⟨gd, a, b, c, e.other b i _⟩
theorem TI.done {w : World} {g N D k gk : Nat} {q : Nat → Nat → Int} (h : TI w g N D k gk N q) : TB w g N D (k + 1) q := by
  obtain ⟨h0, h1, h2, cs, h3, h4, h5, h6, h7⟩ := h
  refine ⟨cs, h3, h4, fun d hd hD => ?_, fun d hd hD => h7 d (by omega) hD⟩
  by_cases e : d = k
  · subst e
    exact ⟨gk, h1, h5, h2⟩
  · obtain ⟨gd, a, _, c, e⟩ := h6 d (by omega) hD
    exact ⟨gd, a, c, e⟩
/-- The cells that are read and written. -/
theorem TI.cells {w : World} {g N D k gk i : Nat} {q : Nat → Nat → Int} (h : TI w g N D k gk i q) (hi : i < N) :
    w.cell? ⟨g, k, none⟩ = some (.slice (some ⟨gk, 0, none⟩) N N) ∧ w.cell? ⟨gk, i, none⟩ = some (.int .i64 0) ∧ w.frozen? ⟨gk, i, none⟩ = false ∧ gk < w.heap.size ∧ g < w.heap.size := by
  obtain ⟨h0, h1, h2, cs, h3, h4, h5, h6, h7⟩ := h
  refine ⟨(h3.cell k).trans h5, (h2.cell i).trans ?_, h2.frozen i, h2.lt, h3.lt⟩
  rw [rwC_at _ _ _ _ hi, if_neg (by omega)]
theorem TB.cells {w : World} {g N D k : Nat} {q : Nat → Nat → Int} (h : TB w g N D k q) (hk : k < D) : w.cell? ⟨g, k, none⟩ = some (.slice none 0 0) ∧ w.frozen? ⟨g, k, none⟩ = false := by
  obtain ⟨cs, h1, h2, h3, h4⟩ := h
  exact ⟨(h1.cell k).trans (h4 k (Nat.le_refl _) hk), h1.frozen k⟩
/-- What is told. -/
theorem TB.row {w : World} {g N D : Nat} {q : Nat → Nat → Int} (h : TB w g N D D q) {d : Nat} (hd : d < D) : ∃ gd, w.cell? ⟨g, d, none⟩ = some (.slice (some ⟨gd, 0, none⟩) N N) ∧ ∀ i, i < N → w.cell? ⟨gd, i, none⟩ = some (.int .i64 (q d i)) := by
  obtain ⟨cs, h1, h2, h3, h4⟩ := h
  obtain ⟨gd, a, b, c⟩ := h3 d hd hd
  refine ⟨gd, (h1.cell d).trans b, fun i hi => (c.cell i).trans ?_⟩
  rw [rwC_at _ _ _ _ hi, if_pos hi]
/-- Blocks that hold networks are none of these. -/
theorem exc_tb {H : Nat → Prop} {W W' : World} (hx : Exc H W W') (hn : Nets H W) {g N D k : Nat} {q : Nat → Nat → Int} (h : TB W g N D k q) : TB W' g N D k q := by
  obtain ⟨cs, h1, h2, h3, h4⟩ := h
  exact ⟨cs, h1.exc hx hn (by decide), h2, fun d hd hD => by
    obtain ⟨gd, a, b, c⟩ := h3 d hd hD
    exact ⟨gd, a, b, c.exc hx hn (by decide)⟩, h4⟩
end Go.Proofs.Ytlhfaildeemngaa
/- Contracts: taking, Match, Denies, Find. -/
namespace Go.Proofs.Ytlhfaildeemngaa
open Go.RowKit Go.Shelf

/-- What taking answers. -/
def TakeOut (d one oth : Int) (a : Nat) (w : World) (e : Ending) (w' : World) : Prop := ∃ C0 C1 C2 C3 : Nat, e = .returned (.func (.func 93) #[] #[.pointer (some ⟨C0, 0, none⟩), .pointer (some ⟨C1, 0, none⟩), .pointer (some ⟨C2, 0, none⟩), .pointer (some ⟨C3, 0, none⟩)]) ∧
  At w' C0 #[.int .i64 d] 3 ∧ At w' C1 #[.int .i64 one] 48 ∧ At w' C2 #[.int .i64 oth] 48 ∧ At w' C3 #[.int .u32 a] 41 ∧ Below w.heap.size w w'
theorem taking_any (d one oth : Int) (a : Nat) (w : World) : Calls Try.prog 86 #[.int .i64 d, .int .u32 a, .int .i64 one, .int .i64 oth] w (TakeOut d one oth a w) := by
  go_enter Try.func86, Try.ntmps86
  go_wp2
  go_ret
  refine ⟨w.heap.size, w.heap.size + 1 + 1, w.heap.size + 1 + 1 + 1, w.heap.size + 1, rfl, ?_, ?_, ?_, ?_, ?_⟩
  · exact (((At.new w _ _).alloc _).alloc _).alloc _
  · exact (At.new2 w _ _ _ _).alloc _
  · have := At.new2 (w.alloc (.cells #[.int .i64 d] 3)) (.cells #[.int .u32 a] 41) (.cells #[.int .i64 one] 48) #[.int .i64 oth] 48
    rwa [World.size_alloc] at this
  · exact ((At.new1 w _ _ _).alloc _).alloc _
  · exact ((((Below.refl _ _).alloc (Nat.le_refl _) _).alloc (by simp) _).alloc (by simp; omega) _).alloc (by simp; omega) _

theorem taking_asks {d one oth : Int} {a C0 C1 C2 C3 : Nat} {w : World} (L : List Ru) (h0 : At w C0 #[.int .i64 d] 3) (h1 : At w C1 #[.int .i64 one] 48) (h2 : At w C2 #[.int .i64 oth] 48) (h3 : At w C3 #[.int .u32 a] 41) :
    Asks 93 #[.pointer (some ⟨C0, 0, none⟩), .pointer (some ⟨C1, 0, none⟩), .pointer (some ⟨C2, 0, none⟩), .pointer (some ⟨C3, 0, none⟩)] L (tk d one oth a) w :=
  fun k hk W hb => taking1_any L[k] d one oth a C0 C1 C2 C3 W (h0.belows hb) (h1.belows hb) (h2.belows hb) (h3.belows hb)
theorem enters_taking1 : ∀ args w, (callFunc 93 args).run Try.prog w = .ok (.enter 93 args) w := enters_of Try.func93 (by kernel_rfl) rfl

set_option maxRecDepth 100000 in
/-- rule.Match. -/
theorem match_any {v : Value} (L : List Ru) (d : Int) (a : Nat) (w : World) (h : IsR w v L) : Calls Try.prog 68 #[v, .int .i64 d, .int .u32 a] w fun e w' => e = .returned (firstV (firstL (tk d 0 1 a) L)) ∧ Below w.heap.size w w' := by
  have H := Lib.hid h
  obtain ⟨A1, c1, rfl, n1, m1, z1⟩ := h
  clear z1
  obtain ⟨y, hy⟩ : ∃ y, y = firstL (tk d 0 1 a) L := ⟨_, rfl⟩
  rw [← hy]
  obtain ⟨x, hx⟩ : ∃ x, x = y.getD ru0 := ⟨_, rfl⟩
  have hV : firstV y = .tuple #[.agg (ruA x), .bool y.isSome] := by rw [hx]; rfl
  rw [hV]
  generalize hq : y.isSome = q at hV ⊢
  have HV := Lib.hid hV
  have HY := Lib.hid hy
  clear hV hx hq hy
  obtain ⟨id, dv, pr, kd, f, t, pt⟩ := x
  have Z0 := At.new w (ruA ru0) 50
  have b0 : Below w.heap.size w (w.alloc (.cells (ruA ru0) 50)) := (Below.refl _ _).alloc (Nat.le_refl _) _
  rw [rd0] at Z0 b0
  go_enter Try.func68, Try.ntmps68
  go_wp2_with (first | (go_at_call 86; refine (taking_any _ _ _ _ _).mono ?_; rintro e w1 ⟨C0, C1, C2, C3, rfl, k0, k1, k2, k3, b1⟩; have Z1 := Z0.belows b1; have H1 : Hid (IsR w1 (.slice A1 L.length c1) L) := Lib.hid ((H.out.belows b0).belows b1); have HK : Hid (Asks 93 #[.pointer (some ⟨C0, 0, none⟩), .pointer (some ⟨C1, 0, none⟩), .pointer (some ⟨C2, 0, none⟩), .pointer (some ⟨C3, 0, none⟩)] L (tk d 0 1 a) w1) := Lib.hid (taking_asks L k0 k1 k2 k3); clear k0 k1 k2 k3) | (go_at_call 85; refine (first_any _ _ enters_taking1 L (tk d 0 1 a) _ HK.out H1.out).mono ?_; rintro e w2 ⟨rfl, b2⟩; rw [← HY.out, HV.out, ruA_mk]; have Z2 := Z1.belows b2; have y0 := (Z2.cell 0).trans rfl; have q0 := Z2.frozen 0; have y1 := (Z2.cell 1).trans rfl; have q1 := Z2.frozen 1; have y2 := (Z2.cell 2).trans rfl; have q2 := Z2.frozen 2; have y3 := (Z2.cell 3).trans rfl; have q3 := Z2.frozen 3; have y4 := (Z2.cell 4).trans rfl; have q4 := Z2.frozen 4; have y5 := (Z2.cell 5).trans rfl; have q5 := Z2.frozen 5; have y6 := (Z2.cell 6).trans rfl; have q6 := Z2.frozen 6))
  have Z := At.fill (y := ru0) Z2 ⟨id, dv, pr, kd, f, t, pt⟩
  unfold fillW ruA at Z
  have y0 := Z.cell 0; have y1 := Z.cell 1; have y2 := Z.cell 2; have y3 := Z.cell 3; have y4 := Z.cell 4; have y5 := Z.cell 5; have y6 := Z.cell 6
  dsimp only at y0 y1 y2 y3 y4 y5 y6
  refine bodyPost_ret (v := .tuple #[.agg (ruA ⟨id, dv, pr, kd, f, t, pt⟩), .bool q]) ?_ rfl ⟨rfl, below_fill ((b0.trans (b1.mono b0.size)).trans (b2.mono (Nat.le_trans b0.size b1.size))) (Nat.le_refl _) ⟨id, dv, pr, kd, f, t, pt⟩⟩
  simp [results, Try.results68, go_sem, y0, y1, y2, y3, y4, y5, y6, ruA_mk]

set_option maxRecDepth 100000 in
/-- rule.Denies. -/
theorem denies_any {v : Value} (L : List Ru) (d : Int) (a : Nat) (w : World) (h : IsR w v L) : Calls Try.prog 67 #[v, .int .i64 d, .int .u32 a] w fun e w' => e = .returned (.bool ((firstL (tk d 2 3 a) L).isSome && decide (((firstL (tk d 2 3 a) L).getD ru0).kd = 3))) ∧ Below w.heap.size w w' := by
  have H := Lib.hid h
  obtain ⟨A1, c1, rfl, n1, m1, z1⟩ := h
  clear z1
  obtain ⟨y, hy⟩ : ∃ y, y = firstL (tk d 2 3 a) L := ⟨_, rfl⟩
  rw [← hy]
  obtain ⟨x, hx⟩ : ∃ x, x = y.getD ru0 := ⟨_, rfl⟩
  have hV : firstV y = .tuple #[.agg (ruA x), .bool y.isSome] := by rw [hx]; rfl
  rw [← hx]
  generalize hq : y.isSome = q at hV ⊢
  have HV := Lib.hid hV
  have HY := Lib.hid hy
  clear hV hx hq hy
  obtain ⟨id, dv, pr, kd, f, t, pt⟩ := x
  dsimp only
  have hk : (kd == 3) = decide (kd = 3) := rfl
  have fin : ∀ (w1 w2 : World), Below w.heap.size w w1 → Below w1.heap.size w1 w2 → Below w.heap.size w (w2.alloc (.cells (ruA ⟨id, dv, pr, kd, f, t, pt⟩) 50)) := fun w1 w2 b1 b2 => (b1.trans (b2.mono b1.size)).alloc (Nat.le_trans b1.size b2.size) _
  cases q with
  | false =>
    simp only [Bool.false_and]
    go_enter Try.func67, Try.ntmps67
    go_wp2_with (first | (go_at_call 86; refine (taking_any _ _ _ _ _).mono ?_; rintro e w1 ⟨C0, C1, C2, C3, rfl, k0, k1, k2, k3, b1⟩; have H1 : Hid (IsR w1 (.slice A1 L.length c1) L) := Lib.hid (H.out.belows b1); have HK : Hid (Asks 93 #[.pointer (some ⟨C0, 0, none⟩), .pointer (some ⟨C1, 0, none⟩), .pointer (some ⟨C2, 0, none⟩), .pointer (some ⟨C3, 0, none⟩)] L (tk d 2 3 a) w1) := Lib.hid (taking_asks L k0 k1 k2 k3); clear k0 k1 k2 k3) | (go_at_call 85; refine (first_any _ _ enters_taking1 L (tk d 2 3 a) _ HK.out H1.out).mono ?_; rintro e w2 ⟨rfl, b2⟩; rw [← HY.out, HV.out, ruA_mk]))
    go_ret
    exact ⟨rfl, fin w1 w2 b1 b2⟩
  | true =>
    simp only [Bool.true_and]
    go_enter Try.func67, Try.ntmps67
    go_wp2_with (first | (go_at_call 86; refine (taking_any _ _ _ _ _).mono ?_; rintro e w1 ⟨C0, C1, C2, C3, rfl, k0, k1, k2, k3, b1⟩; have H1 : Hid (IsR w1 (.slice A1 L.length c1) L) := Lib.hid (H.out.belows b1); have HK : Hid (Asks 93 #[.pointer (some ⟨C0, 0, none⟩), .pointer (some ⟨C1, 0, none⟩), .pointer (some ⟨C2, 0, none⟩), .pointer (some ⟨C3, 0, none⟩)] L (tk d 2 3 a) w1) := Lib.hid (taking_asks L k0 k1 k2 k3); clear k0 k1 k2 k3) | (go_at_call 85; refine (first_any _ _ enters_taking1 L (tk d 2 3 a) _ HK.out H1.out).mono ?_; rintro e w2 ⟨rfl, b2⟩; rw [← HY.out, HV.out, ruA_mk]))
    go_ret
    exact ⟨rfl, fin w1 w2 b1 b2⟩

end Go.Proofs.Ytlhfaildeemngaa
/- Contracts: rule.within, rule.Right. -/
namespace Go.Proofs.Ytlhfaildeemngaa
open Go.RowKit Go.Shelf

theorem within_any (n a b : Int) (w : World) : Calls Try.prog 81 #[.int .i64 n, .int .i64 a, .int .i64 b] w fun e w' => e = .returned (.bool (wn n a b)) ∧ w = w' := by
  by_cases h : a ≤ n
  · have d1 : decide (a ≤ n) = true := decide_eq_true h
    unfold wn; rw [d1, Bool.true_and]
    go_enter Try.func81, Try.ntmps81
    go_wp2
    go_ret
    exact ⟨rfl, rfl⟩
  · have d1 : decide (a ≤ n) = false := decide_eq_false h
    unfold wn; rw [d1, Bool.false_and]
    go_enter Try.func81, Try.ntmps81
    go_wp2
    go_ret
    exact ⟨rfl, rfl⟩

set_option maxRecDepth 100000 in
theorem ruright_fwd (id dv pr kd : Int) (f t : Nat) (pt : Int) (w : World) (h0 : kd = 0) : Calls Try.prog 63 #[.agg #[.int .i64 id, .int .i64 dv, .int .i64 pr, .int .i64 kd, .int .u32 f, .int .u32 t, .int .i64 pt]] w fun e w' => e = .returned (.bool (wn id 1 1048576 && (wn dv 0 7 && (wn pr 0 1024 && (decide (0 ≤ kd) && (decide (kd ≤ 3) && (decide (f ≤ t) && wn pt 0 3))))))) ∧ Below w.heap.size w w' := by
  have d0 : (kd == 0) = true := by simpa using h0
  clear h0
  cases h1 : wn id 1 1048576 with
  | false =>
    simp only [Bool.false_and]
    go_enter Try.func63, Try.ntmps63
    go_wp2_with (go_at_call 81; refine (within_any _ _ _ _).mono ?_; rintro e w1 ⟨rfl, rfl⟩)
    go_ret
    exact ⟨rfl, (Below.refl _ _).alloc (Nat.le_refl _) _⟩
  | true =>
    cases h2 : wn dv 0 7 with
    | false =>
      simp only [Bool.true_and, Bool.false_and]
      go_enter Try.func63, Try.ntmps63
      go_wp2_with (go_at_call 81; refine (within_any _ _ _ _).mono ?_; rintro e w1 ⟨rfl, rfl⟩)
      go_ret
      exact ⟨rfl, (Below.refl _ _).alloc (Nat.le_refl _) _⟩
    | true =>
      cases h3 : wn pr 0 1024 with
      | false =>
        simp only [Bool.true_and, Bool.false_and]
        go_enter Try.func63, Try.ntmps63
        go_wp2_with (go_at_call 81; refine (within_any _ _ _ _).mono ?_; rintro e w1 ⟨rfl, rfl⟩)
        go_ret
        exact ⟨rfl, (Below.refl _ _).alloc (Nat.le_refl _) _⟩
      | true =>
        cases h4 : decide (0 ≤ kd) with
        | false =>
          simp only [Bool.true_and, Bool.false_and]
          go_enter Try.func63, Try.ntmps63
          go_wp2_with (go_at_call 81; refine (within_any _ _ _ _).mono ?_; rintro e w1 ⟨rfl, rfl⟩)
          go_ret
          exact ⟨rfl, (Below.refl _ _).alloc (Nat.le_refl _) _⟩
        | true =>
          cases h5 : decide (kd ≤ 3) with
          | false =>
            simp only [Bool.true_and, Bool.false_and]
            go_enter Try.func63, Try.ntmps63
            go_wp2_with (go_at_call 81; refine (within_any _ _ _ _).mono ?_; rintro e w1 ⟨rfl, rfl⟩)
            go_ret
            exact ⟨rfl, (Below.refl _ _).alloc (Nat.le_refl _) _⟩
          | true =>
            cases h6 : decide (f ≤ t) with
            | false =>
              have h6i : decide ((f : Int) ≤ (t : Int)) = false := by rw [← h6]; congr 1; simp
              simp only [Bool.true_and, Bool.false_and]
              go_enter Try.func63, Try.ntmps63
              go_wp2_with (go_at_call 81; refine (within_any _ _ _ _).mono ?_; rintro e w1 ⟨rfl, rfl⟩)
              go_ret
              exact ⟨rfl, (Below.refl _ _).alloc (Nat.le_refl _) _⟩
            | true =>
              have h6i : decide ((f : Int) ≤ (t : Int)) = true := by rw [← h6]; congr 1; simp
              simp only [Bool.true_and]
              go_enter Try.func63, Try.ntmps63
              go_wp2_with (go_at_call 81; refine (within_any _ _ _ _).mono ?_; rintro e w1 ⟨rfl, rfl⟩)
              go_ret
              exact ⟨rfl, (Below.refl _ _).alloc (Nat.le_refl _) _⟩
set_option maxRecDepth 100000 in
theorem ruright_oth (id dv pr kd : Int) (f t : Nat) (pt : Int) (w : World) (h0 : ¬ kd = 0) : Calls Try.prog 63 #[.agg #[.int .i64 id, .int .i64 dv, .int .i64 pr, .int .i64 kd, .int .u32 f, .int .u32 t, .int .i64 pt]] w fun e w' => e = .returned (.bool (wn id 1 1048576 && (wn dv 0 7 && (wn pr 0 1024 && (decide (0 ≤ kd) && (decide (kd ≤ 3) && (decide (f ≤ t) && wn pt 0 0))))))) ∧ Below w.heap.size w w' := by
  have d0 : (kd == 0) = false := by simpa using h0
  clear h0
  cases h1 : wn id 1 1048576 with
  | false =>
    simp only [Bool.false_and]
    go_enter Try.func63, Try.ntmps63
    go_wp2_with (go_at_call 81; refine (within_any _ _ _ _).mono ?_; rintro e w1 ⟨rfl, rfl⟩)
    go_ret
    exact ⟨rfl, (Below.refl _ _).alloc (Nat.le_refl _) _⟩
  | true =>
    cases h2 : wn dv 0 7 with
    | false =>
      simp only [Bool.true_and, Bool.false_and]
      go_enter Try.func63, Try.ntmps63
      go_wp2_with (go_at_call 81; refine (within_any _ _ _ _).mono ?_; rintro e w1 ⟨rfl, rfl⟩)
      go_ret
      exact ⟨rfl, (Below.refl _ _).alloc (Nat.le_refl _) _⟩
    | true =>
      cases h3 : wn pr 0 1024 with
      | false =>
        simp only [Bool.true_and, Bool.false_and]
        go_enter Try.func63, Try.ntmps63
        go_wp2_with (go_at_call 81; refine (within_any _ _ _ _).mono ?_; rintro e w1 ⟨rfl, rfl⟩)
        go_ret
        exact ⟨rfl, (Below.refl _ _).alloc (Nat.le_refl _) _⟩
      | true =>
        cases h4 : decide (0 ≤ kd) with
        | false =>
          simp only [Bool.true_and, Bool.false_and]
          go_enter Try.func63, Try.ntmps63
          go_wp2_with (go_at_call 81; refine (within_any _ _ _ _).mono ?_; rintro e w1 ⟨rfl, rfl⟩)
          go_ret
          exact ⟨rfl, (Below.refl _ _).alloc (Nat.le_refl _) _⟩
        | true =>
          cases h5 : decide (kd ≤ 3) with
          | false =>
            simp only [Bool.true_and, Bool.false_and]
            go_enter Try.func63, Try.ntmps63
            go_wp2_with (go_at_call 81; refine (within_any _ _ _ _).mono ?_; rintro e w1 ⟨rfl, rfl⟩)
            go_ret
            exact ⟨rfl, (Below.refl _ _).alloc (Nat.le_refl _) _⟩
          | true =>
            cases h6 : decide (f ≤ t) with
            | false =>
              have h6i : decide ((f : Int) ≤ (t : Int)) = false := by rw [← h6]; congr 1; simp
              simp only [Bool.true_and, Bool.false_and]
              go_enter Try.func63, Try.ntmps63
              go_wp2_with (go_at_call 81; refine (within_any _ _ _ _).mono ?_; rintro e w1 ⟨rfl, rfl⟩)
              go_ret
              exact ⟨rfl, (Below.refl _ _).alloc (Nat.le_refl _) _⟩
            | true =>
              have h6i : decide ((f : Int) ≤ (t : Int)) = true := by rw [← h6]; congr 1; simp
              simp only [Bool.true_and]
              go_enter Try.func63, Try.ntmps63
              go_wp2_with (go_at_call 81; refine (within_any _ _ _ _).mono ?_; rintro e w1 ⟨rfl, rfl⟩)
              go_ret
              exact ⟨rfl, (Below.refl _ _).alloc (Nat.le_refl _) _⟩
/-- rule.Right. -/
theorem ruright_any (r : Ru) (w : World) : Calls Try.prog 63 #[.agg (ruA r)] w fun e w' => e = .returned (.bool (ruB r)) ∧ Below w.heap.size w w' := by
  obtain ⟨id, dv, pr, kd, f, t, pt⟩ := r
  by_cases h : kd = 0
  · have := ruright_fwd id dv pr kd f t pt w h
    unfold ruB lastP; simp only [h, if_true] at this ⊢; exact this
  · have := ruright_oth id dv pr kd f t pt w h
    unfold ruB lastP; simp only [h, if_false] at this ⊢; exact this
end Go.Proofs.Ytlhfaildeemngaa
/- Contracts: slices.IndexFunc, ContainsFunc of rules, at a predicate with a state. -/
namespace Go.Proofs.Ytlhfaildeemngaa
open Go.RowKit Go.Shelf

/-- What is asked of a predicate at each rule of a list: its answer, and its state behind it. -/
def Steps (g : Nat) (lb : Array Value) (L : List Ru) (p : Nat → Bool) (I : Nat → World → Prop) (B : Nat) : Prop :=
  ∀ k (hk : k < L.length) W, I k W → Calls Try.prog g (#[.agg (ruA L[k])] ++ lb) W fun e W' => e = .returned (.bool (p k)) ∧ I (k + 1) W' ∧ Below B W W'
/-- What a search answers. -/
def Found (n : Nat) (p : Nat → Bool) (r : Int) : Prop := (r = -1 ∧ ∀ j, j < n → p j = false) ∨ ∃ k : Nat, k < n ∧ r = k ∧ p k = true
set_option maxRecDepth 100000 in
set_option maxHeartbeats 1000000 in
theorem indexFunc_any {v : Value} (g : Nat) (lb : Array Value) (eg : ∀ args w, (callFunc g args).run Try.prog w = .ok (.enter g args) w) (L : List Ru) (p : Nat → Bool) (I : Nat → World → Prop) (B : Nat) (w : World)
    (hs : Steps g lb L p I B) (h0 : I 0 w) (h : ∀ W, Below B w W → IsR W v L) :
    Calls Try.prog 80 #[v, .func (.func g) #[] lb] w fun e w' => ∃ r : Int, e = .returned (.int .i64 r) ∧ Found L.length p r ∧ Below B w w' := by
  obtain ⟨A1, c1, rfl, n1, m1, z1⟩ := h w (Below.refl _ _)
  have hL : L.length ≤ 9223372036854775807 := Nat.le_trans n1 m1
  have H1 : Hid (∀ W, Below B w W → Rs W A1 L) := Lib.hid fun W hW => by
    obtain ⟨A, c, e, _, _, z⟩ := h W hW
    cases e
    exact z
  have HS := Lib.hid hs
  have H0 := Lib.hid h0
  clear z1 h hs h0
  go_enter Try.func80, Try.ntmps80
  go_wp2
  go_loopw [8] (fun i wr => ∃ k : Nat, i = .int .i64 k ∧ k ≤ L.length ∧ Hid (∀ j, j < k → p j = false) ∧ Hid (I k wr) ∧ Below B w wr) (fun i _ => L.length - (intOf i).toNat)
  case atStart => exact ⟨0, rfl, by omega, Lib.hid (fun j hj => by omega), H0, Below.refl _ _⟩
  case round =>
    obtain ⟨k, rfl, hk, HR, HI, hb⟩ := hrel
    by_cases hlt : k < L.length
    · obtain ⟨g1, o1, e1, _, r0, r1, r2, r3, r4, r5, r6⟩ := (H1.out wr hb).at k hlt
      subst e1
      have hcall := HS.out k hlt wr HI.out
      generalize L[k] = x at r0 r1 r2 r3 r4 r5 r6 hcall
      obtain ⟨id, dv, pr, kd, f, t, pt⟩ := x
      dsimp only at r0 r1 r2 r3 r4 r5 r6
      rw [ruA_mk] at hcall
      have i0 : (0 : Int) ≤ (k : Int) := by omega
      have i1 : (k : Int) < (L.length : Int) := by omega
      cases hq : p k with
      | true =>
        rw [hq] at hcall
        go_wp2_with (go_at_fn g; refine hcall.mono ?_; rintro e w' ⟨rfl, hi', hb'⟩)
        go_ret
        exact ⟨_, rfl, .inr ⟨k, hlt, rfl, hq⟩, hb.trans hb'⟩
      | false =>
        rw [hq] at hcall
        go_wp2_with (go_at_fn g; refine hcall.mono ?_; rintro e w' ⟨rfl, hi', hb'⟩)
        go_roundw
        case rel =>
          refine ⟨k + 1, by go_num, by omega, Lib.hid (fun j hj => ?_), Lib.hid hi', hb.trans hb'⟩
          by_cases e : j = k
          · subst e; exact hq
          · exact HR.out j (by omega)
        case measure => simp [intOf]; omega
    · obtain rfl : k = L.length := by omega
      go_wp2
      go_ret
      exact ⟨_, rfl, .inl ⟨rfl, HR.out⟩, hb⟩

theorem containsFunc_any {v : Value} (g : Nat) (lb : Array Value) (eg : ∀ args w, (callFunc g args).run Try.prog w = .ok (.enter g args) w) (L : List Ru) (p : Nat → Bool) (I : Nat → World → Prop) (B : Nat) (w : World)
    (hs : Steps g lb L p I B) (h0 : I 0 w) (h : ∀ W, Below B w W → IsR W v L) :
    Calls Try.prog 61 #[v, .func (.func g) #[] lb] w fun e w' => ∃ b : Bool, e = .returned (.bool b) ∧ (b = true ↔ ∃ k, k < L.length ∧ p k = true) ∧ Below B w w' := by
  have hi := indexFunc_any g lb eg L p I B w hs h0 h
  obtain ⟨A1, c1, rfl, n1, m1, z1⟩ := h w (Below.refl _ _)
  clear hs h0 h z1
  go_enter Try.func61, Try.ntmps61
  go_wp2_with (go_at_call 80; refine hi.mono ?_; rintro e w1 ⟨r, rfl, hr, b1⟩)
  go_ret
  refine ⟨_, rfl, ?_, b1⟩
  rw [decide_eq_true_eq]
  rcases hr with ⟨rfl, hn⟩ | ⟨k, hk, rfl, hp⟩
  · constructor
    · intro h; omega
    · rintro ⟨k, hk, hp⟩; rw [hn k hk] at hp; cases hp
  · exact ⟨fun _ => ⟨k, hk, hp⟩, fun _ => by omega⟩
end Go.Proofs.Ytlhfaildeemngaa
/- Contracts: rule.All. -/
namespace Go.Proofs.Ytlhfaildeemngaa
open Go.RowKit Go.Shelf

set_option maxRecDepth 100000 in
theorem all1_any (x : Ru) (l : Int) (C : Nat) (W : World) (hA : At W C #[.int .i64 l] 3) :
    Calls Try.prog 62 (#[.agg (ruA x)] ++ #[.pointer (some ⟨C, 0, none⟩)]) W fun e W' => e = .returned (.bool (!ruB x || decide (x.id ≤ l))) ∧ At W' C #[.int .i64 x.id] 3 ∧ Below C W W' := by
  have hC := hA.lt
  have hr := fun u : World => ruright_any x u
  obtain ⟨q, hq⟩ : ∃ q, q = ruB x := ⟨_, rfl⟩
  rw [← hq] at hr ⊢
  clear hq
  obtain ⟨id, dv, pr, kd, f, t, pt⟩ := x
  have A0 := hA.alloc (.cells (ruA ⟨id, dv, pr, kd, f, t, pt⟩) 50)
  have X0 := At.new W (ruA ⟨id, dv, pr, kd, f, t, pt⟩) 50
  rw [ruA_mk] at hr A0 X0 ⊢
  dsimp only
  have fin : ∀ w1, At w1 C #[.int .i64 l] 3 → Below (W.heap.size + 1) (W.alloc (.cells #[.int .i64 id, .int .i64 dv, .int .i64 pr, .int .i64 kd, .int .u32 f, .int .u32 t, .int .i64 pt] 50)) w1 → At (w1.setCell ⟨C, 0, none⟩ (.int .i64 id)) C #[.int .i64 id] 3 ∧ Below C W (w1.setCell ⟨C, 0, none⟩ (.int .i64 id)) := fun w1 A1 b1 =>
    ⟨by have := A1.set0 0 (.int .i64 id); simpa using this, (((Below.refl C W).alloc (by omega) _).trans (b1.mono (by omega))).setCell (p := ⟨C, 0, none⟩) (Nat.le_refl _) _⟩
  show Calls Try.prog 62 #[_, _] W _
  cases q with
  | false =>
    simp only [Bool.not_false, Bool.true_or]
    go_enter Try.func62, Try.ntmps62
    go_wp2_with (go_at_call 63; refine (hr _).mono ?_; rintro e w1 ⟨rfl, b1⟩; have A1 := A0.belows b1; have X1 := X0.belows b1; have x0 := (X1.cell 0).trans rfl; have a0 := (A1.cell 0).trans rfl; have z0 := A1.frozen 0)
    go_ret
    exact ⟨rfl, fin w1 A1 (by simpa using b1)⟩
  | true =>
    simp only [Bool.not_true, Bool.false_or]
    go_enter Try.func62, Try.ntmps62
    go_wp2_with (go_at_call 63; refine (hr _).mono ?_; rintro e w1 ⟨rfl, b1⟩; have A1 := A0.belows b1; have X1 := X0.belows b1; have x0 := (X1.cell 0).trans rfl; have a0 := (A1.cell 0).trans rfl; have z0 := A1.frozen 0)
    go_ret
    exact ⟨rfl, fin w1 A1 (by simpa using b1)⟩

theorem enters_all1 : ∀ args w, (callFunc 62 args).run Try.prog w = .ok (.enter 62 args) w := enters_of Try.func62 (by kernel_rfl) rfl
set_option maxRecDepth 100000 in
/-- rule.All. -/
theorem all_any {v : Value} (L : List Ru) (w : World) (h : IsR w v L) : Calls Try.prog 36 #[v] w fun e w' => e = .returned (.bool (allB L)) ∧ Below w.heap.size w w' := by
  by_cases h40 : L.length ≤ 40
  · have hsteps : Steps 62 #[.pointer (some ⟨w.heap.size, 0, none⟩)] L (wrongAt L) (fun k W => At W w.heap.size #[.int .i64 (lastId L k)] 3) w.heap.size := by
      intro k hk W hI
      have e1 : wrongAt L k = (!ruB L[k] || decide (L[k].id ≤ lastId L k)) := by simp [wrongAt, hk]
      have e2 : lastId L (k + 1) = L[k].id := by simp [lastId, hk]
      rw [e1]
      show Calls Try.prog 62 _ W fun e W' => _ ∧ At W' w.heap.size #[.int .i64 (lastId L (k + 1))] 3 ∧ _
      rw [e2]
      exact all1_any _ _ _ W hI
    have hZ : ∀ W, Below w.heap.size (w.alloc (.cells #[.int .i64 0] 3)) W → IsR W v L := fun W hW => h.belows (((Below.refl _ w).alloc (Nat.le_refl _) _).trans hW)
    have hc := containsFunc_any 62 #[.pointer (some ⟨w.heap.size, 0, none⟩)] enters_all1 L (wrongAt L) _ w.heap.size (w.alloc (.cells #[.int .i64 0] 3)) hsteps (At.new _ _ _) hZ
    obtain ⟨A1, c1, rfl, n1, m1, z1⟩ := h
    clear hsteps hZ z1
    have hgt : ¬ (40 : Int) < (L.length : Int) := by omega
    obtain ⟨q, hq⟩ : ∃ q, q = allB L := ⟨_, rfl⟩
    rw [← hq]
    have HQ : Hid (∀ b : Bool, (b = true ↔ ∃ k, k < L.length ∧ wrongAt L k = true) → (!b) = q) := Lib.hid fun b hb => (allB_of h40 hb).trans hq.symm
    clear hq
    go_enter Try.func36, Try.ntmps36
    go_wp2_with (go_at_call 61; refine hc.mono ?_; rintro e w1 ⟨b, rfl, hb, b1⟩)
    go_ret
    exact ⟨ret_bool (HQ.out b hb), ((Below.refl _ w).alloc (Nat.le_refl _) _).trans b1⟩
  · have e : allB L = false := by unfold allB; rw [decide_eq_false h40, Bool.false_and]
    rw [e]
    obtain ⟨A1, c1, rfl, n1, m1, z1⟩ := h
    clear z1 e
    have hgt : (40 : Int) < (L.length : Int) := by omega
    go_enter Try.func36, Try.ntmps36
    go_wp2
    go_ret
    exact ⟨rfl, Below.refl _ _⟩
end Go.Proofs.Ytlhfaildeemngaa
/- Maps in memory as functions: a block that is a map, its keys values of a type of ours, its elements any values. Over any program. -/
namespace Go.Proofs.Ytlhfaildeemngaa
open Go.RowKit Go.Maps

/-- An element as it stands. -/
def rdV (v : Value) : Option (DataW Value × List MemPlace) := some (.held v, [])
section
variable {κ : Type} {P : Program} {k : TypeId} {kv : κ → Value} {ok : κ → Prop}
/-- Block b is a map of s entries (at most n); of the keys that are ok it tells M. -/
def MapAt (P : Program) (k : TypeId) (kv : κ → Value) (ok : κ → Prop) (w : World) (b n s : Nat) (M : κ → Option Value) : Prop :=
  ∃ D : DataW Value, w.ownsMap P k rdV b n D ∧ Maps.size D = s ∧ ∀ x, ok x → ∀ kl, keyOf P k (kv x) = some kl → has D kl = (M x).isSome ∧ ∀ z, D.atKey kl z = ((M x).map DataW.held).getD z
theorem MapAt.made (w : World) : MapAt P k kv ok (w.alloc (.map #[] 0)) w.heap.size 0 0 (fun _ => none) :=
  ⟨.map [], World.ownsMap_made w P k rdV, rfl, fun _ _ _ _ => ⟨rfl, fun _ => rfl⟩⟩
theorem MapAt.heap {w w' : World} {b n s : Nat} {M : κ → Option Value} (h : MapAt P k kv ok w b n s M) (he : w'.heap[b]? = w.heap[b]?) : MapAt P k kv ok w' b n s M := by
  obtain ⟨D, ⟨es, clock, hb, r⟩, h2⟩ := h
  exact ⟨D, ⟨es, clock, he.trans hb, r⟩, h2⟩
theorem MapAt.lt {w : World} {b n s : Nat} {M : κ → Option Value} (h : MapAt P k kv ok w b n s M) : b < w.heap.size := by
  obtain ⟨D, h, _⟩ := h
  exact h.lt
theorem MapAt.belows {w w' : World} {b n s : Nat} {M : κ → Option Value} (h : MapAt P k kv ok w b n s M) (hb : Below w.heap.size w w') : MapAt P k kv ok w' b n s M := h.heap (hb.block b h.lt)
theorem MapAt.same {w : World} {b n s : Nat} {M M' : κ → Option Value} (h : MapAt P k kv ok w b n s M) (he : ∀ x, ok x → M x = M' x) : MapAt P k kv ok w b n s M' := by
  obtain ⟨D, h1, hs, h2⟩ := h
  exact ⟨D, h1, hs, fun x hx kl hk => by rw [← he x hx]; exact h2 x hx kl hk⟩
theorem held_of {o : Option Value} {v z : Value} (h : DataW.held v = (o.map DataW.held).getD (DataW.held z)) : v = o.getD z := by
  cases o with
  | none => injection h
  | some u => injection h
/-- A look-up with 'ok'. -/
theorem MapAt.look_ok {w : World} {b n s : Nat} {M : κ → Option Value} (h : MapAt P k kv ok w b n s M) (K : Keyed P k) {t e : TypeId} (ht : P.underlying t = some (.map k e)) {z : Value} (hz : (zeroValue e).run P w = .ok z w) {x : κ} (hx : ok x) {kl : Lit} (hk : keyOf P k (kv x) = some kl) :
    (Instr.lookup t (.map (some b)) (kv x) true).run P w = .ok (.tuple #[(M x).getD z, .bool (M x).isSome]) w := by
  obtain ⟨D, h1, _, h2⟩ := h
  obtain ⟨a1, a2⟩ := h2 x hx kl hk
  obtain ⟨v, ps, hrun, hv⟩ := h1.look_ok K ht hz (zd := .held z) (zp := []) rfl hk
  unfold rdV at hv
  injection hv with hv
  injection hv with hv _
  rw [a2] at hv
  rw [hrun, a1, held_of hv]
/-- A look-up without. -/
theorem MapAt.look {w : World} {b n s : Nat} {M : κ → Option Value} (h : MapAt P k kv ok w b n s M) (K : Keyed P k) {t e : TypeId} (ht : P.underlying t = some (.map k e)) {z : Value} (hz : (zeroValue e).run P w = .ok z w) {x : κ} (hx : ok x) {kl : Lit} (hk : keyOf P k (kv x) = some kl) :
    (Instr.lookup t (.map (some b)) (kv x) false).run P w = .ok ((M x).getD z) w := by
  obtain ⟨D, h1, _, h2⟩ := h
  obtain ⟨a1, a2⟩ := h2 x hx kl hk
  obtain ⟨v, ps, hrun, hv⟩ := h1.lookup K ht hz (zd := .held z) (zp := []) rfl hk
  unfold rdV at hv
  injection hv with hv
  injection hv with hv _
  rw [a2] at hv
  rw [hrun, held_of hv]
/-- A store. -/
theorem MapAt.put [DecidableEq κ] {w : World} {b n s : Nat} {M : κ → Option Value} (h : MapAt P k kv ok w b n s M) (K : Keyed P k) (hinj : ∀ x y, kv x = kv y → x = y) {t e : TypeId} (ht : P.underlying t = some (.map k e)) (hn : n < maxLen) {x : κ} (hx : ok x) {kl : Lit} (hk : keyOf P k (kv x) = some kl) (v : Value) :
    ∃ w', (Instr.mapUpdate t (.map (some b)) (kv x) v).run P w = .ok () w' ∧ MapAt P k kv ok w' b (n + 1) (if (M x).isSome then s else s + 1) (fun y => if y = x then some v else M y) ∧ w.grownBy w' (some b) := by
  obtain ⟨D, h1, hs, h2⟩ := h
  obtain ⟨w', hrun, r1, r2⟩ := h1.update K ht hn hk (val := v) (d := .held v) (ps := []) rfl
  refine ⟨w', hrun, ⟨_, r1, ?_, fun y hy kl' hk' => ?_⟩, r2⟩
  · rw [size_put (h1.tidy K), (h2 x hx kl hk).1, hs]
  by_cases hyx : y = x
  · subst hyx
    obtain rfl : kl' = kl := Option.some.inj (hk'.symm.trans hk)
    refine ⟨?_, fun z => ?_⟩
    · rw [has_put_same h1.isMap (K.key hk)]; simp
    · rw [atKey_put_same h1.isMap (K.key hk)]; simp
  · have hne : kl' ≠ kl := fun e => hyx (hinj _ _ (K.inj (hk'.trans (congrArg some e)) hk))
    obtain ⟨a1, a2⟩ := h2 y hy kl' hk'
    refine ⟨?_, fun z => ?_⟩
    · rw [has_put_other hne, a1]; simp only [if_neg hyx]
    · rw [atKey_put_other hne, a2]; simp only [if_neg hyx]
section
variable {w : World} {ops : Array Oper} {rest : List Oper} {o : Oper} {a : Act} {Q : Exit → Act → World → Prop}
theorem wpList_map_look_ok {b n s : Nat} {M : κ → Option Value} (hg : o.guard = none) (m x : Operand) (t : TypeId) (hop : o.op = Op.lookup t m x true) (e : TypeId) (K : Keyed P k) (ht : P.underlying t = some (.map k e)) {z : Value} (hz : (zeroValue e).run P w = .ok z w)
    (hm : a.eval m = .map (some b)) (h : MapAt P k kv ok w b n s M) (y : κ) (hy : ok y) (hx : a.eval x = kv y) {kl : Lit} (hk : keyOf P k (kv y) = some kl)
    (hK : wpList P ops Q rest (a.put o.dst (.tuple #[(M y).getD z, .bool (M y).isSome])) w) : wpList P ops Q (o :: rest) a w := by
  refine wpList_plain hg fun K' hK' => ?_
  have hrun := h.look_ok K ht hz hy hk
  unfold Oper.wp
  simp [execOp, hop, hm, hx, hrun, Result.andThen]
  exact hK' _ _ hK
theorem wpList_map_look {b n s : Nat} {M : κ → Option Value} (hg : o.guard = none) (m x : Operand) (t : TypeId) (hop : o.op = Op.lookup t m x false) (e : TypeId) (K : Keyed P k) (ht : P.underlying t = some (.map k e)) {z : Value} (hz : (zeroValue e).run P w = .ok z w)
    (hm : a.eval m = .map (some b)) (h : MapAt P k kv ok w b n s M) (y : κ) (hy : ok y) (hx : a.eval x = kv y) {kl : Lit} (hk : keyOf P k (kv y) = some kl)
    (hK : wpList P ops Q rest (a.put o.dst ((M y).getD z)) w) : wpList P ops Q (o :: rest) a w := by
  refine wpList_plain hg fun K' hK' => ?_
  have hrun := h.look K ht hz hy hk
  unfold Oper.wp
  simp [execOp, hop, hm, hx, hrun, Result.andThen]
  exact hK' _ _ hK
theorem wpList_map_put [DecidableEq κ] {b n s : Nat} {M : κ → Option Value} (hg : o.guard = none) (m x u : Operand) (t : TypeId) (hop : o.op = Op.mapUpdate t m x u) (e : TypeId) (K : Keyed P k) (hinj : ∀ x y, kv x = kv y → x = y) (ht : P.underlying t = some (.map k e)) (hn : n < maxLen)
    (hm : a.eval m = .map (some b)) (h : MapAt P k kv ok w b n s M) (y : κ) (hy : ok y) (v : Value) (hx : a.eval x = kv y) (hu : a.eval u = v) {kl : Lit} (hk : keyOf P k (kv y) = some kl)
    (hK : ∀ w', MapAt P k kv ok w' b (n + 1) (if (M y).isSome then s else s + 1) (fun y' => if y' = y then some v else M y') → w.grownBy w' (some b) → wpList P ops Q rest (a.put o.dst undef) w') : wpList P ops Q (o :: rest) a w := by
  refine wpList_plain hg fun K' hK' => ?_
  obtain ⟨w', hrun, r1, r2⟩ := h.put K hinj ht hn hy hk v
  unfold Oper.wp
  simp [execOp, hop, hm, hx, hu, hrun, Result.andThen]
  exact hK' _ _ (hK w' r1 r2)
/-- A store, as a step of a region that draws. -/
theorem step_map_put [DecidableEq κ] {E : Prop} {K' : Act → World → Prop} {b n s : Nat} {M : κ → Option Value} (hg : o.guard = none) (m x u : Operand) (t : TypeId) (hop : o.op = Op.mapUpdate t m x u) (e : TypeId) (K : Keyed P k) (hinj : ∀ x y, kv x = kv y → x = y) (ht : P.underlying t = some (.map k e)) (hn : n < maxLen)
    (hm : a.eval m = .map (some b)) (h : MapAt P k kv ok w b n s M) (y : κ) (hy : ok y) (v : Value) (hx : a.eval x = kv y) (hu : a.eval u = v) {kl : Lit} (hk : keyOf P k (kv y) = some kl)
    (hK : ∀ w', MapAt P k kv ok w' b (n + 1) (if (M y).isSome then s else s + 1) (fun y' => if y' = y then some v else M y') → w.grownBy w' (some b) → K' (a.put o.dst undef) w') : if Region.wanted o (yielded ops a.tmps) = true then Oper.wp P o a w K' Q else E := by
  rw [if_pos (by simp [Region.wanted, hg])]
  obtain ⟨w', hrun, r1, r2⟩ := h.put K hinj ht hn hy hk v
  unfold Oper.wp
  simp [execOp, hop, hm, hx, hu, hrun, Result.andThen]
  exact hK w' r1 r2
/-- Its length. -/
theorem wpList_map_len {b n s : Nat} {M : κ → Option Value} (hg : o.guard = none) (m : Operand) (t : TypeId) (hop : o.op = Op.call { callee := Callee.builtin Builtin.len, args := #[m], argTypes := #[t] }) (e : TypeId) (ht : P.underlying t = some (.map k e))
    (hm : a.eval m = .map (some b)) (h : MapAt P k kv ok w b n s M) (hK : wpList P ops Q rest (a.put o.dst (.int .i64 s)) w) : wpList P ops Q (o :: rest) a w := by
  obtain ⟨D, h1, rfl, _⟩ := h
  exact wpList_len_own w hg m t hop k e ht _ b n D hm h1 hK
theorem MapAt.run_len {b n s : Nat} {M : κ → Option Value} (h : MapAt P k kv ok w b n s M) {t e : TypeId} (ht : P.underlying t = some (.map k e)) (ty : TypeId) : (Builtin.len_ #[t] ty #[.map (some b)]).run P w = .ok (.int .i64 s) w := by
  obtain ⟨D, h1, rfl, _⟩ := h
  exact h1.len ht ty
end
end
end Go.Proofs.Ytlhfaildeemngaa
/- Ports as keys of maps. -/
namespace Go.Proofs.Ytlhfaildeemngaa
open Go.RowKit Go.Maps

theorem laidOutK : laidOutB Try.prog = true := by kernel_rfl
theorem rowPt : decide (68 < Try.prog.types.size) = true := by kernel_rfl
theorem row3 : decide (3 < Try.prog.types.size) = true := by kernel_rfl
theorem keyedPt : Keyed Try.prog 68 := Keyed.of_law (deep_law_laid laidOutK (m := 3) (by decide) (of_decide_eq_true rowPt) (by kernel_rfl) (by kernel_rfl))
theorem keyPt (p : Pt) (h : isPt p) : ∃ kl, keyOf Try.prog 68 (.agg (ptA p)) = some kl := by
  have hk : Try.prog.keyType 68 = true := by kernel_rfl
  have hc : Try.prog.cellsOf 68 = 2 := by kernel_rfl
  have hc3 : Try.prog.cellsOf 3 = 1 := by kernel_rfl
  have h0 : 3 < Try.prog.types.size := of_decide_eq_true row3
  obtain ⟨m, hm⟩ : ∃ m, Try.prog.types.size = m + 1 := ⟨Try.prog.types.size - 1, by omega⟩
  obtain ⟨⟨h1, h2⟩, ⟨h3, h4⟩⟩ := h
  have w1 : (Lit.int .i64 p.d).wf = true := by simp [Lit.wf, IntKind.min, IntKind.max, IntKind.signed, IntKind.bits]; omega
  have w2 : (Lit.int .i64 p.p).wf = true := by simp [Lit.wf, IntKind.min, IntKind.max, IntKind.signed, IntKind.bits]; omega
  unfold keyOf
  rw [Try.underlying68]
  simp only [hk, Value.formed, Try.underlying68, hc, hm]
  simp [Program.keyLits, Try.underlying68, hc, hc3, Try.underlying3, Value.cells, ptA, w1, w2]
theorem pt_inj (p q : Pt) (h : Value.agg (ptA p) = Value.agg (ptA q)) : p = q := by
  obtain ⟨a, b⟩ := p
  obtain ⟨c, d⟩ := q
  injection h with h
  simp only [ptA, Array.mk.injEq, List.cons.injEq, Value.int.injEq] at h
  obtain ⟨⟨_, rfl⟩, ⟨_, rfl⟩, _⟩ := h
  rfl
end Go.Proofs.Ytlhfaildeemngaa
/- Plain mathematics: who is joined, by a map that is filled link by link; how many ports stand in it. -/
namespace Go.Proofs.Ytlhfaildeemngaa

/-- A map with one more. -/
def setM (M : Pt → Option Pt) (x v : Pt) : Pt → Option Pt := fun y => if y = x then some v else M y
def stepM (M : Pt → Option Pt) (l : Lk) : Pt → Option Pt := setM (setM M l.a l.b) l.b l.a
/-- The map of links. -/
def mapL (ls : List Lk) : Pt → Option Pt := ls.foldl stepM fun _ => none
theorem mapL_snoc (ls : List Lk) (k : Nat) (hk : k < ls.length) : mapL (ls.take (k + 1)) = setM (setM (mapL (ls.take k)) ls[k].a ls[k].b) ls[k].b ls[k].a := by
  unfold mapL; rw [List.take_succ_eq_append_getElem hk, List.foldl_append]; rfl
theorem mapL_app (ls : List Lk) (l : Lk) : mapL (ls ++ [l]) = stepM (mapL ls) l := by
  unfold mapL; rw [List.foldl_append]; rfl
theorem mapL_some : ∀ (ls : List Lk) (p : Pt), ((mapL ls p).isSome = true ↔ p ∈ ends ls) ∧ ∀ q, mapL ls p = some q → ∃ l ∈ ls, (l.a = p ∧ l.b = q) ∨ (l.b = p ∧ l.a = q) := by
  intro ls
  induction hn : ls.length generalizing ls with
  | zero =>
    obtain rfl := List.eq_nil_of_length_eq_zero hn
    intro p
    simp [mapL, ends]
  | succ n ih =>
    obtain ⟨r, l, rfl⟩ : ∃ r l, ls = r ++ [l] := ⟨ls.dropLast, ls.getLast (by intro e; rw [e] at hn; simp at hn), (List.dropLast_concat_getLast _).symm⟩
    intro p
    obtain ⟨h1, h2⟩ := ih r (by simpa using hn) p
    rw [mapL_app, ends_append]
    have e2 : ends [l] = [l.a, l.b] := rfl
    rw [e2]
    unfold stepM setM
    by_cases hb : p = l.b
    · rw [if_pos hb]
      refine ⟨by simp [hb], fun q hq => ?_⟩
      injection hq with hq
      exact ⟨l, by simp, .inr ⟨hb.symm, hq⟩⟩
    · rw [if_neg hb]
      by_cases ha : p = l.a
      · rw [if_pos ha]
        refine ⟨by simp [ha], fun q hq => ?_⟩
        injection hq with hq
        exact ⟨l, by simp, .inl ⟨ha.symm, hq⟩⟩
      · rw [if_neg ha]
        refine ⟨by rw [h1]; simp [ha, hb], fun q hq => ?_⟩
        obtain ⟨m, hm, hh⟩ := h2 q hq
        exact ⟨m, by simp [hm], hh⟩
/-- Where no port is in two links, the map tells who is joined. -/
theorem mapL_next {ls : List Lk} (hn : (ends ls).Nodup) (p : Pt) : mapL ls p = nextT ls p := by
  obtain ⟨h1, h2⟩ := mapL_some ls p
  cases h : mapL ls p with
  | none =>
    rw [h] at h1
    symm
    rw [nextT_none]
    intro hm
    have := h1.2 hm
    cases this
  | some q => exact (nextT_of hn (h2 q h)).symm
/-- How many there are, each once: of the last one first. -/
def dcnt : List Pt → Nat
  | [] => 0
  | x :: r => if x ∈ r then dcnt r else dcnt r + 1
theorem dcnt_cons (x : Pt) (r : List Pt) : dcnt (x :: r) = if x ∈ r then dcnt r else dcnt r + 1 := rfl
theorem dcnt_le : ∀ l : List Pt, dcnt l ≤ l.length
  | [] => Nat.le_refl _
  | x :: r => by
    have := dcnt_le r
    rw [dcnt_cons, List.length_cons]
    split <;> omega
theorem dcnt_nodup : ∀ l : List Pt, dcnt l = l.length ↔ l.Nodup
  | [] => by simp [dcnt]
  | x :: r => by
    have h1 := dcnt_le r
    have h2 := dcnt_nodup r
    rw [List.nodup_cons, ← h2]
    rw [dcnt_cons, List.length_cons]
    by_cases h : x ∈ r
    · rw [if_pos h]
      constructor
      · intro e; omega
      · intro e; exact absurd h e.1
    · rw [if_neg h]
      constructor
      · intro e; exact ⟨h, by omega⟩
      · intro e; omega
/-- How many ports stand in the links, each once. -/
def cntL (ls : List Lk) : Nat := dcnt (ends ls).reverse
theorem cntL_zero : cntL [] = 0 := rfl
theorem cntL_snoc (ls : List Lk) (k : Nat) (hk : k < ls.length) :
    cntL (ls.take (k + 1)) = if (setM (mapL (ls.take k)) ls[k].a ls[k].b ls[k].b).isSome then (if (mapL (ls.take k) ls[k].a).isSome then cntL (ls.take k) else cntL (ls.take k) + 1) else (if (mapL (ls.take k) ls[k].a).isSome then cntL (ls.take k) else cntL (ls.take k) + 1) + 1 := by
  have e : (ends (ls.take (k + 1))).reverse = ls[k].b :: ls[k].a :: (ends (ls.take k)).reverse := by
    rw [List.take_succ_eq_append_getElem hk, ends_append]
    simp [ends]
  unfold cntL
  rw [e]
  have h1 := (mapL_some (ls.take k) ls[k].a).1
  have h2 := (mapL_some (ls.take k) ls[k].b).1
  have e1 : dcnt (ls[k].a :: (ends (ls.take k)).reverse) = if (mapL (ls.take k) ls[k].a).isSome then dcnt (ends (ls.take k)).reverse else dcnt (ends (ls.take k)).reverse + 1 := by
    show (if ls[k].a ∈ (ends (ls.take k)).reverse then _ else _) = _
    by_cases h : ls[k].a ∈ ends (ls.take k)
    · rw [if_pos (List.mem_reverse.2 h), if_pos (h1.2 h)]
    · rw [if_neg (fun hh => h (List.mem_reverse.1 hh)), if_neg (fun hh => h (h1.1 hh))]
  have e2 : (setM (mapL (ls.take k)) ls[k].a ls[k].b ls[k].b).isSome = true ↔ ls[k].b ∈ ls[k].a :: (ends (ls.take k)).reverse := by
    unfold setM
    by_cases h : ls[k].b = ls[k].a
    · rw [if_pos h]; simp [h]
    · rw [if_neg h, h2]; simp [h]
  show (if ls[k].b ∈ ls[k].a :: (ends (ls.take k)).reverse then _ else _) = _
  rw [e1]
  by_cases h : ls[k].b ∈ ls[k].a :: (ends (ls.take k)).reverse
  · rw [if_pos h, if_pos (e2.2 h)]
  · rw [if_neg h, if_neg (fun hh => h (e2.1 hh))]
theorem cntL_le (ls : List Lk) : cntL ls ≤ 2 * ls.length := by
  have := dcnt_le (ends ls).reverse
  rw [List.length_reverse, ends_length] at this
  exact this
theorem cntL_nodup (ls : List Lk) : cntL ls = 2 * ls.length ↔ (ends ls).Nodup := by
  have := dcnt_nodup (ends ls).reverse
  rw [List.length_reverse, ends_length] at this
  unfold cntL
  rw [this, List.nodup_iff_pairwise_ne, List.nodup_iff_pairwise_ne, List.pairwise_reverse]
  constructor <;> intro h <;> exact h.imp fun hab => Ne.symm hab
end Go.Proofs.Ytlhfaildeemngaa
/- Contracts: joined: the ports that are in links, as a map. -/
namespace Go.Proofs.Ytlhfaildeemngaa
open Go.RowKit Go.Shelf Go.Maps

def ptV (p : Pt) : Value := .agg (ptA p)
theorem zPt (w : World) : (zeroValue 68).run Try.prog w = .ok (ptV ⟨0, 0⟩) w := by kernel_rfl
theorem ptV_inj (x y : Pt) (h : ptV x = ptV y) : x = y := pt_inj x y h
/-- A map from ports to ports. -/
def JMap (w : World) (b n s : Nat) (M : Pt → Option Pt) : Prop := MapAt Try.prog 68 ptV isPt w b n s fun y => (M y).map ptV
theorem JMap.belows {w w' : World} {b n s : Nat} {M : Pt → Option Pt} (h : JMap w b n s M) (hb : Below w.heap.size w w') : JMap w' b n s M := MapAt.belows h hb
theorem JMap.lt {w : World} {b n s : Nat} {M : Pt → Option Pt} (h : JMap w b n s M) : b < w.heap.size := MapAt.lt h
theorem JMap.of_put {w : World} {b n s : Nat} {M : Pt → Option Pt} {x v : Pt} (h : MapAt Try.prog 68 ptV isPt w b n (if ((M x).map ptV).isSome then s else s + 1) fun y => if y = x then some (ptV v) else (M y).map ptV) : JMap w b n (if (M x).isSome then s else s + 1) (setM M x v) := by
  rw [Option.isSome_map] at h
  have e : (fun y => (setM M x v y).map ptV) = fun y => if y = x then some (ptV v) else (M y).map ptV := by
    funext y
    unfold setM
    split <;> rfl
  unfold JMap
  rw [e]
  exact h
theorem run_makeMap_of {t k e : TypeId} (ht : Try.prog.underlying t = some (.map k e)) (n : Int) (w : World) : (Instr.makeMap t (some (.int .i64 n))).run Try.prog w = .ok (.map (some w.heap.size)) (w.alloc (.map #[] 0)) := by
  simp [Instr.makeMap, run_underlying ht, go_sem]
/-- What joined answers. -/
def JOut (ls : List Lk) (w : World) (e : Ending) (w' : World) : Prop := ∃ b, e = .returned (.map (some b)) ∧ w.heap.size ≤ b ∧ JMap w' b (2 * ls.length) (cntL ls) (mapL ls) ∧ Below w.heap.size w w'
/-- Where the loop stands. -/
def JI (ls : List Lk) (w0 : World) (b k : Nat) (W : World) : Prop := JMap W b (2 * k) (cntL (ls.take k)) (mapL (ls.take k)) ∧ Below b w0 W
set_option maxRecDepth 100000 in
set_option maxHeartbeats 4000000 in
theorem joined_any {vp vl : Value} (ps : List Int) (ls : List Lk) (w : World) (hT : TW ps ls) (h16 : ls.length ≤ 16) (h : IsT w vp vl ps ls) : Calls Try.prog 60 #[.agg #[vp, vl]] w (JOut ls w) := by
  obtain ⟨⟨A1, c1, rfl, n1, m1, _⟩, ⟨A2, c2, rfl, n2, m2, z2⟩⟩ := h
  have hmm := run_makeMap_of Try.underlying105
  have HW := Lib.hid hT.links
  have D0 := (At.new w #[.slice A1 ps.length c1, .slice A2 ls.length c2] 25).alloc (.map #[] 0)
  have b0 : Below w.heap.size w ((w.alloc (.cells #[.slice A1 ps.length c1, .slice A2 ls.length c2] 25)).alloc (.map #[] 0)) := ((Below.refl _ w).alloc (Nat.le_refl _) _).alloc (by simp) _
  have J0 : JMap ((w.alloc (.cells #[.slice A1 ps.length c1, .slice A2 ls.length c2] 25)).alloc (.map #[] 0)) (w.heap.size + 1) 0 0 (fun _ => none) := by
    have := MapAt.made (P := Try.prog) (k := 68) (kv := ptV) (ok := isPt) (w.alloc (.cells #[.slice A1 ps.length c1, .slice A2 ls.length c2] 25))
    rw [World.size_alloc] at this
    exact this
  have H2 := Lib.hid z2
  clear z2 hT
  go_enter Try.func60, Try.ntmps60
  obtain ⟨w0, hw0⟩ : ∃ w0, w0 = ((w.alloc (.cells #[.slice A1 ps.length c1, .slice A2 ls.length c2] 25)).alloc (.map #[] 0)) := ⟨_, rfl⟩
  go_upto_region 2 with (fail)
  rw [← hw0] at D0 b0 J0 ⊢
  have hs0 : w0.heap.size = w.heap.size + 1 + 1 := by rw [hw0]; simp
  have x1 := (D0.cell 1).trans rfl
  have HJ0 := Lib.hid J0
  have HB0 := Lib.hid b0
  have HS0 := Lib.hid hs0
  clear hw0 hmm J0 b0 hs0
  go_wp2
  go_loopw [14] (fun i wr => ∃ k : Nat, i = .int .i64 k ∧ k ≤ ls.length ∧ Hid (JI ls w0 (w.heap.size + 1) k wr)) (fun i _ => ls.length - (intOf i).toNat)
  case atStart => exact ⟨0, rfl, by omega, Lib.hid ⟨by have := HJ0.out; exact this, Below.refl _ _⟩⟩
  case round =>
    obtain ⟨k, rfl, hk, HJ⟩ := hrel
    obtain ⟨hj, hb⟩ := HJ.out
    clear HJ
    by_cases hlt : k < ls.length
    · have i0 : (0 : Int) ≤ (k : Int) := by omega
      have i1 : (k : Int) < (ls.length : Int) := by omega
      obtain ⟨g, o, e, hg, hc⟩ := H2.out.at k hlt
      subst e
      have hbw : Below w.heap.size w wr := HB0.out.trans (hb.mono (by omega))
      have r0 := (hbw.cell (p := ⟨g, _, none⟩) hg).trans (hc 0 (by decide)); have r1 := (hbw.cell (p := ⟨g, _, none⟩) hg).trans (hc 1 (by decide)); have r2 := (hbw.cell (p := ⟨g, _, none⟩) hg).trans (hc 2 (by decide)); have r3 := (hbw.cell (p := ⟨g, _, none⟩) hg).trans (hc 3 (by decide))
      have HE := Lib.hid (mapL_snoc ls k hlt)
      have HC := Lib.hid (cntL_snoc ls k hlt)
      obtain ⟨pa, pb⟩ := HW.out _ (List.getElem_mem hlt)
      generalize ls[k] = l at r0 r1 r2 r3 HE HC pa pb
      obtain ⟨⟨a, b⟩, ⟨c, d⟩⟩ := l
      simp only [lkA, Nat.add_zero] at r0 r1 r2 r3
      dsimp only at HE HC pa pb
      generalize mapL (ls.take k) = M0 at hj HE HC
      generalize cntL (ls.take k) = s0 at hj HC
      obtain ⟨ka, hka⟩ := keyPt ⟨a, b⟩ pa
      obtain ⟨kb, hkb⟩ := keyPt ⟨c, d⟩ pb
      have bs : wr.heap.size ≠ w.heap.size + 1 := by have := hj.lt; omega
      have L1 := At.new wr #[.int .i64 a, .int .i64 b, .int .i64 c, .int .i64 d] 75
      have bl1 : Below wr.heap.size wr (wr.alloc (.cells #[.int .i64 a, .int .i64 b, .int .i64 c, .int .i64 d] 75)) := (Below.refl _ wr).alloc (Nat.le_refl _) _
      have j1 := Lib.hid (hj.belows bl1)
      have hb1 : Below (w.heap.size + 1) w0 (wr.alloc (.cells #[.int .i64 a, .int .i64 b, .int .i64 c, .int .i64 d] 75)) := hb.alloc (by have := hj.lt; omega) _
      have HB1 := Lib.hid hb1
      have PA := Lib.hid pa
      have PB := Lib.hid pb
      have HKA := Lib.hid hka
      have HKB := Lib.hid hkb
      have hltL : wr.heap.size < (wr.alloc (.cells #[.int .i64 a, .int .i64 b, .int .i64 c, .int .i64 d] 75)).heap.size := by simp
      clear hc hj hb bl1 hb1 hbw pa pb hka hkb
      go_upto_region 5 with (fail)
      obtain ⟨w1, hw1⟩ : ∃ w1, w1 = (wr.alloc (.cells #[.int .i64 a, .int .i64 b, .int .i64 c, .int .i64 d] 75)) := ⟨_, rfl⟩
      rw [← hw1] at L1 j1 HB1 hltL ⊢
      have LZ : ∀ u, At u wr.heap.size #[.int .i64 a, .int .i64 b, .int .i64 c, .int .i64 d] 75 → u.cell? ⟨wr.heap.size, 0, none⟩ = some (.int .i64 a) ∧ u.cell? ⟨wr.heap.size, 1, none⟩ = some (.int .i64 b) ∧ u.cell? ⟨wr.heap.size, 2, none⟩ = some (.int .i64 c) ∧ u.cell? ⟨wr.heap.size, 3, none⟩ = some (.int .i64 d) := fun u h => ⟨(h.cell 0).trans rfl, (h.cell 1).trans rfl, (h.cell 2).trans rfl, (h.cell 3).trans rfl⟩
      have HLZ := Lib.hid LZ
      obtain ⟨B, hB⟩ : ∃ B, B = wr.heap.size := ⟨_, rfl⟩
      rw [← hB] at L1 hltL HLZ bs ⊢
      clear hw1 LZ hB r0 r1 r2 r3
      have j1d : MapAt Try.prog 68 ptV isPt w1.drew (w.heap.size + 1) (2 * k) s0 fun y => (M0 y).map ptV := JMap.belows j1.out (bdrewN (Below.refl _ _) 1)
      obtain ⟨w5, hrun5, j5, g5⟩ := j1d.put keyedPt ptV_inj Try.underlying105 (by unfold maxLen; omega) PA.out HKA.out (ptV ⟨c, d⟩)
      have J5 := Lib.hid (JMap.of_put j5)
      have L5 := L1.drew.kept g5 (by simpa using bs)
      have j5d : MapAt Try.prog 68 ptV isPt w5 (w.heap.size + 1) (2 * k + 1) (if (M0 ⟨a, b⟩).isSome then s0 else s0 + 1) fun y => (setM M0 ⟨a, b⟩ ⟨c, d⟩ y).map ptV := J5.out
      obtain ⟨w6, hrun6, j6, g6⟩ := j5d.put keyedPt ptV_inj Try.underlying105 (by unfold maxLen; omega) PB.out HKB.out (ptV ⟨a, b⟩)
      have J6 := Lib.hid (JMap.of_put j6)
      have L6 := L5.kept g6 (by simpa using bs)
      have G5 := Lib.hid g5
      have G6 := Lib.hid g6
      clear j1d j5 j5d j6 g5 g6
      rw [show ptV ⟨a, b⟩ = .agg #[.int .i64 a, .int .i64 b] from rfl, show ptV ⟨c, d⟩ = .agg #[.int .i64 c, .int .i64 d] from rfl] at hrun5 hrun6
      go_region_held3 (fun W => W.cell? ⟨B, 0, none⟩ = some (.int .i64 a) ∧ W.cell? ⟨B, 1, none⟩ = some (.int .i64 b) ∧ W.cell? ⟨B, 2, none⟩ = some (.int .i64 c) ∧ W.cell? ⟨B, 3, none⟩ = some (.int .i64 d))
        (first | exact HLZ.out _ L6 | exact HLZ.out _ L5 | exact HLZ.out _ L1.drew | exact HLZ.out _ L1) (fail)
      have HFB : Hid (Below (w.heap.size + 1) w0 w6) := Lib.hid (((bdrewN HB1.out 1).grown G5.out (by have := HB1.out.size; have := HS0.out; show w.heap.size + 1 ≤ w1.heap.size; omega) (fun j hj => by cases hj; exact Nat.le_refl _)).grown G6.out (by have := HB1.out.size; have := HS0.out; have := G5.out.size; have e : w1.drew.heap.size = w1.heap.size := rfl; omega) (fun j hj => by cases hj; exact Nat.le_refl _))
      have HFJ : Hid (JI ls w0 (w.heap.size + 1) (k + 1) w6) := Lib.hid ⟨by rw [HE.out, HC.out]; exact J6.out, HFB.out⟩
      clear HE HC J5 J6 G5 G6 HB1 L1 L5 L6 j1 HLZ hrun5 hrun6
      all_goals (go_wp2_with fail)
      all_goals (go_roundw)
      case rel => exact ⟨k + 1, by go_num, by omega, HFJ⟩
      case measure => simp [intOf]; omega
    · have hki : ¬ (k : Int) < (ls.length : Int) := by omega
      obtain rfl : k = ls.length := by omega
      rw [List.take_length] at hj
      have hbw : Below w.heap.size w wr := HB0.out.trans (hb.mono (by omega))
      have HJ := Lib.hid hj
      clear hj
      go_wp2
      go_ret
      exact ⟨_, rfl, by omega, HJ.out, hbw⟩
end Go.Proofs.Ytlhfaildeemngaa
/- Contracts: the program's below, hasDevice, Has. -/
namespace Go.Proofs.Ytlhfaildeemngaa
open Go.RowKit Go.Shelf

/-- Is there such a device? -/
def devT (ps : List Int) (d : Int) : Bool := decide (0 ≤ d) && decide (d < (ps.length : Int))
set_option maxRecDepth 100000 in
set_option maxHeartbeats 1000000 in
theorem below_any (n m : Int) (w : World) : Calls Try.prog 79 #[.int .i64 n, .int .i64 m] w fun e w' => e = .returned (.bool (decide (0 ≤ n) && decide (n < m))) ∧ w' = w := by
  by_cases h1 : 0 ≤ n
  · have e1 : decide (0 ≤ n) = true := decide_eq_true h1
    rw [e1]
    go_enter Try.func79, Try.ntmps79
    go_wp2
    go_ret
    exact ⟨by simp, rfl⟩
  · have e1 : decide (0 ≤ n) = false := decide_eq_false h1
    rw [e1]
    go_enter Try.func79, Try.ntmps79
    go_wp2
    go_ret
    exact ⟨by simp, rfl⟩
set_option maxRecDepth 100000 in
set_option maxHeartbeats 1000000 in
theorem hasDevice_any {vp vl : Value} (ps : List Int) (ls : List Lk) (d : Int) (w : World) (h : IsT w vp vl ps ls) : Calls Try.prog 65 #[.agg #[vp, vl], .int .i64 d] w fun e w' => e = .returned (.bool (devT ps d)) ∧ Below w.heap.size w w' := by
  obtain ⟨⟨A1, c1, rfl, n1, m1, _⟩, ⟨A2, c2, rfl, n2, m2, _⟩⟩ := h
  have hL : ps.length ≤ 9223372036854775807 := Nat.le_trans n1 m1
  have b0 : Below w.heap.size w (w.alloc (.cells #[.slice A1 ps.length c1, .slice A2 ls.length c2] 25)) := (Below.refl _ w).alloc (Nat.le_refl _) _
  go_enter Try.func65, Try.ntmps65
  go_wp2_with fail
  refine (below_any _ _ _).mono ?_
  rintro e w1 ⟨rfl, rfl⟩
  go_wp2
  go_ret
  exact ⟨rfl, b0⟩
set_option maxRecDepth 100000 in
set_option maxHeartbeats 1000000 in
/-- Has, of any topology. -/
theorem has_any {vp vl : Value} (ps : List Int) (ls : List Lk) (p : Pt) (w : World) (h : IsT w vp vl ps ls) : Calls Try.prog 59 #[.agg #[vp, vl], .agg (ptA p)] w fun e w' => e = .returned (.bool (hasT ps p)) ∧ Below w.heap.size w w' := by
  have HT : Hid (∀ u, Below w.heap.size w u → IsT u vp vl ps ls) := Lib.hid fun u hu => h.belows hu
  obtain ⟨⟨A1, c1, rfl, n1, m1, z1⟩, ⟨A2, c2, rfl, n2, m2, _⟩⟩ := h
  have hL : ps.length ≤ 9223372036854775807 := Nat.le_trans n1 m1
  obtain ⟨d, q⟩ := p
  have D0 := (At.new w #[.slice A1 ps.length c1, .slice A2 ls.length c2] 25).alloc (.cells #[.int .i64 d, .int .i64 q] 68)
  have P0 := At.new1 w (.cells #[.slice A1 ps.length c1, .slice A2 ls.length c2] 25) #[.int .i64 d, .int .i64 q] 68
  have b0 : Below w.heap.size w ((w.alloc (.cells #[.slice A1 ps.length c1, .slice A2 ls.length c2] 25)).alloc (.cells #[.int .i64 d, .int .i64 q] 68)) := ((Below.refl _ w).alloc (Nat.le_refl _) _).alloc (by simp) _
  have H1 := Lib.hid (z1.belows b0)
  clear z1
  obtain ⟨w0, hw0⟩ : ∃ w0, w0 = ((w.alloc (.cells #[.slice A1 ps.length c1, .slice A2 ls.length c2] 25)).alloc (.cells #[.int .i64 d, .int .i64 q] 68)) := ⟨_, rfl⟩
  unfold ptA
  dsimp only
  obtain ⟨V, hV⟩ : ∃ V, V = hasT ps ⟨d, q⟩ := ⟨_, rfl⟩
  rw [← hV]
  have HV := Lib.hid hV
  clear hV
  go_enter Try.func59, Try.ntmps59
  go_upto_region 1 with (fail)
  rw [← hw0] at D0 P0 b0 H1 ⊢
  clear hw0
  have s0 : ∀ x : Sub w0, x.u.cell? ⟨w.heap.size, 0, none⟩ = some (.slice A1 ps.length c1) := fun x => ((D0.belows x.h).cell 0).trans rfl
  have s1 : ∀ x : Sub w0, x.u.cell? ⟨w.heap.size, 1, none⟩ = some (.slice A2 ls.length c2) := fun x => ((D0.belows x.h).cell 1).trans rfl
  have t0 : ∀ x : Sub w0, x.u.cell? ⟨w.heap.size + 1, 0, none⟩ = some (.int .i64 d) := fun x => ((P0.belows x.h).cell 0).trans rfl
  have t1 : ∀ x : Sub w0, x.u.cell? ⟨w.heap.size + 1, 1, none⟩ = some (.int .i64 q) := fun x => ((P0.belows x.h).cell 1).trans rfl
  have kc : ∀ x : Sub w0, Calls Try.prog 65 #[.agg #[.slice A1 ps.length c1, .slice A2 ls.length c2], .int .i64 d] x.u fun e w' => e = .returned (.bool (devT ps d)) ∧ Below x.u.heap.size x.u w' := fun x => hasDevice_any ps ls d x.u (HT.out _ (b0.trans (x.h.mono b0.size)))
  by_cases h1 : 0 ≤ d ∧ d < (ps.length : Int)
  · obtain ⟨h1, h2⟩ := h1
    have e1 : devT ps d = true := by simp [devT, h1, h2]
    obtain ⟨k, rfl⟩ := Int.eq_ofNat_of_zero_le h1
    have hk : k < ps.length := by omega
    obtain ⟨g, o, rfl, hg, hc⟩ := H1.out.at k hk
    have c0 : ∀ x : Sub w0, x.u.cell? ⟨g, o + k, none⟩ = some (.int .i64 ps[k]) := fun x => (x.h.cell (p := ⟨g, _, none⟩) hg).trans (by have := hc 0 (by decide); simpa [intA] using this)
    have eg : hasT ps ⟨(k : Int), q⟩ = (decide (0 ≤ q) && decide (q < ps[k])) := by simp [hasT, hk]
    have HE := Lib.hid (HV.out.trans eg)
    rw [e1] at kc
    clear HV eg e1 hc D0 P0
    generalize ps[k] = y at c0 HE
    have kb : ∀ x : Sub w0, Calls Try.prog 79 #[.int .i64 q, .int .i64 y] x.u fun e w' => e = .returned (.bool (decide (0 ≤ q) && decide (q < y))) ∧ Below x.u.heap.size x.u w' := fun x => (below_any q y x.u).mono fun e w' h => ⟨h.1, by rw [h.2]; exact Below.refl _ _⟩
    generalize (decide (0 ≤ q) && decide (q < y)) = r at kb HE
    refine wp_region_cls (by kernel_rfl) (by kernel_rfl) ?_
    repeat (go_big_quiet_step (first | (go_at_call 65; exact Calls.cls_of (kc _)) | (go_at_call 79; exact Calls.cls_of (kb _))))
    refine wpQuiet_nil ?_
    rintro w7 ⟨x7, hx⟩
    have b7 := x7.h
    rw [← hx] at b7
    clear hx x7 s0 s1 t0 t1 kc kb c0
    go_wp2
    go_ret
    exact ⟨by rw [HE.out]; rfl, b0.trans (b7.mono b0.size)⟩
  · have e1 : devT ps d = false := by
      cases h : devT ps d with
      | false => rfl
      | true => simp [devT] at h; exact absurd h h1
    have e2 : hasT ps ⟨d, q⟩ = false := by
      cases h : hasT ps ⟨d, q⟩ with
      | false => rfl
      | true => simp [hasT] at h; exact absurd ⟨h.1, h.2.1⟩ h1
    have HE := Lib.hid (HV.out.trans e2)
    rw [e1] at kc
    clear HV e1 e2 h1 D0 P0
    refine wp_region_cls (by kernel_rfl) (by kernel_rfl) ?_
    repeat (go_big_quiet_step (first | (go_at_call 65; exact Calls.cls_of (kc _))))
    refine wpQuiet_nil ?_
    rintro w7 ⟨x7, hx⟩
    have b7 := x7.h
    rw [← hx] at b7
    clear hx x7 s0 s1 t0 t1 kc
    go_wp2
    go_ret
    exact ⟨by rw [HE.out]; rfl, b0.trans (b7.mono b0.size)⟩
end Go.Proofs.Ytlhfaildeemngaa
