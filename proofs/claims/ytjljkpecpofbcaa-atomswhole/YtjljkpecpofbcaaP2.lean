/- Contracts: Put, Drop, Split. -/
import Derived.Test.YtjljkpecpofbcaaP1
namespace Go.Proofs.Ytjljkpecpofbcaa
open Go.RowKit

theorem put_length {L : List (Int × Int)} {k v : Int} (hu : Up L) : (putL L k v).length = (lowL L k).length + 1 + (gtL L k).length := by unfold putL; rw [List.length_append, List.length_cons]; omega
theorem put_fits {L : List (Int × Int)} {k v : Int} (hu : Up L) (hl : L.length ≤ 1024) (h : getL L k ≠ none ∨ L.length < 1024) : (putL L k v).length ≤ 1024 := by
  rw [put_len hu]
  rcases h with h | h
  · rw [if_neg h]; exact hl
  · split <;> omega
set_option maxRecDepth 100000 in
set_option maxHeartbeats 1000000 in
theorem put_full {tv : Value} (L : List (Int × Int)) (k v : Int) (w : World) (h : IsTree w tv L) (hg : getL L k = none) (hl : L.length = 1024) : Calls Try.prog 58 #[tv, .int .u64 k, .int .i64 v] w fun e w' => e = .returned (.tuple #[.pointer none, .int .i64 41]) ∧ Below w.heap.size w w' := by
  have hu := Lib.hid h.up
  obtain ⟨p, rfl⟩ := h.ptr
  have HG := Lib.hid hg
  have HLEN := Lib.hid hl
  have HH := Lib.hid h
  clear hg hl h
  go_enter Try.func58, Try.ntmps58
  go_wp2_with fail
  refine (top_any L _ HH.out).mono ?_
  rintro e w1 ⟨q, t, rfl, hi, he, hf, hs, rfl⟩
  go_wp2_with fail
  refine (cut_any t k _ w hi he (by rw [hf]; exact hu.out.1) (by have := hu.out.2; omega)).mono ?_
  rintro e w1 ⟨vb, va, vc, b, c, rfl, ib, ia, ic, b1⟩
  rw [hf, HG.out] at ia
  obtain rfl := ia
  obtain ⟨pb, rfl⟩ := ib.1.ptr
  obtain ⟨pc, rfl⟩ := ic.1.ptr
  have hlen := len_any L w1 (HH.out.belows b1)
  rw [HLEN.out] at hlen
  clear hf hs
  go_wp2_with (go_at_call 36; refine hlen.mono ?_; rintro e w2 ⟨rfl, rfl⟩)
  go_ret2
  exact ⟨rfl, b1⟩
/-- A new tree with these pairs. -/
def TreeOut (w : World) (L : List (Int × Int)) (e : Ending) (w' : World) : Prop := ∃ v', e = .returned (.tuple #[v', .int .i64 0]) ∧ IsTree1 w' v' L ∧ Below w.heap.size w w'
set_option maxRecDepth 100000 in
set_option maxHeartbeats 1000000 in
theorem put_ok {tv : Value} (L : List (Int × Int)) (k v : Int) (w : World) (h : IsTree w tv L) (hg : getL L k ≠ none ∨ L.length < 1024) : Calls Try.prog 58 #[tv, .int .u64 k, .int .i64 v] w (TreeOut w (putL L k v)) := by
  have hu := Lib.hid h.up
  obtain ⟨p, rfl⟩ := h.ptr
  have HFIT := Lib.hid (put_fits (v := v) hu.out.1 hu.out.2 hg)
  have HLL := Lib.hid (And.intro (low_len (l := L) (k := k)) (gt_len (l := L) (k := k)))
  have HH := Lib.hid h
  clear h
  cases ho : getL L k with
  | none =>
    have hlt : L.length < 1024 := hg.elim (fun h => absurd ho h) id
    have HO := Lib.hid ho
    clear ho hg
    go_enter Try.func58, Try.ntmps58
    go_wp2_with fail
    refine (top_any L _ HH.out).mono ?_
    rintro e w1 ⟨q, t, rfl, hi, he, hf, hs, rfl⟩
    go_wp2_with fail
    refine (cut_any t k _ w hi he (by rw [hf]; exact hu.out.1) (by have := hu.out.2; omega)).mono ?_
    rintro e w1 ⟨vb, va, vc, b, c, rfl, ib, ia, ic, b1⟩
    rw [hf, HO.out] at ia
    rw [hf] at ib ic
    obtain rfl := ia
    obtain ⟨pb, rfl⟩ := ib.1.ptr
    obtain ⟨pc, rfl⟩ := ic.1.ptr
    have hlen := len_any L w1 (HH.out.belows b1)
    have HS := Lib.hid (And.intro hf hs)
    clear hf hs
    have hz : b.size + c.size ≤ 10000 := by have := HLL.out; have := hu.out.2; rw [← b.flat_len, ← c.flat_len, ib.2.2, ic.2.2]; omega
    have HIB := Lib.hid ib
    have HIC := Lib.hid ic
    clear ib ic
    have d1 : decide (1024 ≤ (L.length : Int)) = false := by simp; omega
    go_wp2_with (first | (go_at_call 36; refine hlen.mono ?_; rintro e w2 ⟨rfl, rfl⟩) | (go_at_call 43; refine (join_any b c (k, v) _ HIB.out.1 HIC.out.1 HIB.out.2.1 HIC.out.2.1 hz).mono ?_; rintro e w3 ⟨v3, t3, rfl, i3, f3, b3⟩; obtain ⟨p3, rfl⟩ := i3.ptr))
    go_ret2
    exact ⟨_, rfl, tree_new w3 i3 f3.2.1 (by rw [f3.1, HIB.out.2.2, HIC.out.2.2]; rfl) (hu.out.1.put k v) HFIT.out, (b1.trans (b3.mono b1.size)).alloc (b1.trans (b3.mono b1.size)).size _⟩
  | some x =>
    have HO := Lib.hid ho
    clear ho hg
    go_enter Try.func58, Try.ntmps58
    go_wp2_with fail
    refine (top_any L _ HH.out).mono ?_
    rintro e w1 ⟨q, t, rfl, hi, he, hf, hs, rfl⟩
    go_wp2_with fail
    refine (cut_any t k _ w hi he (by rw [hf]; exact hu.out.1) (by have := hu.out.2; omega)).mono ?_
    rintro e w1 ⟨vb, va, vc, b, c, rfl, ib, ia, ic, b1⟩
    rw [hf, HO.out] at ia
    rw [hf] at ib ic
    obtain ⟨Bn, n1, n2, n3, n4, rfl, han⟩ := ia
    obtain ⟨pb, rfl⟩ := ib.1.ptr
    obtain ⟨pc, rfl⟩ := ic.1.ptr
    clear hf hs han
    have hz : b.size + c.size ≤ 10000 := by have := HLL.out; have := hu.out.2; rw [← b.flat_len, ← c.flat_len, ib.2.2, ic.2.2]; omega
    have HIB := Lib.hid ib
    have HIC := Lib.hid ic
    clear ib ic
    go_wp2_with (go_at_call 43; refine (join_any b c (k, v) _ HIB.out.1 HIC.out.1 HIB.out.2.1 HIC.out.2.1 hz).mono ?_; rintro e w3 ⟨v3, t3, rfl, i3, f3, b3⟩; obtain ⟨p3, rfl⟩ := i3.ptr)
    go_ret2
    exact ⟨_, rfl, tree_new w3 i3 f3.2.1 (by rw [f3.1, HIB.out.2.2, HIC.out.2.2]; rfl) (hu.out.1.put k v) HFIT.out, (b1.trans (b3.mono b1.size)).alloc (b1.trans (b3.mono b1.size)).size _⟩
set_option maxRecDepth 100000 in
set_option maxHeartbeats 1000000 in
theorem drop_no {tv : Value} (L : List (Int × Int)) (k : Int) (w : World) (h : IsTree w tv L) (hg : getL L k = none) : Calls Try.prog 57 #[tv, .int .u64 k] w fun e w' => e = .returned (.tuple #[.pointer none, .int .i64 42]) ∧ Below w.heap.size w w' := by
  have hu := Lib.hid h.up
  obtain ⟨p, rfl⟩ := h.ptr
  have HG := Lib.hid hg
  have HH := Lib.hid h
  clear hg h
  go_enter Try.func57, Try.ntmps57
  go_wp2_with fail
  refine (top_any L _ HH.out).mono ?_
  rintro e w1 ⟨q, t, rfl, hi, he, hf, hs, rfl⟩
  go_wp2_with fail
  refine (cut_any t k _ w hi he (by rw [hf]; exact hu.out.1) (by have := hu.out.2; omega)).mono ?_
  rintro e w1 ⟨vb, va, vc, b, c, rfl, ib, ia, ic, b1⟩
  rw [hf, HG.out] at ia
  obtain rfl := ia
  obtain ⟨pb, rfl⟩ := ib.1.ptr
  obtain ⟨pc, rfl⟩ := ic.1.ptr
  clear hf hs ib ic
  go_wp2
  go_ret2
  exact ⟨rfl, b1⟩
set_option maxRecDepth 100000 in
set_option maxHeartbeats 1000000 in
theorem drop_ok {tv : Value} (L : List (Int × Int)) (k : Int) (w : World) (h : IsTree w tv L) (hg : getL L k ≠ none) : Calls Try.prog 57 #[tv, .int .u64 k] w (TreeOut w (dropL L k)) := by
  have hu := Lib.hid h.up
  obtain ⟨p, rfl⟩ := h.ptr
  have HLEN := Lib.hid (drop_len hu.out.1 hg)
  have HLL := Lib.hid (And.intro (low_len (l := L) (k := k)) (gt_len (l := L) (k := k)))
  have HH := Lib.hid h
  clear h
  cases ho : getL L k with
  | none => exact absurd ho hg
  | some x =>
    have HO := Lib.hid ho
    clear ho hg
    go_enter Try.func57, Try.ntmps57
    go_wp2_with fail
    refine (top_any L _ HH.out).mono ?_
    rintro e w1 ⟨q, t, rfl, hi, he, hf, hs, rfl⟩
    go_wp2_with fail
    refine (cut_any t k _ w hi he (by rw [hf]; exact hu.out.1) (by have := hu.out.2; omega)).mono ?_
    rintro e w1 ⟨vb, va, vc, b, c, rfl, ib, ia, ic, b1⟩
    rw [hf, HO.out] at ia
    rw [hf] at ib ic
    obtain ⟨Bn, n1, n2, n3, n4, rfl, han⟩ := ia
    obtain ⟨pb, rfl⟩ := ib.1.ptr
    obtain ⟨pc, rfl⟩ := ic.1.ptr
    clear hf hs han
    have hz : b.size + c.size ≤ 4000 := by have := HLL.out; have := hu.out.2; rw [← b.flat_len, ← c.flat_len, ib.2.2, ic.2.2]; omega
    have HIB := Lib.hid ib
    have HIC := Lib.hid ic
    clear ib ic
    go_wp2_with (go_at_call 61; refine (joinTwo_any b c _ HIB.out.1 HIC.out.1 HIB.out.2.1 HIC.out.2.1 (by rw [HIC.out.2.2]; exact hu.out.1.gt k) hz).mono ?_; rintro e w3 ⟨v3, t3, rfl, i3, e3, f3, b3⟩; obtain ⟨p3, rfl⟩ := i3.ptr)
    go_ret2
    exact ⟨_, rfl, tree_new w3 i3 e3 (by rw [f3, HIB.out.2.2, HIC.out.2.2]; rfl) (hu.out.1.drop k) (by have := HLEN.out; have := hu.out.2; omega), (b1.trans (b3.mono b1.size)).alloc (b1.trans (b3.mono b1.size)).size _⟩
/-- What Split answers. -/
def SplitOut (w : World) (L : List (Int × Int)) (k : Int) (e : Ending) (w' : World) : Prop := ∃ v1 v2, e = .returned (.tuple #[v1, v2]) ∧ IsTree1 w' v1 (lowL L k) ∧ IsTree1 w' v2 (highL L k) ∧ Below w.heap.size w w'
theorem high_len {l : List (Int × Int)} {k : Int} : (highL l k).length ≤ l.length := List.length_filter_le _ _
theorem split_fin {w W : World} {L : List (Int × Int)} {k : Int} {vb vc : Value} {b c : Bt} (hu : Up L ∧ L.length ≤ 1024) (hb : Below w.heap.size w W) (ib : IsT W vb b) (eb : b.even) (fb : b.flat = lowL L k) (ic : IsT W vc c) (ec : c.even) (fc : c.flat = highL L k) :
    SplitOut w L k (.returned (.tuple #[.pointer (some ⟨W.heap.size, 0, none⟩), .pointer (some ⟨W.heap.size + 1, 0, none⟩)])) ((W.alloc (.cells #[vb] 94)).alloc (.cells #[vc] 94)) := by
  have h1 := tree_new W ib eb fb (hu.1.low k) (Nat.le_trans low_len hu.2)
  have b1 : Below W.heap.size W (W.alloc (.cells #[vb] 94)) := (Below.refl _ W).alloc (Nat.le_refl _) _
  have h2 := tree_new (W.alloc (.cells #[vb] 94)) (ic.belows b1) ec fc (hu.1.high k) (Nat.le_trans high_len hu.2)
  rw [World.size_alloc] at h2
  exact ⟨_, _, rfl, h1.belows ((Below.refl _ _).alloc (Nat.le_refl _) _), h2, (hb.alloc hb.size _).alloc (hb.alloc hb.size _).size _⟩
set_option maxRecDepth 100000 in
set_option maxHeartbeats 1000000 in
theorem split_any {tv : Value} (L : List (Int × Int)) (k : Int) (w : World) (h : IsTree w tv L) : Calls Try.prog 35 #[tv, .int .u64 k] w (SplitOut w L k) := by
  have hu := Lib.hid h.up
  obtain ⟨p, rfl⟩ := h.ptr
  have HLL := Lib.hid (And.intro (low_len (l := L) (k := k)) (gt_len (l := L) (k := k)))
  have HH := Lib.hid h
  have HIS := Lib.hid (high_is (k := k) hu.out.1)
  clear h
  cases ho : getL L k with
  | none =>
    have HO := Lib.hid ho
    clear ho
    go_enter Try.func35, Try.ntmps35
    go_wp2_with fail
    refine (top_any L _ HH.out).mono ?_
    rintro e w1 ⟨q, t, rfl, hi, he, hf, hs, rfl⟩
    go_wp2_with fail
    refine (cut_any t k _ w hi he (by rw [hf]; exact hu.out.1) (by have := hu.out.2; omega)).mono ?_
    rintro e w1 ⟨vb, va, vc, b, c, rfl, ib, ia, ic, b1⟩
    rw [hf, HO.out] at ia
    rw [hf] at ib ic
    obtain rfl := ia
    obtain ⟨pb, rfl⟩ := ib.1.ptr
    obtain ⟨pc, rfl⟩ := ic.1.ptr
    clear hf hs
    have HIB := Lib.hid ib
    have HIC := Lib.hid ic
    clear ib ic
    go_wp2
    go_ret2
    refine split_fin hu.out b1 HIB.out.1 HIB.out.2.1 HIB.out.2.2 HIC.out.1 HIC.out.2.1 ?_
    rw [HIC.out.2.2]
    rcases HIS.out with ⟨v, _, h2⟩ | ⟨h1, _⟩
    · rw [HO.out] at h2; cases h2
    · exact h1.symm
  | some x =>
    have HO := Lib.hid ho
    clear ho
    go_enter Try.func35, Try.ntmps35
    go_wp2_with fail
    refine (top_any L _ HH.out).mono ?_
    rintro e w1 ⟨q, t, rfl, hi, he, hf, hs, rfl⟩
    go_wp2_with fail
    refine (cut_any t k _ w hi he (by rw [hf]; exact hu.out.1) (by have := hu.out.2; omega)).mono ?_
    rintro e w1 ⟨vb, va, vc, b, c, rfl, ib, ia, ic, b1⟩
    rw [hf, HO.out] at ia
    rw [hf] at ib ic
    obtain ⟨Bn, n1, n2, n3, n4, rfl, han⟩ := ia
    obtain ⟨pb, rfl⟩ := ib.1.ptr
    obtain ⟨pc, rfl⟩ := ic.1.ptr
    clear hf hs
    have k0 := (han.cell 0).trans rfl
    have k1 := (han.cell 1).trans rfl
    have hz : Bt.nil.size + c.size ≤ 10000 := by have := HLL.out; have := hu.out.2; rw [← c.flat_len, ic.2.2]; simp only [Bt.size]; omega
    have HIB := Lib.hid ib
    have HIC := Lib.hid ic
    clear ib ic
    go_wp2_with (go_at_call 43; refine (join_any .nil c x _ rfl HIC.out.1 trivial HIC.out.2.1 hz).mono ?_; rintro e w3 ⟨v3, t3, rfl, i3, f3, b3⟩; obtain ⟨p3, rfl⟩ := i3.ptr)
    go_ret2
    refine split_fin hu.out (b1.trans (b3.mono b1.size)) (HIB.out.1.belows b3) HIB.out.2.1 HIB.out.2.2 i3 f3.2.1 ?_
    rw [f3.1, HIC.out.2.2]
    rcases HIS.out with ⟨v, h1, h2⟩ | ⟨_, h2⟩
    · rw [HO.out] at h2; cases h2; rw [h1]; rfl
    · rw [HO.out] at h2; cases h2
end Go.Proofs.Ytjljkpecpofbcaa
