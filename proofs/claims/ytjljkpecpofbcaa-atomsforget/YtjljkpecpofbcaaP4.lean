/- Contract: Pairs. -/
import Derived.Test.YtjljkpecpofbcaaP3
namespace Go.Proofs.Ytjljkpecpofbcaa
open Go.RowKit Go.Shelf
attribute [local go_sem] Oper.semAt_some
attribute [local go_sem] wide_fn

theorem at_own {β : Type} (B : Nat) (cs : Array Value) (t : TypeId) : Own (fun (_ : β) W => At W B cs t) := fun s X Y row hs hg hrow =>
  hs.kept hg (fun e' => by obtain ⟨o, ho, hc⟩ := hrow B e'.symm; rw [show X.heap[B]? = _ from hs] at ho; cases ho; cases hc)
theorem top_from {v : Value} (L : List (Int × Int)) (w W : World) (h : IsTree w v L) (hW : Below w.heap.size w W) : Calls Try.prog 40 #[v] W fun e w' => ∃ (p : Option Addr) (t : Bt), e = .returned (.pointer p) ∧ IsT w (.pointer p) t ∧ t.flat = L ∧ W = w' := by
  rcases h with ⟨rfl, rfl⟩ | ⟨_, _, B, vn, t, rfl, ha, hi, he, hf⟩
  · go_enter Try.func40, Try.ntmps40
    go_wp2
    go_ret
    exact ⟨none, .nil, rfl, rfl, rfl, rfl⟩
  · have c0 := ((ha.belows hW).cell 0).trans rfl
    obtain ⟨p, rfl⟩ := hi.ptr
    go_enter Try.func40, Try.ntmps40
    go_wp2
    go_ret
    exact ⟨p, t, rfl, hi, hf, rfl⟩
def PairsOut (w : World) (L : List (Int × Int)) (e : Ending) (w' : World) : Prop := ∃ v, e = .returned v ∧ IsP w' v L ∧ Below w.heap.size w w'
set_option maxRecDepth 100000 in
set_option maxHeartbeats 4000000 in
theorem pairs_in {tv : Value} (L : List (Int × Int)) (w : World) (h : IsTree w tv L) : CallsIn Fence.wide 5 Try.prog 30 #[tv] w (PairsOut w L) := by
  obtain ⟨i0, hi, hz0, hz1, hz2⟩ := info_parts info68
  have hlen : L.length ≤ 1024 := h.up.2
  have HH := Lib.hid h
  obtain ⟨p, rfl⟩ := h.ptr
  clear h
  obtain ⟨w2, hmk, hown, hgrow⟩ := run_makeSlice_owned (P := Try.prog) w w.heap.size 64 68 i0 _ 2 Try.underlying64 hi hz0 hz1 .i64 .i64 L.length (by omega) (by rw [hz2]; omega) (by simp only [maxLen]; omega) (Nat.le_refl _)
  have hb2 : Below w.heap.size w w2 := ⟨hgrow.os, hgrow.tape, hgrow.output, hgrow.size, fun k hk => hgrow.block k hk (by simp)⟩
  have hsz2 : w.heap.size < w2.heap.size := by
    rcases hown.2 with ⟨h, _⟩ | ⟨g, cap, cur, e, hb, hg, _⟩
    · cases h
    · injection e with e1; injection e1 with e1; injection e1 with e1
      rw [← e1] at hg
      exact (Array.getElem?_eq_some_iff.1 hg).1
  have HOWN := Lib.hid hown
  have HB2 := Lib.hid hb2
  clear hown hgrow hb2
  refine callsIn_of_wp_marks Try.func30 rfl trivial ?_ rfl
  simp only [Try.ntmps30, List.size_toArray, List.length_cons, List.length_nil, Nat.reduceAdd, Nat.reduceSub, Array.replicate_succ, Array.replicate_zero, List.push_toArray, List.append_toArray, List.nil_append, List.cons_append]
  gi_wp2_with (first
    | (gi_at_call 36; refine (callsIn_wide.2 (len_any L _ HH.out)).mono ?_; rintro e w1 ⟨rfl, rfl⟩)
    | (gi_at_call 40; refine (callsIn_wide.2 (top_from L w _ HH.out (HB2.out.alloc (Nat.le_of_lt hsz2) _))).mono ?_; rintro e w1 ⟨q, t, rfl, it, ft, rfl⟩)
    | (gi_at_call 41; refine (rising_in _ q _).mono ?_; rintro e w2 ⟨rfl, rfl⟩))
  have hB0 : Below w.heap.size w ((w2.alloc (.cells #[.slice (some ⟨w.heap.size, 0, none⟩) 0 L.length] 64)).alloc (.cells #[.pointer q] 84)) := (HB2.out.alloc (Nat.le_of_lt hsz2) _).alloc (by simp; omega) _
  have bO := Boxed.new w2 64 (.slice (some ⟨w.heap.size, 0, none⟩) 0 L.length)
  have hA := (At.new1 w2 (.cells #[.slice (some ⟨w.heap.size, 0, none⟩) 0 L.length] 64) #[.pointer q] 84)
  have hA0 := (hA.cell 0).trans rfl
  have hTn : IsTn w.heap.size _ (.pointer q) t := (isTn_of it).below hB0
  have HF := Lib.hid ft
  have hflen : t.flat.length ≤ 1024 := by rw [ft]; exact hlen
  clear ft hmk
  refine wpIn_rangeFunc_ownH rfl (by omega) (gf := 51) (lb := #[.pointer (some ⟨w2.heap.size + 1, 0, none⟩)]) rfl trivial (enters_of Try.func51 (by kernel_rfl) rfl)
    (rising_stops 4 (w2.heap.size + 1) w.heap.size q t _ (by simp) (by simp; omega) hA0 hTn) belowK_t (belowK_b (by simp; omega)) (Below.refl _ _) (fun _ => rfl)
    (fun pre W => (∃ v, Boxed W w2.heap.size 64 v ∧ W.ownsRow w.heap.size 68 2 v pre.length (pcells pre) ∧ True) ∧ Below w.heap.size w W)
    (fun _ _ _ => False)
    (OwnFrom.and (Own.from (holdsRow_own w.heap.size w2.heap.size 64 68 2 (fun pre : List (Int × Int) => pre.length) (fun pre => pcells pre) (fun _ _ => True)) _) (ownFrom_below (Nat.le_refl _) (by simp; omega)))
    (fun _ _ _ _ _ hs _ _ => hs)
    ⟨⟨_, bO.alloc _, (HOWN.out.alloc _).alloc _, trivial⟩, hB0⟩
    (fun x a' W => ∃ Bx, At W Bx #[.int .u64 x.1, .int .i64 x.2] 68 ∧ a' = { tmps := #[.pointer p, undef, .slice none 0 0, .pointer (some ⟨w2.heap.size, 0, none⟩), .pointer (some ⟨Bx, 0, none⟩), .pointer p, .int .i64 L.length, .slice (some ⟨w.heap.size, 0, none⟩) 0 L.length, .pointer p, .pointer q, .func (.func 51) #[] #[.pointer (some ⟨w2.heap.size + 1, 0, none⟩)], .agg #[.int .u64 x.1, .int .i64 x.2], undef, undef, undef, undef, undef], defers := [] })
    (fun x a' s X Y row hs hg hr => by
      obtain ⟨Bx, hx, ha⟩ := hs
      exact ⟨Bx, (at_own (β := Unit) Bx _ _) () X Y row hx hg (fun r e => (hr r e).2), ha⟩) ?assign ?body ?done ?stop
  case assign =>
    rintro l pre x W K ⟨⟨v, hv, hrow, _⟩, hB⟩ hK
    gi_wp2
    exact hK _ _ ((KeepsOthers.alloc _ _).from _) ((Below.refl _ W).alloc hB.size _) ⟨⟨v, hv.alloc _, hrow.alloc _, trivial⟩, hB.alloc hB.size _⟩ ⟨W.heap.size, World.alloc_heap_new W _, rfl⟩
  case body =>
    rintro l pre x a' W hl ⟨r, hr⟩ ⟨⟨v, hv, hrow, _⟩, hB⟩ ⟨Bx, hx, rfl⟩ hlt
    have hc := hv.cell
    have hx0 : W.cell? ⟨Bx, 0, none⟩ = some (.int .u64 x.1) := (hx.cell 0).trans rfl
    have hx1 : W.cell? ⟨Bx, 1, none⟩ = some (.int .i64 x.2) := (hx.cell 1).trans rfl
    gi_wp2_with (gi_at_builtin; refine wpListIn_append_own _ rfl _ _ 64 rfl w.heap.size 68 i0 (.agg #[.int .u64 0, .int .i64 0]) 2 16 Try.underlying64 hi hz0 hz1 hz2 rfl (by decide) _ _ _ rfl (hrow.alloc _) ⟨W.heap.size, 0, none⟩ 1 1 [.int .u64 x.1, .int .i64 x.2] rfl rfl (World.news_of_block (cs := #[.int .u64 x.1, .int .i64 x.2]) (t := 68) (fr := (0, 0)) (heap_alloc_new W _)) (by simp [Value.oneCell']) (by simp only [maxLen]; omega) (by omega) (by have := hB.size; simp; omega) ?_; intro v' w3 hown' hgrow _; obtain ⟨g', cap', rfl⟩ := ownsRow_succ hown'; obtain ⟨hv1, hv2, hr2, hk2, hb2⟩ := hv.appended (by decide) hrow hB.size (Nat.le_of_lt hsz2) hown' hgrow; have hc1 := hv1.cell; have hf1 := hv1.frozen)
    refine ⟨hk2.from _, hb2, ⟨_, hv2, ?_, trivial⟩, hB.trans hb2⟩
    rw [pcells_snoc]; simpa using hr2
  case done =>
    rintro D ys W hD rfl ⟨⟨v, hv, hrow, _⟩, hB⟩ hK
    have hc := hv.cell
    gi_wp2
    refine ⟨by simp, .inl ⟨_, _, rfl, run_takeDeferred hK, ?_⟩⟩
    exact ⟨_, results_tmp rfl _ _ _, v, rfl, HF.out ▸ isP_of_row (by decide) (ownsRow_putObj hrow _ hK rfl), hB.trans (belowK_b (w := w) (Nat.le_refl _) W D _ _ (by simp at hD; omega) hK rfl rfl)⟩
  case stop =>
    rintro D c pre W _ _ h _
    exact h.elim
/-- Pairs. -/
theorem pairs_any {tv : Value} (L : List (Int × Int)) (w : World) (h : IsTree w tv L) : Calls Try.prog 30 #[tv] w (PairsOut w L) := callsIn_wide.1 (pairs_in L w h)
end Go.Proofs.Ytjljkpecpofbcaa
