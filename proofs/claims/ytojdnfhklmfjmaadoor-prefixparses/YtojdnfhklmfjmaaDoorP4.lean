/- Contract: prefix.Split. -/
import Derived.Test.YtojdnfhklmfjmaaDoorP3
import Derived.Deep.AppendLies
namespace Go.Proofs.YtojdnfhklmfjmaaDoor
open Go.RowKit Go.Shelf
attribute [local go_sem] Oper.semAt_some
attribute [local go_sem] wide_fn

/-- Prefixes as cells. -/
def pcells (l : List (Nat × Nat)) : List Value := l.flatMap fun x => [.int .u32 x.1, .int .i64 x.2]
theorem pcells_snoc (l : List (Nat × Nat)) (x : Nat × Nat) : pcells (l ++ [x]) = pcells l ++ [.int .u32 x.1, .int .i64 x.2] := by simp [pcells]
theorem pcells_nil : pcells [] = [] := rfl
theorem info24 : (Tryd.prog.info? 24).map (fun i => (i.zero, i.size, i.bytes)) = some (some (.agg #[.int .u32 0, .int .i64 0]), 2, 16) := by kernel_rfl

theorem at_own {β : Type} (B : Nat) (cs : Array Value) (t : TypeId) : Own (fun (_ : β) W => At W B cs t) := fun s X Y row hs hg hrow =>
  hs.kept hg (fun e' => by obtain ⟨o, ho, hc⟩ := hrow B e'.symm; rw [show X.heap[B]? = _ from hs] at ho; cases ho; cases hc)
theorem At.not_row {W : World} {B : Nat} {t e : TypeId} {cs : Array Value} (h : At W B cs t) (hte : t ≠ e) {base size k : Nat} {v : Value} {xs : List Value} (hr : W.ownsRow base e size v k xs) : some B ≠ v.ownBlock := by
  rcases hr.2 with ⟨rfl, _⟩ | ⟨g, cap, cur, rfl, _, hgb, _⟩
  · simp [Value.ownBlock]
  · intro e'
    obtain rfl : B = g := by simpa [Value.ownBlock] using e'
    have := (show W.heap[B]? = _ from h).symm.trans hgb
    simp at this
    exact hte this.2
theorem cell_at_block {W W' : World} {p : Addr} (h : W'.heap[p.block]? = W.heap[p.block]?) : W'.cell? p = W.cell? p := by unfold World.cell?; rw [h]

theorem kp_t {n₀ Bn : Nat} {A B C : World} (h : Kp n₀ Bn A B) (k : Kp n₀ Bn B C) : Kp n₀ Bn A C := fun p hp => (k p hp).trans (h p hp)
theorem kp_b {n₀ Bn : Nat} {w : World} (hn : n₀ ≤ w.heap.size) (hB : Bn < w.heap.size) (W : World) (l : Nat) (o o' : Obj) (hl : w.heap.size ≤ l) (_ : W.heap[l]? = some o) (_ : o.isCells = false) (_ : o.isWalk = false) : Kp n₀ Bn W (W.putObj l o') := fun p hp =>
  cell_at_block (World.putObj_heap_other (by rcases hp with h | h <;> omega))

theorem pieces_in (f t : Nat) (n : Nat) (w : World) : CallsIn Fence.wide n Tryd.prog 33 #[.agg #[.int .u32 f, .int .u32 t]] w fun e w' => e = .returned (.func (.func 44) #[] #[.pointer (some ⟨w.heap.size, 0, none⟩)]) ∧ w' = w.alloc (.cells #[.int .u32 f, .int .u32 t] 26) := by
  refine callsIn_of_wp Tryd.func33 rfl trivial ?_ rfl
  simp only [Tryd.ntmps33, List.size_toArray, List.length_cons, List.length_nil, Nat.reduceAdd, Nat.reduceSub, Array.replicate_succ, Array.replicate_zero, List.push_toArray, List.append_toArray, List.nil_append, List.cons_append]
  gi_wp2
  go_ret
  exact ⟨rfl, rfl⟩
theorem pieces_stops (n Bn n₀ f t : Nat) (hn : 1 ≤ n) (hft : f ≤ t) (ht : t < 4294967296) (hn₀ : 0 < n₀) (w : World) (hA : At w Bn #[.int .u32 f, .int .u32 t] 26) (hT : TabAt 0 Lib.deBruijn32tab w) :
    SeqStopsK Fence.wide n Tryd.prog 44 #[.pointer (some ⟨Bn, 0, none⟩)] (fun x : Nat × Nat => #[.agg #[.int .u32 x.1, .int .i64 x.2]]) (Kp n₀ Bn) (fun ys => ys = splitL f t) (fun pre => pre <+: splitL f t) (splitL f t).length w := fun l J Jx W hW hJ _ hY h0 => by
  have hA' : At W Bn #[.int .u32 f, .int .u32 t] 26 := hA.kept (grown_none hW) (by simp)
  exact pieces1_in n l Bn n₀ f t hn hft ht hn₀ J Jx (fun s A B hs hg => hJ s A B none hs hg (fun r e => by cases e)) hY W ((hA'.cell 0).trans rfl) ((hA'.cell 1).trans rfl) (tab_below hT hW) h0

/-- What Split answers. -/
def SplitOut (f t : Nat) (w : World) (e : Ending) (w' : World) : Prop :=
  ∃ v, e = .returned (.tuple #[v, .int .i64 (if f ≤ t then 0 else 21)]) ∧ w'.ownsRow w.heap.size 24 2 v (splitL f t).length (pcells (splitL f t)) ∧ Below w.heap.size w w'

theorem split_no (f t : Nat) (w : World) (hft : t < f) : Calls Tryd.prog 11 #[.agg #[.int .u32 f, .int .u32 t]] w (SplitOut f t w) := by
  have d : decide (f ≤ t) = false := by apply decide_eq_false; omega
  go_enter Tryd.func11, Tryd.ntmps11
  go_wp2_with (go_at_call 32; refine (rightRange_any f t _).mono ?_; rintro e w1 ⟨rfl, b1⟩)
  refine bodyPost_ret (v := .tuple #[.slice none 0 0, .int .i64 21]) (by simp [results, Tryd.results11, go_sem]) rfl ?_
  refine ⟨_, by rw [if_neg (by omega)], ?_, ?_⟩
  · rw [splitL_nil hft]; exact World.ownsRow_nil _ _ _ _
  · exact ((Below.refl _ w).alloc (Nat.le_refl _) _).trans (b1.mono (by simp))

set_option maxRecDepth 100000 in
set_option maxHeartbeats 2000000 in
theorem split_in (f t : Nat) (w : World) (hft : f ≤ t) (ht : t < 4294967296) (hT : TabAt 0 Lib.deBruijn32tab w) :
    CallsIn Fence.wide 5 Tryd.prog 11 #[.agg #[.int .u32 f, .int .u32 t]] w (SplitOut f t w) := by
  obtain ⟨i0, hi, hz0, hz1, hz2⟩ := info_parts info24
  have hlen := len_62 hft ht
  have d : decide (f ≤ t) = true := by apply decide_eq_true; omega
  have hw0 : 0 < w.heap.size := by have := World.block_lt_of_cell? w _ (hT 0 (by decide)); simpa using this
  have HT := Lib.hid hT
  clear hT
  refine callsIn_of_wp_marks Tryd.func11 rfl trivial ?_ rfl
  simp only [Tryd.ntmps11, List.size_toArray, List.length_cons, List.length_nil, Nat.reduceAdd, Nat.reduceSub, Array.replicate_succ, Array.replicate_zero, List.push_toArray, List.append_toArray, List.nil_append, List.cons_append]
  gi_wp2_with (first | (gi_at_call 32; refine (callsIn_wide.2 (rightRange_any f t _)).mono ?_; rintro e w1 ⟨rfl, b1⟩; have hz : w.heap.size < w1.heap.size := (by have := b1.size; simp at this; omega); obtain ⟨hc, hf⟩ := bc b1) | (gi_at_call 33; refine (pieces_in f t _ _).mono ?_; rintro e w2 ⟨rfl, rfl⟩))
  have hb01 : Below w.heap.size w w1 := ((Below.refl _ w).alloc (Nat.le_refl _) _).trans (b1.mono (by simp))
  clear hc hf
  have bO := Boxed.new w1 30 (.slice none 0 0)
  have hA : At ((w1.alloc (.cells #[.slice none 0 0] 30)).alloc (.cells #[.int .u32 f, .int .u32 t] 26)) (w1.heap.size + 1) #[.int .u32 f, .int .u32 t] 26 := by
    have := World.alloc_heap_new (w1.alloc (.cells #[.slice none 0 0] 30)) (.cells #[.int .u32 f, .int .u32 t] 26)
    rw [World.size_alloc] at this
    exact this
  have hB0 : Below w.heap.size w ((w1.alloc (.cells #[.slice none 0 0] 30)).alloc (.cells #[.int .u32 f, .int .u32 t] 26)) := (hb01.alloc (Nat.le_of_lt hz) _).alloc (by simp; omega) _
  refine wpIn_rangeFunc_ownH rfl (by omega) (gf := 44) (lb := #[.pointer (some ⟨w1.heap.size + 1, 0, none⟩)]) rfl trivial (enters_of Tryd.func44 (by kernel_rfl) rfl)
    (pieces_stops 4 (w1.heap.size + 1) w.heap.size f t (by omega) hft ht hw0 _ hA (tab_below HT.out hB0)) kp_t (kp_b (by simp; omega) (by simp)) (Below.refl _ _) (fun _ => rfl)
    (fun pre W => ((∃ v, Boxed W w1.heap.size 30 v ∧ W.ownsRow w.heap.size 24 2 v pre.length (pcells pre) ∧ True) ∧ At W (w1.heap.size + 1) #[.int .u32 f, .int .u32 t] 26) ∧ Below w.heap.size w W)
    (fun _ _ _ => False)
    (OwnFrom.and (OwnFrom.and (Own.from (holdsRow_own w.heap.size w1.heap.size 30 24 2 (fun pre : List (Nat × Nat) => pre.length) (fun pre => pcells pre) (fun _ _ => True)) _) (Own.from (at_own _ _ _) _)) (ownFrom_below (Nat.le_refl _) (by simp; omega)))
    (fun _ _ _ _ _ hs _ _ => hs)
    ⟨⟨⟨_, bO.alloc _, World.ownsRow_nil _ _ _ _, trivial⟩, hA⟩, hB0⟩
    (fun x a' W => ∃ Bx, At W Bx #[.int .u32 x.1, .int .i64 x.2] 24 ∧ a' = { tmps := #[.agg #[.int .u32 f, .int .u32 t], .pointer (some ⟨w.heap.size, 0, none⟩), .slice none 0 0, .int .i64 0, .pointer (some ⟨w1.heap.size, 0, none⟩), .pointer (some ⟨Bx, 0, none⟩), .agg #[.int .u32 f, .int .u32 t], .bool true, .bool false, .agg #[.int .u32 f, .int .u32 t], .func (.func 44) #[] #[.pointer (some ⟨w1.heap.size + 1, 0, none⟩)], .agg #[.int .u32 x.1, .int .i64 x.2], undef, undef, undef, undef, undef], defers := [] })
    (fun x a' s X Y row hs hg hr => by
      obtain ⟨Bx, hx, ha⟩ := hs
      exact ⟨Bx, (at_own (β := Unit) Bx _ _) () X Y row hx hg (fun r e => (hr r e).2), ha⟩) ?assign ?body ?done ?stop
  case assign =>
    rintro l pre x W K ⟨⟨⟨v, hv, hrow, _⟩, hAt⟩, hB⟩ hK
    gi_wp2
    refine hK _ _ ((KeepsOthers.alloc _ _).from _) ?_ ⟨⟨⟨v, hv.alloc _, hrow.alloc _, trivial⟩, hAt.kept (World.grownBy_alloc _ _ none) (by simp)⟩, hB.alloc (Nat.le_trans (Nat.le_refl _) hB.size) _⟩ ⟨W.heap.size, World.alloc_heap_new W _, rfl⟩
    intro p hp
    refine World.cell?_alloc_lt W _ p ?_
    rcases hp with h | h
    · exact Nat.lt_of_lt_of_le h hB.size
    · rw [h]; exact hAt.lt
  case body =>
    rintro l pre x a' W hl ⟨r, hr⟩ ⟨⟨⟨v, hv, hrow, _⟩, hAt⟩, hB⟩ ⟨Bx, hx, rfl⟩ hlt
    have hc := hv.cell
    have hx0 : W.cell? ⟨Bx, 0, none⟩ = some (.int .u32 x.1) := (hx.cell 0).trans rfl
    have hx1 : W.cell? ⟨Bx, 1, none⟩ = some (.int .i64 x.2) := (hx.cell 1).trans rfl
    gi_wp2_with (gi_at_builtin; refine wpListIn_append_own _ rfl _ _ 30 rfl w.heap.size 24 i0 (.agg #[.int .u32 0, .int .i64 0]) 2 16 Tryd.underlying30 hi hz0 hz1 hz2 rfl (by decide) _ _ _ rfl (hrow.alloc _) ⟨W.heap.size, 0, none⟩ 1 1 [.int .u32 x.1, .int .i64 x.2] rfl rfl (World.news_of_block (cs := #[.int .u32 x.1, .int .i64 x.2]) (t := 24) (fr := (0, 0)) (heap_alloc_new W _)) (by simp [Value.oneCell']) (by simp only [maxLen]; omega) (by omega) (by have := hB.size; simp; omega) ?_; intro v' w3 hown' hgrow _; obtain ⟨g', cap', rfl⟩ := ownsRow_succ hown'; obtain ⟨hv1, hv2, hr2, hk2, hb2⟩ := hv.appended (by decide) hrow hB.size (Nat.le_of_lt hz) hown' hgrow; have hc1 := hv1.cell; have hf1 := hv1.frozen)
    have hgrow' : (W.alloc (.cells #[.int .u32 x.1, .int .i64 x.2] 24)).grownBy w3 v.ownBlock := hgrow
    have hAt3 : At w3 (w1.heap.size + 1) #[.int .u32 f, .int .u32 t] 26 := (hAt.kept (World.grownBy_alloc _ _ none) (by simp)).kept hgrow' (hAt.not_row (by decide) hrow)
    have hAt4 : At (w3.setCell ⟨w1.heap.size, 0, none⟩ (.slice (some ⟨g', 0, none⟩) (pre.length + 1) cap')) (w1.heap.size + 1) #[.int .u32 f, .int .u32 t] 26 := hAt3.kept (grownBy_setCell' _ _ _) (by simp)
    refine ⟨hk2.from _, ?_, ⟨⟨_, hv2, ?_, trivial⟩, hAt4⟩, hB.trans hb2⟩
    · rintro p (h | h)
      · exact hb2.cell h
      · exact cell_at_block (by rw [h]; exact (show _ = _ from hAt4).trans (show _ = _ from hAt).symm)
    · rw [pcells_snoc]; simpa using hr2
  case done =>
    rintro D ys W hD rfl ⟨⟨⟨v, hv, hrow, _⟩, hAt⟩, hB⟩ hK
    have hc := hv.cell
    gi_wp2
    refine ⟨by simp, .inl ⟨_, _, rfl, run_takeDeferred hK, ?_⟩⟩
    refine ⟨_, results_tmp2 rfl _ _ _, v, by rw [if_pos hft]; rfl, ownsRow_putObj hrow _ hK rfl, hB.trans (belowK_b (w := w) (Nat.le_refl _) W D _ _ (by simp at hD; omega) hK rfl rfl)⟩
  case stop =>
    rintro D c pre W _ _ h _
    exact h.elim

/-- prefix.Split. -/
theorem split_any (f t : Nat) (w : World) (ht : t < 4294967296) (hT : TabAt 0 Lib.deBruijn32tab w) : Calls Tryd.prog 11 #[.agg #[.int .u32 f, .int .u32 t]] w (SplitOut f t w) := by
  by_cases h : f ≤ t
  · exact callsIn_wide.1 (split_in f t w h ht hT)
  · exact split_no f t w (by omega)
end Go.Proofs.YtojdnfhklmfjmaaDoor
