/- Contract: zone.gather, over any iterator. -/
import Derived.Test.YtonhmppobdbidaaR3
import Derived.Test.YtonhmppobdbidaaRnd
import Derived.RangeFuncNested
import Derived.RangeFuncBound
import Derived.RangeFuncCalls
import Derived.RangeFuncLeaves
import Derived.Shelf.Abstract
import Derived.Shelf.RegionOpen
import Derived.OwnWalkIn
import Derived.TacticsInMore
import Derived.LoopNIn
import Derived.LoopIn
import Derived.Maps.AppendAt
import Derived.Maps.OwnIn
import Derived.Sort.QuietTacIn
import Derived.Sort.BigQuietIn
namespace Go.Proofs.Ytonhmppobdbidaa
open Go.RowKit Go.Shelf
attribute [local go_sem] Oper.semAt_some
theorem wide_fn (f : FuncId) : Fence.wide.fn f = True := eq_true trivial
attribute [local go_sem] wide_fn

/-- A range of two addresses. -/
abbrev R32 := { x : Nat × Nat // x.1 < 4294967296 ∧ x.2 < 4294967296 }
def vals (xs : List R32) : List (Nat × Nat) := xs.map (·.1)
theorem vals_snoc (xs : List R32) (x : R32) : vals (xs ++ [x]) = vals xs ++ [x.1] := by simp [vals]
theorem vals_u32 (xs : List R32) : U32 (vals xs) := fun r hr => by
  obtain ⟨x, _, rfl⟩ := List.mem_map.1 hr
  exact x.2
theorem vals_len (xs : List R32) : (vals xs).length = xs.length := by simp [vals]
def encR (x : R32) : Array Value := #[.agg #[.int .u32 x.1.1, .int .u32 x.1.2]]
/-- The blocks that the loop owns: the box at n₀, and the row that it leads to. -/
def rowIn (n₀ : Nat) (W : World) (b : Nat) : Prop := b = n₀ ∨ ∃ v, W.cell? ⟨n₀, 0, none⟩ = some v ∧ v.ownBlock = some b
/-- The box leads to nothing that is not there. -/
def Vd (n₀ : Nat) (W : World) : Prop := ∀ v b, W.cell? ⟨n₀, 0, none⟩ = some v → v.ownBlock = some b → b < W.heap.size
/-- What a round keeps: all below n₀, and every block that the loop does not own. -/
def Kg (n₀ : Nat) (W W' : World) : Prop := Below n₀ W W' ∧ (Vd n₀ W → Vd n₀ W') ∧ ∀ b cs t, At W b cs t → ¬ rowIn n₀ W b → At W' b cs t ∧ ¬ rowIn n₀ W' b
theorem Kg.t {n₀ : Nat} {A B C : World} (h : Kg n₀ A B) (k : Kg n₀ B C) : Kg n₀ A C :=
  ⟨h.1.trans k.1, fun v => k.2.1 (h.2.1 v), fun b cs t ha hr => by obtain ⟨h1, h2⟩ := h.2.2 b cs t ha hr; exact k.2.2 b cs t h1 h2⟩
theorem Kg.of {n₀ : Nat} {W W' : World} {v v' : Value} (hb : Below n₀ W W') (hbox : W.cell? ⟨n₀, 0, none⟩ = some v) (hbox' : W'.cell? ⟨n₀, 0, none⟩ = some v')
    (hkeep : ∀ b, b < W.heap.size → b ≠ n₀ → v.ownBlock ≠ some b → W'.heap[b]? = W.heap[b]?) (hrow : v'.ownBlock = v.ownBlock ∨ ∀ b, v'.ownBlock = some b → W.heap.size ≤ b) (hval : Vd n₀ W → ∀ b, v'.ownBlock = some b → b < W'.heap.size) : Kg n₀ W W' := by
  refine ⟨hb, fun hv u b hu hb => ?_, fun b cs t ha hr => ?_⟩
  · rw [hbox'] at hu; cases hu; exact hval hv b hb
  · have h1 : b ≠ n₀ := fun e => hr (.inl e)
    have h2 : v.ownBlock ≠ some b := fun e => hr (.inr ⟨v, hbox, e⟩)
    refine ⟨(hkeep b ha.lt h1 h2).trans ha, ?_⟩
    rintro (e | ⟨u, hu, e⟩)
    · exact h1 e
    · rw [hbox'] at hu; cases hu
      rcases hrow with h | h
      · rw [h] at e; exact h2 e
      · have := h b e; have := ha.lt; omega
/-- Blocks below the heap's end lie as they lay. -/
theorem Kg.same {n₀ : Nat} {W W' : World} (hn : n₀ < W.heap.size) (hb : Below W.heap.size W W') : Kg n₀ W W' := by
  have hc : W'.cell? ⟨n₀, 0, none⟩ = W.cell? ⟨n₀, 0, none⟩ := hb.cell hn
  refine ⟨hb.mono (Nat.le_of_lt hn), fun hv u b hu h => ?_, fun b cs t ha hr => ⟨ha.belows hb, ?_⟩⟩
  · rw [hc] at hu; exact Nat.lt_of_lt_of_le (hv u b hu h) hb.size
  · rintro (e | ⟨u, hu, e⟩)
    · exact hr (.inl e)
    · rw [hc] at hu; exact hr (.inr ⟨u, hu, e⟩)
theorem cell_at_block {W W' : World} {p : Addr} (h : W'.heap[p.block]? = W.heap[p.block]?) : W'.cell? p = W.cell? p := by unfold World.cell?; rw [h]
theorem kg_b {n₀ : Nat} {w : World} (hn : n₀ < w.heap.size) (W : World) (l : Nat) (o o' : Obj) (hl : w.heap.size ≤ l) (ho : W.heap[l]? = some o) (hc : o.isCells = false) (hw : o.isWalk = false) : Kg n₀ W (W.putObj l o') := by
  have hcell : (W.putObj l o').cell? ⟨n₀, 0, none⟩ = W.cell? ⟨n₀, 0, none⟩ := cell_at_block (World.putObj_heap_other (by show n₀ ≠ l; omega))
  have hB : Below n₀ W (W.putObj l o') := belowK_b (w := w) (n₀ := n₀) (Nat.le_of_lt hn) W l o o' hl ho hc hw
  refine ⟨hB, fun hv u b hu h => ?_, fun b cs t ha hr => ?_⟩
  · rw [hcell] at hu; exact Nat.lt_of_lt_of_le (hv u b hu h) hB.size
  · have hbl : b ≠ l := fun e => by
      subst e
      have := ho.symm.trans ha
      cases this; cases hc
    refine ⟨(World.putObj_heap_other hbl).trans ha, ?_⟩
    rintro (e | ⟨u, hu, e⟩)
    · exact hr (.inl e)
    · rw [hcell] at hu; exact hr (.inr ⟨u, hu, e⟩)

theorem cell_of_heap {W W' : World} (h : W'.heap = W.heap) (p : Addr) : W'.cell? p = W.cell? p := by unfold World.cell?; rw [h]
theorem kg_append {W W2 w1 : World} {n₀ m : Nat} {v v' : Value} {tmp : Obj} {ys : List Value} (hheap : W2.heap = W.heap) (hv : Boxed W2 n₀ 22 v) (hgrow : (W2.alloc tmp).grownBy w1 v.ownBlock) (hv2 : Boxed (w1.setCell ⟨n₀, 0, none⟩ v') n₀ 22 v')
    (hb : Below n₀ W (w1.setCell ⟨n₀, 0, none⟩ v')) (hat : v'.ownBlock = v.ownBlock ∨ v'.ownBlock = some (W2.alloc tmp).heap.size) (hown' : w1.ownsRow n₀ 33 2 v' m ys) : Kg n₀ W (w1.setCell ⟨n₀, 0, none⟩ v') := by
  refine Kg.of hb ((cell_of_heap hheap _).symm.trans hv.cell) hv2.cell (fun b hb1 hb2 hb3 => ?_) ?_ (fun _ b e => by have := (hown'.lt b e).2; simpa using this)
  · have hb1' : b < W2.heap.size := by rw [hheap]; exact hb1
    rw [Below.heap_setCell w1 _ v' b hb2, hgrow.block b (by simp; omega) (fun e => hb3 e.symm), Below.heap_alloc W2 tmp b hb1', hheap]
  · rcases hat with h | h
    · exact .inl h
    · refine .inr fun b e => ?_
      rw [h] at e
      have : (W2.alloc tmp).heap.size = b := by simpa using e
      rw [← this, World.size_alloc, hheap]; omega
theorem kg_store {W W3 : World} {n₀ g j : Nat} {v u : Value} (hheap : W3.heap = W.heap) (hv : Boxed W3 n₀ 22 v) (hg : v.ownBlock = some g) (hgne : g ≠ n₀) (hb : Below n₀ W (W3.setCell ⟨g, j, none⟩ u)) : Kg n₀ W (W3.setCell ⟨g, j, none⟩ u) := by
  have hv' : Boxed (W3.setCell ⟨g, j, none⟩ u) n₀ 22 v := (Below.heap_setCell W3 _ u n₀ (Ne.symm hgne)).trans hv
  refine Kg.of hb ((cell_of_heap hheap _).symm.trans hv.cell) hv'.cell (fun b hb1 hb2 hb3 => ?_) (.inl rfl) (fun hvd b e => ?_)
  · rw [Below.heap_setCell W3 _ u b (fun e => hb3 (by rw [hg, e])), hheap]
  · have := hvd v b ((cell_of_heap hheap _).symm.trans hv.cell) e
    exact Nat.lt_of_lt_of_le this hb.size

/-- An iterator that hands these ranges over, one by one, whatever the loop's body does above n₀. -/
def Hands (gf : Nat) (lb : Array Value) (n₀ : Nat) (xs : List R32) (w : World) : Prop := SeqStopsK Fence.wide 4 Try.prog gf lb encR (Kg n₀) (fun ys => ys = xs) (fun pre => pre <+: xs) xs.length w

theorem at_own {β : Type} (B : Nat) (cs : Array Value) (t : TypeId) : Own (fun (_ : β) W => At W B cs t) := fun s X Y row hs hg hrow =>
  hs.kept hg (fun e' => by obtain ⟨o, ho, hc⟩ := hrow B e'.symm; rw [show X.heap[B]? = _ from hs] at ho; cases ho; cases hc)

/-- What gather answers. -/
def GatherOut (xs : List (Nat × Nat)) (w : World) (e : Ending) (w' : World) : Prop := ∃ v, e = .returned v ∧ IsZ w' v (gatherZ xs) ∧ Below w.heap.size w w'
def GI (w : World) (z : List (Nat × Nat)) (W : World) : Prop := (∃ v, Boxed W w.heap.size 22 v ∧ W.ownsRow w.heap.size 33 2 v z.length (pcells z) ∧ True) ∧ Below w.heap.size w W

set_option maxRecDepth 100000 in
set_option maxHeartbeats 4000000 in
theorem gather_in (gf : Nat) (lb : Array Value) (eg : ∀ args w, (callFunc gf args).run Try.prog w = .ok (.enter gf args) w) (xs : List R32) (w : World) (hlen : xs.length ≤ 4294967297) (hseq : ∀ W, Below w.heap.size w W → At W w.heap.size #[.slice none 0 0] 22 → Hands gf lb w.heap.size xs W) :
    CallsIn Fence.wide 5 Try.prog 33 #[.func (.func gf) #[] lb] w (GatherOut (vals xs) w) := by
  obtain ⟨i0, hi, hz0, hz1, hz2⟩ := info_parts info33
  refine callsIn_of_wp_marks Try.func33 rfl trivial ?_ rfl
  simp only [Try.ntmps33, List.size_toArray, List.length_cons, List.length_nil, Nat.reduceAdd, Nat.reduceSub, Array.replicate_succ, Array.replicate_zero, List.push_toArray, List.append_toArray, List.nil_append, List.cons_append]
  gi_wp2
  have bO := Boxed.new w 22 (.slice none 0 0)
  have hB0 : Below w.heap.size w (w.alloc (.cells #[.slice none 0 0] 22)) := (Below.refl _ w).alloc (Nat.le_refl _) _
  refine wpIn_rangeFunc_ownH rfl (by omega) (gf := gf) (lb := lb) rfl trivial eg
    (hseq _ hB0 (At.new _ _ _)) Kg.t (kg_b (by simp)) (Below.refl _ _) (fun _ => rfl)
    (fun pre W => (∃ v, Boxed W w.heap.size 22 v ∧ W.ownsRow w.heap.size 33 2 v (gatherZ (vals pre)).length (pcells (gatherZ (vals pre))) ∧ True) ∧ Below w.heap.size w W)
    (fun _ _ _ => False)
    (OwnFrom.and (Own.from (holdsRow_own w.heap.size w.heap.size 22 33 2 (fun pre : List R32 => (gatherZ (vals pre)).length) (fun pre => pcells (gatherZ (vals pre))) (fun _ _ => True)) _) (ownFrom_below (Nat.le_refl _) (by simp)))
    (fun _ _ _ _ _ hs _ _ => hs)
    ⟨⟨_, bO, World.ownsRow_nil _ _ _ _, trivial⟩, hB0⟩
    (fun x a' W => ∃ Bx, At W Bx #[.int .u32 x.1.1, .int .u32 x.1.2] 33 ∧ a' = { tmps := #[.func (.func gf) #[] lb, undef, .slice none 0 0, .pointer (some ⟨w.heap.size, 0, none⟩), .pointer (some ⟨Bx, 0, none⟩), undef, .func (.func gf) #[] lb, .agg #[.int .u32 x.1.1, .int .u32 x.1.2], undef, undef, undef, undef, undef, undef, undef, undef, undef, undef, undef, undef, undef, undef, undef, undef, undef, undef, undef, undef, undef, undef, undef, undef, undef, undef, undef, undef, undef, undef, undef, undef, undef, undef, undef], defers := [] })
    (fun x a' s X Y row hs hg hr => by
      obtain ⟨Bx, hx, ha⟩ := hs
      exact ⟨Bx, (at_own (β := Unit) Bx _ _) () X Y row hx hg (fun r e => (hr r e).2), ha⟩) ?assign ?body ?done ?stop
  case assign =>
    rintro l pre x W K ⟨⟨v, hv, hrow, _⟩, hB⟩ hK
    simp only [encR]
    gi_wp2
    exact hK _ _ ((KeepsOthers.alloc _ _).from _) (Kg.same hv.lt ((Below.refl _ W).alloc (Nat.le_refl _) _)) ⟨⟨v, hv.alloc _, hrow.alloc _, trivial⟩, hB.alloc hB.size _⟩ ⟨W.heap.size, World.alloc_heap_new W _, rfl⟩
  case body =>
    rintro l pre x a' W hl ⟨r, hr⟩ ⟨⟨v, hv, hrow, _⟩, hB⟩ ⟨Bx, hx, rfl⟩ hlt
    have hx0 : W.cell? ⟨Bx, 0, none⟩ = some (.int .u32 x.1.1) := (hx.cell 0).trans rfl
    have hx1 : W.cell? ⟨Bx, 1, none⟩ = some (.int .u32 x.1.2) := (hx.cell 1).trans rfl
    have hlz : (gatherZ (vals pre)).length ≤ 4294967297 := by have := gatherZ_len (vals pre); rw [vals_len] at this; omega
    have hu := gatherZ_u32 (vals_u32 pre)
    have e1 : gatherZ (vals (pre ++ [x])) = gstep (gatherZ (vals pre)) x.1 := by rw [vals_snoc, gatherZ_snoc]
    generalize gatherZ (vals pre) = z at hrow hlz hu e1
    have HE := Lib.hid e1
    clear e1
    obtain ⟨b1, b2⟩ := x.2
    have HB := Lib.hid hB
    have HROW := Lib.hid hrow
    have HV := Lib.hid hv
    have hc := hv.cell
    rcases List.eq_nil_or_concat z with rfl | ⟨zl, s, hls⟩
    · have hv0 : ∃ A c, v = .slice A 0 c := by rcases hrow.2 with ⟨rfl, _⟩ | ⟨g, cap, cur, rfl, _⟩ <;> exact ⟨_, _, rfl⟩
      obtain ⟨A, c, rfl⟩ := hv0
      clear hv hrow hB
      gi_wp2
      refine round_reads (by kernel_rfl) (by kernel_rfl) (by kernel_rfl) ?_
      repeat (go_big_quiet_step (fail))
      refine wpQuiet_nil ?_
      rintro _ ⟨nq, rfl⟩
      obtain ⟨W2, hW2⟩ : ∃ W2, W.drewN nq = W2 := ⟨_, rfl⟩
      have HB2 : Hid (Below w.heap.size w W2) := Lib.hid (hW2 ▸ bdrewN HB.out nq)
      have HROW2 : Hid (W2.ownsRow w.heap.size 33 2 _ _ _) := Lib.hid (hW2 ▸ (show (W.drewN nq).ownsRow w.heap.size 33 2 _ _ _ from HROW.out))
      have HV2 : Hid (Boxed W2 w.heap.size 22 _) := Lib.hid (hW2 ▸ (show Boxed (W.drewN nq) w.heap.size 22 _ from HV.out))
      have HX2 : Hid (At W2 Bx #[.int .u32 x.1.1, .int .u32 x.1.2] 33) := Lib.hid (hW2 ▸ (show At (W.drewN nq) Bx #[.int .u32 x.1.1, .int .u32 x.1.2] 33 from hx))
      have HH : Hid (W2.heap = W.heap) := Lib.hid (hW2 ▸ rfl)
      have hKF : KeepsFrom (w.alloc (.cells #[.slice none 0 0] 22)).heap.size W W2 := hW2 ▸ KeepsFrom.of_grownBy (grown_none (bdrewN (Below.refl _ W) nq)) (fun j e => by cases e)
      have hBW : Below w.heap.size W W2 := hW2 ▸ bdrewN (Below.refl _ _) nq
      rw [hW2]
      have hc2 := HV2.out.cell
      have hy0 : W2.cell? ⟨Bx, 0, none⟩ = some (.int .u32 x.1.1) := (HX2.out.cell 0).trans rfl
      have hy1 : W2.cell? ⟨Bx, 1, none⟩ = some (.int .u32 x.1.2) := (HX2.out.cell 1).trans rfl
      clear hc hx0 hx1 hx hW2 hr
      gi_wp2_with (gi_at_builtin; refine wpListIn_append_own_at _ rfl _ _ 22 rfl w.heap.size 33 i0 (.agg #[.int .u32 0, .int .u32 0]) 2 8 Try.underlying22 hi hz0 hz1 hz2 rfl (by decide) _ _ _ rfl (HROW2.out.alloc _) ⟨W2.heap.size, 0, none⟩ 1 1 [.int .u32 x.1.1, .int .u32 x.1.2] rfl rfl (World.news_of_block (cs := #[.int .u32 x.1.1, .int .u32 x.1.2]) (t := 33) (fr := (0, 0)) (heap_alloc_new W2 _)) (by simp [Value.oneCell']) (by simp only [maxLen]; omega) (by omega) (by have := HB2.out.size; simp; omega) ?_; intro v' w3 hown' hgrow _ hat; obtain ⟨g', cap', rfl⟩ := ownsRow_succ hown'; obtain ⟨hv1, hv2, hr2, hk2, hb2⟩ := HV2.out.appended (by decide) HROW2.out HB2.out.size (Nat.le_refl _) hown' hgrow; have hc1 := hv1.cell; have hf1 := hv1.frozen)
      refine ⟨hKF.trans (hk2.from _), kg_append HH.out HV2.out hgrow hv2 (hBW.trans hb2) hat hown', ⟨_, hv2, ?_, trivial⟩, HB2.out.trans hb2⟩
      rw [HE.out, gstep_nil]
      simpa [pcells] using hr2
    · obtain rfl : z = zl ++ [s] := by rw [hls]; simp
      have hlen1 : (zl ++ [s]).length = zl.length + 1 := by simp
      have hg0 : ∃ g cap, v = .slice (some ⟨g, 0, none⟩) (zl.length + 1) cap ∧ zl.length + 1 ≤ cap ∧ g ≠ w.heap.size ∧ w.heap.size ≤ g := by
        rcases hrow.2 with ⟨_, h0⟩ | ⟨g, cap, cur, rfl, hb, hg, hnc, _⟩
        · rw [hlen1] at h0; omega
        · refine ⟨g, cap, by rw [hlen1], by rw [← hlen1]; exact hnc, fun e => ?_, hb⟩
          have hh : W.heap[w.heap.size]? = _ := hv
          rw [← e, hg] at hh
          cases hh
      obtain ⟨g, cap, rfl, hcap, hgne, hgb⟩ := hg0
      obtain ⟨us1, us2⟩ := hu s (by simp)
      rw [hlen1] at hrow hlz HROW
      obtain ⟨_, hs1⟩ := pcells_at (zl ++ [s]) zl.length (by simp)
      have hcs1 : W.cell? ⟨g, zl.length * 2 + 1, none⟩ = some (.int .u32 s.2) := by
        rw [World.ownsRow.cellAt hrow _ (by omega), Nat.mul_comm]
        simpa using hs1
      have hpc : (pcells (zl ++ [s])).set (zl.length * 2 + 1) (.int .u32 (max s.2 x.1.2 : Nat)) = pcells (zl ++ [(s.1, max s.2 x.1.2)]) := by
        rw [pcells_snoc, pcells_snoc, List.set_append_right _ _ (by rw [pcells_length]; omega), pcells_length]
        simp [show zl.length * 2 + 1 - zl.length * 2 = 1 by omega]
      have HPC := Lib.hid hpc
      have HS1 := Lib.hid hs1
      have k0 : (0 : Int) ≤ (zl.length : Int) := by omega
      have k1 : (zl.length : Int) < ((zl.length + 1 : Nat) : Int) := by omega
      have k2 : decide ((zl.length : Int) < 0) = false := by simp
      have k3 : (zl.length : Int) < (zl.length : Int) + 1 := by omega
      have j1 : IntKind.u64.wrap (x.1.1 : Int) = (x.1.1 : Int) := IntWalk.u64_in _ (by omega)
      have j2 : IntKind.u64.wrap (s.2 : Int) = (s.2 : Int) := IntWalk.u64_in _ (by omega)
      have j3 : IntKind.u64.wrap ((s.2 : Int) + 1) = (s.2 : Int) + 1 := IntWalk.u64_in _ (by omega)
      clear hv hrow hB hpc hs1 hu
      by_cases hcond : s.2 + 1 < x.1.1
      · have hd : decide ((s.2 : Int) + 1 < (x.1.1 : Int)) = true := by simp; omega
        gi_wp2
        refine round_reads (by kernel_rfl) (by kernel_rfl) (by kernel_rfl) ?_
        repeat (go_big_quiet_step (fail))
        refine wpQuiet_nil ?_
        rintro _ ⟨nq, rfl⟩
        obtain ⟨W2, hW2⟩ : ∃ W2, W.drewN nq = W2 := ⟨_, rfl⟩
        have HB2 : Hid (Below w.heap.size w W2) := Lib.hid (hW2 ▸ bdrewN HB.out nq)
        have HROW2 : Hid (W2.ownsRow w.heap.size 33 2 _ _ _) := Lib.hid (hW2 ▸ (show (W.drewN nq).ownsRow w.heap.size 33 2 _ _ _ from HROW.out))
        have HV2 : Hid (Boxed W2 w.heap.size 22 _) := Lib.hid (hW2 ▸ (show Boxed (W.drewN nq) w.heap.size 22 _ from HV.out))
        have HX2 : Hid (At W2 Bx #[.int .u32 x.1.1, .int .u32 x.1.2] 33) := Lib.hid (hW2 ▸ (show At (W.drewN nq) Bx #[.int .u32 x.1.1, .int .u32 x.1.2] 33 from hx))
        have HH : Hid (W2.heap = W.heap) := Lib.hid (hW2 ▸ rfl)
        have hKF : KeepsFrom (w.alloc (.cells #[.slice none 0 0] 22)).heap.size W W2 := hW2 ▸ KeepsFrom.of_grownBy (grown_none (bdrewN (Below.refl _ W) nq)) (fun j e => by cases e)
        have hBW : Below w.heap.size W W2 := hW2 ▸ bdrewN (Below.refl _ _) nq
        rw [hW2]
        have hc2 := HV2.out.cell
        have hy0 : W2.cell? ⟨Bx, 0, none⟩ = some (.int .u32 x.1.1) := (HX2.out.cell 0).trans rfl
        have hy1 : W2.cell? ⟨Bx, 1, none⟩ = some (.int .u32 x.1.2) := (HX2.out.cell 1).trans rfl
        clear hc hx0 hx1 hx hW2 hr
        gi_wp2_with (gi_at_builtin; refine wpListIn_append_own_at _ rfl _ _ 22 rfl w.heap.size 33 i0 (.agg #[.int .u32 0, .int .u32 0]) 2 8 Try.underlying22 hi hz0 hz1 hz2 rfl (by decide) _ _ _ rfl (HROW2.out.alloc _) ⟨W2.heap.size, 0, none⟩ 1 1 [.int .u32 x.1.1, .int .u32 x.1.2] rfl rfl (World.news_of_block (cs := #[.int .u32 x.1.1, .int .u32 x.1.2]) (t := 33) (fr := (0, 0)) (heap_alloc_new W2 _)) (by simp [Value.oneCell']) (by simp only [maxLen]; omega) (by omega) (by have := HB2.out.size; simp; omega) ?_; intro v' w3 hown' hgrow _ hat; obtain ⟨g', cap', rfl⟩ := ownsRow_succ hown'; obtain ⟨hv1, hv2, hr2, hk2, hb2⟩ := HV2.out.appended (by decide) HROW2.out HB2.out.size (Nat.le_refl _) hown' hgrow; have hc1 := hv1.cell; have hf1 := hv1.frozen)
        refine ⟨hKF.trans (hk2.from _), kg_append HH.out HV2.out hgrow hv2 (hBW.trans hb2) hat hown', ⟨_, hv2, ?_, trivial⟩, HB2.out.trans hb2⟩
        rw [HE.out, gstep_more hcond]
        rw [pcells_snoc (zl ++ [s]) x.1]
        simpa using hr2
      · have hd : decide ((s.2 : Int) + 1 < (x.1.1 : Int)) = false := by simp; omega
        gi_wp2
        refine round_reads (by kernel_rfl) (by kernel_rfl) (by kernel_rfl) ?_
        repeat (go_big_quiet_step (fail))
        refine wpQuiet_nil ?_
        rintro _ ⟨nq, rfl⟩
        obtain ⟨W2, hW2⟩ : ∃ W2, W.drewN nq = W2 := ⟨_, rfl⟩
        have HB2 : Hid (Below w.heap.size w W2) := Lib.hid (hW2 ▸ bdrewN HB.out nq)
        have HROW2 : Hid (W2.ownsRow w.heap.size 33 2 _ _ _) := Lib.hid (hW2 ▸ (show (W.drewN nq).ownsRow w.heap.size 33 2 _ _ _ from HROW.out))
        have HV2 : Hid (Boxed W2 w.heap.size 22 _) := Lib.hid (hW2 ▸ (show Boxed (W.drewN nq) w.heap.size 22 _ from HV.out))
        have HX2 : Hid (At W2 Bx #[.int .u32 x.1.1, .int .u32 x.1.2] 33) := Lib.hid (hW2 ▸ (show At (W.drewN nq) Bx #[.int .u32 x.1.1, .int .u32 x.1.2] 33 from hx))
        have HH : Hid (W2.heap = W.heap) := Lib.hid (hW2 ▸ rfl)
        have hKF : KeepsFrom (w.alloc (.cells #[.slice none 0 0] 22)).heap.size W W2 := hW2 ▸ KeepsFrom.of_grownBy (grown_none (bdrewN (Below.refl _ W) nq)) (fun j e => by cases e)
        have hBW : Below w.heap.size W W2 := hW2 ▸ bdrewN (Below.refl _ _) nq
        rw [hW2]
        have hc2 := HV2.out.cell
        have hy0 : W2.cell? ⟨Bx, 0, none⟩ = some (.int .u32 x.1.1) := (HX2.out.cell 0).trans rfl
        have hy1 : W2.cell? ⟨Bx, 1, none⟩ = some (.int .u32 x.1.2) := (HX2.out.cell 1).trans rfl
        clear hc hx0 hx1 hx hW2 hr
        have hcs2 : W2.cell? ⟨g, zl.length * 2 + 1, none⟩ = some (.int .u32 s.2) := by
          rw [World.ownsRow.cellAt HROW2.out _ (by omega), Nat.mul_comm]
          simpa using HS1.out
        have hfz : W2.frozen? ⟨g, zl.length * 2 + 1, none⟩ = false := World.ownsRow.frozenAt HROW2.out _
        gi_wp2
        refine round_tail 12 (by kernel_rfl) (by kernel_rfl) (by kernel_rfl) ?_
        simp only [List.take_succ_cons, List.take_zero, List.drop_succ_cons, List.drop_zero]
        repeat still_step
        try refine wpStill_nil ?_
        change wpList _ _ _ _ _ W2.drew
        have HB3 : Hid (Below w.heap.size w W2.drew) := Lib.hid HB2.out.drew
        have HROW3 : Hid (W2.drew.ownsRow w.heap.size 33 2 (.slice (some ⟨g, 0, none⟩) (zl.length + 1) cap) (zl.length + 1) (pcells (zl ++ [s]))) := Lib.hid HROW2.out.drew
        have HV3 : Hid (Boxed W2.drew w.heap.size 22 (.slice (some ⟨g, 0, none⟩) (zl.length + 1) cap)) := Lib.hid (show Boxed W2.drew _ _ _ from HV2.out)
        have hKF3 : KeepsFrom (w.alloc (.cells #[.slice none 0 0] 22)).heap.size W W2.drew := hKF.trans ((KeepsOthers.drew W2).from _)
        have hBW3 : Below w.heap.size W W2.drew := hBW.drew
        have HH3 : Hid (W2.drew.heap = W.heap) := Lib.hid HH.out
        generalize W2.drew = W3 at HB3 HROW3 HV3 hKF3 hBW3 HH3 ⊢
        have hcs3 : W3.cell? ⟨g, zl.length * 2 + 1, none⟩ = some (.int .u32 s.2) := by
          rw [World.ownsRow.cellAt HROW3.out _ (by omega), Nat.mul_comm]
          simpa using HS1.out
        have hfz3 : W3.frozen? ⟨g, zl.length * 2 + 1, none⟩ = false := World.ownsRow.frozenAt HROW3.out _
        clear hcs2 hfz hc2 hy0 hy1
        have fin : ∀ val : Nat, val = max s.2 x.1.2 → (KeepsFrom (w.alloc (.cells #[.slice none 0 0] 22)).heap.size W (W3.setCell ⟨g, zl.length * 2 + 1, none⟩ (.int .u32 val))) ∧ Kg w.heap.size W (W3.setCell ⟨g, zl.length * 2 + 1, none⟩ (.int .u32 val)) ∧ (∃ v, Boxed (W3.setCell ⟨g, zl.length * 2 + 1, none⟩ (.int .u32 val)) w.heap.size 22 v ∧ (W3.setCell ⟨g, zl.length * 2 + 1, none⟩ (.int .u32 val)).ownsRow w.heap.size 33 2 v (gatherZ (vals (pre ++ [x]))).length (pcells (gatherZ (vals (pre ++ [x])))) ∧ True) ∧ Below w.heap.size w (W3.setCell ⟨g, zl.length * 2 + 1, none⟩ (.int .u32 val)) := by
          rintro val rfl
          obtain ⟨q1, q2⟩ := HROW3.out.stored (zl.length * 2 + 1) (.int .u32 (max s.2 x.1.2 : Nat))
          refine ⟨hKF3.trans ((KeepsOthers.setCell _ _ _).from _), kg_store HH3.out HV3.out rfl hgne (hBW3.setCell (p := ⟨g, _, none⟩) hgb _), ⟨_, HV3.out.kept q2 (by simpa using Ne.symm hgne), ?_, trivial⟩, HB3.out.setCell (p := ⟨g, _, none⟩) hgb _⟩
          rw [HE.out, gstep_into hcond, ← HPC.out]
          simpa using q1
        have FIN := Lib.hid fin
        clear fin
        go_wp2
        all_goals
          show Exit.inBlock 1 _ Exit.normal _ _
          gi_wp2
          exact FIN.out _ (by omega)
  case done =>
    rintro D ys W hD rfl ⟨⟨v, hv, hrow, _⟩, hB⟩ hK
    have hc := hv.cell
    gi_wp2
    refine ⟨by simp, .inl ⟨_, _, rfl, run_takeDeferred hK, ?_⟩⟩
    exact ⟨_, results_tmp rfl _ _ _, v, rfl, isZ_of_row (ownsRow_putObj hrow _ hK rfl), hB.trans (belowK_b (w := w) (Nat.le_refl _) W D _ _ (by simp at hD; omega) hK rfl rfl)⟩
  case stop =>
    rintro D c pre W _ _ h _
    exact h.elim
/-- zone.gather. -/
theorem gather_any (gf : Nat) (lb : Array Value) (eg : ∀ args w, (callFunc gf args).run Try.prog w = .ok (.enter gf args) w) (xs : List R32) (w : World) (hlen : xs.length ≤ 4294967297) (hseq : ∀ W, Below w.heap.size w W → At W w.heap.size #[.slice none 0 0] 22 → Hands gf lb w.heap.size xs W) :
    Calls Try.prog 33 #[.func (.func gf) #[] lb] w (GatherOut (vals xs) w) := callsIn_wide.1 (gather_in gf lb eg xs w hlen hseq)
end Go.Proofs.Ytonhmppobdbidaa
