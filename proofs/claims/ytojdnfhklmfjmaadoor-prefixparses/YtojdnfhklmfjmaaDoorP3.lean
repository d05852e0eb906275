/- Contracts: prefix.pieces (an iterator). -/
import Derived.Test.YtojdnfhklmfjmaaDoorP2
import Derived.RangeFuncNested
import Derived.RangeFuncBound
import Derived.RangeFuncCalls
import Derived.RangeFuncLeaves
import Derived.Shelf.Abstract
import Derived.Shelf.RegionOpen
import Derived.OwnWalkIn
import Derived.TacticsInMore
import Derived.LoopNIn
import Derived.LoopIn
import Derived.Maps.AppendAt
import Derived.Sort.QuietTacIn
import Derived.Sort.BigQuietIn
namespace Go.Proofs.YtojdnfhklmfjmaaDoor
open Go.RowKit Go.Shelf
attribute [local go_sem] Oper.semAt_some
theorem wide_fn (f : FuncId) : Fence.wide.fn f = True := eq_true trivial
attribute [local go_sem] wide_fn

/-- What a round keeps: all cells below n₀, and the iterator's own. -/
def Kp (n₀ Bn : Nat) (W W' : World) : Prop := ∀ p : Addr, (p.block < n₀ ∨ p.block = Bn) → W'.cell? p = W.cell? p
/-- A prefix as a value. -/
def pv (x : Nat × Nat) : Value := .agg #[.int .u32 x.1, .int .i64 x.2]
theorem grown_none {W W' : World} (h : Below W.heap.size W W') : W.grownBy W' none := ⟨h.os, h.tape, h.output, h.size, fun k hk _ => h.block k hk⟩
theorem tab_kept {g n₀ Bn : Nat} {tab : List Nat} {W W' : World} (h : TabAt g tab W) (hk : Kp n₀ Bn W W') (hg : g < n₀) : TabAt g tab W' := fun j hj => (hk ⟨g, j, none⟩ (.inl hg)).trans (h j hj)
theorem tab_below {g : Nat} {tab : List Nat} {W W' : World} (h : TabAt g tab W) (hb : Below W.heap.size W W') : TabAt g tab W' := fun j hj => by
  have := World.block_lt_of_cell? W _ (h j hj)
  exact (hb.cell (p := ⟨g, j, none⟩) this).trans (h j hj)

set_option maxRecDepth 100000 in
set_option maxHeartbeats 2000000 in
theorem pieces1_in (n l Bn n₀ f t : Nat) (hn : 1 ≤ n) (hft : f ≤ t) (ht : t < 4294967296) (hn₀ : 0 < n₀) (J Jx : List (Nat × Nat) → World → Prop)
    (hJ : ∀ s W W', J s W → W.grownBy W' none → J s W')
    (hY : ∀ pre x W, J pre W → pre.length < (splitL f t).length → YieldAt Fence.wide (n - 1) Tryd.prog l #[.agg #[.int .u32 x.1, .int .i64 x.2]] W fun e W' =>
      (e = .returned (.bool true) ∧ J (pre ++ [x]) W' ∧ Kp n₀ Bn W W') ∨ (e = .returned (.bool false) ∧ Jx (pre ++ [x]) W'))
    (W : World) (h0 : W.cell? ⟨Bn, 0, none⟩ = some (.int .u32 f)) (h1 : W.cell? ⟨Bn, 1, none⟩ = some (.int .u32 t)) (hT : TabAt 0 Lib.deBruijn32tab W) (hJ0 : J [] W) :
    CallsIn Fence.wide n Tryd.prog 44 #[.func (.yield l) #[] #[], .pointer (some ⟨Bn, 0, none⟩)] W fun e W' => (∃ v, e = .returned v) ∧
      ((∃ ys, ys = splitL f t ∧ J ys W') ∨ (∃ pre, pre <+: splitL f t ∧ Jx pre W')) := by
  have HT := Lib.hid hT
  clear hT
  refine callsIn_of_wp Tryd.func44 rfl trivial ?_ rfl
  simp only [Tryd.ntmps44, List.size_toArray, List.length_cons, List.length_nil, Nat.reduceAdd, Nat.reduceSub, Array.replicate_succ, Array.replicate_zero, List.push_toArray, List.append_toArray, List.nil_append, List.cons_append]
  gi_wp2
  gi_loopw [3] (fun p wr => ∃ (pre : List (Nat × Nat)) (g : Nat), p = .int .u32 g ∧ g ≤ t ∧ Hid (splitL f t = pre ++ splitL g t) ∧ Hid (J pre wr) ∧ wr.cell? ⟨Bn, 1, none⟩ = some (.int .u32 t) ∧ Hid (TabAt 0 Lib.deBruijn32tab wr))
    (fun p _ => t + 1 - (intOf p).toNat)
  case atStart => exact ⟨[], f, rfl, hft, rfl, hJ0, h1, HT⟩
  case round =>
    obtain ⟨pre, g, rfl, hg, HS, HJ, hc1, HT⟩ := hrel
    have hBl := World.block_lt_of_cell? wr _ hc1
    gi_wp2_with (gi_at_call 45; refine (callsIn_wide.2 (widest_any g t _ hg ht HT.out)).mono ?_; rintro e w1 ⟨rfl, b1⟩)
    obtain ⟨q1, q2, _⟩ := pl_spec hg
    obtain ⟨q3, q4⟩ := fits_iff.1 q1
    have hs := sz_le (pl g t)
    have hp := sz_pos (pl g t)
    have hor := bits_or_u32_nat g (sz (pl g t) - 1) (by omega) (by omega)
    rw [or_mask q3] at hor
    have hc1' : w1.cell? ⟨Bn, 1, none⟩ = some (.int .u32 t) := (b1.cell (p := ⟨Bn, 1, none⟩) hBl).trans hc1
    have hBl1 : Bn < w1.heap.size := Nat.lt_of_lt_of_le hBl b1.size
    gi_big_quiet_th ((gi_at_call 30; exact CallsIn.quiet_of_same (callsIn_wide.2 (same_of (behind_any _ _ (by omega))))))
    have hJ2 : J pre ((w1.alloc (.cells #[.int .u32 g, .int .i64 (pl g t)] 24)).drewN nq) :=
      hJ _ _ _ HJ.out (grown_none (bdrewN ((b1.alloc b1.size _)) nq))
    have hlen : pre.length < (splitL f t).length := by rw [HS.out, splitL_cons hg]; simp
    obtain ⟨fn, tmps, assign, body, hy, hR⟩ := hY pre (g, pl g t) _ hJ2 hlen
    have HJ2 := Lib.hid hJ2
    have HLEN := Lib.hid hlen
    clear hJ2 hlen hor q3 q1
    gi_wp2
    refine hR.mono ?_
    rintro e W3 (⟨rfl, hJ3, hk3⟩ | ⟨rfl, hJx3⟩)
    · have hT1 : TabAt 0 Lib.deBruijn32tab ((w1.alloc (.cells #[.int .u32 g, .int .i64 (pl g t)] 24)).drewN nq) := tab_below HT.out (bdrewN (b1.alloc b1.size _) nq)
      have HT3 : Hid (TabAt 0 Lib.deBruijn32tab W3) := tab_kept hT1 hk3 hn₀
      have hc3 : W3.cell? ⟨Bn, 1, none⟩ = some (.int .u32 t) := by
        rw [hk3 ⟨Bn, 1, none⟩ (.inr rfl)]
        exact ((bdrewN (b1.alloc b1.size _) nq : Below wr.heap.size wr _).cell (p := ⟨Bn, 1, none⟩) hBl).trans hc1
      have HJ3 := Lib.hid hJ3
      clear hJ3 hk3 hT1
      by_cases hl : g + (sz (pl g t) - 1) = t
      · have d1 : ((g : Int) + ((sz (pl g t) - 1 : Nat) : Int) == (t : Int)) = true := by rw [beq_iff_eq]; omega
        have d2 : (g + (sz (pl g t) - 1) == t) = true := by rw [beq_iff_eq]; omega
        have HL := Lib.hid hl
        clear hl
        gi_wp2
        refine bodyPost_ret (results_none rfl _ _ _) rfl ?_
        refine ⟨⟨_, rfl⟩, .inl ⟨_, ?_, HJ3.out⟩⟩
        rw [HS.out, splitL_cons hg, splitL_nil (by have := HL.out; omega)]
      · have d1 : ((g : Int) + ((sz (pl g t) - 1 : Nat) : Int) == (t : Int)) = false := by rw [beq_eq_false_iff_ne]; omega
        have d2 : (g + (sz (pl g t) - 1) == t) = false := by rw [beq_eq_false_iff_ne]; omega
        have hlt : g + sz (pl g t) ≤ t := by omega
        clear hl
        gi_wp2
        go_roundw
        case rel => exact ⟨pre ++ [(g, pl g t)], g + sz (pl g t), by congr 1; omega, hlt, Lib.hid (by rw [HS.out, splitL_cons hg]; simp), HJ3, hc3, HT3⟩
        case measure => simp [intOf]; omega
    · gi_wp2
      refine bodyPost_ret (results_none rfl _ _ _) rfl ?_
      exact ⟨⟨_, rfl⟩, .inr ⟨pre ++ [(g, pl g t)], ⟨splitL (g + sz (pl g t)) t, by rw [HS.out, splitL_cons hg]; simp⟩, hJx3⟩⟩
end Go.Proofs.YtojdnfhklmfjmaaDoor
