/- Contracts: the document's Split; prefix.Of. -/
import Derived.Test.YtojdnfhklmfjmaaDoorP4
import Derived.Test.YtojdnfhklmfjmaaDoorP1
namespace Go.Proofs.YtojdnfhklmfjmaaDoor
open Go.RowKit

theorem ownsRow_low {w : World} {base base' : Nat} {e : TypeId} {size : Nat} {v : Value} {k : Nat} {xs : List Value} (h : w.ownsRow base e size v k xs) (hb : base' ≤ base) : w.ownsRow base' e size v k xs := by
  refine ⟨h.1, ?_⟩
  rcases h.2 with h0 | ⟨g, cap, cur, hv, hg0, r⟩
  · exact .inl h0
  · exact .inr ⟨g, cap, cur, hv, by omega, r⟩
/-- The outer loop's state. -/
def RS (f t : Nat) (w : World) (pre : List (Nat × Nat)) (g : Nat) (out : Value) (wr : World) : Prop :=
  splitL f t = pre ++ splitL g t ∧ wr.ownsRow (w.heap.size + 1) 24 2 out pre.length (pcells pre) ∧ wr.cell? ⟨w.heap.size, 1, none⟩ = some (.int .u32 t) ∧ Below w.heap.size w wr ∧ w.heap.size + 1 ≤ wr.heap.size
theorem RS.drewN {f t : Nat} {w wr : World} {pre : List (Nat × Nat)} {g : Nat} {out : Value} (h : RS f t w pre g out wr) (k : Nat) : RS f t w pre g out (wr.drewN k) := ⟨h.1, h.2.1, h.2.2.1, bdrewN h.2.2.2.1 k, h.2.2.2.2⟩

theorem rsplit_no (f t : Nat) (w : World) (hft : t < f) : Calls Tryd.prog 12 #[.agg #[.int .u32 f, .int .u32 t]] w (SplitOut f t w) := by
  go_enter Tryd.func12, Tryd.ntmps12
  go_wp2
  refine bodyPost_ret (v := .tuple #[.slice none 0 0, .int .i64 21]) (by simp [results, Tryd.results12, go_sem]) rfl ?_
  refine ⟨_, by rw [if_neg (by omega)], ?_, (Below.refl _ w).alloc (Nat.le_refl _) _⟩
  rw [splitL_nil hft]; exact World.ownsRow_nil _ _ _ _

set_option maxRecDepth 100000 in
set_option maxHeartbeats 2000000 in
theorem rsplit_yes (f t : Nat) (w : World) (hft : f ≤ t) (ht : t < 4294967296) : Calls Tryd.prog 12 #[.agg #[.int .u32 f, .int .u32 t]] w (SplitOut f t w) := by
  obtain ⟨i0, hi, hz0, hz1, hz2⟩ := info_parts info24
  have hlen := len_62 hft ht
  have hnlt : ¬ t < f := by omega
  go_enter Tryd.func12, Tryd.ntmps12
  go_wp2
  go_loopw [4, 5] (fun out at_ wr => ∃ (pre : List (Nat × Nat)) (g : Nat), at_ = .int .i64 g ∧ g ≤ t + 1 ∧ RS f t w pre g out wr) (fun _ at_ _ => t + 1 - (intOf at_).toNat)
  case atStart => exact ⟨[], f, rfl, by omega, rfl, World.ownsRow_nil _ _ _ _, by simp, (Below.refl _ w).alloc (Nat.le_refl _) _, by simp⟩
  case round =>
    obtain ⟨pre, g, rfl, hg, hrs⟩ := hrel
    have HRS := Lib.hid hrs
    obtain ⟨-, -, hct, -, hsz⟩ := hrs
    by_cases hlt : g ≤ t
    · go_wp2
      go_loopw [6] (fun n wi => ∃ k : Nat, n = .int .i64 k ∧ k ≤ pl g t ∧ RS f t w pre g u4 wi) (fun n _ => 32 - (intOf n).toNat)
      case atStart => exact ⟨0, rfl, by omega, HRS.out⟩
      case round =>
        obtain ⟨k, rfl, hk, hrs⟩ := hrel
        have HRI := Lib.hid hrs
        obtain ⟨-, -, hcti, -, hszi⟩ := hrs
        obtain ⟨q1, q2, q3⟩ := pl_spec hlt
        have hs := sz_le k
        have hp := sz_pos k
        have d3 : (((sz k : Nat) : Int) == 0) = false := by rw [beq_eq_false_iff_ne]; omega
        have d4 : (g : Int).tmod (sz k : Nat) = ((g % sz k : Nat) : Int) := by rw [Int.tmod_eq_emod_of_nonneg (by omega)]; omega
        have d5 : IntKind.i64.wrap ((g % sz k : Nat) : Int) = ((g % sz k : Nat) : Int) := by have := Nat.mod_lt g hp; exact IntWalk.i64_in _ (by omega)
        have d6 : IntKind.i64.wrap ((g : Int) + (sz k : Nat)) = (g : Int) + (sz k : Nat) := IntWalk.i64_in _ (by omega)
        have d7 : IntKind.i64.wrap ((g : Int) + (sz k : Nat) - 1) = (g : Int) + (sz k : Nat) - 1 := IntWalk.i64_in _ (by omega)
        have d8 : IntKind.i64.wrap (t : Int) = (t : Int) := IntWalk.i64_in _ (by omega)
        by_cases hkp : k = pl g t
        · have HK := Lib.hid hkp
          rw [← hkp] at q1
          clear hkp q3
          obtain ⟨q5, q6⟩ := fits_iff.1 q1
          have d1 : (((g : Int) % ((sz k : Nat) : Int)) != 0) = false := by simp; omega
          have d2 : decide ((t : Int) < (g : Int) + ((sz k : Nat) : Int) - 1) = false := by apply decide_eq_false; omega
          clear q1 q5
          go_wp2_with fail
          go_quiet ((go_at_call 31; exact Calls.quiet_of_same (same_of (size_any _ _ (by omega)))))
          clear d1 d2 d3 d4 d5 d6 d7 d8
          have hrd := HRI.out.drewN nq
          generalize wr.drewN nq = wd at hrd ⊢
          have HRD := Lib.hid hrd
          obtain ⟨-, hrow, hctd, hbd, hszd⟩ := hrd
          have hpl : pre.length < (splitL f t).length := by rw [HRI.out.1, splitL_cons hlt]; simp
          have hgu : IntKind.u32.wrap (g : Int) = (g : Int) := by rw [wrap_u32']; omega
          go_wp2_with (first
            | (at_builtin; refine wpList_append_own _ rfl (.tmp 38) (.tmp 43) 30 rfl (w.heap.size + 1) 24 i0 (.agg #[.int .u32 0, .int .i64 0]) 2 16 Tryd.underlying30 hi hz0 hz1 hz2 rfl (by decide) _ _ _ rfl (hrow.alloc _) ⟨wd.heap.size, 0, none⟩ 1 1 [.int .u32 g, .int .i64 k] rfl rfl (World.news_of_block (cs := #[.int .u32 g, .int .i64 k]) (t := 24) (fr := (0, 0)) (heap_alloc_new wd _)) (by simp [Value.oneCell']) (by simp only [maxLen]; omega) (by omega) (by simp; omega) ?_; intro v' w3 hown' hgrow _; obtain ⟨g', cap', rfl⟩ := ownsRow_succ hown')
            | (go_at_call 31; refine (size_any _ _ (by omega)).mono ?_; rintro e w4 ⟨rfl, rfl⟩))
          have hgrow' : (wd.alloc (.cells #[.int .u32 g, .int .i64 k] 24)).grownBy w3 u4.ownBlock := hgrow
          have hat := World.ownsRow.lt hrow
          have hct3 : w3.cell? ⟨w.heap.size, 1, none⟩ = some (.int .u32 t) := by
            rw [cell_at_block (W := wd.alloc (.cells #[.int .u32 g, .int .i64 k] 24)) (hgrow'.block w.heap.size (by simp; omega) (fun e => by have := hat _ e.symm; omega)), World.cell?_alloc_lt wd _ _ (by simp; omega)]
            exact hctd
          have hb3 : Below w.heap.size w w3 := (hbd.alloc (by omega) _).grown hgrow' (by simp; omega) (fun k e => by have := hat _ e; omega)
          refine ⟨⟨pre ++ [(g, k)], g + sz k, by congr 1, by omega, ?_, ?_, hct3, hb3, ?_⟩, by simp [intOf]; omega⟩
          · rw [HRI.out.1, splitL_cons hlt, ← HK.out]; simp
          · rw [pcells_snoc]; simpa using hown'
          · have := hgrow'.size; simp at this; omega
        · have hk2 : k < pl g t := by omega
          have hnf := q3 k hk2
          clear q3
          by_cases hm : g % sz k = 0
          · have d1 : (((g : Int) % ((sz k : Nat) : Int)) != 0) = false := by simp; omega
            have d2 : decide ((t : Int) < (g : Int) + ((sz k : Nat) : Int) - 1) = true := by
              apply decide_eq_true
              have : ¬ (g + sz k ≤ t + 1) := fun h => by rw [show fits g t k = true from fits_iff.2 ⟨hm, h⟩] at hnf; cases hnf
              omega
            clear hnf hm
            go_wp2_with fail
            go_quiet ((go_at_call 31; exact Calls.quiet_of_same (same_of (size_any _ _ (by omega)))))
            clear d1 d2 d3 d4 d5 d6 d7 d8
            go_wp2
            go_roundw
            case rel => exact ⟨k + 1, by go_num, by omega, HRI.out.drewN _⟩
            case measure => simp [intOf]; omega
          · have d1 : (((g : Int) % ((sz k : Nat) : Int)) != 0) = true := by simp; omega
            clear hnf hm
            go_wp2_with fail
            go_quiet ((go_at_call 31; exact Calls.quiet_of_same (same_of (size_any _ _ (by omega)))))
            clear d1 d3 d4 d5 d6 d7 d8
            go_wp2
            go_roundw
            case rel => exact ⟨k + 1, by go_num, by omega, HRI.out.drewN _⟩
            case measure => simp [intOf]; omega
    · have hgt : ¬ (g ≤ t) := hlt
      go_wp2
      refine bodyPost_ret (v := .tuple #[u4, .int .i64 0]) (by simp [results, Tryd.results12, go_sem]) rfl ?_
      obtain ⟨h1, h2, _, h4, _⟩ := HRS.out
      refine ⟨u4, by rw [if_pos hft], ?_, h4⟩
      rw [splitL_nil (f := g) (by omega), List.append_nil] at h1
      rw [h1]
      exact ownsRow_low h2 (by omega)
/-- The document's Split. -/
theorem rsplit_any (f t : Nat) (w : World) (ht : t < 4294967296) : Calls Tryd.prog 12 #[.agg #[.int .u32 f, .int .u32 t]] w (SplitOut f t w) := by
  by_cases h : f ≤ t
  · exact rsplit_yes f t w h ht
  · exact rsplit_no f t w (by omega)
end Go.Proofs.YtojdnfhklmfjmaaDoor
