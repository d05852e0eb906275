/- PrefixSplit's walk. -/
import Derived.Test.YtojdnfhklmfjmaaDoorTells
namespace Go.Proofs.YtojdnfhklmfjmaaDoor
open Go.RowKit

set_option maxRecDepth 100000 in
set_option maxHeartbeats 2000000 in
theorem splitlaw_no (f t : Nat) (w : World) (hT : Tb w) (ht : t < 4294967296) (hft : t < f) : Calls Tryd.prog 6 #[.agg #[.int .u32 f, .int .u32 t]] w fun e w' => e = .returned (.bool true) ∧ Below w.heap.size w w' := by
  have HT := Lib.hid hT
  have hs : ∀ u : World, Tb u → Calls Tryd.prog 11 #[.agg #[.int .u32 f, .int .u32 t]] u fun e w' => ∃ v, e = .returned (.tuple #[v, .int .i64 21]) ∧ w'.ownsRow u.heap.size 24 2 v 0 [] ∧ Below u.heap.size u w' := fun u hu => by
    refine (split_any f t u ht hu.tz).mono ?_
    rintro e w' ⟨v, h1, h2, h3⟩
    rw [if_neg (by omega)] at h1
    rw [splitL_nil hft] at h2
    exact ⟨v, h1, h2, h3⟩
  have d : decide (t < f) = true := by simpa using hft
  clear hT
  go_enter Tryd.func6, Tryd.ntmps6
  go_wp2_with fail
  have B0 := (Below.refl w.heap.size w).alloc (Nat.le_refl _) (.cells #[.int .u32 f, .int .u32 t] 26)
  refine (hs _ (HT.out.below B0)).mono ?_
  rintro e w1 ⟨v, rfl, row, b1⟩
  have R1 := (At.new w #[.int .u32 f, .int .u32 t] 26).belows b1
  have B1 : Below w.heap.size w w1 := B0.trans (b1.mono B0.size)
  have r0 : w1.cell? ⟨w.heap.size, 0, none⟩ = some (.int .u32 f) := (R1.cell 0).trans rfl
  have r1 : w1.cell? ⟨w.heap.size, 1, none⟩ = some (.int .u32 t) := (R1.cell 1).trans rfl
  obtain ⟨A, c, rfl⟩ := row_form row
  clear row b1 R1 B0
  go_wp2_with fail
  refine (alive_any _ (HT.out.below B1)).mono ?_
  rintro e w2 ⟨rfl, b2⟩
  go_wp2
  go_ret
  exact ⟨rfl, B1.trans (b2.mono B1.size)⟩

theorem next_at {f t : Nat} {pre : List (Nat × Nat)} {g : Nat} (h : splitL f t = pre ++ splitL g t) (hg : g ≤ t) (hk : pre.length < (splitL f t).length) : (splitL f t)[pre.length] = (g, pl g t) := by
  have : (splitL f t)[pre.length]? = some (g, pl g t) := by rw [h, splitL_cons hg]; simp
  exact List.getElem_eq_iff hk |>.2 this
/-- The loop: which pieces have been seen. -/
def SL (f t : Nat) (w w1 : World) (k g : Nat) (wr : World) : Prop := (∃ pre, splitL f t = pre ++ splitL g t ∧ pre.length = k) ∧ Below w1.heap.size w1 wr ∧ Below w.heap.size w wr

set_option maxRecDepth 100000 in
set_option maxHeartbeats 4000000 in
theorem splitlaw_yes (f t : Nat) (w : World) (hT : Tb w) (ht : t < 4294967296) (hft : f ≤ t) : Calls Tryd.prog 6 #[.agg #[.int .u32 f, .int .u32 t]] w fun e w' => e = .returned (.bool true) ∧ Below w.heap.size w w' := by
  have HT := Lib.hid hT
  obtain ⟨L, hL⟩ : ∃ L, splitL f t = L := ⟨_, rfl⟩
  have hs : ∀ u : World, Tb u → Calls Tryd.prog 11 #[.agg #[.int .u32 f, .int .u32 t]] u fun e w' => ∃ v, e = .returned (.tuple #[v, .int .i64 0]) ∧ w'.ownsRow u.heap.size 24 2 v L.length (pcells L) ∧ Below u.heap.size u w' := fun u hu => by
    refine (split_any f t u ht hu.tz).mono ?_
    rintro e w' ⟨v, h1, h2, h3⟩
    rw [if_pos hft] at h1
    rw [hL] at h2
    exact ⟨v, h1, h2, h3⟩
  have d : ¬ t < f := by omega
  have hlen : L.length ≤ 62 := by rw [← hL]; exact len_62 hft ht
  have hpos : 1 ≤ L.length := by rw [← hL]; exact len_pos hft
  have HL := Lib.hid hL
  clear hT hL
  go_enter Tryd.func6, Tryd.ntmps6
  go_wp2_with fail
  have B0 := (Below.refl w.heap.size w).alloc (Nat.le_refl _) (.cells #[.int .u32 f, .int .u32 t] 26)
  refine (hs _ (HT.out.below B0)).mono ?_
  rintro e w1 ⟨v, rfl, row, b1⟩
  have R1 := (At.new w #[.int .u32 f, .int .u32 t] 26).belows b1
  have B1 : Below w.heap.size w w1 := B0.trans (b1.mono B0.size)
  have r0 : w1.cell? ⟨w.heap.size, 0, none⟩ = some (.int .u32 f) := (R1.cell 0).trans rfl
  have r1 : w1.cell? ⟨w.heap.size, 1, none⟩ = some (.int .u32 t) := (R1.cell 1).trans rfl
  rcases prow row with ⟨_, h0⟩ | ⟨gb, cap, rfl, hcap, _, hgb, hcell⟩
  · rw [h0] at hpos; simp at hpos
  have HC := Lib.hid hcell
  have HR := Lib.hid R1
  clear row b1 R1 B0 hcell
  go_wp2
  go_loopw [5, 6] (fun at_ i wr => ∃ k g : Nat, i = .int .i64 k ∧ at_ = .int .i64 g ∧ k ≤ L.length ∧ g ≤ t + 1 ∧ SL f t w w1 k g wr) (fun _ i _ => L.length - (intOf i).toNat)
  case atStart => exact ⟨0, f, rfl, rfl, by omega, by omega, ⟨[], rfl, rfl⟩, Below.refl _ _, B1⟩
  case round =>
    obtain ⟨k, g, rfl, rfl, hk, hg, hpre, bw, bel⟩ := hrel
    have HP := Lib.hid hpre
    clear hpre r0 r1
    by_cases hlt : k < L.length
    · have hgt : g ≤ t := by
        obtain ⟨pre, h1, h2⟩ := HP.out
        apply Nat.le_of_not_lt; intro h
        rw [splitL_nil h, List.append_nil] at h1
        rw [HL.out] at h1; rw [h1, h2] at hlt; omega
      have hLk : L[k] = (g, pl g t) := by
        obtain ⟨pre, h1, h2⟩ := HP.out
        subst h2
        have := next_at h1 hgt (by rw [HL.out]; exact hlt)
        simpa [HL.out] using this
      obtain ⟨c0', c1'⟩ := HC.out k hlt
      rw [hLk] at c0' c1'
      obtain ⟨q1, q2, _⟩ := pl_spec hgt
      obtain ⟨q3, q4⟩ := fits_iff.1 q1
      have hp := sz_pos (pl g t)
      have c0 : wr.cell? ⟨gb, k * 2, none⟩ = some (.int .u32 g) := (bw.cell (p := ⟨gb, k * 2, none⟩) hgb).trans c0'
      have c1 : wr.cell? ⟨gb, k * 2 + 1, none⟩ = some (.int .i64 (pl g t : Nat)) := (bw.cell (p := ⟨gb, k * 2 + 1, none⟩) hgb).trans c1'
      obtain ⟨X, hX⟩ : ∃ X, g + (sz (pl g t) - 1) = X := ⟨_, rfl⟩
      have k9 : ∀ u : World, Calls Tryd.prog 9 #[.agg #[.int .u32 g, .int .i64 (pl g t : Nat)]] u fun e w' => e = .returned (.tuple #[.agg #[.int .u32 g, .int .u32 X], .int .i64 0]) ∧ Below u.heap.size u w' := fun u => by
        rw [← hX]; exact range_yes g (pl g t) u (by omega) q2 q3
      have hX1 : X + 1 = g + sz (pl g t) := by omega
      have hX2 : X ≤ t := by omega
      have HX := Lib.hid hX1
      have HLk := Lib.hid hLk
      have HQ := Lib.hid q2
      clear c0' c1' hX q1 q3 hLk hX1 q2
      have i0 : (0 : Int) ≤ (k : Int) := by omega
      have i1 : (k : Int) < (L.length : Int) := by omega
      generalize hm : pl g t = m at c0 c1 k9 q4 hp
      have HM := Lib.hid hm
      clear hm
      have hstep : ∃ pre, splitL f t = pre ++ splitL (X + 1) t ∧ pre.length = k + 1 := by
        obtain ⟨pre, h1, h2⟩ := HP.out
        refine ⟨pre ++ [(g, pl g t)], ?_, by simp [h2]⟩
        rw [h1, splitL_cons hgt, HX.out]; simp
      have HST := Lib.hid hstep
      clear hstep
      by_cases hn : k + 1 < L.length
      · have hgt2 : X + 1 ≤ t := by
          obtain ⟨pre, h1, h2⟩ := HST.out
          apply Nat.le_of_not_lt; intro h
          rw [splitL_nil h, List.append_nil] at h1
          rw [HL.out] at h1; rw [h1, h2] at hn; omega
        have hLk2 : L[k + 1] = (X + 1, pl (X + 1) t) := by
          obtain ⟨pre, h1, h2⟩ := HST.out
          have := next_at h1 hgt2 (by rw [HL.out, h2]; exact hn)
          simpa [HL.out, h2] using this
        obtain ⟨c2', c3'⟩ := HC.out (k + 1) hn
        rw [hLk2] at c2' c3'
        obtain ⟨q1, q2, _⟩ := pl_spec hgt2
        obtain ⟨q3, q5⟩ := fits_iff.1 q1
        have hp2 := sz_pos (pl (X + 1) t)
        obtain ⟨Y, hY⟩ : ∃ Y, X + 1 + (sz (pl (X + 1) t) - 1) = Y := ⟨_, rfl⟩
        have k9b : ∀ u : World, Calls Tryd.prog 9 #[.agg #[.int .u32 (X + 1 : Nat), .int .i64 (pl (X + 1) t : Nat)]] u fun e w' => e = .returned (.tuple #[.agg #[.int .u32 (X + 1 : Nat), .int .u32 Y], .int .i64 0]) ∧ Below u.heap.size u w' := fun u => by
          rw [← hY]; exact range_yes (X + 1) (pl (X + 1) t) u (by omega) q2 q3
        have k13 : ∀ u : World, Calls Tryd.prog 13 #[.agg #[.int .u32 g, .int .u32 Y]] u fun e w' => e = .returned (.tuple #[.agg #[.int .u32 0, .int .i64 0], .bool false]) ∧ Below u.heap.size u w' := fun u => by
          refine of_no g Y u (by omega) (by omega) fun n hn => ?_
          have e1 := HX.out
          refine no_merge (n := n) hgt (by rw [← e1]; exact hgt2) ?_
          rw [← e1, show X + 1 + sz (pl (X + 1) t) - 1 = Y by omega]
          exact hn
        have hY2 : Y ≤ t := by omega
        obtain ⟨g2, hg2⟩ : ∃ g2, X + 1 = g2 := ⟨_, rfl⟩
        rw [hg2] at k9b c2' c3'
        obtain ⟨m2, hm2⟩ : ∃ m2, pl g2 t = m2 := ⟨_, rfl⟩
        rw [hm2] at k9b c2' c3'
        have HG2 := Lib.hid hg2
        have hg2' : g2 ≤ t := by omega
        have i2 : (k : Int) + 1 < (L.length : Int) := by omega
        have i3 : k + 1 < L.length := hn
        clear hLk2 q1 q2 q3 q5 hp2 hY hg2 hm2 hgt2
        go_wp2_with fail
        refine (k9 _).mono ?_
        rintro e w2 ⟨rfl, b2⟩
        have bw2 : Below w1.heap.size w1 w2 := bw.trans (b2.mono bw.size)
        have bel2 : Below w.heap.size w w2 := bel.trans (b2.mono bel.size)
        have hz2 : w1.heap.size ≤ w2.heap.size := bw2.size
        have c2 : w2.cell? ⟨gb, (k + 1) * 2, none⟩ = some (.int .u32 g2) := (bw2.cell (p := ⟨gb, (k + 1) * 2, none⟩) hgb).trans c2'
        have c3 : w2.cell? ⟨gb, (k + 1) * 2 + 1, none⟩ = some (.int .i64 m2) := (bw2.cell (p := ⟨gb, (k + 1) * 2 + 1, none⟩) hgb).trans c3'
        have hgb2 : gb < w2.heap.size := by omega
        clear b2 c2' c3' c0 c1
        go_wp2_with fail
        refine (k9b _).mono ?_
        rintro e w3 ⟨rfl, b3⟩
        have X3 := (At.new w2 #[.int .u32 g, .int .u32 X] 26).belows b3
        have bw3 : Below w1.heap.size w1 w3 := (bw2.alloc hz2 _).trans (b3.mono (by simp; omega))
        have bel3 : Below w.heap.size w w3 := (bel2.alloc bel2.size _).trans (b3.mono (by simp; have := bel2.size; omega))
        have e0 : w3.cell? ⟨w2.heap.size, 0, none⟩ = some (.int .u32 g) := (X3.cell 0).trans rfl
        have hz3 : w2.heap.size < w3.heap.size := X3.lt
        clear b3 X3 c2 c3
        go_wp2_with fail
        refine (k13 _).mono ?_
        rintro e w4 ⟨rfl, b4⟩
        have bw4 : Below w1.heap.size w1 w4 := (bw3.alloc bw3.size _).trans (b4.mono (by simp; have := bw3.size; omega))
        have bel4 : Below w.heap.size w w4 := (bel3.alloc bel3.size _).trans (b4.mono (by simp; have := bel3.size; omega))
        clear b4
        go_wp2
        exact ⟨⟨k + 1, X + 1, by go_num, by go_num, by omega, by omega, HST.out, bw4.alloc bw4.size _, bel4.alloc bel4.size _⟩, by simp [intOf]; omega⟩
      · have i3 : ¬ (k + 1 < L.length) := hn
        go_wp2_with fail
        refine (k9 _).mono ?_
        rintro e w2 ⟨rfl, b2⟩
        have bw2 : Below w1.heap.size w1 w2 := bw.trans (b2.mono bw.size)
        have bel2 : Below w.heap.size w w2 := bel.trans (b2.mono bel.size)
        clear b2 c0 c1
        go_wp2
        exact ⟨⟨k + 1, X + 1, by go_num, by go_num, by omega, by omega, HST.out, bw2.alloc bw2.size _, bel2.alloc bel2.size _⟩, by simp [intOf]; omega⟩
    · have hkL : k = L.length := by omega
      have hgt : g = t + 1 := by
        obtain ⟨pre, h1, h2⟩ := HP.out
        apply Nat.le_antisymm hg
        apply Nat.lt_of_not_le; intro h
        rw [splitL_cons h, HL.out] at h1
        rw [h1] at hkL; simp at hkL; omega
      have R := HR.out.below bw (by have := HR.out.lt; omega)
      have r1 : wr.cell? ⟨w.heap.size, 1, none⟩ = some (.int .u32 t) := (R.cell 1).trans rfl
      have HRR := Lib.hid R
      have n1 : ¬ (k < L.length) := hlt
      have e1 : ((g : Int) == (t : Int) + 1) = true := by rw [beq_iff_eq]; omega
      clear R r1
      go_wp2_with (go_at_call 16; refine (alive_any _ (HT.out.below bel)).mono ?_; rintro e w2 ⟨rfl, b2⟩; have r1 : w2.cell? ⟨w.heap.size, 1, none⟩ = some (.int .u32 t) := ((HRR.out.belows b2).cell 1).trans rfl)
      go_ret
      exact ⟨ret_bool (decide_eq_true (by omega)), bel.trans (b2.mono bel.size)⟩
theorem splitlaw_walk (f t : Nat) (w : World) (hT : Tb w) (ht : t < 4294967296) : Calls Tryd.prog 6 #[.agg #[.int .u32 f, .int .u32 t]] w fun e w' => e = .returned (.bool true) ∧ Below w.heap.size w w' := by
  by_cases h : f ≤ t
  · exact splitlaw_yes f t w hT ht h
  · exact splitlaw_no f t w hT ht (by omega)
end Go.Proofs.YtojdnfhklmfjmaaDoor
