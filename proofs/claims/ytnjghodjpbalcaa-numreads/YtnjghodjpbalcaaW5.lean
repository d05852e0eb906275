/- The contract of the reader's Text. -/
import Derived.Test.YtnjghodjpbalcaaW4
namespace Go.Proofs.Ytnjghodjpbalcaa
open Go.RowKit

theorem str_behind (w : World) (k g : Nat) (A : Option Addr) (l : List UInt8) (v c : Nat) (hr : Rd w g A l) (hv : v ≤ l.length) :
    ∀ V, (convert 23 9 (.slice A v c)).run Try.prog ((w.drewN k).setCell ⟨g, 0, none⟩ V) = .ok (.string ⟨(l.take v).toArray⟩) ((w.drewN k).setCell ⟨g, 0, none⟩ V) := by
  intro V
  have h1 : Rd ((w.drewN k).setCell ⟨g, 0, none⟩ V) g A (l.take v) := (hr.take v).keep fun p hp => World.cell?_of_block (Below.heap_setCell (w.drewN k) ⟨g, 0, none⟩ _ p.block (Nat.ne_of_lt hp))
  have h2 := run_str (P := Try.prog) ((w.drewN k).setCell ⟨g, 0, none⟩ V) 23 9 5 Try.underlying23 Try.underlying5 Try.underlying9 g A (l.take v) c h1
  rw [List.length_take, Nat.min_eq_left hv] at h2
  exact h2

set_option maxHeartbeats 1000000 in
theorem rtext_any (l : List UInt8) (most : Int) (base g : Nat) (w : World) (hr : Rdr w base g l) (hm0 : -9223372036854775808 ≤ most) (hm : most < 9223372036854775808) (hll : l.length ≤ 100000000) :
    Calls Try.prog 17 #[.pointer (some ⟨g, 0, none⟩), .int .i64 most] w (TextOut l most base g w) := by
  have HR := Lib.hid hr
  obtain ⟨A, c, hb, hg, hc, hcm, hrd⟩ := hr
  have hcell : w.cell? ⟨g, 0, none⟩ = some (.slice A l.length c) := by rw [cell_of_row w g 0 _ 51 (0, 0) hg]; rfl
  have hfr : w.frozen? ⟨g, 0, none⟩ = false := by simp [World.frozen?, hg]
  clear hg hb
  match hN : num1 l with
  | none =>
    have HN := Lib.hid hN
    clear hN
    go_enter Try.func17, Try.ntmps17
    go_wp2_with (go_at_call 21; go_must (refine (first_any A l _ c _ g rfl hrd hc hcm).mono ?_; rintro e w' ⟨⟨k, rfl⟩, hX⟩; rw [HN.out] at hX; subst hX))
    go_ret2
    exact TextOut.no (textAt_none HN.out) HR.out k
  | some (v, n) =>
    have hv := (num1_le hN).2.2
    have hn1 := (num1_le hN).2.1
    have HN := Lib.hid hN
    clear hN
    by_cases h0 : 0 ≤ most
    · by_cases h1 : (v : Int) ≤ most
      · by_cases h2 : v ≤ l.length - n
        · go_enter Try.func17, Try.ntmps17
          go_wp2_with (go_at_call 21; go_must (refine (first_any A l _ c _ g rfl hrd hc hcm).mono ?_; rintro e w' ⟨⟨k, rfl⟩, hX⟩; rw [HN.out] at hX; obtain ⟨A1, c1, rfl, hc1, hm1, hrd1⟩ := hX; have hm2 : c1 ≤ 9223372036854775807 := hm1; have hconv := str_behind w k g A1 (l.drop n) v c1 hrd1 (by simp; omega); generalize hS : (⟨((l.drop n).take v).toArray⟩ : ByteArray) = S at hconv; have HS := Lib.hid hS; clear hS; have HR1 := Lib.hid (hrd1.cut (k := v) (cap := c1) (by simp; omega) (by simp; omega))))
          all_goals go_ret2
          all_goals rw [← HS.out]
          all_goals refine TextOut.yes (textAt_yes HN.out ⟨h0, h1, h2⟩) HR.out k _ _ _ rfl (by omega) (by show _ ≤ (9223372036854775807 : Nat); omega) ?_
          · have := HR1.out
            rw [List.drop_drop, if_pos h] at this
            exact this
          · have := HR1.out
            rw [List.drop_drop, if_neg h] at this
            exact this
        · go_enter Try.func17, Try.ntmps17
          go_wp2_with (go_at_call 21; go_must (refine (first_any A l _ c _ g rfl hrd hc hcm).mono ?_; rintro e w' ⟨⟨k, rfl⟩, hX⟩; rw [HN.out] at hX; obtain ⟨A1, c1, rfl, hc1, hm1, hrd1⟩ := hX))
          go_ret2
          exact TextOut.no (textAt_no HN.out (by omega)) HR.out k
      · go_enter Try.func17, Try.ntmps17
        go_wp2_with (go_at_call 21; go_must (refine (first_any A l _ c _ g rfl hrd hc hcm).mono ?_; rintro e w' ⟨⟨k, rfl⟩, hX⟩; rw [HN.out] at hX; obtain ⟨A1, c1, rfl, hc1, hm1, hrd1⟩ := hX))
        go_ret2
        exact TextOut.no (textAt_no HN.out (by omega)) HR.out k
    · go_enter Try.func17, Try.ntmps17
      go_wp2_with (go_at_call 21; go_must (refine (first_any A l _ c _ g rfl hrd hc hcm).mono ?_; rintro e w' ⟨⟨k, rfl⟩, hX⟩; rw [HN.out] at hX; obtain ⟨A1, c1, rfl, hc1, hm1, hrd1⟩ := hX))
      go_ret2
      exact TextOut.no (textAt_no HN.out (by omega)) HR.out k
end Go.Proofs.Ytnjghodjpbalcaa
