/- ZoneTells, walked. -/
import Derived.Test.YtonhmppobdbidaaA1
namespace Go.Proofs.Ytonhmppobdbidaa
open Go.RowKit Go.Shelf

theorem fits_zn {L : List (Nat × Nat)} (hu : U32 L) (h : fitsB L = true) : Zn L ∧ L.length ≤ 40 := by
  simp only [fitsB, Bool.and_eq_true, decide_eq_true_eq] at h
  exact ⟨⟨rzB_iff.1 h.2, hu.under⟩, h.1⟩

set_option maxRecDepth 100000 in
set_option maxHeartbeats 2000000 in
theorem zoneTells_walk {v : Value} (L : List (Nat × Nat)) (a : Nat) (w : World) (hu : U32 L) (hz : IsZ w v L) : Calls Try.prog 4 #[v, .int .u32 a] w fun e w' => e = .returned (.bool true) ∧ Below w.heap.size w w' := by
  have HZ := Lib.hid hz
  obtain ⟨A1, c1, rfl, n1, m1, z1⟩ := hz
  have H1 := Lib.hid z1
  clear z1
  by_cases h40 : L.length ≤ 40
  · go_enter Try.func4, Try.ntmps4
    go_wp2_with fail
    refine (right_any L w hu HZ.out).mono ?_
    rintro e w1 ⟨rfl, b1⟩
    go_wp2_with fail
    refine (rright_any L w1 hu (HZ.out.belows b1)).mono ?_
    rintro e w2 ⟨rfl, b2⟩
    have bb2 : Below w.heap.size w w2 := b1.trans (b2.mono b1.size)
    generalize hrb : rzB 0 L = rb
    go_wp2_with fail
    refine (fits_any L w2 hu (HZ.out.belows bb2)).mono ?_
    rintro e w3 ⟨rfl, b3⟩
    have bb3 : Below w.heap.size w w3 := bb2.trans (b3.mono bb2.size)
    cases hf : fitsB L with
    | false =>
      go_wp2_with (go_at_call 8; refine (alive_any _).mono ?_; rintro e w4 ⟨rfl, b4⟩)
      go_ret
      exact ⟨rfl, bb3.trans (b4.mono bb3.size)⟩
    | true =>
      obtain ⟨hzn, _⟩ := fits_zn hu hf
      go_wp2_with fail
      refine (least_any L w3 (HZ.out.belows bb3)).mono ?_
      rintro e w4 ⟨rfl, b4⟩
      have bb4 : Below w.heap.size w w4 := bb3.trans (b4.mono bb3.size)
      have tail : ∀ w5, Below w.heap.size w w5 → True := fun _ _ => trivial
      cases L with
      | nil =>
        rw [show (([] : List (Nat × Nat)).head?.getD (0, 0)).1 = 0 from rfl, show decide (0 < ([] : List (Nat × Nat)).length) = false from rfl]
        simp only [List.length_nil] at *
        go_wp2_with fail
        refine (alive_any w4).mono ?_
        rintro e w5 ⟨rfl, b5⟩
        have bb5 : Below w.heap.size w w5 := bb4.trans (b5.mono bb4.size)
        go_wp2_with fail
        refine (has_any [] a w5 hzn.1 hzn.2 (HZ.out.belows bb5)).mono ?_
        rintro e w6 ⟨rfl, b6⟩
        have bb6 : Below w.heap.size w w6 := bb5.trans (b6.mono bb5.size)
        go_wp2_with fail
        refine (rhas_any [] a w6 (HZ.out.belows bb6)).mono ?_
        rintro e w7 ⟨rfl, rfl⟩
        generalize has [] a = ha
        go_wp2_with fail
        refine (count_any [] w7 hzn.1 hzn.2 (HZ.out.belows bb6)).mono ?_
        rintro e w8 ⟨rfl, b8⟩
        have bb8 : Below w.heap.size w w8 := bb6.trans (b8.mono bb6.size)
        go_wp2_with fail
        refine (rcount_any [] w8 hzn.1 hzn.2 (HZ.out.belows bb8)).mono ?_
        rintro e w9 ⟨rfl, b9⟩
        generalize count [] = cn
        go_wp2
        go_ret
        exact ⟨rfl, bb8.trans (b9.mono bb8.size)⟩
      | cons r L =>
        obtain ⟨g1, o1, e1, hg1, r1⟩ := H1.out (by simp)
        subst e1
        have c0 := (bb4.cell (p := ⟨g1, o1 + 0 * 2, none⟩) hg1).trans (r1 0 (by simp)).1
        simp only [List.getElem_cons_zero, Nat.zero_mul, Nat.add_zero] at c0
        rw [show ((r :: L).head?.getD (0, 0)).1 = r.1 from rfl, show decide (0 < (r :: L).length) = true by simp]
        have d : (((r :: L).length : Int) == 0) = false := by rw [beq_eq_false_iff_ne]; simp only [List.length_cons]; omega
        have i1 : (0 : Int) < ((r :: L).length : Int) := by simp only [List.length_cons]; omega
        have HH := Lib.hid (fun (W : World) (hW : Below w.heap.size w W) => has_any (r :: L) a W hzn.1 hzn.2 (HZ.out.belows hW))
        have HH2 := Lib.hid (fun (W : World) (hW : Below w.heap.size w W) => rhas_any (r :: L) a W (HZ.out.belows hW))
        have HC := Lib.hid (fun (W : World) (hW : Below w.heap.size w W) => count_any (r :: L) W hzn.1 hzn.2 (HZ.out.belows hW))
        have HC2 := Lib.hid (fun (W : World) (hW : Below w.heap.size w W) => rcount_any (r :: L) W hzn.1 hzn.2 (HZ.out.belows hW))
        clear r1 H1 HZ hzn hu hf hrb tail
        generalize has (r :: L) a = ha at HH HH2
        generalize count (r :: L) = cn at HC HC2
        generalize hll : (r :: L).length = ll at *
        clear hll
        go_wp2_with fail
        refine (alive_any w4).mono ?_
        rintro e w5 ⟨rfl, b5⟩
        have bb5 : Below w.heap.size w w5 := bb4.trans (b5.mono bb4.size)
        go_wp2_with fail
        refine (HH.out w5 bb5).mono ?_
        rintro e w6 ⟨rfl, b6⟩
        have bb6 : Below w.heap.size w w6 := bb5.trans (b6.mono bb5.size)
        go_wp2_with fail
        refine (HH2.out w6 bb6).mono ?_
        rintro e w7 ⟨rfl, rfl⟩
        go_wp2_with fail
        refine (HC.out w7 bb6).mono ?_
        rintro e w8 ⟨rfl, b8⟩
        have bb8 : Below w.heap.size w w8 := bb6.trans (b8.mono bb6.size)
        go_wp2_with fail
        refine (HC2.out w8 bb8).mono ?_
        rintro e w9 ⟨rfl, b9⟩
        go_wp2
        go_ret
        exact ⟨rfl, bb8.trans (b9.mono bb8.size)⟩
  · go_enter Try.func4, Try.ntmps4
    go_wp2_with (go_at_call 8; refine (alive_any _).mono ?_; rintro e w1 ⟨rfl, b1⟩)
    go_ret
    exact ⟨rfl, b1⟩
end Go.Proofs.Ytonhmppobdbidaa
