/- ZoneOf, walked. -/
import Derived.Test.YtonhmppobdbidaaA1
import Derived.Test.YtonhmppobdbidaaD4
namespace Go.Proofs.Ytonhmppobdbidaa
open Go.RowKit Go.Shelf

set_option maxRecDepth 100000 in
set_option maxHeartbeats 2000000 in
theorem zoneOf_walk {v : Value} (L : List (Nat × Nat)) (w : World) (hu : U32 L) (hz : IsZ w v L) : Calls Try.prog 3 #[v] w fun e w' => e = .returned (.bool true) ∧ Below w.heap.size w w' := by
  have HZ := Lib.hid hz
  obtain ⟨A1, c1, rfl, n1, m1, z1⟩ := hz
  have H1 := Lib.hid z1
  clear z1
  obtain ⟨er, T, hof, hrof⟩ : ∃ (er : Int) (T : List (Nat × Nat)), (∀ W, Below w.heap.size w W → L.length ≤ 40 → Calls Try.prog 9 #[.slice A1 L.length c1] W fun e w' => ∃ v', e = .returned (.tuple #[v', .int .i64 er]) ∧ IsZ w' v' T ∧ Below W.heap.size W w') ∧
      (∀ W, Below w.heap.size w W → L.length ≤ 40 → Calls Try.prog 10 #[.slice A1 L.length c1] W fun e w' => ∃ v', e = .returned (.tuple #[v', .int .i64 er]) ∧ IsZ w' v' T ∧ Below W.heap.size W w') :=
    ⟨_, _, fun W hW h40 => of_any L W hu (by omega) (HZ.out.belows hW), fun W hW h40 => rof_any L W hu (by omega) (HZ.out.belows hW)⟩
  have HOF := Lib.hid hof
  have HROF := Lib.hid hrof
  clear hof hrof
  by_cases h40 : L.length ≤ 40
  · have ba : Below w.heap.size w (w.alloc (.cells #[] 33)) := (Below.refl _ w).alloc (Nat.le_refl _) _
    go_enter Try.func3, Try.ntmps3
    go_wp2_with (at_builtin; refine wpList_app_z rfl _ _ rfl w.heap.size _ [] rfl (Row.empty w) _ _ L rfl (H1.out.belows ba) (H1.out.none) (by simp; omega) (by simp) ?_; intro g cap w1 hrow b1; simp only [List.length_nil, Nat.zero_add, List.nil_append] at hrow; have bb1 := ba.trans b1)
    have HR := Lib.hid hrow.isZ
    clear hrow
    refine (HOF.out w1 bb1 h40).mono ?_
    rintro e w2 ⟨v2, rfl, hz2, b2⟩
    have bb2 : Below w.heap.size w w2 := bb1.trans (b2.mono bb1.size)
    go_wp2_with fail
    refine (HROF.out w2 bb2 h40).mono ?_
    rintro e w3 ⟨v3, rfl, hz3, b3⟩
    have bb3 : Below w.heap.size w w3 := bb2.trans (b3.mono bb2.size)
    have HZ2 := Lib.hid (hz2.belows b3)
    have HZ3 := Lib.hid hz3
    clear hz2 hz3
    go_wp2_with fail
    refine (alive_any w3).mono ?_
    rintro e w4 ⟨rfl, b4⟩
    go_wp2_with fail
    refine (same_any T w4 (HZ2.out.belows b4) (HZ3.out.belows b4)).mono ?_
    rintro e w5 ⟨rfl, b5⟩
    have bb4 : Below w.heap.size w w4 := bb3.trans (b4.mono bb3.size)
    have bb5 : Below w.heap.size w w5 := bb4.trans (b5.mono bb4.size)
    have b15 : Below w1.heap.size w1 w5 := b2.trans ((b3.trans ((b4.trans (b5.mono b4.size)).mono b3.size)).mono b2.size)
    go_wp2_with fail
    refine (same_any L w5 (HZ.out.belows bb5) (HR.out.belows b15)).mono ?_
    rintro e w6 ⟨rfl, b6⟩
    go_wp2
    go_ret
    exact ⟨rfl, bb5.trans (b6.mono bb5.size)⟩
  · go_enter Try.func3, Try.ntmps3
    go_wp2_with (go_at_call 8; refine (alive_any _).mono ?_; rintro e w1 ⟨rfl, b1⟩)
    go_ret
    exact ⟨rfl, b1⟩
end Go.Proofs.Ytonhmppobdbidaa
