/- ZoneBoth, walked. -/
import Derived.Test.YtonhmppobdbidaaL2
import Derived.Test.YtonhmppobdbidaaD4
namespace Go.Proofs.Ytonhmppobdbidaa
open Go.RowKit Go.Shelf

theorem docBoth_zn (f : Bool → Bool → Bool) (X Y : List (Nat × Nat)) : Zn (docBoth f X Y) ∧ ∀ a, a < 4294967296 → has (docBoth f X Y) a = f (has X a) (has Y a) := by
  obtain ⟨h1, h2, h3⟩ := doc_both (x := X) (y := Y) f
  exact ⟨⟨h1, h2⟩, h3⟩
/-- A zone by its addresses is the document's. -/
theorem same_doc {v1 v2 : Value} {f : Bool → Bool → Bool} {X Y L : List (Nat × Nat)} {w : World} (h1 : IsZ w v1 L) (hL : Zn L) (hh : ∀ a, a < 4294967296 → has L a = f (has X a) (has Y a)) (h2 : IsZ w v2 (docBoth f X Y)) : Calls Try.prog 11 #[v1, v2] w fun e w' => e = .returned (.bool true) ∧ Below w.heap.size w w' := by
  obtain ⟨d1, d2⟩ := docBoth_zn f X Y
  have e : L = docBoth f X Y := Zn.eq hL d1 fun a ha => by rw [hh a ha, d2 a ha]
  subst e
  exact same_any _ w h1 h2

set_option maxRecDepth 100000 in
set_option maxHeartbeats 4000000 in
theorem zoneBoth_walk {v1 v2 : Value} (X Y : List (Nat × Nat)) (w : World) (ux : U32 X) (uy : U32 Y) (zx : IsZ w v1 X) (zy : IsZ w v2 Y) : Calls Try.prog 5 #[v1, v2] w fun e w' => e = .returned (.bool true) ∧ Below w.heap.size w w' := by
  have HX := Lib.hid (fun (W : World) (hW : Below w.heap.size w W) => zx.belows hW)
  have HY := Lib.hid (fun (W : World) (hW : Below w.heap.size w W) => zy.belows hW)
  obtain ⟨A1, c1, rfl, n1, m1, z1⟩ := zx
  obtain ⟨A2, c2, rfl, n2, m2, z2⟩ := zy
  have H1 := Lib.hid z1
  have H2 := Lib.hid z2
  clear z1 z2
  go_enter Try.func5, Try.ntmps5
  go_wp2_with fail
  refine (fits_any X w ux (HX.out w (Below.refl _ _))).mono ?_
  rintro e w1 ⟨rfl, b1⟩
  go_wp2_with fail
  refine (fits_any Y w1 uy (HY.out w1 b1)).mono ?_
  rintro e w2 ⟨rfl, b2⟩
  have bb2 : Below w.heap.size w w2 := b1.trans (b2.mono b1.size)
  cases hp : fitsB X with
  | false =>
    generalize fitsB Y = fy
    go_wp2_with (go_at_call 8; refine (alive_any _).mono ?_; rintro e w4 ⟨rfl, b4⟩)
    go_ret
    exact ⟨rfl, bb2.trans (b4.mono bb2.size)⟩
  | true =>
    cases hq : fitsB Y with
    | false =>
      go_wp2_with (go_at_call 8; refine (alive_any _).mono ?_; rintro e w4 ⟨rfl, b4⟩)
      go_ret
      exact ⟨rfl, bb2.trans (b4.mono bb2.size)⟩
    | true =>
      obtain ⟨hX, lx⟩ := fits_zn ux hp
      obtain ⟨hY, ly⟩ := fits_zn uy hq
      have ba : Below w.heap.size w (w2.alloc (.cells #[] 33)) := bb2.alloc bb2.size _
      go_wp2_with (first | (at_builtin; refine wpList_app_z rfl _ _ rfl w2.heap.size _ [] rfl (Row.empty w2) _ _ X rfl (H1.out.belows ba) (H1.out.none) (by simp; omega) (by simp) ?_; intro g cap w3 hrow b3; simp only [List.length_nil, Nat.zero_add, List.nil_append] at hrow; have bb3 : Below w.heap.size w w3 := ba.trans (b3.mono bb2.size); have hr3 := hrow.isZ; have ba4 : Below w.heap.size w (w3.alloc (.cells #[] 33)) := bb3.alloc bb3.size _; clear hrow) | (at_builtin; refine wpList_app_z rfl _ _ rfl w3.heap.size _ [] rfl (Row.empty w3) _ _ Y rfl (H2.out.belows ba4) (H2.out.none) (by simp; omega) (by simp) ?_; intro g4 cap4 w4 hrow4 b4; simp only [List.length_nil, Nat.zero_add, List.nil_append] at hrow4; have bb4 : Below w.heap.size w w4 := ba4.trans (b4.mono bb3.size); have hr4 := hrow4.isZ; clear hrow4))
      have b34 : Below w3.heap.size w3 w4 := ((Below.refl _ w3).alloc (Nat.le_refl _) _).trans b4
      have HR3 := Lib.hid (hr3.belows b34)
      have HR4 := Lib.hid hr4
      clear hr3 hr4
      refine (and_any X Y w4 hX hY (HX.out w4 bb4) (HY.out w4 bb4)).mono ?_
      rintro e w5 ⟨v5, L5, rfl, z5, q5, h5, b5⟩
      have bb5 : Below w.heap.size w w5 := bb4.trans (b5.mono bb4.size)
      go_wp2_with fail
      refine (rand_any X Y w5 ux uy (by omega) (by omega) (HX.out w5 bb5) (HY.out w5 bb5)).mono ?_
      rintro e w6 ⟨v6, rfl, z6, b6⟩
      have bb6 : Below w.heap.size w w6 := bb5.trans (b6.mono bb5.size)
      go_wp2_with fail
      refine (same_doc (z5.belows b6) q5 h5 z6).mono ?_
      rintro e w7 ⟨rfl, b7⟩
      have bb7 : Below w.heap.size w w7 := bb6.trans (b7.mono bb6.size)
      clear z5 h5 z6
      go_wp2_with fail
      refine (or_any X Y w7 hX hY (HX.out w7 bb7) (HY.out w7 bb7)).mono ?_
      rintro e w8 ⟨v8, L8, rfl, z8, q8, h8, b8⟩
      have bb8 : Below w.heap.size w w8 := bb7.trans (b8.mono bb7.size)
      go_wp2_with fail
      refine (ror_any X Y w8 ux uy (by omega) (by omega) (HX.out w8 bb8) (HY.out w8 bb8)).mono ?_
      rintro e w9 ⟨v9, rfl, z9, b9⟩
      have bb9 : Below w.heap.size w w9 := bb8.trans (b9.mono bb8.size)
      go_wp2_with fail
      refine (same_doc (z8.belows b9) q8 h8 z9).mono ?_
      rintro e w10 ⟨rfl, b10⟩
      have bb10 : Below w.heap.size w w10 := bb9.trans (b10.mono bb9.size)
      clear z8 h8 z9
      go_wp2_with fail
      refine (minus_any X Y w10 hX hY (HX.out w10 bb10) (HY.out w10 bb10)).mono ?_
      rintro e w11 ⟨v11, L11, rfl, z11, q11, h11, b11⟩
      have bb11 : Below w.heap.size w w11 := bb10.trans (b11.mono bb10.size)
      go_wp2_with fail
      refine (rminus_any X Y w11 ux uy (by omega) (by omega) (HX.out w11 bb11) (HY.out w11 bb11)).mono ?_
      rintro e w12 ⟨v12, rfl, z12, b12⟩
      have bb12 : Below w.heap.size w w12 := bb11.trans (b12.mono bb11.size)
      go_wp2_with fail
      refine (same_doc (z11.belows b12) q11 h11 z12).mono ?_
      rintro e w13 ⟨rfl, b13⟩
      have bb13 : Below w.heap.size w w13 := bb12.trans (b13.mono bb12.size)
      clear z11 h11 z12
      go_wp2_with fail
      refine (alive_any w13).mono ?_
      rintro e w14 ⟨rfl, b14⟩
      have bb14 : Below w.heap.size w w14 := bb13.trans (b14.mono bb13.size)
      have b4e : Below w4.heap.size w4 w14 := b5.trans ((b6.trans ((b7.trans ((b8.trans ((b9.trans ((b10.trans ((b11.trans ((b12.trans ((b13.trans (b14.mono b13.size)).mono b12.size)).mono b11.size)).mono b10.size)).mono b9.size)).mono b8.size)).mono b7.size)).mono b6.size)).mono b5.size)
      go_wp2_with fail
      refine (same_any X w14 (HX.out w14 bb14) (HR3.out.belows b4e)).mono ?_
      rintro e w15 ⟨rfl, b15⟩
      have bb15 : Below w.heap.size w w15 := bb14.trans (b15.mono bb14.size)
      go_wp2_with fail
      refine (same_any Y w15 (HY.out w15 bb15) ((HR4.out.belows b4e).belows b15)).mono ?_
      rintro e w16 ⟨rfl, b16⟩
      go_wp2
      go_ret
      exact ⟨rfl, bb15.trans (b16.mono bb15.size)⟩
end Go.Proofs.Ytonhmppobdbidaa
