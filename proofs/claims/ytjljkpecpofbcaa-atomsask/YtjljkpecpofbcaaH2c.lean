/- Contract: an act, way c. -/
import Derived.Test.YtjljkpecpofbcaaH1
namespace Go.Proofs.Ytjljkpecpofbcaa
open Go.RowKit Go.Shelf

set_option maxRecDepth 100000 in
set_option maxHeartbeats 4000000 in
theorem do_drop_ok (Bh : Nat) (f t : Nat) (L : List (Nat × Nat)) (w : World) (h : Hd w Bh L) (ea : Int) (hadd : (∀ (v : Value) (W : World), IsTab0 W v L → Calls Try.prog 24 #[v, .agg #[.int .u32 f, .int .u32 t]] W (ToutE W (L ++ [(f, t)]) ea)) ∧ (∀ (v : Value) (W : World), IsZ W v L → Calls Try.prog 26 #[v, .agg #[.int .u32 f, .int .u32 t]] W (LoutE W (L ++ [(f, t)]) ea))) (hdrop : (∀ (v : Value) (W : World), IsTab0 W v L → Calls Try.prog 25 #[v, .agg #[.int .u32 f, .int .u32 t]] W (ToutE W (actL L true (f, t)) 0)) ∧ (∀ (v : Value) (W : World), IsZ W v L → Calls Try.prog 27 #[v, .agg #[.int .u32 f, .int .u32 t]] W (LoutE W (actL L true (f, t)) 0))) : Calls Try.prog 10 #[.pointer (some ⟨Bh, 0, none⟩), .agg #[.bool true, .int .u32 f, .int .u32 t]] w (Did w Bh (actL L true (f, t))) := by
  have HADD := Lib.hid hadd
  have HDROP := Lib.hid hdrop
  clear hadd hdrop
  have b0 : Below w.heap.size w (w.alloc (.cells #[.bool true, .int .u32 f, .int .u32 t] 34)) := (Below.refl _ w).alloc (Nat.le_refl _) _
  have HG := Lib.hid (World.grownBy_alloc w (.cells #[.bool true, .int .u32 f, .int .u32 t] 34) (some Bh))
  have hX := At.new w #[.bool true, .int .u32 f, .int .u32 t] 34
  obtain ⟨B, A, n, c, hA, ht, hz, hy⟩ := h.belows b0
  clear h b0
  go_enter Try.func10, Try.ntmps10
  go_wp2_with fail
  obtain ⟨W0, hW0⟩ : ∃ W0, w.alloc (.cells #[.bool true, .int .u32 f, .int .u32 t] 34) = W0 := ⟨_, rfl⟩
  rw [hW0] at HG hX hA ht hz hy ⊢
  have HT : Hid (∀ W, Below W0.heap.size W0 W → IsTab W (.pointer (some ⟨B, 0, none⟩)) L) := Lib.hid fun W hW => ht.belows hW
  have HP : Hid (∀ W, Below W0.heap.size W0 W → IsZ W (.slice A n c) L ∧ Ty W (.slice A n c)) := Lib.hid fun W hW => ⟨hz.belows hW, hy.belows hW⟩
  have HA : Hid (∀ W, Below W0.heap.size W0 W → At W Bh #[.pointer (some ⟨B, 0, none⟩), .slice A n c] 28) := Lib.hid fun W hW => hA.belows hW
  have HX : Hid (∀ W, Below W0.heap.size W0 W → At W w.heap.size #[.bool true, .int .u32 f, .int .u32 t] 34) := Lib.hid fun W hW => hX.belows hW
  have KS0 : Hid (∀ W, Below W0.heap.size W0 W → W.cell? ⟨Bh, 0, none⟩ = some (.pointer (some ⟨B, 0, none⟩)) ∧ W.cell? ⟨w.heap.size, 1, none⟩ = some (.int .u32 f) ∧ W.cell? ⟨w.heap.size, 2, none⟩ = some (.int .u32 t)) := Lib.hid fun W hW => ⟨((hA.belows hW).cell 0).trans rfl, ((hX.belows hW).cell 1).trans rfl, ((hX.belows hW).cell 2).trans rfl⟩
  have KS1 : Hid (∀ W, Below W0.heap.size W0 W → W.cell? ⟨Bh, 1, none⟩ = some (.slice A n c) ∧ W.cell? ⟨w.heap.size, 1, none⟩ = some (.int .u32 f) ∧ W.cell? ⟨w.heap.size, 2, none⟩ = some (.int .u32 t)) := Lib.hid fun W hW => ⟨((hA.belows hW).cell 1).trans rfl, ((hX.belows hW).cell 1).trans rfl, ((hX.belows hW).cell 2).trans rfl⟩
  have C24 : Hid (∀ W, Below W0.heap.size W0 W → Calls Try.prog 24 #[.pointer (some ⟨B, 0, none⟩), .agg #[.int .u32 f, .int .u32 t]] W (ToutE W (L ++ [(f, t)]) ea)) := Lib.hid fun W hW => HADD.out.1 _ W (HT.out W hW).any
  have C26 : Hid (∀ W, Below W0.heap.size W0 W → Calls Try.prog 26 #[.slice A n c, .agg #[.int .u32 f, .int .u32 t]] W (LoutE W (L ++ [(f, t)]) ea)) := Lib.hid fun W hW => HADD.out.2 _ W (HP.out W hW).1
  have C25 : Hid (∀ W, Below W0.heap.size W0 W → Calls Try.prog 25 #[.pointer (some ⟨B, 0, none⟩), .agg #[.int .u32 f, .int .u32 t]] W (ToutE W (actL L true (f, t)) 0)) := Lib.hid fun W hW => HDROP.out.1 _ W (HT.out W hW).any
  have C27 : Hid (∀ W, Below W0.heap.size W0 W → Calls Try.prog 27 #[.slice A n c, .agg #[.int .u32 f, .int .u32 t]] W (LoutE W (actL L true (f, t)) 0)) := Lib.hid fun W hW => HDROP.out.2 _ W (HP.out W hW).1
  clear ht hz hy hA hX hW0
  have bb0 := Below.refl W0.heap.size W0
  obtain ⟨q0, q1, q2⟩ := KS0.out _ bb0
  go_wp2_with fail
  go_region_held3 (fun W => W.cell? ⟨Bh, 0, none⟩ = some (.pointer (some ⟨B, 0, none⟩)) ∧ W.cell? ⟨w.heap.size, 1, none⟩ = some (.int .u32 f) ∧ W.cell? ⟨w.heap.size, 2, none⟩ = some (.int .u32 t)) (first | exact KS0.out _ bb1 | exact KS0.out _ bb0.drew | exact KS0.out _ bb0) (first
    | (go_at_call 24; refine (C24.out _ (by first | exact bb0.drew | exact bb0)).mono ?_; rintro e w1 ⟨p1, rfl, t1, z1, b1⟩; have bb1 : Below W0.heap.size W0 w1 := (by first | exact bb0.drew.trans (b1.mono bb0.drew.size) | exact bb0.trans (b1.mono bb0.size))))
  rename_i hHeld
  clear hHeld q0 q1 q2
  obtain ⟨q0, q1, q2⟩ := KS1.out _ bb1
  go_wp2_with fail
  go_region_held3 (fun W => W.cell? ⟨Bh, 1, none⟩ = some (.slice A n c) ∧ W.cell? ⟨w.heap.size, 1, none⟩ = some (.int .u32 f) ∧ W.cell? ⟨w.heap.size, 2, none⟩ = some (.int .u32 t)) (first | exact KS1.out _ bb2 | exact KS1.out _ bb1.drew | exact KS1.out _ bb1) (first
    | (go_at_call 26; refine (C26.out _ (by first | exact bb1.drew | exact bb1)).mono ?_; rintro e w2 ⟨A2, n2, c2, rfl, t2, b2⟩; have bb2 : Below W0.heap.size W0 w2 := (by first | exact bb1.drew.trans (b2.mono bb1.drew.size) | exact bb1.trans (b2.mono bb1.size))))
  rename_i hHeld
  clear hHeld q0 q1 q2
  have x0 := ((HX.out _ bb2).cell 0).trans rfl
  obtain ⟨q0, q1, q2⟩ := KS0.out _ bb2
  go_wp2_with fail
  go_region_held3 (fun W => W.cell? ⟨Bh, 0, none⟩ = some (.pointer (some ⟨B, 0, none⟩)) ∧ W.cell? ⟨w.heap.size, 1, none⟩ = some (.int .u32 f) ∧ W.cell? ⟨w.heap.size, 2, none⟩ = some (.int .u32 t)) (first | exact KS0.out _ bb3 | exact KS0.out _ bb2.drew | exact KS0.out _ bb2) (first
    | (go_at_call 25; refine (C25.out _ (by first | exact bb2.drew | exact bb2)).mono ?_; rintro e w3 ⟨p3, rfl, t3, z3, b3⟩; have bb3 : Below W0.heap.size W0 w3 := (by first | exact bb2.drew.trans (b3.mono bb2.drew.size) | exact bb2.trans (b3.mono bb2.size))))
  rename_i hHeld
  clear hHeld q0 q1 q2
  obtain ⟨q0, q1, q2⟩ := KS1.out _ bb3
  go_wp2_with fail
  go_region_held3 (fun W => W.cell? ⟨Bh, 1, none⟩ = some (.slice A n c) ∧ W.cell? ⟨w.heap.size, 1, none⟩ = some (.int .u32 f) ∧ W.cell? ⟨w.heap.size, 2, none⟩ = some (.int .u32 t)) (first | exact KS1.out _ bb4 | exact KS1.out _ bb3.drew | exact KS1.out _ bb3) (first
    | (go_at_call 27; refine (C27.out _ (by first | exact bb3.drew | exact bb3)).mono ?_; rintro e w4 ⟨A4, n4, c4, rfl, t4, b4⟩; have bb4 : Below W0.heap.size W0 w4 := (by first | exact bb3.drew.trans (b4.mono bb3.drew.size) | exact bb3.trans (b4.mono bb3.size))))
  rename_i hHeld
  clear hHeld q0 q1 q2
  have HTAB := Lib.hid (t3 (by trivial))
  have HLST := Lib.hid (t4 (by trivial))
  obtain ⟨Bn, eB⟩ := HTAB.out.ptr
  injection eB with eB
  subst eB
  clear t1 z1 t2 t3 z3 t4
  have b12 : Below w3.heap.size w3 w4 := (by first | exact b4 | exact ((Below.refl _ w3).drew).trans b4)
  obtain ⟨Q1, Q2⟩ := hd_stored (HA.out _ bb4) (HTAB.out.belows b12) HLST.out.1 HLST.out.2
  have HQ := Lib.hid (And.intro Q1 Q2)
  have d0 := ((HA.out _ bb4).cell 0).trans rfl
  have d1 := ((HA.out _ bb4).cell 1).trans rfl
  have f0 := (HA.out _ bb4).frozen 0
  have f1 := (HA.out _ bb4).frozen 1
  have HB := Lib.hid bb4
  clear Q1 Q2 b12 bb0 bb1 bb2 b1 b2 bb3 bb4 b3 b4
  go_wp2
  go_ret
  exact ⟨rfl, HQ.out.1, World.grownBy.trans HG.out (World.grownBy.trans ((grown_none HB.out).but _) HQ.out.2)⟩
end Go.Proofs.Ytjljkpecpofbcaa
