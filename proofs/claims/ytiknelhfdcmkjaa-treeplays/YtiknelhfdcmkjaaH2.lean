/- Contract: an act of a script. -/
import Derived.Test.YtiknelhfdcmkjaaH1
namespace Go.Proofs.Ytiknelhfdcmkjaa
open Go.RowKit

abbrev actV (kd V K : Int) (lo : Bool) : Value := .agg #[.int .i64 kd, .int .i64 V, .int .u64 K, .bool lo]
theorem Did.from {w W W' : World} {Bh : Nat} {e : Ending} (hg : w.grownBy W (some Bh)) (h : Did W Bh e W') : Did w Bh e W' := by
  obtain ⟨he, L', h1, h2⟩ := h
  exact ⟨he, L', h1, World.grownBy.trans hg h2⟩
/-- What the act's walk begins with. -/
theorem act_start {w : World} {Bh : Nat} {L : List (Int × Int)} (h : Hd w Bh L) (o : Obj) : Hd (w.alloc o) Bh L ∧ w.grownBy (w.alloc o) (some Bh) := ⟨h.belows ((Below.refl _ w).alloc (Nat.le_refl _) _), World.grownBy_alloc _ _ _⟩
set_option maxRecDepth 100000 in
set_option maxHeartbeats 2000000 in
theorem do_put (Bh : Nat) (V K : Int) (lo : Bool) (L : List (Int × Int)) (w : World) (h : Hd w Bh L) : Calls Try.prog 10 #[.pointer (some ⟨Bh, 0, none⟩), actV 1 V K lo] w (Did w Bh) := by
  obtain ⟨h0, g0⟩ := act_start h (.cells #[.int .i64 1, .int .i64 V, .int .u64 K, .bool lo] 32)
  have HG := Lib.hid g0
  clear g0
  go_enter Try.func10, Try.ntmps10
  go_wp2_with (go_at_call 27; refine (hput_any Bh K V L _ h0).mono ?_; rintro e w1 ⟨rfl, L', h1, g1⟩)
  go_ret
  exact ⟨rfl, L', h1, World.grownBy.trans HG.out g1⟩
set_option maxRecDepth 100000 in
set_option maxHeartbeats 2000000 in
theorem do_other (Bh : Nat) (kd V K : Int) (lo : Bool) (L : List (Int × Int)) (w : World) (h : Hd w Bh L) (h1 : kd ≠ 1) (h2 : kd ≠ 2) (h3 : kd ≠ 3) (h4 : kd ≠ 4) : Calls Try.prog 10 #[.pointer (some ⟨Bh, 0, none⟩), actV kd V K lo] w (Did w Bh) := by
  obtain ⟨h0, g0⟩ := act_start h (.cells #[.int .i64 kd, .int .i64 V, .int .u64 K, .bool lo] 32)
  have HG := Lib.hid g0
  have H0 := Lib.hid h0
  clear g0 h0 h
  have d1 : (kd == 1) = false := by simpa using h1
  have d2 : (kd == 2) = false := by simpa using h2
  have d3 : (kd == 3) = false := by simpa using h3
  have d4 : (kd == 4) = false := by simpa using h4
  clear h1 h2 h3 h4
  go_enter Try.func10, Try.ntmps10
  go_wp2
  go_ret
  exact ⟨rfl, L, H0.out, HG.out⟩
set_option maxRecDepth 100000 in
set_option maxHeartbeats 2000000 in
theorem do_drop (Bh : Nat) (V K : Int) (lo : Bool) (L : List (Int × Int)) (w : World) (h : Hd w Bh L) : Calls Try.prog 10 #[.pointer (some ⟨Bh, 0, none⟩), actV 2 V K lo] w (Did w Bh) := by
  obtain ⟨h0, g0⟩ := act_start h (.cells #[.int .i64 2, .int .i64 V, .int .u64 K, .bool lo] 32)
  have HG := Lib.hid g0
  have hX := At.new w #[.int .i64 2, .int .i64 V, .int .u64 K, .bool lo] 32
  clear g0 h
  have x0 := (hX.cell 0).trans rfl
  obtain ⟨B, A, n, c, hA, ht, hp⟩ := h0
  have hu := Lib.hid ht.any.up
  by_cases hg : getL L K = none
  · have HN := Lib.hid hg
    clear hg
    go_enter Try.func10, Try.ntmps10
    go_wp2_with fail
    obtain ⟨W0, hW0⟩ : ∃ W0, w.alloc (.cells #[.int .i64 2, .int .i64 V, .int .u64 K, .bool lo] 32) = W0 := ⟨_, rfl⟩
    rw [hW0] at HG hX x0 hA ht hp ⊢
    have HT : Hid (∀ W, Below W0.heap.size W0 W → IsTree1 W (.pointer (some ⟨B, 0, none⟩)) L) := Lib.hid fun W hW => ht.belows hW
    have HP : Hid (∀ W, Below W0.heap.size W0 W → IsP W (.slice A n c) L) := Lib.hid fun W hW => hp.belows hW
    have HA : Hid (∀ W, Below W0.heap.size W0 W → At W Bh #[.pointer (some ⟨B, 0, none⟩), .slice A n c] 28) := Lib.hid fun W hW => hA.belows hW
    have KS : Hid (∀ W, Below W0.heap.size W0 W → W.cell? ⟨Bh, 0, none⟩ = some (.pointer (some ⟨B, 0, none⟩)) ∧ W.cell? ⟨w.heap.size, 2, none⟩ = some (.int .u64 K)) := Lib.hid fun W hW => ⟨((hA.belows hW).cell 0).trans rfl, ((hX.belows hW).cell 2).trans rfl⟩
    have KS2 : Hid (∀ W, Below W0.heap.size W0 W → W.cell? ⟨Bh, 1, none⟩ = some (.slice A n c) ∧ W.cell? ⟨w.heap.size, 2, none⟩ = some (.int .u64 K)) := Lib.hid fun W hW => ⟨((hA.belows hW).cell 1).trans rfl, ((hX.belows hW).cell 2).trans rfl⟩
    clear ht hp hA hX hW0 x0
    have hb1 := Below.refl W0.heap.size W0
    obtain ⟨q1, q2⟩ := KS.out W0 hb1
    go_region_held3 (fun W => W.cell? ⟨Bh, 0, none⟩ = some (.pointer (some ⟨B, 0, none⟩)) ∧ W.cell? ⟨w.heap.size, 2, none⟩ = some (.int .u64 K)) (first | exact KS.out _ bb1 | exact KS.out _ hb1.drew | exact KS.out _ hb1) (first
      | (go_at_call 23; refine (drop_no L K _ (HT.out _ (by first | exact hb1.drew | exact hb1)).any HN.out).mono ?_; rintro e w1 ⟨rfl, b1⟩; have bb1 : Below W0.heap.size W0 w1 := (by first | exact hb1.drew.trans (b1.mono hb1.size))))
    rename_i hHeld
    clear hHeld q1 q2
    obtain ⟨q1, q2⟩ := KS2.out _ bb1
    go_wp2_with fail
    go_region_held3 (fun W => W.cell? ⟨Bh, 1, none⟩ = some (.slice A n c) ∧ W.cell? ⟨w.heap.size, 2, none⟩ = some (.int .u64 K)) (first | exact KS2.out _ bb2 | exact KS2.out _ bb1.drew | exact KS2.out _ bb1) (first
      | (go_at_call 28; refine (rdrop_no L K _ hu.out.1 (HP.out _ (by first | exact bb1.drew | exact bb1)) HN.out).mono ?_; rintro e w2 ⟨rfl, b2⟩; have bb2 : Below W0.heap.size W0 w2 := (by first | exact bb1.drew.trans (b2.mono bb1.drew.size))))
    rename_i hHeld
    clear hHeld q1 q2
    go_wp2
    go_ret
    exact ⟨rfl, L, ⟨B, A, n, c, HA.out _ bb2, HT.out _ bb2, HP.out _ bb2⟩, World.grownBy.trans HG.out ((grown_none bb2).but _)⟩
  · have HN := Lib.hid hg
    clear hg
    go_enter Try.func10, Try.ntmps10
    go_wp2_with fail
    obtain ⟨W0, hW0⟩ : ∃ W0, w.alloc (.cells #[.int .i64 2, .int .i64 V, .int .u64 K, .bool lo] 32) = W0 := ⟨_, rfl⟩
    rw [hW0] at HG hX x0 hA ht hp ⊢
    have HT : Hid (∀ W, Below W0.heap.size W0 W → IsTree1 W (.pointer (some ⟨B, 0, none⟩)) L) := Lib.hid fun W hW => ht.belows hW
    have HP : Hid (∀ W, Below W0.heap.size W0 W → IsP W (.slice A n c) L) := Lib.hid fun W hW => hp.belows hW
    have HA : Hid (∀ W, Below W0.heap.size W0 W → At W Bh #[.pointer (some ⟨B, 0, none⟩), .slice A n c] 28) := Lib.hid fun W hW => hA.belows hW
    have KS : Hid (∀ W, Below W0.heap.size W0 W → W.cell? ⟨Bh, 0, none⟩ = some (.pointer (some ⟨B, 0, none⟩)) ∧ W.cell? ⟨w.heap.size, 2, none⟩ = some (.int .u64 K)) := Lib.hid fun W hW => ⟨((hA.belows hW).cell 0).trans rfl, ((hX.belows hW).cell 2).trans rfl⟩
    have KS2 : Hid (∀ W, Below W0.heap.size W0 W → W.cell? ⟨Bh, 1, none⟩ = some (.slice A n c) ∧ W.cell? ⟨w.heap.size, 2, none⟩ = some (.int .u64 K)) := Lib.hid fun W hW => ⟨((hA.belows hW).cell 1).trans rfl, ((hX.belows hW).cell 2).trans rfl⟩
    clear ht hp hA hX hW0 x0
    have hb1 := Below.refl W0.heap.size W0
    obtain ⟨q1, q2⟩ := KS.out W0 hb1
    go_region_held3 (fun W => W.cell? ⟨Bh, 0, none⟩ = some (.pointer (some ⟨B, 0, none⟩)) ∧ W.cell? ⟨w.heap.size, 2, none⟩ = some (.int .u64 K)) (first | exact KS.out _ bb1 | exact KS.out _ hb1.drew | exact KS.out _ hb1) (first
      | (go_at_call 23; refine (drop_ok L K _ (HT.out _ (by first | exact hb1.drew | exact hb1)).any HN.out).mono ?_; rintro e w1 ⟨v1, rfl, t1, b1⟩; obtain ⟨B1, rfl⟩ := t1.ptr; have bb1 : Below W0.heap.size W0 w1 := (by first | exact hb1.drew.trans (b1.mono hb1.size))))
    rename_i hHeld
    clear hHeld q1 q2
    obtain ⟨q1, q2⟩ := KS2.out _ bb1
    go_wp2_with fail
    go_region_held3 (fun W => W.cell? ⟨Bh, 1, none⟩ = some (.slice A n c) ∧ W.cell? ⟨w.heap.size, 2, none⟩ = some (.int .u64 K)) (first | exact KS2.out _ bb2 | exact KS2.out _ bb1.drew | exact KS2.out _ bb1) (first
      | (go_at_call 28; refine (rdrop_ok L K _ hu.out.1 (HP.out _ (by first | exact bb1.drew | exact bb1)) hu.out.2 HN.out).mono ?_; rintro e w2 ⟨v2, rfl, ⟨A2, c2, rfl, p2⟩, b2⟩; have bb2 : Below W0.heap.size W0 w2 := (by first | exact bb1.drew.trans (b2.mono bb1.drew.size)); have b12 : Below w1.heap.size w1 w2 := (by first | exact ((Below.refl _ w1).drew).trans b2)))
    rename_i hHeld
    clear hHeld q1 q2
    have P2 : IsP w2 (.slice A2 (dropL L K).length c2) (dropL L K) := ⟨A2, c2, rfl, p2⟩
    have hA2 := HA.out _ bb2
    obtain ⟨q1, q2⟩ := hd_stored hA2 (t1.belows b12) P2
    have HQ := Lib.hid (And.intro q1 q2)
    have HB := Lib.hid bb2
    have d0 := (hA2.cell 0).trans rfl
    have d1 := (hA2.cell 1).trans rfl
    have f0 := hA2.frozen 0
    have f1 := hA2.frozen 1
    clear q1 q2 P2 p2 t1 b1 b2 bb2 b12 bb1
    go_wp2
    go_ret
    exact ⟨rfl, _, HQ.out.1, World.grownBy.trans HG.out (World.grownBy.trans ((grown_none HB.out).but _) HQ.out.2)⟩
end Go.Proofs.Ytiknelhfdcmkjaa
