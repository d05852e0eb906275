/- Contract: an act that puts many keys; any act. -/
import Derived.Test.YtiknelhfdcmkjaaH3
namespace Go.Proofs.Ytiknelhfdcmkjaa
open Go.RowKit

set_option maxRecDepth 100000 in
set_option maxHeartbeats 2000000 in
theorem do_many (Bh : Nat) (V K : Int) (lo : Bool) (L : List (Int × Int)) (w : World) (h : Hd w Bh L) : Calls Try.prog 10 #[.pointer (some ⟨Bh, 0, none⟩), actV 4 V K lo] w (Did w Bh) := by
  obtain ⟨h0, g0⟩ := act_start h (.cells #[.int .i64 4, .int .i64 V, .int .u64 K, .bool lo] 32)
  have HG := Lib.hid g0
  have hX := At.new w #[.int .i64 4, .int .i64 V, .int .u64 K, .bool lo] 32
  clear g0 h
  have x0 := (hX.cell 0).trans rfl
  obtain ⟨B, A, n, c, hA, _, _⟩ := id h0
  go_enter Try.func10, Try.ntmps10
  go_wp2_with fail
  obtain ⟨W0, hW0⟩ : ∃ W0, w.alloc (.cells #[.int .i64 4, .int .i64 V, .int .u64 K, .bool lo] 32) = W0 := ⟨_, rfl⟩
  rw [hW0] at HG hX x0 hA h0 ⊢
  have HX : Hid (∀ W, W0.grownBy W (some Bh) → W.cell? ⟨w.heap.size, 1, none⟩ = some (.int .i64 V) ∧ W.cell? ⟨w.heap.size, 2, none⟩ = some (.int .u64 K)) := Lib.hid fun W hW => ⟨((hX.held hA (by decide) hW).cell 1).trans rfl, ((hX.held hA (by decide) hW).cell 2).trans rfl⟩
  have H0 := Lib.hid h0
  clear hA hX x0 hW0 h0
  go_loopw [12] (fun i wr => ∃ j : Nat, i = .int .i64 j ∧ j ≤ 30 ∧ Hid (∃ L', Hd wr Bh L' ∧ W0.grownBy wr (some Bh))) (fun i _ => 30 - (intOf i).toNat)
  case atStart => exact ⟨0, rfl, by omega, Lib.hid ⟨L, H0.out, World.grownBy.refl _ _⟩⟩
  case round =>
    obtain ⟨j, rfl, hj, HI⟩ := hrel
    obtain ⟨L', hd, hg⟩ := HI.out
    obtain ⟨q1, q2⟩ := HX.out _ hg
    have HH := Lib.hid hg
    clear hg HI
    by_cases hlt : (j : Int) < V ∧ j < 30
    · obtain ⟨hv, h30⟩ := hlt
      go_wp2_with (go_at_call 27; refine (hput_any Bh _ _ L' _ hd).mono ?_; rintro e w1 ⟨rfl, L2, h1, g1⟩)
      go_roundw
      case rel => exact ⟨j + 1, by go_num, by omega, Lib.hid ⟨L2, h1, World.grownBy.trans HH.out g1⟩⟩
      case measure => simp [intOf]; omega
    · by_cases hv : (j : Int) < V
      · have h30 : ¬ j < 30 := fun e => hlt ⟨hv, e⟩
        have d30 : decide ((j : Int) < 30) = false := by simp; omega
        clear hlt
        go_wp2
        go_ret
        exact ⟨rfl, L', hd, World.grownBy.trans HG.out HH.out⟩
      · have dv : decide ((j : Int) < V) = false := by simpa using hv
        clear hlt
        go_wp2
        go_ret
        exact ⟨rfl, L', hd, World.grownBy.trans HG.out HH.out⟩
/-- Any act. -/
theorem do_any (Bh : Nat) (kd V K : Int) (lo : Bool) (L : List (Int × Int)) (w : World) (h : Hd w Bh L) : Calls Try.prog 10 #[.pointer (some ⟨Bh, 0, none⟩), actV kd V K lo] w (Did w Bh) := by
  by_cases h1 : kd = 1
  · subst h1; exact do_put Bh V K lo L w h
  by_cases h2 : kd = 2
  · subst h2; exact do_drop Bh V K lo L w h
  by_cases h3 : kd = 3
  · subst h3
    cases lo with
    | true =>
      by_cases hp : posL L K = L.length
      · exact do_split_el Bh V K L w h hp
      · exact do_split_nl Bh V K L w h hp
    | false =>
      by_cases hp : posL L K = L.length
      · exact do_split_eh Bh V K L w h hp
      · exact do_split_nh Bh V K L w h hp
  by_cases h4 : kd = 4
  · subst h4; exact do_many Bh V K lo L w h
  exact do_other Bh kd V K lo L w h h1 h2 h3 h4
end Go.Proofs.Ytiknelhfdcmkjaa
