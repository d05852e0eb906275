/- TreeLasts, walked. -/
import Derived.Test.YtiknelhfdcmkjaaK1
namespace Go.Proofs.Ytiknelhfdcmkjaa
open Go.RowKit

set_option maxRecDepth 100000 in
set_option maxHeartbeats 8000000 in
theorem treeLasts_walk {v : Value} (S : List ActT) (w : World) (hs : IsS w v S) : Calls Try.prog 5 #[v] w fun e w' => e = .returned (.bool true) ∧ Below w.heap.size w w' := by
  obtain ⟨A, c, rfl, n1, m1, z1⟩ := hs
  simp only [maxLen] at m1
  have HS : Hid (∀ W, Below w.heap.size w W → Ss W A S) := Lib.hid fun W hW => z1.belows hW
  clear z1
  obtain ⟨i0, hi, hz0, hz1, hz2⟩ := info_parts info28
  have HINFO := Lib.hid (And.intro hi (And.intro hz0 (And.intro hz1 hz2)))
  clear hi hz0 hz1 hz2
  go_enter Try.func5, Try.ntmps5
  go_wp2_with fail
  refine (new_any w).mono ?_
  rintro e w1 ⟨v1, rfl, t1, b1⟩
  obtain ⟨B1, rfl⟩ := t1.ptr
  have hbs := b1.size
  have HG0 : Hid (Gath w w1.heap.size (.slice none 0 0) [] (w1.alloc (.cells #[.pointer (some ⟨B1, 0, none⟩), .slice none 0 0] 28))) := Lib.hid ⟨⟨[], hd_new t1⟩, b1.alloc b1.size _, World.ownsRow_nil _ _ _ _, fun e he => by simp at he⟩
  clear t1 b1
  go_upto_block 0 with (fail)
  go_cut [4, 5] (fun al _ wc => Hid (∃ E : List HeldT, E.length ≤ 60 ∧ Gath w w1.heap.size al E wc))
  case first =>
    go_wp2_with fail
    go_loopw [4, 5] (fun al i wr => ∃ (j : Nat) (E : List HeldT), i = .int .i64 j ∧ j ≤ S.length ∧ j ≤ 60 ∧ E.length = j ∧ Hid (Gath w w1.heap.size al E wr)) (fun _ i _ => 60 - (intOf i).toNat)
    case atStart => exact ⟨0, [], rfl, by omega, by omega, rfl, HG0⟩
    case round =>
      obtain ⟨j, E, rfl, hj, hj2, hE, HI⟩ := hrel
      clear HG0
      by_cases hlt : j < S.length ∧ j < 60
      · obtain ⟨hl, h60⟩ := hlt
        obtain ⟨g, o, eA, hg, hc⟩ := HS.out _ (Below.refl _ _) (by omega)
        subst eA
        obtain ⟨r0, r1, r2, r3⟩ := hc j hl
        clear hc
        generalize S[j] = a at r0 r1 r2 r3
        have HQ : Hid (∀ W, Below w.heap.size w W → W.cell? ⟨g, o + j * 4, none⟩ = some (.int .i64 a.1) ∧ W.cell? ⟨g, o + j * 4 + 1, none⟩ = some (.int .i64 a.2.1) ∧ W.cell? ⟨g, o + j * 4 + 2, none⟩ = some (.int .u64 a.2.2.1) ∧ W.cell? ⟨g, o + j * 4 + 3, none⟩ = some (.bool a.2.2.2)) := Lib.hid fun W hW => ⟨(hW.cell (p := ⟨g, _, none⟩) hg).trans r0, (hW.cell (p := ⟨g, _, none⟩) hg).trans r1, (hW.cell (p := ⟨g, _, none⟩) hg).trans r2, (hW.cell (p := ⟨g, _, none⟩) hg).trans r3⟩
        clear r0 r1 r2 r3
        have i1 : (j : Int) < (S.length : Int) := by omega
        obtain ⟨L, B, A2, n2, c2, hA2, ht2, hp2⟩ := HI.out.1
        obtain rfl := hp2.len
        have hup := Lib.hid ht2.any.up
        have HP : Hid (∀ W, Below wr.heap.size wr W → Ps W A2 L) := Lib.hid fun W hW => by
          obtain ⟨A', c', e, _, _, z⟩ := hp2.belows hW
          injection e with e1 e2 e3
          subst e1
          exact z
        have HT : Hid (∀ W, Below wr.heap.size wr W → IsTree1 W (.pointer (some ⟨B, 0, none⟩)) L) := Lib.hid fun W hW => ht2.belows hW
        have KS : Hid (∀ W, Below wr.heap.size wr W → W.cell? ⟨w1.heap.size, 0, none⟩ = some (.pointer (some ⟨B, 0, none⟩)) ∧ W.cell? ⟨w1.heap.size, 1, none⟩ = some (.slice A2 L.length c2)) := Lib.hid fun W hW => ⟨((hA2.belows hW).cell 0).trans rfl, ((hA2.belows hW).cell 1).trans rfl⟩
        have HA : Hid (∀ W, Below wr.heap.size wr W → At W w1.heap.size #[.pointer (some ⟨B, 0, none⟩), .slice A2 L.length c2] 28) := Lib.hid fun W hW => hA2.belows hW
        have hlen := hup.out.2
        have hBs := hA2.lt
        clear ht2 hp2 hA2 hg
        have hb0 := Below.refl wr.heap.size wr
        obtain ⟨q0, q1⟩ := KS.out wr hb0
        go_wp2_with fail
        go_region_held3 (fun W => W.cell? ⟨w1.heap.size, 0, none⟩ = some (.pointer (some ⟨B, 0, none⟩)) ∧ W.cell? ⟨w1.heap.size, 1, none⟩ = some (.slice A2 L.length c2)) (first | exact ks5 | exact KS.out _ (bb3.alloc bb3.size _) | exact KS.out _ bb3 | exact KS.out _ (hb0.alloc (Nat.le_refl _) _).drew | exact KS.out _ (hb0.drew.alloc (Nat.le_refl _) _) | exact KS.out _ (hb0.alloc (Nat.le_refl _) _) | exact KS.out _ hb0.drew | exact KS.out _ hb0) (first
          | (refine step_copy rfl (.tmp 27) (.tmp 31) rfl wr.heap.size (.slice (some ⟨wr.heap.size, 0, none⟩) 0 0) (by simp [Act.eval, Act.put]) (by exact Row.empty wr) A2 c2 L (by simp [Act.eval, Act.put]) (HP.out _ (by first | exact (hb0.alloc (Nat.le_refl _) _).drew | exact hb0.drew.alloc (Nat.le_refl _) _ | exact hb0.alloc (Nat.le_refl _) _)) (by omega) (by simp) ?_; intro g3 cap3 w3 r3 b3; have bb3 : Below wr.heap.size wr w3 := (by first | exact (hb0.alloc (Nat.le_refl _) _).drew.trans b3 | exact (hb0.drew.alloc (Nat.le_refl _) _).trans b3 | exact (hb0.alloc (Nat.le_refl _) _).trans b3); clear b3)
          | (refine step_append_own rfl (.tmp 22) (.tmp 34) 49 rfl (w1.heap.size + 1) 28 i0 (.agg #[.pointer none, .slice none 0 0]) 2 32 Try.underlying49 HINFO.out.1 HINFO.out.2.1 HINFO.out.2.2.1 HINFO.out.2.2.2 rfl (by decide) u4 E.length (hcells E) (by simp [Act.eval, Act.put]) (HI.out.belows (by exact bb3.alloc bb3.size _)).2.2.1 ⟨w3.heap.size, 0, none⟩ 1 1 [.pointer (some ⟨B, 0, none⟩), .slice (some ⟨g3, 0, none⟩) L.length cap3] (by simp [Act.eval, Act.put]) rfl (World.news_of_block (cs := #[.pointer (some ⟨B, 0, none⟩), .slice (some ⟨g3, 0, none⟩) L.length cap3]) (t := 28) (fr := (0, 0)) (heap_alloc_new w3 _)) (by simp [Value.oneCell']) (by simp only [maxLen]; omega) (by omega) (by have := bb3.size; simp; omega) ?_; intro v5 w5 h5 g5; have a5 := (HA.out _ (bb3.alloc bb3.size _)).row (HI.out.belows (bb3.alloc bb3.size _)).2.2.1 (Nat.lt_succ_self _) g5; have ks5 : w5.cell? ⟨w1.heap.size, 0, none⟩ = some (.pointer (some ⟨B, 0, none⟩)) ∧ w5.cell? ⟨w1.heap.size, 1, none⟩ = some (.slice A2 L.length c2) := ⟨(a5.cell 0).trans rfl, (a5.cell 1).trans rfl⟩; have HG5 := Lib.hid ((HI.out.belows (bb3.alloc bb3.size _)).more hbs ⟨L, HT.out _ (bb3.alloc bb3.size _), r3.isP.belows ((Below.refl _ w3).alloc (Nat.le_refl _) _)⟩ g5 h5); clear h5 g5 a5))
        rename_i hHeld
        clear hHeld q0 q1 ks5 bb3 r3 hb0 KS HT HP HA HI
        obtain ⟨p0, p1, p2, p3⟩ := HQ.out _ HG5.out.2.1
        obtain ⟨L5, hd5⟩ := HG5.out.1
        go_wp2_with fail
        refine (do_any w1.heap.size a.1 a.2.1 a.2.2.1 a.2.2.2 L5 w5 hd5).mono ?_
        rintro e w6 hdid
        have HG6 := Lib.hid (HG5.out.done hbs hdid)
        obtain ⟨rfl, _⟩ := hdid
        clear p0 p1 p2 p3 HQ hd5 HG5
        go_wp2
        go_roundw
        case rel => exact ⟨j + 1, _, by go_num, by omega, by omega, by simp [hE], HG6⟩
        case measure => simp [intOf]; omega
      · have hways : (decide ((j : Int) < (S.length : Int)) = true ∧ decide (j < S.length) = true ∧ decide ((j : Int) < 60) = false) ∨ (decide ((j : Int) < (S.length : Int)) = false ∧ decide (j < S.length) = false ∧ decide ((j : Int) < 60) = decide ((j : Int) < 60)) := by
          by_cases hl : j < S.length
          · left; have : ¬ j < 60 := fun e => hlt ⟨hl, e⟩; simp; omega
          · right; simp; omega
        clear hlt
        rcases hways with ⟨dl, dl', d60⟩ | ⟨dl, dl', d60⟩
        all_goals (
          go_wp2_with fail
          go_meet
          exact Lib.hid ⟨E, by omega, HI.out⟩)
  case rest =>
    obtain ⟨E, hE, hG⟩ := hcut.out
    have HG := Lib.hid hG
    clear hcut HG0
    obtain ⟨_, hb, hr, hk⟩ := hG
    have HB := Lib.hid hb
    have HK : Hid (∀ W, Below wc.heap.size wc W → ∀ e ∈ E, Kept W e) := Lib.hid fun W hW e he => (hk e he).belows hW
    clear hb hk
    have HR := Lib.hid hr
    rcases hr.2 with ⟨rfl, h0⟩ | ⟨g, cap, cur, rfl, hbg, hgc, hcap, hmx, _⟩
    · clear hr
      go_wp2_with fail
      go_loopw [7] (fun i wr => i = .int .i64 0 ∧ Hid (Below wc.heap.size wc wr)) (fun _ _ => 0)
      case atStart => exact ⟨rfl, Lib.hid (Below.refl _ _)⟩
      case round =>
        obtain ⟨rfl, HW⟩ := hrel
        go_wp2_with (go_at_call 14; refine (alive_any _).mono ?_; rintro e w2 ⟨rfl, b2⟩)
        go_ret
        exact ⟨rfl, HB.out.trans ((HW.out.trans (b2.mono HW.out.size)).mono HB.out.size)⟩
    · have hgl : g < wc.heap.size := (Array.getElem?_eq_some_iff.1 hgc).1
      have KS : Hid (∀ W, Below wc.heap.size wc W → ∀ (k : Nat) (hk : k < E.length), W.cell? ⟨g, k * 2, none⟩ = some (.pointer (some ⟨E[k].1, 0, none⟩)) ∧ W.cell? ⟨g, k * 2 + 1, none⟩ = some (.slice E[k].2.1 E[k].2.2.1 E[k].2.2.2)) := Lib.hid fun W hW k hk => by
        obtain ⟨h1, h2⟩ := hcells_at E k hk
        have e1 := World.ownsRow.cells HR.out (g := g) rfl _ _ h1
        have e2 := World.ownsRow.cells HR.out (g := g) rfl _ _ h2
        rw [add_none] at e1 e2
        exact ⟨(hW.cell (p := ⟨g, _, none⟩) hgl).trans e1, (hW.cell (p := ⟨g, _, none⟩) hgl).trans e2⟩
      clear hr hgc hbg
      go_wp2_with fail
      go_loopw [7] (fun i wr => ∃ j : Nat, i = .int .i64 j ∧ j ≤ E.length ∧ Hid (Below wc.heap.size wc wr)) (fun i _ => E.length - (intOf i).toNat)
      case atStart => exact ⟨0, rfl, by omega, Lib.hid (Below.refl _ _)⟩
      case round =>
        obtain ⟨j, rfl, hj, HW⟩ := hrel
        by_cases hl : j < E.length
        · obtain ⟨L, ht, hp⟩ := HK.out _ HW.out E[j] (List.getElem_mem hl)
          obtain ⟨q0, q1⟩ := KS.out _ HW.out j hl
          have KJ : Hid (∀ W, Below wr.heap.size wr W → W.cell? ⟨g, j * 2, none⟩ = some (.pointer (some ⟨E[j].1, 0, none⟩)) ∧ W.cell? ⟨g, j * 2 + 1, none⟩ = some (.slice E[j].2.1 E[j].2.2.1 E[j].2.2.2)) := Lib.hid fun W hW => KS.out W (HW.out.trans (hW.mono HW.out.size)) j hl
          generalize E[j] = x at ht hp q0 q1 KJ
          obtain ⟨xb, xa, xn, xc⟩ := x
          dsimp only at ht hp q0 q1 KJ
          have HT : Hid (∀ W, Below wr.heap.size wr W → IsTree W (.pointer (some ⟨xb, 0, none⟩)) L ∧ IsP W (.slice xa xn xc) L) := Lib.hid fun W hW => ⟨(ht.belows hW).any, hp.belows hW⟩
          clear ht hp
          have i1 : (j : Int) < (E.length : Int) := by omega
          have hb1 := Below.refl wr.heap.size wr
          go_wp2_with fail
          go_region_held3 (fun W => W.cell? ⟨g, j * 2, none⟩ = some (.pointer (some ⟨xb, 0, none⟩)) ∧ W.cell? ⟨g, j * 2 + 1, none⟩ = some (.slice xa xn xc)) (first | exact KJ.out _ bb3 | exact KJ.out _ hb1.drew | exact KJ.out _ hb1) (first
            | (go_at_call 11; refine (same_any L _ (HT.out _ (by first | exact hb1.drew | exact hb1)).1 (HT.out _ (by first | exact hb1.drew | exact hb1)).2).mono ?_; rintro e w3 ⟨rfl, b3⟩; have bb3 : Below wr.heap.size wr w3 := (by first | exact hb1.drew.trans (b3.mono hb1.size))))
          rename_i hHeld
          have HW3 := Lib.hid (HW.out.trans (bb3.mono HW.out.size))
          clear hHeld q0 q1 hb1 b3 bb3 KJ HT
          go_wp2
          go_roundw
          case rel => exact ⟨j + 1, by go_num, by omega, HW3⟩
          case measure => simp [intOf]; omega
        · have dl : decide (j < E.length) = false := by simpa using hl
          have dl' : decide ((j : Int) < (E.length : Int)) = false := by simp; omega
          go_wp2_with (go_at_call 14; refine (alive_any _).mono ?_; rintro e w2 ⟨rfl, b2⟩)
          go_ret
          exact ⟨rfl, HB.out.trans ((HW.out.trans (b2.mono HW.out.size)).mono HB.out.size)⟩
end Go.Proofs.Ytiknelhfdcmkjaa
