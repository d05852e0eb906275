/- TreeSplit, walked. -/
import Derived.Test.YtiknelhfdcmkjaaL1
namespace Go.Proofs.Ytiknelhfdcmkjaa
open Go.RowKit

theorem put_end {A : List (Int × Int)} {x : Int × Int} (h : Up (A ++ [x])) : putL A x.1 x.2 = A ++ [x] := by
  obtain ⟨_, _, h1, _⟩ := Up.node (B := []) h
  unfold putL
  rw [show lowL A x.1 = A from filter_all fun p hp => by have := h1 p hp; simp; omega, show gtL A x.1 = [] from filter_no fun p hp => by have := h1 p hp; simp; omega]
theorem Up.take {L : List (Int × Int)} (h : Up L) (n : Nat) : Up (L.take n) := List.Pairwise.sublist (List.take_sublist n L) h
/-- The next pair, put behind those that are there. -/
theorem put_take {L : List (Int × Int)} (h : Up L) (n : Nat) (hn : n < L.length) : putL (L.take n) (L[n]).1 (L[n]).2 = L.take (n + 1) := by
  have e := List.take_append_getElem hn
  rw [← e]
  exact put_end (by rw [e]; exact h.take _)
theorem high_get {L : List (Int × Int)} {k : Int} (h : Up L) (j : Nat) (hj : j < (highL L k).length) : ∃ hn : posL L k + j < L.length, (highL L k)[j] = L[posL L k + j] ∧ k ≤ ((highL L k)[j]).1 := by
  have hl : posL L k + (highL L k).length = L.length := by
    have := congrArg List.length (low_high (k := k) h)
    rw [List.length_append] at this
    exact this
  refine ⟨by omega, ?_, ?_⟩
  · have e := pos_drop (k := k) h
    have : (highL L k)[j]? = L[posL L k + j]? := by rw [← e, List.getElem?_drop]
    rw [List.getElem?_eq_getElem hj, List.getElem?_eq_getElem (by omega)] at this
    exact Option.some.inj this
  · have := (List.mem_filter.1 (List.getElem_mem hj)).2
    simpa using this
theorem low_lt {L : List (Int × Int)} {k : Int} (j : Nat) (hj : j < (lowL L k).length) : ((lowL L k)[j]).1 < k := by
  have := (List.mem_filter.1 (List.getElem_mem hj)).2
  simpa using this
set_option maxRecDepth 100000 in
set_option maxHeartbeats 8000000 in
theorem treeSplit_walk {v : Value} (S : List ActT) (k : Int) (w : World) (hs : IsS w v S) : Calls Try.prog 7 #[v, .int .u64 k] w fun e w' => e = .returned (.bool true) ∧ Below w.heap.size w w' := by
  obtain ⟨A, c, rfl, n1, m1, z1⟩ := hs
  simp only [maxLen] at m1
  have HS : Hid (∀ W, Below w.heap.size w W → Ss W A S) := Lib.hid fun W hW => z1.belows hW
  clear z1
  go_enter Try.func7, Try.ntmps7
  go_wp2_with fail
  refine (new_any w).mono ?_
  rintro e w1 ⟨v1, rfl, t1, b1⟩
  obtain ⟨B1, rfl⟩ := t1.ptr
  have HD0 := Lib.hid (hd_new t1)
  have HB0 := Lib.hid (b1.alloc b1.size (.cells #[.pointer (some ⟨B1, 0, none⟩), .slice none 0 0] 28))
  have hbs := b1.size
  clear t1 b1
  go_wp2_with fail
  go_loopw [6] (fun i wr => ∃ j : Nat, i = .int .i64 j ∧ j ≤ S.length ∧ j ≤ 120 ∧ Hid (∃ L, Hd wr w1.heap.size L ∧ Below w.heap.size w wr)) (fun i _ => 120 - (intOf i).toNat)
  case atStart => exact ⟨0, rfl, by omega, by omega, Lib.hid ⟨[], HD0.out, HB0.out⟩⟩
  case round =>
    obtain ⟨j, rfl, hj, hj2, HI⟩ := hrel
    obtain ⟨L, hd, hb⟩ := HI.out
    have HB := Lib.hid hb
    clear HI HD0 HB0
    by_cases hlt : j < S.length ∧ j < 120
    · obtain ⟨hl, h120⟩ := hlt
      obtain ⟨g, o, eA, hg, hc⟩ := HS.out _ HB.out (by omega)
      subst eA
      obtain ⟨q0, q1, q2, q3⟩ := hc j hl
      clear hc hg hb
      generalize S[j] = a at q0 q1 q2 q3
      have i1 : (j : Int) < (S.length : Int) := by omega
      go_wp2_with fail
      refine (do_any w1.heap.size a.1 a.2.1 a.2.2.1 a.2.2.2 L wr hd).mono ?_
      rintro e w2 ⟨rfl, L2, h2, g2⟩
      have HB2 := Lib.hid (below_grown HB.out g2 hbs)
      have HH2 := Lib.hid h2
      clear q0 q1 q2 q3 hd g2 HB h2
      go_wp2
      go_roundw
      case rel => exact ⟨j + 1, by go_num, by omega, by omega, Lib.hid ⟨L2, HH2.out, HB2.out⟩⟩
      case measure => simp [intOf]; omega
    · have hways : (decide ((j : Int) < (S.length : Int)) = true ∧ decide (j < S.length) = true ∧ decide ((j : Int) < 120) = false) ∨ (decide ((j : Int) < (S.length : Int)) = false ∧ decide (j < S.length) = false ∧ decide ((j : Int) < 120) = decide ((j : Int) < 120)) := by
        by_cases hl : j < S.length
        · left; have : ¬ j < 120 := fun e => hlt ⟨hl, e⟩; simp; omega
        · right; simp; omega
      clear hlt hb
      obtain ⟨B2, A2, n2, c2, hA2, ht2, hp2⟩ := hd
      obtain rfl := hp2.len
      have hup := Lib.hid ht2.any.up
      have HT := Lib.hid ht2
      obtain ⟨w2, ew⟩ : ∃ w2, wr = w2 := ⟨_, rfl⟩
      rw [ew] at HB hA2 HT hp2 ⊢
      clear ew ht2
      have HP : Hid (∀ W, Below w2.heap.size w2 W → IsP W (.slice A2 L.length c2) L) := Lib.hid fun W hW => hp2.belows hW
      have HC1 : Hid (∀ W, Below w2.heap.size w2 W → W.cell? ⟨w1.heap.size, 1, none⟩ = some (.slice A2 L.length c2)) := Lib.hid fun W hW => ((hA2.belows hW).cell 1).trans rfl
      have q0 := (hA2.cell 0).trans rfl
      clear hp2 hA2
      have HPL := Lib.hid (show posL L k + (highL L k).length = L.length by
        have := congrArg List.length (low_high (k := k) hup.out.1)
        rw [List.length_append] at this
        exact this)
      rcases hways with ⟨dl, dl', d120⟩ | ⟨dl, dl', d120⟩
      all_goals (
        go_wp2_with fail
        refine (split_any L k w2 HT.out.any).mono ?_
        rintro e w3 ⟨va, vb, rfl, ta, tb, b3⟩
        obtain ⟨Ba, rfl⟩ := ta.ptr
        obtain ⟨Bb, rfl⟩ := tb.ptr
        clear q0 dl dl' d120
        go_wp2_with fail
        refine (pairs_any (lowL L k) w3 ta.any).mono ?_
        rintro e w4 ⟨vp, rfl, ⟨Ap, cp, rfl, np, mp, zp⟩, b4⟩
        go_wp2_with fail
        refine (pairs_any (highL L k) w4 (tb.belows b4).any).mono ?_
        rintro e w5 ⟨vq, rfl, ⟨Aq, cq, rfl, nq, mq, zq⟩, b5⟩
        have b45 := b4.trans (b5.mono b4.size)
        have HTA := Lib.hid (ta.belows b45)
        have HTB := Lib.hid (tb.belows b45)
        have HZP : Hid (∀ W, Below w5.heap.size w5 W → Ps W Ap (lowL L k)) := Lib.hid fun W hW => (zp.belows b5).belows hW
        have HZQ : Hid (∀ W, Below w5.heap.size w5 W → Ps W Aq (highL L k)) := Lib.hid fun W hW => zq.belows hW
        have HB5 := Lib.hid (b3.trans (b45.mono b3.size))
        clear ta tb zp zq b3 b4 b5 b45
        have hlen := hup.out.2
        have hpl := HPL.out
        have HLOW := Lib.hid (show (lowL L k).length = posL L k from rfl)
        have hlow : (lowL L k).length ≤ 1024 := by rw [HLOW.out]; omega
        go_wp2_with fail
        go_loopw [11] (fun i wr => ∃ j : Nat, i = .int .i64 j ∧ j ≤ (lowL L k).length ∧ Hid (Below w5.heap.size w5 wr)) (fun i _ => (lowL L k).length - (intOf i).toNat)
        case atStart => exact ⟨0, rfl, by omega, Lib.hid (Below.refl _ _)⟩
        case round =>
          obtain ⟨i, rfl, hi, HW⟩ := hrel
          by_cases hl : i < (lowL L k).length
          · obtain ⟨g, o, eA, _, hc⟩ := HZP.out _ HW.out (by omega)
            subst eA
            obtain ⟨q1, q2⟩ := hc i hl
            have hk := low_lt i hl
            clear hc q2
            generalize (lowL L k)[i] = x at q1 hk
            have i1 : (i : Int) < ((lowL L k).length : Int) := by omega
            have dk : decide (k ≤ x.1) = false := by simp; omega
            go_wp2
            go_roundw
            case rel => exact ⟨i + 1, by go_num, by omega, HW⟩
            case measure => simp [intOf]; omega
          · have dli : decide (i < (lowL L k).length) = false := by simpa using hl
            have dli' : decide ((i : Int) < ((lowL L k).length : Int)) = false := by simp; omega
            obtain ⟨w6, ew⟩ : ∃ w6, wr = w6 := ⟨_, rfl⟩
            rw [ew] at HW ⊢
            clear ew
            go_wp2_with fail
            clear dli dli'
            have hlo : (lowL L k) = L.take (posL L k) := (pos_take hup.out.1).symm
            go_loopw [7, 12] (fun t i wr => ∃ (j B : Nat), t = .pointer (some ⟨B, 0, none⟩) ∧ i = .int .i64 j ∧ j ≤ (highL L k).length ∧ Hid (IsTree1 wr (.pointer (some ⟨B, 0, none⟩)) (L.take (posL L k + j)) ∧ Below w5.heap.size w5 wr)) (fun _ i _ => (highL L k).length - (intOf i).toNat)
            case atStart => exact ⟨0, Ba, rfl, rfl, by omega, Lib.hid ⟨by have := HTA.out.belows HW.out; rw [hlo] at this; exact this, HW.out⟩⟩
            case round =>
              obtain ⟨m, B, rfl, rfl, hm, HX⟩ := hrel
              clear hlo
              by_cases hlm : m < (highL L k).length
              · obtain ⟨g, o, eA, _, hc⟩ := HZQ.out _ HX.out.2 (by omega)
                subst eA
                obtain ⟨hn, e1, hk⟩ := high_get hup.out.1 m hlm
                have HPT := Lib.hid (put_take hup.out.1 _ hn)
                rw [← e1] at HPT
                obtain ⟨q1, q2⟩ := hc m hlm
                clear hc e1
                generalize (highL L k)[m] = x at q1 q2 hk HPT
                have i1 : (m : Int) < ((highL L k).length : Int) := by omega
                have dk : decide (x.1 < k) = false := by simp; omega
                have HXT : Hid (∀ W, Below wr.heap.size wr W → IsTree1 W (.pointer (some ⟨B, 0, none⟩)) (L.take (posL L k + m))) := Lib.hid fun W hW => HX.out.1.belows hW
                have HXB := Lib.hid HX.out.2
                have KS : Hid (∀ W, Below wr.heap.size wr W → W.cell? ⟨g, o + m * 2, none⟩ = some (.int .u64 x.1) ∧ W.cell? ⟨g, o + m * 2 + 1, none⟩ = some (.int .i64 x.2)) := Lib.hid fun W hW => by
                  have hg : g < wr.heap.size := World.block_lt_of_cell? wr _ q1
                  exact ⟨(hW.cell (p := ⟨g, _, none⟩) hg).trans q1, (hW.cell (p := ⟨g, _, none⟩) hg).trans q2⟩
                have hr := Lib.hid (show getL (L.take (posL L k + m)) x.1 ≠ none ∨ (L.take (posL L k + m)).length < 1024 from .inr (by rw [List.length_take]; omega))
                clear HX
                have hb1 := Below.refl wr.heap.size wr
                go_wp2_with fail
                go_region_held3 (fun W => W.cell? ⟨g, o + m * 2, none⟩ = some (.int .u64 x.1) ∧ W.cell? ⟨g, o + m * 2 + 1, none⟩ = some (.int .i64 x.2)) (first | exact KS.out _ bb7 | exact KS.out _ hb1.drew | exact KS.out _ hb1) (first
                  | (go_at_call 22; refine (put_ok (L.take (posL L k + m)) x.1 x.2 _ (HXT.out _ (by first | exact hb1.drew | exact hb1)).any hr.out).mono ?_; rintro e w7 ⟨v7, rfl, t7, b7⟩; obtain ⟨B7, rfl⟩ := t7.ptr; have bb7 : Below wr.heap.size wr w7 := (by first | exact hb1.drew.trans (b7.mono hb1.size))))
                rename_i hHeld
                have HX7 : Hid (IsTree1 w7 (.pointer (some ⟨B7, 0, none⟩)) (L.take (posL L k + (m + 1))) ∧ Below w5.heap.size w5 w7) := Lib.hid ⟨by rw [HPT.out] at t7; exact t7, HXB.out.trans (bb7.mono HXB.out.size)⟩
                clear hHeld q1 q2 hb1 t7 b7 bb7
                go_wp2
                go_roundw
                case rel => exact ⟨m + 1, B7, rfl, by go_num, by omega, HX7⟩
                case measure => simp [intOf]; omega
              · have dli : decide (m < (highL L k).length) = false := by simpa using hlm
                have dli' : decide ((m : Int) < ((highL L k).length : Int)) = false := by simp; omega
                obtain rfl : m = (highL L k).length := by omega
                have HT8 := Lib.hid (show IsTree1 wr (.pointer (some ⟨B, 0, none⟩)) L by have := HX.out.1; rw [hpl, List.take_length] at this; exact this)
                have bb := HB5.out.trans (HX.out.2.mono HB5.out.size)
                have c8 := HC1.out _ bb
                go_wp2_with fail
                refine (same_any L wr HT8.out.any (HP.out _ bb)).mono ?_
                rintro e w8 ⟨rfl, b8⟩
                have bb8 := bb.trans (b8.mono bb.size)
                clear c8
                go_wp2_with fail
                refine (alive_any w8).mono ?_
                rintro e w9 ⟨rfl, b9⟩
                have bb9 := bb8.trans (b9.mono bb8.size)
                have c9 := HC1.out _ bb9
                have tb9 := ((HTB.out.belows HX.out.2).belows b8).belows b9
                clear b8 b9 bb8 bb
                go_wp2_with fail
                refine (height_any _ w9 tb9.any).mono ?_
                rintro e w10 ⟨h, rfl, e1, e2, rfl⟩
                clear e2
                go_wp2_with fail
                refine (rhigh_any (highL L k).length w9 (by omega)).mono ?_
                rintro e w10 ⟨rfl, rfl⟩
                have e3 : decide (h ≤ highN (highL L k).length) = true := decide_eq_true e1
                have e4 : decide ((h : Int) ≤ (highN (highL L k).length : Int)) = true := decide_eq_true (by omega)
                have e5 : (((lowL L k).length : Int) + ((highL L k).length : Int) == (L.length : Int)) = true := by rw [HLOW.out]; simp; omega
                generalize highN (highL L k).length = hi at e1 e3 e4 ⊢
                go_wp2
                go_ret
                exact ⟨rfl, HB.out.trans (bb9.mono HB.out.size)⟩)
end Go.Proofs.Ytiknelhfdcmkjaa
