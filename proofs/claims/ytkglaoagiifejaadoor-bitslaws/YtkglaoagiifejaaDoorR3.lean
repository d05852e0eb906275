/- Contracts: the document's Both. -/
import Derived.Test.YtkglaoagiifejaaDoorR2
namespace Go.Proofs.YtkglaoagiifejaaDoor
open Go.RowKit Go.Shelf

theorem bl_succ (p : Nat → Bool) (k : Nat) : bl p (k + 1) = bl p k ++ [.bool (p k)] := by simp [bl, List.range_succ]
set_option maxRecDepth 100000 in
set_option maxHeartbeats 2000000 in
/-- The document's Both, 1. -/
theorem rand_any {v v' : Value} (n : Nat) (p q : Nat → Bool) (w : World) (hn : n ≤ 1024) (h : IsV w v (bl p n)) (h' : IsV w v' (bl q n)) : Calls Tryd.prog 19 #[v, v', .int .i64 1] w fun e w' => ∃ v', e = .returned v' ∧ IsV w' v' (bl (fun i => p i && q i) n) ∧ Below w.heap.size w w' := by
  obtain ⟨A, c, rfl, h1, h2, h3⟩ := h
  obtain ⟨A', c', rfl, h1', h2', h3'⟩ := h'
  rw [bl_len] at h1 h1' ⊢
  rw [bl_len]
  simp only [maxLen] at h2 h2'
  obtain ⟨i0, hi, hz0, hz1, hz2⟩ := info_parts info4
  have H3 := Lib.hid h3
  have H3' := Lib.hid h3'
  clear h3 h3'
  go_enter Tryd.func19, Tryd.ntmps19
  go_wp2
  go_loopw [7, 8] (fun l i wr => ∃ k : Nat, i = .int .i64 (k : Nat) ∧ k ≤ n ∧ Hid (wr.ownsRow w.heap.size 4 1 l k (bl (fun i => p i && q i) k)) ∧ Below w.heap.size w wr) (fun _ i _ => n - (intOf i).toNat)
  case atStart => exact ⟨0, rfl, by omega, Lib.hid (World.ownsRow_nil _ _ _ _), Below.refl _ _⟩
  case round =>
    obtain ⟨k, rfl, hk, HR, hb⟩ := hrel
    by_cases hlt : k < n
    · obtain ⟨g, o, rfl, hg, hc⟩ := H3.out (by rw [bl_len]; omega)
      obtain ⟨g', o', rfl, hg', hc'⟩ := H3'.out (by rw [bl_len]; omega)
      have hcell := (hb.cell (p := ⟨g, o + k, none⟩) hg).trans (hc k (by rw [bl_len]; omega))
      rw [bl_get] at hcell
      have hcell' := (hb.cell (p := ⟨g', o' + k, none⟩) hg').trans (hc' k (by rw [bl_len]; omega))
      rw [bl_get] at hcell'
      have hrow := HR.out
      clear hc hc' HR
      have i1 : (0 : Int) ≤ (k : Int) := by omega
      have i2 : (k : Int) < (n : Int) := by omega
      match hpk : p k, hqk : q k with
      | true, true =>
        rw [hpk] at hcell
        rw [hqk] at hcell'
        have HL : Hid (bl (fun i => p i && q i) (k + 1) = bl (fun i => p i && q i) k ++ [.bool true]) := Lib.hid (by rw [bl_succ, hpk, hqk]; rfl)
        clear hpk hqk
        go_wp2_with (at_builtin; refine wpList_append_own _ rfl (.tmp 15) (.tmp 63) 29 rfl w.heap.size 4 i0 (.bool false) 1 1 Tryd.underlying29 hi hz0 hz1 hz2 rfl (by decide) _ _ _ rfl (hrow.alloc _) ⟨wr.heap.size, 0, none⟩ 1 1 [.bool true] rfl rfl (cell_one_new _ _ _) (by simp [Value.oneCell']) (by simp only [maxLen]; omega) (by omega) (by have := hb.size; simp; omega) ?_; intro v' w4 hown' hgrow _)
        have b4 : Below w.heap.size w w4 := (hb.alloc hb.size _).grown hgrow (by have := hb.size; simp; omega) (fun k hk => (hrow.lt k hk).1)
        clear hgrow
        go_wp2
        go_roundw
        case rel =>
          refine ⟨k + 1, by go_num, by omega, Lib.hid ?_, b4⟩
          rw [HL.out]
          exact hown'
        case measure => simp [intOf]; omega
      | true, false =>
        rw [hpk] at hcell
        rw [hqk] at hcell'
        have HL : Hid (bl (fun i => p i && q i) (k + 1) = bl (fun i => p i && q i) k ++ [.bool false]) := Lib.hid (by rw [bl_succ, hpk, hqk]; rfl)
        clear hpk hqk
        go_wp2_with (at_builtin; refine wpList_append_own _ rfl (.tmp 15) (.tmp 63) 29 rfl w.heap.size 4 i0 (.bool false) 1 1 Tryd.underlying29 hi hz0 hz1 hz2 rfl (by decide) _ _ _ rfl (hrow.alloc _) ⟨wr.heap.size, 0, none⟩ 1 1 [.bool false] rfl rfl (cell_one_new _ _ _) (by simp [Value.oneCell']) (by simp only [maxLen]; omega) (by omega) (by have := hb.size; simp; omega) ?_; intro v' w4 hown' hgrow _)
        have b4 : Below w.heap.size w w4 := (hb.alloc hb.size _).grown hgrow (by have := hb.size; simp; omega) (fun k hk => (hrow.lt k hk).1)
        clear hgrow
        go_wp2
        go_roundw
        case rel =>
          refine ⟨k + 1, by go_num, by omega, Lib.hid ?_, b4⟩
          rw [HL.out]
          exact hown'
        case measure => simp [intOf]; omega
      | false, true =>
        rw [hpk] at hcell
        rw [hqk] at hcell'
        have HL : Hid (bl (fun i => p i && q i) (k + 1) = bl (fun i => p i && q i) k ++ [.bool false]) := Lib.hid (by rw [bl_succ, hpk, hqk]; rfl)
        clear hpk hqk
        go_wp2_with (at_builtin; refine wpList_append_own _ rfl (.tmp 15) (.tmp 63) 29 rfl w.heap.size 4 i0 (.bool false) 1 1 Tryd.underlying29 hi hz0 hz1 hz2 rfl (by decide) _ _ _ rfl (hrow.alloc _) ⟨wr.heap.size, 0, none⟩ 1 1 [.bool false] rfl rfl (cell_one_new _ _ _) (by simp [Value.oneCell']) (by simp only [maxLen]; omega) (by omega) (by have := hb.size; simp; omega) ?_; intro v' w4 hown' hgrow _)
        have b4 : Below w.heap.size w w4 := (hb.alloc hb.size _).grown hgrow (by have := hb.size; simp; omega) (fun k hk => (hrow.lt k hk).1)
        clear hgrow
        go_wp2
        go_roundw
        case rel =>
          refine ⟨k + 1, by go_num, by omega, Lib.hid ?_, b4⟩
          rw [HL.out]
          exact hown'
        case measure => simp [intOf]; omega
      | false, false =>
        rw [hpk] at hcell
        rw [hqk] at hcell'
        have HL : Hid (bl (fun i => p i && q i) (k + 1) = bl (fun i => p i && q i) k ++ [.bool false]) := Lib.hid (by rw [bl_succ, hpk, hqk]; rfl)
        clear hpk hqk
        go_wp2_with (at_builtin; refine wpList_append_own _ rfl (.tmp 15) (.tmp 63) 29 rfl w.heap.size 4 i0 (.bool false) 1 1 Tryd.underlying29 hi hz0 hz1 hz2 rfl (by decide) _ _ _ rfl (hrow.alloc _) ⟨wr.heap.size, 0, none⟩ 1 1 [.bool false] rfl rfl (cell_one_new _ _ _) (by simp [Value.oneCell']) (by simp only [maxLen]; omega) (by omega) (by have := hb.size; simp; omega) ?_; intro v' w4 hown' hgrow _)
        have b4 : Below w.heap.size w w4 := (hb.alloc hb.size _).grown hgrow (by have := hb.size; simp; omega) (fun k hk => (hrow.lt k hk).1)
        clear hgrow
        go_wp2
        go_roundw
        case rel =>
          refine ⟨k + 1, by go_num, by omega, Lib.hid ?_, b4⟩
          rw [HL.out]
          exact hown'
        case measure => simp [intOf]; omega
    · obtain rfl : k = n := by omega
      have HVV := Lib.hid (isV_of_row (cs := bl (fun i => p i && q i) k) (by rw [bl_len]; exact HR.out))
      have i2 : ¬ (k : Int) < (k : Int) := by omega
      clear HR
      go_wp2
      go_ret
      exact ⟨_, rfl, HVV.out, hb⟩
set_option maxRecDepth 100000 in
set_option maxHeartbeats 2000000 in
/-- The document's Both, 2. -/
theorem ror_any {v v' : Value} (n : Nat) (p q : Nat → Bool) (w : World) (hn : n ≤ 1024) (h : IsV w v (bl p n)) (h' : IsV w v' (bl q n)) : Calls Tryd.prog 19 #[v, v', .int .i64 2] w fun e w' => ∃ v', e = .returned v' ∧ IsV w' v' (bl (fun i => p i || q i) n) ∧ Below w.heap.size w w' := by
  obtain ⟨A, c, rfl, h1, h2, h3⟩ := h
  obtain ⟨A', c', rfl, h1', h2', h3'⟩ := h'
  rw [bl_len] at h1 h1' ⊢
  rw [bl_len]
  simp only [maxLen] at h2 h2'
  obtain ⟨i0, hi, hz0, hz1, hz2⟩ := info_parts info4
  have H3 := Lib.hid h3
  have H3' := Lib.hid h3'
  clear h3 h3'
  go_enter Tryd.func19, Tryd.ntmps19
  go_wp2
  go_loopw [7, 8] (fun l i wr => ∃ k : Nat, i = .int .i64 (k : Nat) ∧ k ≤ n ∧ Hid (wr.ownsRow w.heap.size 4 1 l k (bl (fun i => p i || q i) k)) ∧ Below w.heap.size w wr) (fun _ i _ => n - (intOf i).toNat)
  case atStart => exact ⟨0, rfl, by omega, Lib.hid (World.ownsRow_nil _ _ _ _), Below.refl _ _⟩
  case round =>
    obtain ⟨k, rfl, hk, HR, hb⟩ := hrel
    by_cases hlt : k < n
    · obtain ⟨g, o, rfl, hg, hc⟩ := H3.out (by rw [bl_len]; omega)
      obtain ⟨g', o', rfl, hg', hc'⟩ := H3'.out (by rw [bl_len]; omega)
      have hcell := (hb.cell (p := ⟨g, o + k, none⟩) hg).trans (hc k (by rw [bl_len]; omega))
      rw [bl_get] at hcell
      have hcell' := (hb.cell (p := ⟨g', o' + k, none⟩) hg').trans (hc' k (by rw [bl_len]; omega))
      rw [bl_get] at hcell'
      have hrow := HR.out
      clear hc hc' HR
      have i1 : (0 : Int) ≤ (k : Int) := by omega
      have i2 : (k : Int) < (n : Int) := by omega
      match hpk : p k, hqk : q k with
      | true, true =>
        rw [hpk] at hcell
        rw [hqk] at hcell'
        have HL : Hid (bl (fun i => p i || q i) (k + 1) = bl (fun i => p i || q i) k ++ [.bool true]) := Lib.hid (by rw [bl_succ, hpk, hqk]; rfl)
        clear hpk hqk
        go_wp2_with (at_builtin; refine wpList_append_own _ rfl (.tmp 15) (.tmp 63) 29 rfl w.heap.size 4 i0 (.bool false) 1 1 Tryd.underlying29 hi hz0 hz1 hz2 rfl (by decide) _ _ _ rfl (hrow.alloc _) ⟨wr.heap.size, 0, none⟩ 1 1 [.bool true] rfl rfl (cell_one_new _ _ _) (by simp [Value.oneCell']) (by simp only [maxLen]; omega) (by omega) (by have := hb.size; simp; omega) ?_; intro v' w4 hown' hgrow _)
        have b4 : Below w.heap.size w w4 := (hb.alloc hb.size _).grown hgrow (by have := hb.size; simp; omega) (fun k hk => (hrow.lt k hk).1)
        clear hgrow
        go_wp2
        go_roundw
        case rel =>
          refine ⟨k + 1, by go_num, by omega, Lib.hid ?_, b4⟩
          rw [HL.out]
          exact hown'
        case measure => simp [intOf]; omega
      | true, false =>
        rw [hpk] at hcell
        rw [hqk] at hcell'
        have HL : Hid (bl (fun i => p i || q i) (k + 1) = bl (fun i => p i || q i) k ++ [.bool true]) := Lib.hid (by rw [bl_succ, hpk, hqk]; rfl)
        clear hpk hqk
        go_wp2_with (at_builtin; refine wpList_append_own _ rfl (.tmp 15) (.tmp 63) 29 rfl w.heap.size 4 i0 (.bool false) 1 1 Tryd.underlying29 hi hz0 hz1 hz2 rfl (by decide) _ _ _ rfl (hrow.alloc _) ⟨wr.heap.size, 0, none⟩ 1 1 [.bool true] rfl rfl (cell_one_new _ _ _) (by simp [Value.oneCell']) (by simp only [maxLen]; omega) (by omega) (by have := hb.size; simp; omega) ?_; intro v' w4 hown' hgrow _)
        have b4 : Below w.heap.size w w4 := (hb.alloc hb.size _).grown hgrow (by have := hb.size; simp; omega) (fun k hk => (hrow.lt k hk).1)
        clear hgrow
        go_wp2
        go_roundw
        case rel =>
          refine ⟨k + 1, by go_num, by omega, Lib.hid ?_, b4⟩
          rw [HL.out]
          exact hown'
        case measure => simp [intOf]; omega
      | false, true =>
        rw [hpk] at hcell
        rw [hqk] at hcell'
        have HL : Hid (bl (fun i => p i || q i) (k + 1) = bl (fun i => p i || q i) k ++ [.bool true]) := Lib.hid (by rw [bl_succ, hpk, hqk]; rfl)
        clear hpk hqk
        go_wp2_with (at_builtin; refine wpList_append_own _ rfl (.tmp 15) (.tmp 63) 29 rfl w.heap.size 4 i0 (.bool false) 1 1 Tryd.underlying29 hi hz0 hz1 hz2 rfl (by decide) _ _ _ rfl (hrow.alloc _) ⟨wr.heap.size, 0, none⟩ 1 1 [.bool true] rfl rfl (cell_one_new _ _ _) (by simp [Value.oneCell']) (by simp only [maxLen]; omega) (by omega) (by have := hb.size; simp; omega) ?_; intro v' w4 hown' hgrow _)
        have b4 : Below w.heap.size w w4 := (hb.alloc hb.size _).grown hgrow (by have := hb.size; simp; omega) (fun k hk => (hrow.lt k hk).1)
        clear hgrow
        go_wp2
        go_roundw
        case rel =>
          refine ⟨k + 1, by go_num, by omega, Lib.hid ?_, b4⟩
          rw [HL.out]
          exact hown'
        case measure => simp [intOf]; omega
      | false, false =>
        rw [hpk] at hcell
        rw [hqk] at hcell'
        have HL : Hid (bl (fun i => p i || q i) (k + 1) = bl (fun i => p i || q i) k ++ [.bool false]) := Lib.hid (by rw [bl_succ, hpk, hqk]; rfl)
        clear hpk hqk
        go_wp2_with (at_builtin; refine wpList_append_own _ rfl (.tmp 15) (.tmp 63) 29 rfl w.heap.size 4 i0 (.bool false) 1 1 Tryd.underlying29 hi hz0 hz1 hz2 rfl (by decide) _ _ _ rfl (hrow.alloc _) ⟨wr.heap.size, 0, none⟩ 1 1 [.bool false] rfl rfl (cell_one_new _ _ _) (by simp [Value.oneCell']) (by simp only [maxLen]; omega) (by omega) (by have := hb.size; simp; omega) ?_; intro v' w4 hown' hgrow _)
        have b4 : Below w.heap.size w w4 := (hb.alloc hb.size _).grown hgrow (by have := hb.size; simp; omega) (fun k hk => (hrow.lt k hk).1)
        clear hgrow
        go_wp2
        go_roundw
        case rel =>
          refine ⟨k + 1, by go_num, by omega, Lib.hid ?_, b4⟩
          rw [HL.out]
          exact hown'
        case measure => simp [intOf]; omega
    · obtain rfl : k = n := by omega
      have HVV := Lib.hid (isV_of_row (cs := bl (fun i => p i || q i) k) (by rw [bl_len]; exact HR.out))
      have i2 : ¬ (k : Int) < (k : Int) := by omega
      clear HR
      go_wp2
      go_ret
      exact ⟨_, rfl, HVV.out, hb⟩
set_option maxRecDepth 100000 in
set_option maxHeartbeats 2000000 in
/-- The document's Both, 3. -/
theorem rminus_any {v v' : Value} (n : Nat) (p q : Nat → Bool) (w : World) (hn : n ≤ 1024) (h : IsV w v (bl p n)) (h' : IsV w v' (bl q n)) : Calls Tryd.prog 19 #[v, v', .int .i64 3] w fun e w' => ∃ v', e = .returned v' ∧ IsV w' v' (bl (fun i => p i && !q i) n) ∧ Below w.heap.size w w' := by
  obtain ⟨A, c, rfl, h1, h2, h3⟩ := h
  obtain ⟨A', c', rfl, h1', h2', h3'⟩ := h'
  rw [bl_len] at h1 h1' ⊢
  rw [bl_len]
  simp only [maxLen] at h2 h2'
  obtain ⟨i0, hi, hz0, hz1, hz2⟩ := info_parts info4
  have H3 := Lib.hid h3
  have H3' := Lib.hid h3'
  clear h3 h3'
  go_enter Tryd.func19, Tryd.ntmps19
  go_wp2
  go_loopw [7, 8] (fun l i wr => ∃ k : Nat, i = .int .i64 (k : Nat) ∧ k ≤ n ∧ Hid (wr.ownsRow w.heap.size 4 1 l k (bl (fun i => p i && !q i) k)) ∧ Below w.heap.size w wr) (fun _ i _ => n - (intOf i).toNat)
  case atStart => exact ⟨0, rfl, by omega, Lib.hid (World.ownsRow_nil _ _ _ _), Below.refl _ _⟩
  case round =>
    obtain ⟨k, rfl, hk, HR, hb⟩ := hrel
    by_cases hlt : k < n
    · obtain ⟨g, o, rfl, hg, hc⟩ := H3.out (by rw [bl_len]; omega)
      obtain ⟨g', o', rfl, hg', hc'⟩ := H3'.out (by rw [bl_len]; omega)
      have hcell := (hb.cell (p := ⟨g, o + k, none⟩) hg).trans (hc k (by rw [bl_len]; omega))
      rw [bl_get] at hcell
      have hcell' := (hb.cell (p := ⟨g', o' + k, none⟩) hg').trans (hc' k (by rw [bl_len]; omega))
      rw [bl_get] at hcell'
      have hrow := HR.out
      clear hc hc' HR
      have i1 : (0 : Int) ≤ (k : Int) := by omega
      have i2 : (k : Int) < (n : Int) := by omega
      match hpk : p k, hqk : q k with
      | true, true =>
        rw [hpk] at hcell
        rw [hqk] at hcell'
        have HL : Hid (bl (fun i => p i && !q i) (k + 1) = bl (fun i => p i && !q i) k ++ [.bool false]) := Lib.hid (by rw [bl_succ, hpk, hqk]; rfl)
        clear hpk hqk
        go_wp2_with (at_builtin; refine wpList_append_own _ rfl (.tmp 15) (.tmp 63) 29 rfl w.heap.size 4 i0 (.bool false) 1 1 Tryd.underlying29 hi hz0 hz1 hz2 rfl (by decide) _ _ _ rfl (hrow.alloc _) ⟨wr.heap.size, 0, none⟩ 1 1 [.bool false] rfl rfl (cell_one_new _ _ _) (by simp [Value.oneCell']) (by simp only [maxLen]; omega) (by omega) (by have := hb.size; simp; omega) ?_; intro v' w4 hown' hgrow _)
        have b4 : Below w.heap.size w w4 := (hb.alloc hb.size _).grown hgrow (by have := hb.size; simp; omega) (fun k hk => (hrow.lt k hk).1)
        clear hgrow
        go_wp2
        go_roundw
        case rel =>
          refine ⟨k + 1, by go_num, by omega, Lib.hid ?_, b4⟩
          rw [HL.out]
          exact hown'
        case measure => simp [intOf]; omega
      | true, false =>
        rw [hpk] at hcell
        rw [hqk] at hcell'
        have HL : Hid (bl (fun i => p i && !q i) (k + 1) = bl (fun i => p i && !q i) k ++ [.bool true]) := Lib.hid (by rw [bl_succ, hpk, hqk]; rfl)
        clear hpk hqk
        go_wp2_with (at_builtin; refine wpList_append_own _ rfl (.tmp 15) (.tmp 63) 29 rfl w.heap.size 4 i0 (.bool false) 1 1 Tryd.underlying29 hi hz0 hz1 hz2 rfl (by decide) _ _ _ rfl (hrow.alloc _) ⟨wr.heap.size, 0, none⟩ 1 1 [.bool true] rfl rfl (cell_one_new _ _ _) (by simp [Value.oneCell']) (by simp only [maxLen]; omega) (by omega) (by have := hb.size; simp; omega) ?_; intro v' w4 hown' hgrow _)
        have b4 : Below w.heap.size w w4 := (hb.alloc hb.size _).grown hgrow (by have := hb.size; simp; omega) (fun k hk => (hrow.lt k hk).1)
        clear hgrow
        go_wp2
        go_roundw
        case rel =>
          refine ⟨k + 1, by go_num, by omega, Lib.hid ?_, b4⟩
          rw [HL.out]
          exact hown'
        case measure => simp [intOf]; omega
      | false, true =>
        rw [hpk] at hcell
        rw [hqk] at hcell'
        have HL : Hid (bl (fun i => p i && !q i) (k + 1) = bl (fun i => p i && !q i) k ++ [.bool false]) := Lib.hid (by rw [bl_succ, hpk, hqk]; rfl)
        clear hpk hqk
        go_wp2_with (at_builtin; refine wpList_append_own _ rfl (.tmp 15) (.tmp 63) 29 rfl w.heap.size 4 i0 (.bool false) 1 1 Tryd.underlying29 hi hz0 hz1 hz2 rfl (by decide) _ _ _ rfl (hrow.alloc _) ⟨wr.heap.size, 0, none⟩ 1 1 [.bool false] rfl rfl (cell_one_new _ _ _) (by simp [Value.oneCell']) (by simp only [maxLen]; omega) (by omega) (by have := hb.size; simp; omega) ?_; intro v' w4 hown' hgrow _)
        have b4 : Below w.heap.size w w4 := (hb.alloc hb.size _).grown hgrow (by have := hb.size; simp; omega) (fun k hk => (hrow.lt k hk).1)
        clear hgrow
        go_wp2
        go_roundw
        case rel =>
          refine ⟨k + 1, by go_num, by omega, Lib.hid ?_, b4⟩
          rw [HL.out]
          exact hown'
        case measure => simp [intOf]; omega
      | false, false =>
        rw [hpk] at hcell
        rw [hqk] at hcell'
        have HL : Hid (bl (fun i => p i && !q i) (k + 1) = bl (fun i => p i && !q i) k ++ [.bool false]) := Lib.hid (by rw [bl_succ, hpk, hqk]; rfl)
        clear hpk hqk
        go_wp2_with (at_builtin; refine wpList_append_own _ rfl (.tmp 15) (.tmp 63) 29 rfl w.heap.size 4 i0 (.bool false) 1 1 Tryd.underlying29 hi hz0 hz1 hz2 rfl (by decide) _ _ _ rfl (hrow.alloc _) ⟨wr.heap.size, 0, none⟩ 1 1 [.bool false] rfl rfl (cell_one_new _ _ _) (by simp [Value.oneCell']) (by simp only [maxLen]; omega) (by omega) (by have := hb.size; simp; omega) ?_; intro v' w4 hown' hgrow _)
        have b4 : Below w.heap.size w w4 := (hb.alloc hb.size _).grown hgrow (by have := hb.size; simp; omega) (fun k hk => (hrow.lt k hk).1)
        clear hgrow
        go_wp2
        go_roundw
        case rel =>
          refine ⟨k + 1, by go_num, by omega, Lib.hid ?_, b4⟩
          rw [HL.out]
          exact hown'
        case measure => simp [intOf]; omega
    · obtain rfl : k = n := by omega
      have HVV := Lib.hid (isV_of_row (cs := bl (fun i => p i && !q i) k) (by rw [bl_len]; exact HR.out))
      have i2 : ¬ (k : Int) < (k : Int) := by omega
      clear HR
      go_wp2
      go_ret
      exact ⟨_, rfl, HVV.out, hb⟩
end Go.Proofs.YtkglaoagiifejaaDoor
