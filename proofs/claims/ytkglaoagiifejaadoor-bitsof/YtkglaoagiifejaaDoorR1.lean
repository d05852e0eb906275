/- Contracts: the document's Of, With. -/
import Derived.Test.YtkglaoagiifejaaDoorS6
namespace Go.Proofs.YtkglaoagiifejaaDoor
open Go.RowKit Go.Shelf

theorem info4 : (Tryd.prog.info? 4).map (fun i => (i.zero, i.size, i.bytes)) = some (some (.bool false), 1, 1) := by kernel_rfl
theorem bl_none (n : Nat) : madeCells #[.bool false] n = (bl (fun _ => false) n).toArray := by
  apply Array.ext_getElem?
  intro j
  by_cases hj : j < n
  · simp [madeCells, bl, hj, Nat.mod_one]
  · simp [madeCells, bl, hj]
theorem isV_of_at {W : World} {B : Nat} {cs : List Value} {t : TypeId} (h : At W B cs.toArray t) (hm : cs.length ≤ maxLen) : IsV W (.slice (some ⟨B, 0, none⟩) cs.length cs.length) cs :=
  ⟨_, _, rfl, Nat.le_refl _, hm, fun _ => ⟨B, 0, rfl, h.lt, fun k hk => by rw [Nat.zero_add, h.cell k]; simp [hk]⟩⟩
/-- What the document's Of answers. -/
def ROfOut (w : World) (size : Int) (L : List Int) (e : Ending) (w' : World) : Prop := (Good size L ∧ ∃ v n, size = (n : Nat) ∧ e = .returned (.tuple #[v, .int .i64 0]) ∧ IsV w' v (bl (inL L) n) ∧ Below w.heap.size w w') ∨ (¬ Good size L ∧ e = .returned (.tuple #[.slice none 0 0, .int .i64 61]) ∧ Below w.heap.size w w')
/-- The block, behind k numbers. -/
def RI (w : World) (n : Nat) (L : List Int) (k : Nat) (W : World) : Prop := At W w.heap.size (bl (inL (L.take k)) n).toArray 4 ∧ Below w.heap.size w W
set_option maxRecDepth 100000 in
set_option maxHeartbeats 1000000 in
/-- The document's Of. -/
theorem rof_any {v : Value} (size : Int) (L : List Int) (w : World) (hL : IsV w v (ints L)) : Calls Tryd.prog 10 #[.int .i64 size, v] w (ROfOut w size L) := by
  obtain ⟨A, c, rfl, h1, h2, h3⟩ := hL
  rw [show (ints L).length = L.length by simp [ints]] at *
  simp only [maxLen] at h2
  by_cases hs : 0 ≤ size ∧ size ≤ 1024
  · obtain ⟨n, rfl⟩ := Int.eq_ofNat_of_zero_le hs.1
    obtain ⟨_, hn⟩ := hs
    have hn' : n ≤ 1024 := by omega
    have H3 := Lib.hid h3
    have hneg : decide ((n : Int) < 0) = false := by simp
    have hpos : decide ((1024 : Int) < (n : Int)) = false := by simp; omega
    have HG : Hid (∀ k (hk : k < L.length), ¬ (0 ≤ L[k] ∧ L[k] < (n : Int)) → ¬ Good n L) := Lib.hid fun k hk h hg => h (hg.2.2 _ (List.getElem_mem hk))
    have HN : Hid ((∀ k (hk : k < L.length), 0 ≤ L[k] ∧ L[k] < (n : Int)) → Good n L) := Lib.hid fun h => ⟨by omega, hn, fun x hx => by
      obtain ⟨k, hk, rfl⟩ := List.mem_iff_getElem.1 hx
      exact h k hk⟩
    have hmk := Lib.hid fun u => run_make_row' (P := Tryd.prog) 29 4 (.bool false) 1 Tryd.underlying29 info4 rfl .i64 .i64 n (by omega) (by omega) u
    clear h3
    go_enter Tryd.func10, Tryd.ntmps10
    go_wp2_with (rw [hmk.out])
    go_loopw [7] (fun i wr => ∃ k : Nat, i = .int .i64 (k : Nat) ∧ k ≤ L.length ∧ Hid (∀ j (hj : j < L.length), j < k → 0 ≤ L[j] ∧ L[j] < (n : Int)) ∧ Hid (RI w n L k wr)) (fun i _ => L.length - (intOf i).toNat)
    case atStart =>
      refine ⟨0, rfl, by omega, Lib.hid fun j _ h => by omega, Lib.hid ⟨?_, (Below.refl _ w).alloc (Nat.le_refl _) _⟩⟩
      have : inL (L.take 0) = fun _ => false := by funext j; simp [inL]
      rw [this, ← bl_none]; exact At.new _ _ _
    case round =>
      obtain ⟨k, rfl, hk, HR, HO⟩ := hrel
      obtain ⟨o2, o3⟩ := HO.out
      by_cases hlt : k < L.length
      · obtain ⟨g, o, rfl, hg, hc⟩ := H3.out (by simp [ints]; omega)
        have hcell := (o3.cell (p := ⟨g, o + k, none⟩) hg).trans (hc k (by simp [ints]; omega))
        have hx : (ints L)[k]'(by simp [ints]; omega) = .int .i64 L[k] := by simp [ints]
        rw [hx] at hcell
        have HT : Hid (L.take (k + 1) = L.take k ++ [L[k]]) := Lib.hid (List.take_succ_eq_append_getElem hlt)
        have HB := Lib.hid (HG.out k hlt)
        have HR2 : Hid ((0 ≤ L[k] ∧ L[k] < (n : Int)) → ∀ j (hj : j < L.length), j < k + 1 → 0 ≤ L[j] ∧ L[j] < (n : Int)) := Lib.hid fun h j hj hjk => by
          by_cases e : j = k
          · subst e; exact h
          · exact HR.out j hj (by omega)
        clear hc hx
        generalize L[k] = x at hcell HT HB HR2
        have i0 : (0 : Int) ≤ (k : Int) := by omega
        have i1 : (k : Int) < (L.length : Int) := by omega
        by_cases hx0 : x < 0
        · have d0 : decide (x < 0) = true := by simpa using hx0
          go_wp2
          go_ret2
          exact .inr ⟨HB.out (by omega), rfl, o3⟩
        · have d0 : decide (x < 0) = false := by simpa using hx0
          by_cases hx1 : (n : Int) ≤ x
          · have d1 : decide ((n : Int) ≤ x) = true := by simpa using hx1
            go_wp2
            go_ret2
            exact .inr ⟨HB.out (by omega), rfl, o3⟩
          · have d1 : decide ((n : Int) ≤ x) = false := by simpa using hx1
            obtain ⟨m, rfl⟩ := Int.eq_ofNat_of_zero_le (show 0 ≤ x by omega)
            have hm : m < n := by omega
            have c2 : wr.cell? ⟨w.heap.size, m, none⟩ = some (.bool (inL (L.take k) m)) := (o2.cell m).trans (by simp [bl, hm])
            have f2 := o2.frozen m
            have HX : Hid ((bl (inL (L.take k)) n).toArray.setIfInBounds m (.bool true) = (bl (inL (L.take (k + 1))) n).toArray) := Lib.hid (by
              rw [HT.out, inL_snoc]; exact bl_put)
            have j0 : (0 : Int) ≤ (m : Int) := by omega
            have j1 : (m : Int) < (n : Int) := by omega
            clear HT
            go_wp2
            go_roundw
            case rel =>
              refine ⟨k + 1, by go_num, by omega, Lib.hid (HR2.out ⟨by omega, by omega⟩), Lib.hid ⟨?_, o3.setCell (p := ⟨w.heap.size, m, none⟩) (Nat.le_refl _) _⟩⟩
              have := o2.set0 m (.bool true)
              rwa [HX.out] at this
            case measure => simp [intOf]; omega
      · obtain rfl : k = L.length := by omega
        go_wp2
        go_ret2
        have hgood := HN.out fun j hj => HR.out j hj hj
        rw [List.take_length] at o2
        have hv := isV_of_at o2 (by rw [bl_len]; simp only [maxLen]; omega)
        rw [bl_len] at hv
        exact .inl ⟨hgood, _, n, rfl, rfl, hv, o3⟩
  · have hng : ¬ Good size L := fun h => hs ⟨h.1, h.2.1⟩
    by_cases h0 : size < 0
    · have d0 : decide (size < 0) = true := by simpa using h0
      go_enter Tryd.func10, Tryd.ntmps10
      go_wp2
      go_ret2
      exact .inr ⟨hng, rfl, Below.refl _ _⟩
    · have h4 : (1024 : Int) < size := by omega
      have d0 : decide (size < 0) = false := by simpa using h0
      have d1 : decide (1024 < size) = true := by simpa using h4
      go_enter Tryd.func10, Tryd.ntmps10
      go_wp2
      go_ret2
      exact .inr ⟨hng, rfl, Below.refl _ _⟩
end Go.Proofs.YtkglaoagiifejaaDoor
