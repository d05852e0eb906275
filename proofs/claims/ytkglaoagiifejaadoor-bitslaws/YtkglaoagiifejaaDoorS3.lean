/- Contracts: Of, New. -/
import Derived.Test.YtkglaoagiifejaaDoorV1
namespace Go.Proofs.YtkglaoagiifejaaDoor
open Go.RowKit Go.Shelf

/-- Numbers that may be. -/
def Good (size : Int) (L : List Int) : Prop := 0 ≤ size ∧ size ≤ 1024 ∧ ∀ x ∈ L, 0 ≤ x ∧ x < size
/-- The words' block, behind k numbers. -/
def OI (w : World) (B C n : Nat) (L : List Int) (k : Nat) (W : World) : Prop := At W B #[.int .i64 (n : Nat), .slice (some ⟨C, 0, none⟩) (nw n) (nw n)] 56 ∧ At W C (ws (inL (L.take k)) n) 52 ∧ Below w.heap.size w W
/-- What Of answers. -/
def OfOut (w : World) (size : Int) (L : List Int) (e : Ending) (w' : World) : Prop := (Good size L ∧ ∃ v n, size = (n : Nat) ∧ e = .returned (.tuple #[v, .int .i64 0]) ∧ Fresh w w' v n (inL L) ∧ Below w.heap.size w w') ∨ (¬ Good size L ∧ e = .returned (.tuple #[.pointer none, .int .i64 61]) ∧ Below w.heap.size w w')

theorem tmod_nat (x : Nat) : (x : Int).tmod 64 = ((x % 64 : Nat) : Int) := by rw [Int.tmod_eq_emod_of_nonneg (by omega)]; omega
theorem tdiv_nat (x : Nat) : (x : Int).tdiv 64 = ((x / 64 : Nat) : Int) := by rw [Int.tdiv_eq_ediv_of_nonneg (by omega)]; omega
set_option maxRecDepth 100000 in
set_option maxHeartbeats 1000000 in
/-- bits.Of. -/
theorem of_any {v : Value} (size : Int) (L : List Int) (w : World) (hL : IsV w v (ints L)) : Calls Tryd.prog 9 #[.int .i64 size, v] w (OfOut w size L) := by
  obtain ⟨A, c, rfl, h1, h2, h3⟩ := hL
  rw [show (ints L).length = L.length by simp [ints]] at *
  simp only [maxLen] at h2
  by_cases hs : 0 ≤ size ∧ size ≤ 1024
  · obtain ⟨n, rfl⟩ := Int.eq_ofNat_of_zero_le hs.1
    obtain ⟨_, hn⟩ := hs
    have hn' : n ≤ 1024 := by omega
    have hmade := made_any 27 #[] (enters_of Tryd.func27 (by kernel_rfl) rfl) n (fun _ => false) w hn' (fun k hk W _ => by rw [wd_zero]; exact of1_any k W)
    have H3 := Lib.hid h3
    have hneg : decide ((n : Int) < 0) = false := by simp
    have hpos : decide ((1024 : Int) < (n : Int)) = false := by simp; omega
    have HG : Hid (∀ k (hk : k < L.length), ¬ (0 ≤ L[k] ∧ L[k] < (n : Int)) → ¬ Good n L) := Lib.hid fun k hk h hg => h (hg.2.2 _ (List.getElem_mem hk))
    have HN : Hid ((∀ k (hk : k < L.length), 0 ≤ L[k] ∧ L[k] < (n : Int)) → Good n L) := Lib.hid fun h => ⟨by omega, hn, fun x hx => by
      obtain ⟨k, hk, rfl⟩ := List.mem_iff_getElem.1 hx
      exact h k hk⟩
    clear h3
    go_enter Tryd.func9, Tryd.ntmps9
    go_wp2_with (go_at_call 26; refine hmade.mono ?_; rintro e w1 ⟨v1, rfl, ⟨B, C, rfl, ⟨a1, a2⟩, g1, g2, g3⟩, b1⟩)
    have hw1 := b1.size
    go_loopw [19] (fun i wr => ∃ k : Nat, i = .int .i64 (k : Nat) ∧ k ≤ L.length ∧ Hid (∀ j (hj : j < L.length), j < k → 0 ≤ L[j] ∧ L[j] < (n : Int)) ∧ Hid (OI w B C n L k wr)) (fun i _ => L.length - (intOf i).toNat)
    case atStart =>
      refine ⟨0, rfl, by omega, Lib.hid fun j _ h => by omega, Lib.hid ⟨a1, ?_, b1⟩⟩
      have : inL (L.take 0) = fun _ => false := by funext j; simp [inL]
      rw [this]; exact a2
    case round =>
      obtain ⟨k, rfl, hk, HR, HO⟩ := hrel
      obtain ⟨o1, o2, o3⟩ := HO.out
      by_cases hlt : k < L.length
      · obtain ⟨g, o, rfl, hg, hc⟩ := H3.out (by simp [ints]; omega)
        have hcell := (o3.cell (p := ⟨g, o + k, none⟩) hg).trans (hc k (by simp [ints]; omega))
        have hx : (ints L)[k]'(by simp [ints]; omega) = .int .i64 L[k] := by simp [ints]
        rw [hx] at hcell
        have HT : Hid (L.take (k + 1) = L.take k ++ [L[k]]) := Lib.hid (List.take_succ_eq_append_getElem hlt)
        have HB := Lib.hid (HG.out k hlt)
        have HR2 : Hid ((0 ≤ L[k] ∧ L[k] < (n : Int)) → ∀ j (hj : j < L.length), j < k + 1 → 0 ≤ L[j] ∧ L[j] < (n : Int)) := Lib.hid fun h j hj hjk => by
          by_cases e : j = k
          · subst e; exact h
          · exact HR.out j hj (by omega)
        clear hc hx
        generalize L[k] = x at hcell HT HB HR2
        have i0 : (0 : Int) ≤ (k : Int) := by omega
        have i1 : (k : Int) < (L.length : Int) := by omega
        by_cases hx0 : x < 0
        · go_wp2
          go_ret2
          exact .inr ⟨HB.out (by omega), rfl, o3⟩
        · by_cases hx1 : (n : Int) ≤ x
          · go_wp2
            go_ret2
            exact .inr ⟨HB.out (by omega), rfl, o3⟩
          · obtain ⟨m, rfl⟩ := Int.eq_ofNat_of_zero_le (show 0 ≤ x by omega)
            have hm : m < n := by omega
            have hq := nw_lt hm
            have c1 := (o1.cell 1).trans rfl
            have c2 := (o2.cell (m / 64)).trans (ws_get hq)
            have f2 := o2.frozen (m / 64)
            have e1 : IntKind.i64.wrap ((m : Int) / 64) = ((m / 64 : Nat) : Int) := by rw [show (m : Int) / 64 = ((m / 64 : Nat) : Int) by omega]; exact IntWalk.i64_in _ (by omega)
            have e2 : (m : Int).tmod 64 = ((m % 64 : Nat) : Int) := tmod_nat m
            have hmr : m % 64 < 64 := Nat.mod_lt _ (by decide)
            have j0 : (0 : Int) ≤ ((m / 64 : Nat) : Int) := by omega
            have j1 : ((m / 64 : Nat) : Int) < (nw n : Int) := by omega
            have hput := wd_put (inL (L.take k)) m
            have hxl := wd_lt (inL (L.take k)) (m / 64)
            have h64 : 2 ^ (m % 64) < 18446744073709551616 := Nat.pow_lt_pow_right (a := 2) (n := 64) (by decide) (Nat.mod_lt _ (by decide))
            have HX : Hid ((ws (inL (L.take k)) n).setIfInBounds (m / 64) (.int .u64 (wd (fun j => inL (L.take k) j || decide (j = m)) (m / 64) : Nat)) = ws (inL (L.take (k + 1))) n) := Lib.hid (by
              rw [HT.out, inL_snoc]; exact ws_put)
            have hc1 : wr.cell? ⟨B, 1, none⟩ = some (.slice (some ⟨C, 0, none⟩) (nw n) (nw n)) := c1
            clear c1 HT
            generalize wd (inL (L.take k)) (m / 64) = x at c2 hput hxl
            generalize wd (fun j => inL (L.take k) j || decide (j = m)) (m / 64) = y at hput HX
            have hor : bits .or .u64 (x : Int) ((2 ^ (m % 64) : Nat) : Int) = (y : Int) := by rw [bits_or_u64_nat _ _ hxl h64, hput]
            have HPUT := Lib.hid hput
            clear hput
            have hz2 : ((2 ^ (m % 64) : Nat) : Int) = (2 : Int) ^ (m % 64) := by rw [Int.natCast_pow]; rfl
            rw [hz2] at hor
            have e3 : IntKind.u64.wrap ((2 : Int) ^ (m % 64)) = (2 : Int) ^ (m % 64) := by
              rw [← hz2, IntKind.wrap_u64]
              exact Int.emod_eq_of_lt (Int.natCast_nonneg _) (Int.ofNat_lt.2 h64)
            clear hz2 h64
            generalize m / 64 = md at *
            generalize m % 64 = mr at *
            go_wp2_with fail
            have hc1d : ({ heap := wr.heap, tape := wr.tape, drawn := wr.drawn + 1, os := wr.os, output := wr.output } : World).cell? ⟨B, 1, none⟩ = some (.slice (some ⟨C, 0, none⟩) (nw n) (nw n)) := hc1
            have c2d : ({ heap := wr.heap, tape := wr.tape, drawn := wr.drawn + 1, os := wr.os, output := wr.output } : World).cell? ⟨C, md, none⟩ = some (.int .u64 (x : Nat)) := c2
            have f2d : ({ heap := wr.heap, tape := wr.tape, drawn := wr.drawn + 1, os := wr.os, output := wr.output } : World).frozen? ⟨C, md, none⟩ = false := f2
            go_still_tail 13, (by kernel_rfl)
            clear hc1d c2d f2d
            change wpList _ _ _ _ _ wr.drew
            have o1d : At wr.drew B #[.int .i64 (n : Nat), .slice (some ⟨C, 0, none⟩) (nw n) (nw n)] 56 := o1
            have o2d : At wr.drew C (ws (inL (L.take k)) n) 52 := o2
            have o3d : Below w.heap.size w wr.drew := o3.drew
            have c2d : wr.drew.cell? ⟨C, md, none⟩ = some (.int .u64 (x : Nat)) := c2
            have f2d : wr.drew.frozen? ⟨C, md, none⟩ = false := f2
            generalize wr.drew = w2 at *
            clear hc1 c2 f2 HO o1 o2 o3 hcell
            go_wp2
            have o2e := o2d.set0 md (.int .u64 (y : Nat))
            rw [HX.out] at o2e
            refine ⟨⟨k + 1, by go_num, by omega, Lib.hid (HR2.out ⟨by omega, by omega⟩), Lib.hid ⟨?_, o2e, ?_⟩⟩, by simp [intOf]; omega⟩
            · exact o1d.other g3 _ _
            · exact o3d.setCell (p := ⟨C, md, none⟩) g2 _
      · obtain rfl : k = L.length := by omega
        go_wp2
        go_ret2
        have hgood := HN.out fun j hj => HR.out j hj hj
        rw [List.take_length] at o2
        exact .inl ⟨hgood, _, n, rfl, rfl, ⟨B, C, rfl, ⟨o1, o2⟩, g1, g2, g3⟩, o3⟩
  · have hng : ¬ Good size L := fun h => hs ⟨h.1, h.2.1⟩
    by_cases h0 : size < 0
    · go_enter Tryd.func9, Tryd.ntmps9
      go_wp2
      go_ret2
      exact .inr ⟨hng, rfl, Below.refl _ _⟩
    · have h4 : (1024 : Int) < size := by omega
      go_enter Tryd.func9, Tryd.ntmps9
      go_wp2
      go_ret2
      exact .inr ⟨hng, rfl, Below.refl _ _⟩
end Go.Proofs.YtkglaoagiifejaaDoor
