/- BitsAsk, walked. -/
import Derived.Test.YtkglaoagiifejaaDoorA2
namespace Go.Proofs.YtkglaoagiifejaaDoor
open Go.RowKit Go.Shelf

/-- The least one from i on, of those from k on. -/
def DownIs (p : Nat → Bool) (i : Int) (k : Nat) (x : Int) : Prop := (x = -1 ∧ ∀ j : Nat, k ≤ j → i ≤ j → p j = false) ∨ ∃ y : Nat, x = y ∧ p y = true ∧ i ≤ y ∧ k ≤ y ∧ ∀ j : Nat, k ≤ j → i ≤ j → j < y → p j = false
theorem down_start {p : Nat → Bool} {n : Nat} (i : Int) (h : Sup n p) : DownIs p i n (-1) := .inl ⟨rfl, fun j hj _ => h j hj⟩
theorem down_no {p : Nat → Bool} {i : Int} {k : Nat} {x : Int} (h : DownIs p i (k + 1) x) (hk : ¬ (i ≤ k ∧ p k = true)) : DownIs p i k x := by
  have hk' : i ≤ (k : Int) → p k = false := fun h1 => by
    cases hp : p k with
    | false => rfl
    | true => exact absurd ⟨h1, hp⟩ hk
  rcases h with ⟨rfl, hn⟩ | ⟨y, rfl, h1, h2, h3, h4⟩
  · refine .inl ⟨rfl, fun j hj hi => ?_⟩
    by_cases e : j = k
    · subst e; exact hk' hi
    · exact hn j (by omega) hi
  · refine .inr ⟨y, rfl, h1, h2, by omega, fun j hj hi hy => ?_⟩
    by_cases e : j = k
    · subst e; exact hk' hi
    · exact h4 j (by omega) hi hy
theorem down_yes {p : Nat → Bool} {i : Int} {k : Nat} (h1 : i ≤ k) (h2 : p k = true) : DownIs p i k k := .inr ⟨k, rfl, h2, h1, Nat.le_refl _, fun j hj _ hy => by omega⟩
theorem down_fin {p : Nat → Bool} {i x y : Int} {b : Bool} (h : DownIs p i 0 x) (hn : NextIs p i y b) : (b = false ∧ y = 0 ∧ x = -1) ∨ (b = true ∧ y = x ∧ 0 ≤ x) := by
  rcases h with ⟨rfl, h1⟩ | ⟨z, rfl, h1, h2, _, h4⟩
  · rcases hn with ⟨rfl, k, rfl, hp, hi, _⟩ | ⟨rfl, rfl, _⟩
    · rw [h1 k (by omega) hi] at hp; cases hp
    · exact .inl ⟨rfl, rfl, rfl⟩
  · rcases hn with ⟨rfl, k, rfl, hp, hi, hl⟩ | ⟨_, _, hno⟩
    · have : k = z := by
        by_cases e1 : k < z
        · rw [h4 k (by omega) hi e1] at hp; cases hp
        · by_cases e2 : z < k
          · rw [hl z h2 e2] at h1; cases h1
          · omega
      exact .inr ⟨rfl, by omega, by omega⟩
    · rw [hno z h2] at h1; cases h1
set_option maxRecDepth 100000 in
set_option maxHeartbeats 4000000 in
theorem ask_walk {v : Value} (size : Int) (L : List Int) (i : Int) (w : World) (hi : -9223372036854775808 ≤ i) (hi2 : i ≤ 9223372036854775807) (hL : IsV w v (ints L)) (hT : Tb w) : Calls Tryd.prog 4 #[.int .i64 size, v, .int .i64 i] w fun e w' => e = .returned (.bool true) ∧ Below w.heap.size w w' := by
  have HT : Hid (∀ u, Below w.heap.size w u → Tb u) := Lib.hid fun u hu => hT.belows hu
  have HL : Hid (∀ u, Below w.heap.size w u → IsV u v (ints L)) := Lib.hid fun u hu => hL.belows hu
  have ho := of_any size L _ hL
  obtain ⟨A, c, rfl, h1, h2, _⟩ := hL
  rw [show (ints L).length = L.length by simp [ints]] at *
  simp only [maxLen] at h2
  clear hT
  go_enter Tryd.func4, Tryd.ntmps4
  go_wp2_with fail
  refine ho.mono ?_
  rintro e w1 (⟨hg, v1, n, hn, rfl, hf, b1⟩ | ⟨hg, rfl, b1⟩)
  · subst hn
    have s1 := hf.isSet (inL_sup hg.2.2) (by have := hg.2.1; omega)
    have HS1 : Hid (∀ u, Below w1.heap.size w1 u → IsSet u v1 n (inL L)) := Lib.hid fun u hu => s1.belows hu
    have hr := rof_any (n : Int) L w1 (HL.out _ b1)
    have hn1 := s1.2.1
    have HSUP := Lib.hid s1.1
    obtain ⟨A1, rfl⟩ := s1.ptr
    clear s1 hf ho
    go_wp2_with fail
    refine hr.mono ?_
    rintro e w2 (⟨_, v2, n2, hn2, rfl, hv2, b2⟩ | ⟨hg', _⟩)
    · obtain rfl : n2 = n := by omega
      have bb2 := b1.trans (b2.mono b1.size)
      have HV2 : Hid (∀ u, Below w2.heap.size w2 u → IsV u v2 (bl (inL L) n2)) := Lib.hid fun u hu => hv2.belows hu
      obtain ⟨A2, c2, rfl, _, _, hvs⟩ := hv2
      rw [bl_len] at *
      clear hr hn2
      by_cases hm : 200 < L.length
      · have hm' : decide ((200 : Int) < (L.length : Int)) = true := by simp; omega
        go_wp2_with fail
        refine (alive_any _ (HT.out _ bb2)).mono ?_
        rintro e w3 ⟨rfl, b3⟩
        go_wp2
        go_ret
        exact ⟨rfl, bb2.trans (b3.mono bb2.size)⟩
      · have hm' : decide ((200 : Int) < (L.length : Int)) = false := by simp; omega
        have HVS : Hid (∀ u, Below w2.heap.size w2 u → Vs u A2 (bl (inL L) n2)) := Lib.hid fun u hu => hvs.below (Nat.le_refl _) hu
        clear hvs
        generalize hP : inL L = p at *
        clear hP
        go_wp2_with fail
        go_loopw [11, 12] (fun x k wr => ∃ (m : Nat) (y : Int), k = .int .i64 ((m : Int) - 1) ∧ x = .int .i64 y ∧ m ≤ n2 ∧ Hid (DownIs p i m y) ∧ wr = w2) (fun _ k _ => (intOf k + 1).toNat)
        case atStart => exact ⟨n2, -1, rfl, rfl, Nat.le_refl _, Lib.hid (down_start i HSUP.out), rfl⟩
        case round =>
          obtain ⟨m, y, rfl, rfl, hmn, HD, rfl⟩ := hrel
          cases m with
          | zero =>
            have hnx := next_any n2 p i wr hi hi2 (HS1.out _ b2) (HT.out _ bb2)
            have HD0 := HD
            clear HD
            go_wp2_with fail
            refine hnx.mono ?_
            rintro e w3 ⟨x, b, rfl, hx, b3⟩
            have hfin := down_fin HD0.out hx
            have bb3 := bb2.trans (b3.mono bb2.size)
            have b13 := b2.trans (b3.mono b2.size)
            clear hx hnx HD0
            have hal := alive_any w3 (HT.out _ bb3)
            rcases hfin with hfin | hfin
            · obtain ⟨rfl, rfl, rfl⟩ := hfin
              by_cases q1 : i < 0
              · have g1 : decide (0 ≤ i) = false := by simpa using q1
                have HP : hasP p i = false := by simp [hasP]; omega
                go_wp2_with fail
                refine hal.mono ?_
                rintro e w4 ⟨rfl, b4⟩
                have bb4 := bb3.trans (b4.mono bb3.size)
                have b14 := b13.trans (b4.mono b13.size)
                have hh := has_any n2 p i w4 hi hi2 (HS1.out _ b14) (HT.out _ bb4)
                rw [HP] at hh
                clear HP
                go_wp2_with fail
                refine hh.mono ?_
                rintro e w5 ⟨rfl, b5⟩
                have bb5 := bb4.trans (b5.mono bb4.size)
                go_wp2
                go_ret
                exact ⟨rfl, bb5⟩
              · have g1 : decide (0 ≤ i) = true := by simp; omega
                by_cases q2 : i < (n2 : Int)
                · obtain ⟨k, rfl⟩ := Int.eq_ofNat_of_zero_le (show 0 ≤ i by omega)
                  have g2 : decide ((k : Int) < (n2 : Int)) = true := by simpa using q2
                  obtain ⟨g, o, rfl, hg2, hc⟩ := HVS.out _ (Below.refl _ _) (by rw [bl_len]; omega)
                  have hcell := hc k (by rw [bl_len]; omega)
                  rw [bl_get] at hcell
                  clear hc
                  have i0 : (0 : Int) ≤ (k : Int) := by omega
                  cases hpk : p k with
                  | true =>
                    rw [hpk] at hcell
                    have HP : hasP p k = true := by simp [hasP, hpk]
                    go_wp2_with fail
                    refine hal.mono ?_
                    rintro e w4 ⟨rfl, b4⟩
                    have bb4 := bb3.trans (b4.mono bb3.size)
                    have b14 := b13.trans (b4.mono b13.size)
                    have hh := has_any n2 p k w4 hi hi2 (HS1.out _ b14) (HT.out _ bb4)
                    rw [HP] at hh
                    clear HP
                    go_wp2_with fail
                    refine hh.mono ?_
                    rintro e w5 ⟨rfl, b5⟩
                    have bb5 := bb4.trans (b5.mono bb4.size)
                    have b35 := b3.trans ((b4.trans (b5.mono b4.size)).mono b3.size)
                    have c5 : w5.cell? ⟨g, o + k, none⟩ = some (.bool true) := (b35.cell (p := ⟨g, o + k, none⟩) hg2).trans hcell
                    go_wp2
                    go_ret
                    exact ⟨rfl, bb5⟩
                  | false =>
                    rw [hpk] at hcell
                    have HP : hasP p k = false := by simp [hasP, hpk]
                    go_wp2_with fail
                    refine hal.mono ?_
                    rintro e w4 ⟨rfl, b4⟩
                    have bb4 := bb3.trans (b4.mono bb3.size)
                    have b14 := b13.trans (b4.mono b13.size)
                    have hh := has_any n2 p k w4 hi hi2 (HS1.out _ b14) (HT.out _ bb4)
                    rw [HP] at hh
                    clear HP
                    go_wp2_with fail
                    refine hh.mono ?_
                    rintro e w5 ⟨rfl, b5⟩
                    have bb5 := bb4.trans (b5.mono bb4.size)
                    have b35 := b3.trans ((b4.trans (b5.mono b4.size)).mono b3.size)
                    have c5 : w5.cell? ⟨g, o + k, none⟩ = some (.bool false) := (b35.cell (p := ⟨g, o + k, none⟩) hg2).trans hcell
                    go_wp2
                    go_ret
                    exact ⟨rfl, bb5⟩
                · have g2 : decide (i < (n2 : Int)) = false := by simpa using q2
                  have HP : hasP p i = false := by simp [hasP, HSUP.out i.toNat (by omega)]
                  go_wp2_with fail
                  refine hal.mono ?_
                  rintro e w4 ⟨rfl, b4⟩
                  have bb4 := bb3.trans (b4.mono bb3.size)
                  have b14 := b13.trans (b4.mono b13.size)
                  have hh := has_any n2 p i w4 hi hi2 (HS1.out _ b14) (HT.out _ bb4)
                  rw [HP] at hh
                  clear HP
                  go_wp2_with fail
                  refine hh.mono ?_
                  rintro e w5 ⟨rfl, b5⟩
                  have bb5 := bb4.trans (b5.mono bb4.size)
                  go_wp2
                  go_ret
                  exact ⟨rfl, bb5⟩
            · obtain ⟨rfl, rfl, hy⟩ := hfin
              have gy : decide (0 ≤ x) = true := by simpa using hy
              by_cases q1 : i < 0
              · have g1 : decide (0 ≤ i) = false := by simpa using q1
                have HP : hasP p i = false := by simp [hasP]; omega
                go_wp2_with fail
                refine hal.mono ?_
                rintro e w4 ⟨rfl, b4⟩
                have bb4 := bb3.trans (b4.mono bb3.size)
                have b14 := b13.trans (b4.mono b13.size)
                have hh := has_any n2 p i w4 hi hi2 (HS1.out _ b14) (HT.out _ bb4)
                rw [HP] at hh
                clear HP
                go_wp2_with fail
                refine hh.mono ?_
                rintro e w5 ⟨rfl, b5⟩
                have bb5 := bb4.trans (b5.mono bb4.size)
                go_wp2
                go_ret
                exact ⟨rfl, bb5⟩
              · have g1 : decide (0 ≤ i) = true := by simp; omega
                by_cases q2 : i < (n2 : Int)
                · obtain ⟨k, rfl⟩ := Int.eq_ofNat_of_zero_le (show 0 ≤ i by omega)
                  have g2 : decide ((k : Int) < (n2 : Int)) = true := by simpa using q2
                  obtain ⟨g, o, rfl, hg2, hc⟩ := HVS.out _ (Below.refl _ _) (by rw [bl_len]; omega)
                  have hcell := hc k (by rw [bl_len]; omega)
                  rw [bl_get] at hcell
                  clear hc
                  have i0 : (0 : Int) ≤ (k : Int) := by omega
                  cases hpk : p k with
                  | true =>
                    rw [hpk] at hcell
                    have HP : hasP p k = true := by simp [hasP, hpk]
                    go_wp2_with fail
                    refine hal.mono ?_
                    rintro e w4 ⟨rfl, b4⟩
                    have bb4 := bb3.trans (b4.mono bb3.size)
                    have b14 := b13.trans (b4.mono b13.size)
                    have hh := has_any n2 p k w4 hi hi2 (HS1.out _ b14) (HT.out _ bb4)
                    rw [HP] at hh
                    clear HP
                    go_wp2_with fail
                    refine hh.mono ?_
                    rintro e w5 ⟨rfl, b5⟩
                    have bb5 := bb4.trans (b5.mono bb4.size)
                    have b35 := b3.trans ((b4.trans (b5.mono b4.size)).mono b3.size)
                    have c5 : w5.cell? ⟨g, o + k, none⟩ = some (.bool true) := (b35.cell (p := ⟨g, o + k, none⟩) hg2).trans hcell
                    go_wp2
                    go_ret
                    exact ⟨rfl, bb5⟩
                  | false =>
                    rw [hpk] at hcell
                    have HP : hasP p k = false := by simp [hasP, hpk]
                    go_wp2_with fail
                    refine hal.mono ?_
                    rintro e w4 ⟨rfl, b4⟩
                    have bb4 := bb3.trans (b4.mono bb3.size)
                    have b14 := b13.trans (b4.mono b13.size)
                    have hh := has_any n2 p k w4 hi hi2 (HS1.out _ b14) (HT.out _ bb4)
                    rw [HP] at hh
                    clear HP
                    go_wp2_with fail
                    refine hh.mono ?_
                    rintro e w5 ⟨rfl, b5⟩
                    have bb5 := bb4.trans (b5.mono bb4.size)
                    have b35 := b3.trans ((b4.trans (b5.mono b4.size)).mono b3.size)
                    have c5 : w5.cell? ⟨g, o + k, none⟩ = some (.bool false) := (b35.cell (p := ⟨g, o + k, none⟩) hg2).trans hcell
                    go_wp2
                    go_ret
                    exact ⟨rfl, bb5⟩
                · have g2 : decide (i < (n2 : Int)) = false := by simpa using q2
                  have HP : hasP p i = false := by simp [hasP, HSUP.out i.toNat (by omega)]
                  go_wp2_with fail
                  refine hal.mono ?_
                  rintro e w4 ⟨rfl, b4⟩
                  have bb4 := bb3.trans (b4.mono bb3.size)
                  have b14 := b13.trans (b4.mono b13.size)
                  have hh := has_any n2 p i w4 hi hi2 (HS1.out _ b14) (HT.out _ bb4)
                  rw [HP] at hh
                  clear HP
                  go_wp2_with fail
                  refine hh.mono ?_
                  rintro e w5 ⟨rfl, b5⟩
                  have bb5 := bb4.trans (b5.mono bb4.size)
                  go_wp2
                  go_ret
                  exact ⟨rfl, bb5⟩
          | succ m =>
            have i0 : (0 : Int) ≤ (m : Int) := by omega
            have i1 : (m : Int) < (n2 : Int) := by omega
            have hge : decide ((0 : Int) ≤ (m : Int)) = true := by simp
            obtain ⟨g, o, rfl, hg2, hc⟩ := HVS.out _ (Below.refl _ _) (by rw [bl_len]; omega)
            have hcell := hc m (by rw [bl_len]; omega)
            rw [bl_get] at hcell
            clear hc
            by_cases h1' : i ≤ (m : Int)
            · have g1 : decide (i ≤ (m : Int)) = true := by simpa using h1'
              cases hpm : p m with
              | true =>
                rw [hpm] at hcell
                have HD2 := Lib.hid (down_yes (i := i) h1' hpm)
                clear hpm HD
                go_wp2
                go_roundw
                case rel => exact ⟨m, m, by go_num, by go_num, by omega, HD2, trivial⟩
                case measure => simp [intOf]
              | false =>
                rw [hpm] at hcell
                have HD2 := Lib.hid (down_no HD.out (fun h => by rw [hpm] at h; cases h.2))
                clear hpm HD
                go_wp2
                go_roundw
                case rel => exact ⟨m, y, by go_num, rfl, by omega, HD2, trivial⟩
                case measure => simp [intOf]
            · have g1 : decide (i ≤ (m : Int)) = false := by simpa using h1'
              have HD2 := Lib.hid (down_no HD.out (fun h => h1' h.1))
              clear HD
              go_wp2
              go_roundw
              case rel => exact ⟨m, y, by go_num, rfl, by omega, HD2, trivial⟩
              case measure => simp [intOf]
    · exact absurd hg hg'
  · have hr := rof_any size L w1 (HL.out _ b1)
    have HG := Lib.hid hg
    clear hg
    go_wp2_with fail
    refine hr.mono ?_
    rintro e w2 (⟨hg', _⟩ | ⟨_, rfl, b2⟩)
    · exact absurd hg' HG.out
    · have bb2 := b1.trans (b2.mono b1.size)
      by_cases hm : 200 < L.length
      · have hm' : decide ((200 : Int) < (L.length : Int)) = true := by simp; omega
        go_wp2_with fail
        refine (alive_any _ (HT.out _ bb2)).mono ?_
        rintro e w3 ⟨rfl, b3⟩
        go_wp2
        go_ret
        exact ⟨rfl, bb2.trans (b3.mono bb2.size)⟩
      · have hm' : decide ((200 : Int) < (L.length : Int)) = false := by simp; omega
        go_wp2_with fail
        refine (alive_any _ (HT.out _ bb2)).mono ?_
        rintro e w3 ⟨rfl, b3⟩
        go_wp2
        go_ret
        exact ⟨rfl, bb2.trans (b3.mono bb2.size)⟩
end Go.Proofs.YtkglaoagiifejaaDoor
