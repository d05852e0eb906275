/- TreePlays, walked. -/
import Derived.Test.YtiknelhfdcmkjaaH4
namespace Go.Proofs.Ytiknelhfdcmkjaa
open Go.RowKit

/-- An act: its kind, number, key, and which part stays. -/
abbrev ActT := Int × Int × Int × Bool
/-- A value that is a slice of these acts. -/
def Ss (w : World) (A : Option Addr) (S : List ActT) : Prop := 0 < S.length → ∃ g o, A = some ⟨g, o, none⟩ ∧ g < w.heap.size ∧
  ∀ k (hk : k < S.length), w.cell? ⟨g, o + k * 4, none⟩ = some (.int .i64 S[k].1) ∧ w.cell? ⟨g, o + k * 4 + 1, none⟩ = some (.int .i64 S[k].2.1) ∧ w.cell? ⟨g, o + k * 4 + 2, none⟩ = some (.int .u64 S[k].2.2.1) ∧ w.cell? ⟨g, o + k * 4 + 3, none⟩ = some (.bool S[k].2.2.2)
def IsS (w : World) (v : Value) (S : List ActT) : Prop := ∃ A c, v = .slice A S.length c ∧ S.length ≤ c ∧ c ≤ maxLen ∧ Ss w A S
theorem Ss.belows {w w' : World} {A : Option Addr} {S : List ActT} (h : Ss w A S) (hb : Below w.heap.size w w') : Ss w' A S := fun hn => by
  obtain ⟨g, o, e, hg, hc⟩ := h hn
  refine ⟨g, o, e, Nat.lt_of_lt_of_le hg hb.size, fun k hk => ?_⟩
  obtain ⟨h0, h1, h2, h3⟩ := hc k hk
  exact ⟨(hb.cell (p := ⟨g, _, none⟩) hg).trans h0, (hb.cell (p := ⟨g, _, none⟩) hg).trans h1, (hb.cell (p := ⟨g, _, none⟩) hg).trans h2, (hb.cell (p := ⟨g, _, none⟩) hg).trans h3⟩
theorem below_grown {w W W' : World} {Bh : Nat} (hb : Below w.heap.size w W) (hg : W.grownBy W' (some Bh)) (hB : w.heap.size ≤ Bh) : Below w.heap.size w W' := hb.grown hg hb.size fun k e => by cases e; exact hB
/-- The height is one. -/
theorem height_fix {v : Value} (L : List (Int × Int)) (w : World) (h : IsTree w v L) : ∃ h : Nat, h ≤ highN L.length ∧ (h = 0 ↔ L = []) ∧ ∀ W, Below w.heap.size w W → Calls Try.prog 12 #[v] W fun e w' => e = .returned (.int .i64 (h : Int)) ∧ W = w' := by
  rcases h with ⟨rfl, rfl⟩ | ⟨_, _, B, vn, t, rfl, ha, hi, he, hf⟩
  · refine ⟨0, Nat.zero_le _, by simp, fun W hW => ?_⟩
    have ht : Calls Try.prog 29 #[.pointer none] W fun e w' => e = .returned (.pointer none) ∧ W = w' := by
      go_enter Try.func29, Try.ntmps29
      go_wp2
      go_ret
      exact ⟨rfl, rfl⟩
    go_enter Try.func12, Try.ntmps12
    go_wp2_with (first | (go_at_call 29; refine ht.mono ?_; rintro e w1 ⟨rfl, rfl⟩) | (go_at_call 30; refine (high_any .nil _ rfl).mono ?_; rintro e w1 ⟨rfl, rfl⟩))
    go_ret
    exact ⟨rfl, rfl⟩
  · refine ⟨t.ht, by rw [← hf, Bt.flat_len]; exact t.low_high he, by rw [t.ht_zero, hf], fun W hW => ?_⟩
    obtain ⟨p, rfl⟩ := hi.ptr
    have c0 := ((ha.belows hW).cell 0).trans rfl
    have hi' := hi.belows hW
    have ht : Calls Try.prog 29 #[.pointer (some ⟨B, 0, none⟩)] W fun e w' => e = .returned (.pointer p) ∧ W = w' := by
      go_enter Try.func29, Try.ntmps29
      go_wp2
      go_ret
      exact ⟨rfl, rfl⟩
    clear c0
    go_enter Try.func12, Try.ntmps12
    go_wp2_with (first | (go_at_call 29; refine ht.mono ?_; rintro e w1 ⟨rfl, rfl⟩) | (go_at_call 30; refine (high_any t _ hi').mono ?_; rintro e w1 ⟨rfl, rfl⟩))
    go_ret
    exact ⟨rfl, rfl⟩
/-- A new held tree. -/
theorem hd_new {w : World} {B : Nat} (ht : IsTree1 w (.pointer (some ⟨B, 0, none⟩)) []) : Hd (w.alloc (.cells #[.pointer (some ⟨B, 0, none⟩), .slice none 0 0] 28)) w.heap.size [] :=
  ⟨B, none, 0, 0, At.new _ _ _, ht.belows ((Below.refl _ w).alloc (Nat.le_refl _) _), ⟨none, 0, rfl, Nat.le_refl _, by simp, Ps.nil _ _⟩⟩
set_option maxRecDepth 100000 in
set_option maxHeartbeats 4000000 in
theorem treePlays_walk {v : Value} (S : List ActT) (w : World) (hs : IsS w v S) : Calls Try.prog 3 #[v] w fun e w' => e = .returned (.bool true) ∧ Below w.heap.size w w' := by
  obtain ⟨A, c, rfl, n1, m1, z1⟩ := hs
  simp only [maxLen] at m1
  have HS : Hid (∀ W, Below w.heap.size w W → Ss W A S) := Lib.hid fun W hW => z1.belows hW
  clear z1
  go_enter Try.func3, Try.ntmps3
  go_wp2_with fail
  refine (new_any w).mono ?_
  rintro e w1 ⟨v1, rfl, t1, b1⟩
  obtain ⟨B1, rfl⟩ := t1.ptr
  have HD0 := Lib.hid (hd_new t1)
  have HB0 := Lib.hid (b1.alloc b1.size (.cells #[.pointer (some ⟨B1, 0, none⟩), .slice none 0 0] 28))
  have hbs := b1.size
  clear t1 b1
  go_wp2_with fail
  go_loopw [4] (fun i wr => ∃ j : Nat, i = .int .i64 j ∧ j ≤ S.length ∧ j ≤ 120 ∧ Hid (∃ L, Hd wr w1.heap.size L ∧ Below w.heap.size w wr)) (fun i _ => 120 - (intOf i).toNat)
  case atStart => exact ⟨0, rfl, by omega, by omega, Lib.hid ⟨[], HD0.out, HB0.out⟩⟩
  case round =>
    obtain ⟨j, rfl, hj, hj2, HI⟩ := hrel
    obtain ⟨L, hd, hb⟩ := HI.out
    have HB := Lib.hid hb
    clear HI HD0 HB0
    by_cases hlt : j < S.length ∧ j < 120
    · obtain ⟨hl, h120⟩ := hlt
      obtain ⟨g, o, eA, hg, hc⟩ := HS.out _ HB.out (by omega)
      subst eA
      obtain ⟨q0, q1, q2, q3⟩ := hc j hl
      clear hc hg hb
      generalize S[j] = a at q0 q1 q2 q3
      have i1 : (j : Int) < (S.length : Int) := by omega
      go_wp2_with fail
      refine (do_any w1.heap.size a.1 a.2.1 a.2.2.1 a.2.2.2 L wr hd).mono ?_
      rintro e w2 ⟨rfl, L2, h2, g2⟩
      have HB2 := Lib.hid (below_grown HB.out g2 hbs)
      clear q0 q1 q2 q3 hd g2 HB
      obtain ⟨B2, A2, n2, c2, hA2, ht2, hp2⟩ := h2
      obtain rfl := hp2.len
      have hup := Lib.hid ht2.any.up
      obtain ⟨h, hh1, hh2, hh3⟩ := height_fix L2 w2 ht2.any
      have HH := Lib.hid hh3
      have HT : Hid (∀ W, Below w2.heap.size w2 W → IsTree1 W (.pointer (some ⟨B2, 0, none⟩)) L2) := Lib.hid fun W hW => ht2.belows hW
      have HP : Hid (∀ W, Below w2.heap.size w2 W → IsP W (.slice A2 L2.length c2) L2) := Lib.hid fun W hW => hp2.belows hW
      have HA : Hid (∀ W, Below w2.heap.size w2 W → At W w1.heap.size #[.pointer (some ⟨B2, 0, none⟩), .slice A2 L2.length c2] 28) := Lib.hid fun W hW => hA2.belows hW
      have KS : Hid (∀ W, Below w2.heap.size w2 W → W.cell? ⟨w1.heap.size, 0, none⟩ = some (.pointer (some ⟨B2, 0, none⟩)) ∧ W.cell? ⟨w1.heap.size, 1, none⟩ = some (.slice A2 L2.length c2)) := Lib.hid fun W hW => ⟨((hA2.belows hW).cell 0).trans rfl, ((hA2.belows hW).cell 1).trans rfl⟩
      clear hA2 ht2 hp2 hh3
      have hb1 := Below.refl w2.heap.size w2
      obtain ⟨q0, q1⟩ := KS.out w2 hb1
      go_wp2_with fail
      go_region_held3 (fun W => W.cell? ⟨w1.heap.size, 0, none⟩ = some (.pointer (some ⟨B2, 0, none⟩)) ∧ W.cell? ⟨w1.heap.size, 1, none⟩ = some (.slice A2 L2.length c2)) (first | exact KS.out _ bb3 | exact KS.out _ hb1.drew | exact KS.out _ hb1) (first
        | (go_at_call 11; refine (same_any L2 _ (HT.out _ (by first | exact hb1.drew | exact hb1)).any (HP.out _ (by first | exact hb1.drew | exact hb1))).mono ?_; rintro e w3 ⟨rfl, b3⟩; have bb3 : Below w2.heap.size w2 w3 := (by first | exact hb1.drew.trans (b3.mono hb1.size))))
      rename_i hHeld
      clear hHeld q0 q1 hb1
      obtain ⟨q0, q1⟩ := KS.out _ bb3
      have hlen := hup.out.2
      have dh : decide (highN L2.length < h) = false := by simp; omega
      have dh' : decide ((highN L2.length : Int) < (h : Int)) = false := by simp; omega
      have HHI : Hid (∀ W : World, Calls Try.prog 13 #[.int .i64 (L2.length : Int)] W fun e w' => e = .returned (.int .i64 (highN L2.length : Int)) ∧ W = w') := Lib.hid fun W => rhigh_any L2.length W (by omega)
      have dz : ((h : Int) == 0) = ((L2.length : Int) == 0) := by
        rw [Bool.eq_iff_iff]
        simp only [beq_iff_eq]
        constructor
        · intro e; have := hh2.1 (by omega); rw [this]; rfl
        · intro e; have : L2 = [] := List.eq_nil_of_length_eq_zero (by omega); have := hh2.2 this; omega
      clear hh1 hh2
      obtain ⟨bz, hz1⟩ : ∃ bz, ((L2.length : Int) == 0) = bz := ⟨_, rfl⟩
      rw [hz1] at dz
      have dn : (bz != bz) = false := by cases bz <;> rfl
      generalize highN L2.length = hi at dh dh' HHI
      have HBB := Lib.hid bb3
      have HH3 : Hid (∀ q, Calls Try.prog 12 #[.pointer (some ⟨B2, 0, none⟩)] (w3.drewN q) fun e w' => e = .returned (.int .i64 (h : Int)) ∧ (w3.drewN q) = w') := Lib.hid fun q => HH.out _ (bdrewN HBB.out q)
      clear bb3 b3
      go_wp2_with fail
      go_quiet (first
        | (go_at_call 12; exact Calls.quiet_of_same (same_of (HH3.out _)))
        | (go_at_call 13; exact Calls.quiet_of_same (same_of (HHI.out _))))
      go_wp2
      go_roundw
      case rel => exact ⟨j + 1, by go_num, by omega, by omega, Lib.hid ⟨L2, ⟨B2, A2, L2.length, c2, HA.out _ (bdrewN HBB.out _), HT.out _ (bdrewN HBB.out _), HP.out _ (bdrewN HBB.out _)⟩, HB2.out.trans ((bdrewN HBB.out _).mono HB2.out.size)⟩⟩
      case measure => simp [intOf]; omega
    · by_cases hl : j < S.length
      · have h120 : ¬ j < 120 := fun e => hlt ⟨hl, e⟩
        have d120 : decide ((j : Int) < 120) = false := by simp; omega
        have i1 : (j : Int) < (S.length : Int) := by omega
        clear hlt hb
        go_wp2_with (go_at_call 14; refine (alive_any _).mono ?_; rintro e w2 ⟨rfl, b2⟩)
        go_ret
        exact ⟨rfl, HB.out.trans (b2.mono HB.out.size)⟩
      · have dl : decide (j < S.length) = false := by simpa using hl
        have dl' : decide ((j : Int) < (S.length : Int)) = false := by simp; omega
        clear hlt hb
        go_wp2_with (go_at_call 14; refine (alive_any _).mono ?_; rintro e w2 ⟨rfl, b2⟩)
        go_ret
        exact ⟨rfl, HB.out.trans (b2.mono HB.out.size)⟩
end Go.Proofs.Ytiknelhfdcmkjaa
