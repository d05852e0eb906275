/- PrefixBack's walk. -/
import Derived.Test.YtojdnfhklmfjmaaDoorA1
namespace Go.Proofs.YtojdnfhklmfjmaaDoor
open Go.RowKit

theorem pref_back {a k : Nat} (ha : a < 4294967296) (hk : k ≤ 32) (hm : a % sz k = 0) : prefOf (prefT a k) = some (a, k) := by
  have hP : partsL 47 (prefT a k) = addrT a :: partsL 47 (Lib.decDigits k) := by
    unfold prefT
    refine parts_cut _ (fun h => ?_)
    rcases addr_chars (addr_back a ha) 47 h with h | h <;> revert h <;> decide
  rw [pf_yes hP (addr_back a ha) (numOf_dd hk), if_pos (rightB_mk hk hm)]
theorem rng_back {f t : Nat} (hft : f ≤ t) (ht : t < 4294967296) : rangeOf (rngT f t) = some (f, t) := by
  rw [rg_cut (l := rngT f t) (p := addrT f) (q := addrT t) rfl (no45a (addr_back f (by omega))), addr_back f (by omega), addr_back t ht]
  simp [hft]
theorem rngT_len (f t : Nat) : (rngT f t).length ≤ 31 := by have := addrT_len f; have := addrT_len t; unfold rngT; simp; omega
theorem prefT_len (a k : Nat) (hk : k ≤ 32) : (prefT a k).length ≤ 31 := by have := addrT_len a; have := dd_le3 (b := k) (by omega); unfold prefT; simp; omega

set_option maxRecDepth 100000 in
set_option maxHeartbeats 4000000 in
theorem back_1 (a f t : Nat) (k : Nat) (hk : k ≤ 32) (hm : a % sz k = 0) (w : World) (hT : Tb w) (ha : a < 4294967296) (ht : t < 4294967296) (hft : f ≤ t) :
    Calls Tryd.prog 7 #[.agg #[.int .u32 a, .int .i64 k], .agg #[.int .u32 f, .int .u32 t]] w fun e w' => e = .returned (.bool true) ∧ Below w.heap.size w w' := by
  have HT := Lib.hid hT
  have hr := rightB_mk hk hm
  obtain ⟨A, hA⟩ : ∃ A, A = (⟨(addrT a).toArray⟩ : ByteArray) := ⟨_, rfl⟩
  have k18 : ∀ u : World, Tb u → Calls Tryd.prog 18 #[.int .u32 a] u fun e w' => e = .returned (.string A) ∧ Below u.heap.size u w' := fun u hu => by rw [hA]; exact addr_any a u ha hu
  have k24 : ∀ u : World, Calls Tryd.prog 24 #[.string A] u fun e w' => e = .returned (.tuple #[.int .u32 a, .int .i64 0]) ∧ Below u.heap.size u w' := fun u => by
    rw [hA]; exact pad_some _ u rfl (by rw [str_len]; have := addrT_len a; omega) (addr_back a ha)
  obtain ⟨C, hC⟩ : ∃ C, C = (⟨(rngT f t).toArray⟩ : ByteArray) := ⟨_, rfl⟩
  have k22 : ∀ u : World, Tb u → Calls Tryd.prog 22 #[.agg #[.int .u32 f, .int .u32 t]] u fun e w' => e = .returned (.string C) ∧ Below u.heap.size u w' := fun u hu => by rw [hC]; exact rtext_any f t u hft ht hu
  have k28 : ∀ u : World, Calls Tryd.prog 28 #[.string C] u fun e w' => e = .returned (.tuple #[.agg #[.int .u32 f, .int .u32 t], .int .i64 0]) ∧ Below u.heap.size u w' := fun u => by
    have h := parseRange_any C u (by rw [hC, str_len]; have := rngT_len f t; omega)
    rw [hC, str_mk, prV_some (rng_back hft ht)] at h
    rw [hC]; exact h
  have dft : decide (f ≤ t) = true := by simpa using hft
  obtain ⟨B, hB⟩ : ∃ B, B = (⟨(prefT a k).toArray⟩ : ByteArray) := ⟨_, rfl⟩
  obtain ⟨m, hmm⟩ : ∃ m, a + (sz k - 1) = m := ⟨_, rfl⟩
  have lm : m < 4294967296 := by have := last_lt ha hm; have := sz_pos k; omega
  have hisP : isP a m k := ⟨hk, hm, by have := sz_pos k; omega⟩
  have k20 : ∀ u : World, Tb u → Calls Tryd.prog 20 #[.agg #[.int .u32 a, .int .i64 k]] u fun e w' => e = .returned (.string B) ∧ Below u.heap.size u w' := fun u hu => by rw [hB]; exact text_any a k u ha hk hm hu
  have k26 : ∀ u : World, Calls Tryd.prog 26 #[.string B] u fun e w' => e = .returned (.tuple #[.agg #[.int .u32 a, .int .i64 k], .int .i64 0]) ∧ Below u.heap.size u w' := fun u => by
    have h := parse_any B u (by rw [hB, str_len]; have := prefT_len a k hk; omega)
    rw [hB, str_mk, ppV_some (pref_back ha hk hm)] at h
    rw [hB]; exact h
  have k9 : ∀ u : World, Calls Tryd.prog 9 #[.agg #[.int .u32 a, .int .i64 k]] u fun e w' => e = .returned (.tuple #[.agg #[.int .u32 a, .int .u32 m], .int .i64 0]) ∧ Below u.heap.size u w' := fun u => by rw [← hmm]; exact range_yes a k u ha hk hm
  have k28b : ∀ u : World, Calls Tryd.prog 28 #[.string B] u fun e w' => e = .returned (.tuple #[.agg #[.int .u32 a, .int .u32 m], .int .i64 0]) ∧ Below u.heap.size u w' := fun u => by
    have h := parseRange_any B u (by rw [hB, str_len]; have := prefT_len a k hk; omega)
    rw [hB, str_mk, prV_some (rg_pref (pref_back ha hk hm)), hmm] at h
    rw [hB]; exact h
  have k13 : ∀ u : World, Calls Tryd.prog 13 #[.agg #[.int .u32 a, .int .u32 m]] u fun e w' => e = .returned (.tuple #[.agg #[.int .u32 a, .int .i64 k], .bool true]) ∧ Below u.heap.size u w' := fun u => of_yes a m k u ha lm hisP
  clear hT hA hC hB hmm lm hisP hk hm
  go_enter Tryd.func7, Tryd.ntmps7
  go_wp2_with fail
  have P0 := (At.new w #[.int .u32 a, .int .i64 k] 24).alloc (.cells #[.int .u32 f, .int .u32 t] 26)
  have R0 := At.new1 w (.cells #[.int .u32 a, .int .i64 k] 24) #[.int .u32 f, .int .u32 t] 26
  have B0 : Below w.heap.size w ((w.alloc (.cells #[.int .u32 a, .int .i64 k] 24)).alloc (.cells #[.int .u32 f, .int .u32 t] 26)) := ((Below.refl _ w).alloc (Nat.le_refl _) _).alloc (by simp) _
  refine (k18 _ (HT.out.below B0)).mono ?_
  rintro e w1 ⟨rfl, b1⟩
  have P1 := P0.belows b1
  have R1 := R0.belows b1
  have B1 : Below w.heap.size w w1 := B0.trans (b1.mono B0.size)
  clear b1 P0 R0 B0
  go_wp2_with fail
  refine (k24 _).mono ?_
  rintro e w2 ⟨rfl, b2⟩
  have P2 := P1.belows b2
  have R2 := R1.belows b2
  have B2 : Below w.heap.size w w2 := B1.trans (b2.mono B1.size)
  have z2 : w.heap.size + 1 < w2.heap.size := R2.lt
  have p0 : w2.cell? ⟨w.heap.size, 0, none⟩ = some (.int .u32 a) := (P2.cell 0).trans rfl
  have p1 : w2.cell? ⟨w.heap.size, 1, none⟩ = some (.int .i64 k) := (P2.cell 1).trans rfl
  have r0 : w2.cell? ⟨w.heap.size + 1, 0, none⟩ = some (.int .u32 f) := (R2.cell 0).trans rfl
  have r1 : w2.cell? ⟨w.heap.size + 1, 1, none⟩ = some (.int .u32 t) := (R2.cell 1).trans rfl
  clear b2 P1 R1 B1
  go_wp2_with fail
  refine (k22 _ (HT.out.below B2)).mono ?_
  rintro e w3 ⟨rfl, b3⟩
  have P3 := P2.belows b3
  have R3 := R2.belows b3
  have B3 : Below w.heap.size w w3 := B2.trans (b3.mono B2.size)
  clear b3 P2 R2 B2 p0 p1 r0 r1 z2
  go_wp2_with fail
  refine (k28 _).mono ?_
  rintro e w4 ⟨rfl, b4⟩
  have P4 := (P3.belows b4).alloc (.cells #[.int .u32 f, .int .u32 t] 26)
  have R4 := (R3.belows b4).alloc (.cells #[.int .u32 f, .int .u32 t] 26)
  have B4' : Below w.heap.size w w4 := B3.trans (b4.mono B3.size)
  have B4 := B4'.alloc B4'.size (.cells #[.int .u32 f, .int .u32 t] 26)
  have z4 : w.heap.size + 1 < w4.heap.size := (R3.belows b4).lt
  have z4' : w.heap.size < w4.heap.size := (P3.belows b4).lt
  have p0 : w4.cell? ⟨w.heap.size, 0, none⟩ = some (.int .u32 a) := ((P3.belows b4).cell 0).trans rfl
  have p1 : w4.cell? ⟨w.heap.size, 1, none⟩ = some (.int .i64 k) := ((P3.belows b4).cell 1).trans rfl
  have r0 : w4.cell? ⟨w.heap.size + 1, 0, none⟩ = some (.int .u32 f) := ((R3.belows b4).cell 0).trans rfl
  have r1 : w4.cell? ⟨w.heap.size + 1, 1, none⟩ = some (.int .u32 t) := ((R3.belows b4).cell 1).trans rfl
  clear b4 P3 R3 B3
  go_wp2_with fail
  refine (right_any a (k : Nat) _ ha).mono ?_
  rw [hr]
  rintro e w5 ⟨rfl, b5⟩
  have P5 := P4.belows b5
  have B5 : Below w.heap.size w w5 := B4.trans (b5.mono B4.size)
  clear b5 P4 R4 p0 p1 r0 r1
  have p0 : w5.cell? ⟨w.heap.size, 0, none⟩ = some (.int .u32 a) := (P5.cell 0).trans rfl
  have p1 : w5.cell? ⟨w.heap.size, 1, none⟩ = some (.int .i64 k) := (P5.cell 1).trans rfl
  go_wp2_with fail
  refine (k20 _ (HT.out.below B5)).mono ?_
  rintro e w6 ⟨rfl, b6⟩
  have P6 := P5.belows b6
  have B6 : Below w.heap.size w w6 := B5.trans (b6.mono B5.size)
  clear b6 P5 B5 p0 p1
  go_wp2_with fail
  refine (k26 _).mono ?_
  rintro e w7 ⟨rfl, b7⟩
  have P7 := P6.belows b7
  have B7 : Below w.heap.size w w7 := B6.trans (b7.mono B6.size)
  have z7 : w.heap.size < w7.heap.size := P7.lt
  have p0 : w7.cell? ⟨w.heap.size, 0, none⟩ = some (.int .u32 a) := (P7.cell 0).trans rfl
  have p1 : w7.cell? ⟨w.heap.size, 1, none⟩ = some (.int .i64 k) := (P7.cell 1).trans rfl
  clear b7 P6 B6
  go_wp2_with fail
  refine (k9 _).mono ?_
  rintro e w8 ⟨rfl, b8⟩
  have P8 := (P7.alloc (.cells #[.int .u32 a, .int .i64 k] 24)).belows b8
  have Q8 := (At.new w7 #[.int .u32 a, .int .i64 k] 24).belows b8
  have B8 : Below w.heap.size w w8 := (B7.alloc B7.size _).trans (b8.mono (by simp; omega))
  have z8 : w.heap.size < w8.heap.size := P8.lt
  clear b8 P7 B7 p0 p1
  have p0 : w8.cell? ⟨w.heap.size, 0, none⟩ = some (.int .u32 a) := (P8.cell 0).trans rfl
  have p1 : w8.cell? ⟨w.heap.size, 1, none⟩ = some (.int .i64 k) := (P8.cell 1).trans rfl
  go_wp2_with fail
  refine (k20 _ (HT.out.below (B8.alloc B8.size _))).mono ?_
  rintro e w9 ⟨rfl, b9⟩
  have P9 := (P8.alloc (.cells #[.int .u32 a, .int .u32 m] 26)).belows b9
  have Q9 := (Q8.alloc (.cells #[.int .u32 a, .int .u32 m] 26)).belows b9
  have Y9 := (At.new w8 #[.int .u32 a, .int .u32 m] 26).belows b9
  have B9 : Below w.heap.size w w9 := (B8.alloc B8.size _).trans (b9.mono (by simp; omega))
  clear b9 P8 Q8 B8 p0 p1
  go_wp2_with fail
  refine (k28b _).mono ?_
  rintro e w10 ⟨rfl, b10⟩
  have P10 := P9.belows b10
  have Q10 := Q9.belows b10
  have Y10 := Y9.belows b10
  have B10 : Below w.heap.size w w10 := B9.trans (b10.mono B9.size)
  have z10 : w8.heap.size < w10.heap.size := Y10.lt
  have y0 : w10.cell? ⟨w8.heap.size, 0, none⟩ = some (.int .u32 a) := (Y10.cell 0).trans rfl
  have y1 : w10.cell? ⟨w8.heap.size, 1, none⟩ = some (.int .u32 m) := (Y10.cell 1).trans rfl
  clear b10 P9 Q9 Y9 B9
  go_wp2_with fail
  refine (k13 _).mono ?_
  rintro e w11 ⟨rfl, b11⟩
  have P11 := ((P10.alloc (.cells #[.int .u32 a, .int .u32 m] 26)).belows b11).alloc (.cells #[.int .u32 a, .int .i64 k] 24)
  have Q11 := ((Q10.alloc (.cells #[.int .u32 a, .int .u32 m] 26)).belows b11).alloc (.cells #[.int .u32 a, .int .i64 k] 24)
  have Y11 := ((Y10.alloc (.cells #[.int .u32 a, .int .u32 m] 26)).belows b11).alloc (.cells #[.int .u32 a, .int .i64 k] 24)
  have Z11 := ((At.new w10 #[.int .u32 a, .int .u32 m] 26).belows b11).alloc (.cells #[.int .u32 a, .int .i64 k] 24)
  have O11 := At.new w11 #[.int .u32 a, .int .i64 k] 24
  have B11' : Below w.heap.size w w11 := (B10.alloc B10.size _).trans (b11.mono (by simp; have := B10.size; omega))
  have B11 := B11'.alloc B11'.size (.cells #[.int .u32 a, .int .i64 k] 24)
  clear b11 P10 Q10 Y10 y0 y1
  go_wp2_with fail
  refine (alive_any _ (HT.out.below B11)).mono ?_
  rintro e w12 ⟨rfl, b12⟩
  have P := P11.belows b12
  have Q := Q11.belows b12
  have Y := Y11.belows b12
  have Z := Z11.belows b12
  have O := O11.belows b12
  have p0 : w12.cell? ⟨w.heap.size, 0, none⟩ = some (.int .u32 a) := (P.cell 0).trans rfl
  have p1 : w12.cell? ⟨w.heap.size, 1, none⟩ = some (.int .i64 k) := (P.cell 1).trans rfl
  have q0 : w12.cell? ⟨w7.heap.size, 0, none⟩ = some (.int .u32 a) := (Q.cell 0).trans rfl
  have q1 : w12.cell? ⟨w7.heap.size, 1, none⟩ = some (.int .i64 k) := (Q.cell 1).trans rfl
  have y0 : w12.cell? ⟨w8.heap.size, 0, none⟩ = some (.int .u32 a) := (Y.cell 0).trans rfl
  have y1 : w12.cell? ⟨w8.heap.size, 1, none⟩ = some (.int .u32 m) := (Y.cell 1).trans rfl
  have s0 : w12.cell? ⟨w10.heap.size, 0, none⟩ = some (.int .u32 a) := (Z.cell 0).trans rfl
  have s1 : w12.cell? ⟨w10.heap.size, 1, none⟩ = some (.int .u32 m) := (Z.cell 1).trans rfl
  have o0 : w12.cell? ⟨w11.heap.size, 0, none⟩ = some (.int .u32 a) := (O.cell 0).trans rfl
  have o1 : w12.cell? ⟨w11.heap.size, 1, none⟩ = some (.int .i64 k) := (O.cell 1).trans rfl
  clear P Q Y Z O P11 Q11 Y11 Z11 O11
  go_wp2
  go_ret
  exact ⟨rfl, B11.trans (b12.mono B11.size)⟩
set_option maxRecDepth 100000 in
set_option maxHeartbeats 4000000 in
theorem back_2 (a f t : Nat) (k : Nat) (hk : k ≤ 32) (hm : a % sz k = 0) (w : World) (hT : Tb w) (ha : a < 4294967296) (ht : t < 4294967296) (hft : t < f) :
    Calls Tryd.prog 7 #[.agg #[.int .u32 a, .int .i64 k], .agg #[.int .u32 f, .int .u32 t]] w fun e w' => e = .returned (.bool true) ∧ Below w.heap.size w w' := by
  have HT := Lib.hid hT
  have hr := rightB_mk hk hm
  obtain ⟨A, hA⟩ : ∃ A, A = (⟨(addrT a).toArray⟩ : ByteArray) := ⟨_, rfl⟩
  have k18 : ∀ u : World, Tb u → Calls Tryd.prog 18 #[.int .u32 a] u fun e w' => e = .returned (.string A) ∧ Below u.heap.size u w' := fun u hu => by rw [hA]; exact addr_any a u ha hu
  have k24 : ∀ u : World, Calls Tryd.prog 24 #[.string A] u fun e w' => e = .returned (.tuple #[.int .u32 a, .int .i64 0]) ∧ Below u.heap.size u w' := fun u => by
    rw [hA]; exact pad_some _ u rfl (by rw [str_len]; have := addrT_len a; omega) (addr_back a ha)
  have dft : decide (f ≤ t) = false := by simpa using hft
  obtain ⟨B, hB⟩ : ∃ B, B = (⟨(prefT a k).toArray⟩ : ByteArray) := ⟨_, rfl⟩
  obtain ⟨m, hmm⟩ : ∃ m, a + (sz k - 1) = m := ⟨_, rfl⟩
  have lm : m < 4294967296 := by have := last_lt ha hm; have := sz_pos k; omega
  have hisP : isP a m k := ⟨hk, hm, by have := sz_pos k; omega⟩
  have k20 : ∀ u : World, Tb u → Calls Tryd.prog 20 #[.agg #[.int .u32 a, .int .i64 k]] u fun e w' => e = .returned (.string B) ∧ Below u.heap.size u w' := fun u hu => by rw [hB]; exact text_any a k u ha hk hm hu
  have k26 : ∀ u : World, Calls Tryd.prog 26 #[.string B] u fun e w' => e = .returned (.tuple #[.agg #[.int .u32 a, .int .i64 k], .int .i64 0]) ∧ Below u.heap.size u w' := fun u => by
    have h := parse_any B u (by rw [hB, str_len]; have := prefT_len a k hk; omega)
    rw [hB, str_mk, ppV_some (pref_back ha hk hm)] at h
    rw [hB]; exact h
  have k9 : ∀ u : World, Calls Tryd.prog 9 #[.agg #[.int .u32 a, .int .i64 k]] u fun e w' => e = .returned (.tuple #[.agg #[.int .u32 a, .int .u32 m], .int .i64 0]) ∧ Below u.heap.size u w' := fun u => by rw [← hmm]; exact range_yes a k u ha hk hm
  have k28b : ∀ u : World, Calls Tryd.prog 28 #[.string B] u fun e w' => e = .returned (.tuple #[.agg #[.int .u32 a, .int .u32 m], .int .i64 0]) ∧ Below u.heap.size u w' := fun u => by
    have h := parseRange_any B u (by rw [hB, str_len]; have := prefT_len a k hk; omega)
    rw [hB, str_mk, prV_some (rg_pref (pref_back ha hk hm)), hmm] at h
    rw [hB]; exact h
  have k13 : ∀ u : World, Calls Tryd.prog 13 #[.agg #[.int .u32 a, .int .u32 m]] u fun e w' => e = .returned (.tuple #[.agg #[.int .u32 a, .int .i64 k], .bool true]) ∧ Below u.heap.size u w' := fun u => of_yes a m k u ha lm hisP
  clear hT hA hB hmm lm hisP hk hm
  go_enter Tryd.func7, Tryd.ntmps7
  go_wp2_with fail
  have P0 := (At.new w #[.int .u32 a, .int .i64 k] 24).alloc (.cells #[.int .u32 f, .int .u32 t] 26)
  have R0 := At.new1 w (.cells #[.int .u32 a, .int .i64 k] 24) #[.int .u32 f, .int .u32 t] 26
  have B0 : Below w.heap.size w ((w.alloc (.cells #[.int .u32 a, .int .i64 k] 24)).alloc (.cells #[.int .u32 f, .int .u32 t] 26)) := ((Below.refl _ w).alloc (Nat.le_refl _) _).alloc (by simp) _
  refine (k18 _ (HT.out.below B0)).mono ?_
  rintro e w1 ⟨rfl, b1⟩
  have P1 := P0.belows b1
  have R1 := R0.belows b1
  have B1 : Below w.heap.size w w1 := B0.trans (b1.mono B0.size)
  clear b1 P0 R0 B0
  go_wp2_with fail
  refine (k24 _).mono ?_
  rintro e w2 ⟨rfl, b2⟩
  have P2 := P1.belows b2
  have R2 := R1.belows b2
  have B2 : Below w.heap.size w w2 := B1.trans (b2.mono B1.size)
  have z2 : w.heap.size + 1 < w2.heap.size := R2.lt
  have p0 : w2.cell? ⟨w.heap.size, 0, none⟩ = some (.int .u32 a) := (P2.cell 0).trans rfl
  have p1 : w2.cell? ⟨w.heap.size, 1, none⟩ = some (.int .i64 k) := (P2.cell 1).trans rfl
  have r0 : w2.cell? ⟨w.heap.size + 1, 0, none⟩ = some (.int .u32 f) := (R2.cell 0).trans rfl
  have r1 : w2.cell? ⟨w.heap.size + 1, 1, none⟩ = some (.int .u32 t) := (R2.cell 1).trans rfl
  clear b2 P1 R1 B1
  go_wp2_with fail
  refine (right_any a (k : Nat) _ ha).mono ?_
  rw [hr]
  rintro e w5 ⟨rfl, b5⟩
  have P5 := P2.belows b5
  have B5 : Below w.heap.size w w5 := B2.trans (b5.mono B2.size)
  clear b5 P2 R2 p0 p1 r0 r1
  have p0 : w5.cell? ⟨w.heap.size, 0, none⟩ = some (.int .u32 a) := (P5.cell 0).trans rfl
  have p1 : w5.cell? ⟨w.heap.size, 1, none⟩ = some (.int .i64 k) := (P5.cell 1).trans rfl
  go_wp2_with fail
  refine (k20 _ (HT.out.below B5)).mono ?_
  rintro e w6 ⟨rfl, b6⟩
  have P6 := P5.belows b6
  have B6 : Below w.heap.size w w6 := B5.trans (b6.mono B5.size)
  clear b6 P5 B5 p0 p1
  go_wp2_with fail
  refine (k26 _).mono ?_
  rintro e w7 ⟨rfl, b7⟩
  have P7 := P6.belows b7
  have B7 : Below w.heap.size w w7 := B6.trans (b7.mono B6.size)
  have z7 : w.heap.size < w7.heap.size := P7.lt
  have p0 : w7.cell? ⟨w.heap.size, 0, none⟩ = some (.int .u32 a) := (P7.cell 0).trans rfl
  have p1 : w7.cell? ⟨w.heap.size, 1, none⟩ = some (.int .i64 k) := (P7.cell 1).trans rfl
  clear b7 P6 B6
  go_wp2_with fail
  refine (k9 _).mono ?_
  rintro e w8 ⟨rfl, b8⟩
  have P8 := (P7.alloc (.cells #[.int .u32 a, .int .i64 k] 24)).belows b8
  have Q8 := (At.new w7 #[.int .u32 a, .int .i64 k] 24).belows b8
  have B8 : Below w.heap.size w w8 := (B7.alloc B7.size _).trans (b8.mono (by simp; omega))
  have z8 : w.heap.size < w8.heap.size := P8.lt
  clear b8 P7 B7 p0 p1
  have p0 : w8.cell? ⟨w.heap.size, 0, none⟩ = some (.int .u32 a) := (P8.cell 0).trans rfl
  have p1 : w8.cell? ⟨w.heap.size, 1, none⟩ = some (.int .i64 k) := (P8.cell 1).trans rfl
  go_wp2_with fail
  refine (k20 _ (HT.out.below (B8.alloc B8.size _))).mono ?_
  rintro e w9 ⟨rfl, b9⟩
  have P9 := (P8.alloc (.cells #[.int .u32 a, .int .u32 m] 26)).belows b9
  have Q9 := (Q8.alloc (.cells #[.int .u32 a, .int .u32 m] 26)).belows b9
  have Y9 := (At.new w8 #[.int .u32 a, .int .u32 m] 26).belows b9
  have B9 : Below w.heap.size w w9 := (B8.alloc B8.size _).trans (b9.mono (by simp; omega))
  clear b9 P8 Q8 B8 p0 p1
  go_wp2_with fail
  refine (k28b _).mono ?_
  rintro e w10 ⟨rfl, b10⟩
  have P10 := P9.belows b10
  have Q10 := Q9.belows b10
  have Y10 := Y9.belows b10
  have B10 : Below w.heap.size w w10 := B9.trans (b10.mono B9.size)
  have z10 : w8.heap.size < w10.heap.size := Y10.lt
  have y0 : w10.cell? ⟨w8.heap.size, 0, none⟩ = some (.int .u32 a) := (Y10.cell 0).trans rfl
  have y1 : w10.cell? ⟨w8.heap.size, 1, none⟩ = some (.int .u32 m) := (Y10.cell 1).trans rfl
  clear b10 P9 Q9 Y9 B9
  go_wp2_with fail
  refine (k13 _).mono ?_
  rintro e w11 ⟨rfl, b11⟩
  have P11 := ((P10.alloc (.cells #[.int .u32 a, .int .u32 m] 26)).belows b11).alloc (.cells #[.int .u32 a, .int .i64 k] 24)
  have Q11 := ((Q10.alloc (.cells #[.int .u32 a, .int .u32 m] 26)).belows b11).alloc (.cells #[.int .u32 a, .int .i64 k] 24)
  have Y11 := ((Y10.alloc (.cells #[.int .u32 a, .int .u32 m] 26)).belows b11).alloc (.cells #[.int .u32 a, .int .i64 k] 24)
  have Z11 := ((At.new w10 #[.int .u32 a, .int .u32 m] 26).belows b11).alloc (.cells #[.int .u32 a, .int .i64 k] 24)
  have O11 := At.new w11 #[.int .u32 a, .int .i64 k] 24
  have B11' : Below w.heap.size w w11 := (B10.alloc B10.size _).trans (b11.mono (by simp; have := B10.size; omega))
  have B11 := B11'.alloc B11'.size (.cells #[.int .u32 a, .int .i64 k] 24)
  clear b11 P10 Q10 Y10 y0 y1
  go_wp2_with fail
  refine (alive_any _ (HT.out.below B11)).mono ?_
  rintro e w12 ⟨rfl, b12⟩
  have P := P11.belows b12
  have Q := Q11.belows b12
  have Y := Y11.belows b12
  have Z := Z11.belows b12
  have O := O11.belows b12
  have p0 : w12.cell? ⟨w.heap.size, 0, none⟩ = some (.int .u32 a) := (P.cell 0).trans rfl
  have p1 : w12.cell? ⟨w.heap.size, 1, none⟩ = some (.int .i64 k) := (P.cell 1).trans rfl
  have q0 : w12.cell? ⟨w7.heap.size, 0, none⟩ = some (.int .u32 a) := (Q.cell 0).trans rfl
  have q1 : w12.cell? ⟨w7.heap.size, 1, none⟩ = some (.int .i64 k) := (Q.cell 1).trans rfl
  have y0 : w12.cell? ⟨w8.heap.size, 0, none⟩ = some (.int .u32 a) := (Y.cell 0).trans rfl
  have y1 : w12.cell? ⟨w8.heap.size, 1, none⟩ = some (.int .u32 m) := (Y.cell 1).trans rfl
  have s0 : w12.cell? ⟨w10.heap.size, 0, none⟩ = some (.int .u32 a) := (Z.cell 0).trans rfl
  have s1 : w12.cell? ⟨w10.heap.size, 1, none⟩ = some (.int .u32 m) := (Z.cell 1).trans rfl
  have o0 : w12.cell? ⟨w11.heap.size, 0, none⟩ = some (.int .u32 a) := (O.cell 0).trans rfl
  have o1 : w12.cell? ⟨w11.heap.size, 1, none⟩ = some (.int .i64 k) := (O.cell 1).trans rfl
  clear P Q Y Z O P11 Q11 Y11 Z11 O11
  go_wp2
  go_ret
  exact ⟨rfl, B11.trans (b12.mono B11.size)⟩
set_option maxRecDepth 100000 in
set_option maxHeartbeats 4000000 in
theorem back_3 (a f t : Nat) (n : Int) (hr : rightB a n = false) (w : World) (hT : Tb w) (ha : a < 4294967296) (ht : t < 4294967296) (hft : f ≤ t) :
    Calls Tryd.prog 7 #[.agg #[.int .u32 a, .int .i64 n], .agg #[.int .u32 f, .int .u32 t]] w fun e w' => e = .returned (.bool true) ∧ Below w.heap.size w w' := by
  have HT := Lib.hid hT
  obtain ⟨A, hA⟩ : ∃ A, A = (⟨(addrT a).toArray⟩ : ByteArray) := ⟨_, rfl⟩
  have k18 : ∀ u : World, Tb u → Calls Tryd.prog 18 #[.int .u32 a] u fun e w' => e = .returned (.string A) ∧ Below u.heap.size u w' := fun u hu => by rw [hA]; exact addr_any a u ha hu
  have k24 : ∀ u : World, Calls Tryd.prog 24 #[.string A] u fun e w' => e = .returned (.tuple #[.int .u32 a, .int .i64 0]) ∧ Below u.heap.size u w' := fun u => by
    rw [hA]; exact pad_some _ u rfl (by rw [str_len]; have := addrT_len a; omega) (addr_back a ha)
  obtain ⟨C, hC⟩ : ∃ C, C = (⟨(rngT f t).toArray⟩ : ByteArray) := ⟨_, rfl⟩
  have k22 : ∀ u : World, Tb u → Calls Tryd.prog 22 #[.agg #[.int .u32 f, .int .u32 t]] u fun e w' => e = .returned (.string C) ∧ Below u.heap.size u w' := fun u hu => by rw [hC]; exact rtext_any f t u hft ht hu
  have k28 : ∀ u : World, Calls Tryd.prog 28 #[.string C] u fun e w' => e = .returned (.tuple #[.agg #[.int .u32 f, .int .u32 t], .int .i64 0]) ∧ Below u.heap.size u w' := fun u => by
    have h := parseRange_any C u (by rw [hC, str_len]; have := rngT_len f t; omega)
    rw [hC, str_mk, prV_some (rng_back hft ht)] at h
    rw [hC]; exact h
  have dft : decide (f ≤ t) = true := by simpa using hft
  clear hT hA hC
  go_enter Tryd.func7, Tryd.ntmps7
  go_wp2_with fail
  have P0 := (At.new w #[.int .u32 a, .int .i64 n] 24).alloc (.cells #[.int .u32 f, .int .u32 t] 26)
  have R0 := At.new1 w (.cells #[.int .u32 a, .int .i64 n] 24) #[.int .u32 f, .int .u32 t] 26
  have B0 : Below w.heap.size w ((w.alloc (.cells #[.int .u32 a, .int .i64 n] 24)).alloc (.cells #[.int .u32 f, .int .u32 t] 26)) := ((Below.refl _ w).alloc (Nat.le_refl _) _).alloc (by simp) _
  refine (k18 _ (HT.out.below B0)).mono ?_
  rintro e w1 ⟨rfl, b1⟩
  have P1 := P0.belows b1
  have R1 := R0.belows b1
  have B1 : Below w.heap.size w w1 := B0.trans (b1.mono B0.size)
  clear b1 P0 R0 B0
  go_wp2_with fail
  refine (k24 _).mono ?_
  rintro e w2 ⟨rfl, b2⟩
  have P2 := P1.belows b2
  have R2 := R1.belows b2
  have B2 : Below w.heap.size w w2 := B1.trans (b2.mono B1.size)
  have z2 : w.heap.size + 1 < w2.heap.size := R2.lt
  have p0 : w2.cell? ⟨w.heap.size, 0, none⟩ = some (.int .u32 a) := (P2.cell 0).trans rfl
  have p1 : w2.cell? ⟨w.heap.size, 1, none⟩ = some (.int .i64 n) := (P2.cell 1).trans rfl
  have r0 : w2.cell? ⟨w.heap.size + 1, 0, none⟩ = some (.int .u32 f) := (R2.cell 0).trans rfl
  have r1 : w2.cell? ⟨w.heap.size + 1, 1, none⟩ = some (.int .u32 t) := (R2.cell 1).trans rfl
  clear b2 P1 R1 B1
  go_wp2_with fail
  refine (k22 _ (HT.out.below B2)).mono ?_
  rintro e w3 ⟨rfl, b3⟩
  have P3 := P2.belows b3
  have R3 := R2.belows b3
  have B3 : Below w.heap.size w w3 := B2.trans (b3.mono B2.size)
  clear b3 P2 R2 B2 p0 p1 r0 r1 z2
  go_wp2_with fail
  refine (k28 _).mono ?_
  rintro e w4 ⟨rfl, b4⟩
  have P4 := (P3.belows b4).alloc (.cells #[.int .u32 f, .int .u32 t] 26)
  have R4 := (R3.belows b4).alloc (.cells #[.int .u32 f, .int .u32 t] 26)
  have B4' : Below w.heap.size w w4 := B3.trans (b4.mono B3.size)
  have B4 := B4'.alloc B4'.size (.cells #[.int .u32 f, .int .u32 t] 26)
  have z4 : w.heap.size + 1 < w4.heap.size := (R3.belows b4).lt
  have z4' : w.heap.size < w4.heap.size := (P3.belows b4).lt
  have p0 : w4.cell? ⟨w.heap.size, 0, none⟩ = some (.int .u32 a) := ((P3.belows b4).cell 0).trans rfl
  have p1 : w4.cell? ⟨w.heap.size, 1, none⟩ = some (.int .i64 n) := ((P3.belows b4).cell 1).trans rfl
  have r0 : w4.cell? ⟨w.heap.size + 1, 0, none⟩ = some (.int .u32 f) := ((R3.belows b4).cell 0).trans rfl
  have r1 : w4.cell? ⟨w.heap.size + 1, 1, none⟩ = some (.int .u32 t) := ((R3.belows b4).cell 1).trans rfl
  clear b4 P3 R3 B3
  go_wp2_with fail
  refine (right_any a n _ ha).mono ?_
  rw [hr]
  rintro e w5 ⟨rfl, b5⟩
  have P5 := P4.belows b5
  have B5 : Below w.heap.size w w5 := B4.trans (b5.mono B4.size)
  clear b5 P4 R4 p0 p1 r0 r1
  go_wp2_with fail
  refine (alive_any _ (HT.out.below B5)).mono ?_
  rintro e w6 ⟨rfl, b6⟩
  go_wp2
  go_ret
  exact ⟨rfl, B5.trans (b6.mono B5.size)⟩
set_option maxRecDepth 100000 in
set_option maxHeartbeats 4000000 in
theorem back_4 (a f t : Nat) (n : Int) (hr : rightB a n = false) (w : World) (hT : Tb w) (ha : a < 4294967296) (ht : t < 4294967296) (hft : t < f) :
    Calls Tryd.prog 7 #[.agg #[.int .u32 a, .int .i64 n], .agg #[.int .u32 f, .int .u32 t]] w fun e w' => e = .returned (.bool true) ∧ Below w.heap.size w w' := by
  have HT := Lib.hid hT
  obtain ⟨A, hA⟩ : ∃ A, A = (⟨(addrT a).toArray⟩ : ByteArray) := ⟨_, rfl⟩
  have k18 : ∀ u : World, Tb u → Calls Tryd.prog 18 #[.int .u32 a] u fun e w' => e = .returned (.string A) ∧ Below u.heap.size u w' := fun u hu => by rw [hA]; exact addr_any a u ha hu
  have k24 : ∀ u : World, Calls Tryd.prog 24 #[.string A] u fun e w' => e = .returned (.tuple #[.int .u32 a, .int .i64 0]) ∧ Below u.heap.size u w' := fun u => by
    rw [hA]; exact pad_some _ u rfl (by rw [str_len]; have := addrT_len a; omega) (addr_back a ha)
  have dft : decide (f ≤ t) = false := by simpa using hft
  clear hT hA
  go_enter Tryd.func7, Tryd.ntmps7
  go_wp2_with fail
  have P0 := (At.new w #[.int .u32 a, .int .i64 n] 24).alloc (.cells #[.int .u32 f, .int .u32 t] 26)
  have R0 := At.new1 w (.cells #[.int .u32 a, .int .i64 n] 24) #[.int .u32 f, .int .u32 t] 26
  have B0 : Below w.heap.size w ((w.alloc (.cells #[.int .u32 a, .int .i64 n] 24)).alloc (.cells #[.int .u32 f, .int .u32 t] 26)) := ((Below.refl _ w).alloc (Nat.le_refl _) _).alloc (by simp) _
  refine (k18 _ (HT.out.below B0)).mono ?_
  rintro e w1 ⟨rfl, b1⟩
  have P1 := P0.belows b1
  have R1 := R0.belows b1
  have B1 : Below w.heap.size w w1 := B0.trans (b1.mono B0.size)
  clear b1 P0 R0 B0
  go_wp2_with fail
  refine (k24 _).mono ?_
  rintro e w2 ⟨rfl, b2⟩
  have P2 := P1.belows b2
  have R2 := R1.belows b2
  have B2 : Below w.heap.size w w2 := B1.trans (b2.mono B1.size)
  have z2 : w.heap.size + 1 < w2.heap.size := R2.lt
  have p0 : w2.cell? ⟨w.heap.size, 0, none⟩ = some (.int .u32 a) := (P2.cell 0).trans rfl
  have p1 : w2.cell? ⟨w.heap.size, 1, none⟩ = some (.int .i64 n) := (P2.cell 1).trans rfl
  have r0 : w2.cell? ⟨w.heap.size + 1, 0, none⟩ = some (.int .u32 f) := (R2.cell 0).trans rfl
  have r1 : w2.cell? ⟨w.heap.size + 1, 1, none⟩ = some (.int .u32 t) := (R2.cell 1).trans rfl
  clear b2 P1 R1 B1
  go_wp2_with fail
  refine (right_any a n _ ha).mono ?_
  rw [hr]
  rintro e w5 ⟨rfl, b5⟩
  have P5 := P2.belows b5
  have B5 : Below w.heap.size w w5 := B2.trans (b5.mono B2.size)
  clear b5 P2 R2 p0 p1 r0 r1
  go_wp2_with fail
  refine (alive_any _ (HT.out.below B5)).mono ?_
  rintro e w6 ⟨rfl, b6⟩
  go_wp2
  go_ret
  exact ⟨rfl, B5.trans (b6.mono B5.size)⟩
theorem back_walk (a f t : Nat) (n : Int) (w : World) (hT : Tb w) (ha : a < 4294967296) (ht : t < 4294967296) :
    Calls Tryd.prog 7 #[.agg #[.int .u32 a, .int .i64 n], .agg #[.int .u32 f, .int .u32 t]] w fun e w' => e = .returned (.bool true) ∧ Below w.heap.size w w' := by
  by_cases hr : rightB a n = true
  · obtain ⟨k, rfl, hk, hm⟩ := rightB_yes hr
    by_cases h : f ≤ t
    · exact back_1 a f t k hk hm w hT ha ht h
    · exact back_2 a f t k hk hm w hT ha ht (by omega)
  · by_cases h : f ≤ t
    · exact back_3 a f t n (by simpa using hr) w hT ha ht h
    · exact back_4 a f t n (by simpa using hr) w hT ha ht (by omega)
end Go.Proofs.YtojdnfhklmfjmaaDoor
