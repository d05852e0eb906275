/- AtomsOrder, walked. -/
import Derived.Test.YtjljkpecpofbcaaS2
namespace Go.Proofs.Ytjljkpecpofbcaa
open Go.RowKit Go.Shelf

/-- A right range. -/
def rt (r : Nat × Nat) : Bool := decide (r.1 ≤ r.2)
/-- The first j of l, the right ones. -/
def rts (l : List (Nat × Nat)) (j : Nat) : List (Nat × Nat) := (l.take j).filter rt
theorem rts_len (l : List (Nat × Nat)) (j : Nat) : (rts l j).length ≤ j := by
  have h1 : (rts l j).length ≤ (l.take j).length := List.length_filter_le _ _
  have h2 := List.length_take_le j l
  omega
theorem rts_yes {l : List (Nat × Nat)} {j : Nat} (hj : j < l.length) (h : l[j].1 ≤ l[j].2) : rts l (j + 1) = rts l j ++ [l[j]] := by
  unfold rts
  rw [List.take_succ_eq_append_getElem hj, List.filter_append, List.filter_cons_of_pos (by simpa [rt] using h)]; rfl
theorem rts_no {l : List (Nat × Nat)} {j : Nat} (hj : j < l.length) (h : ¬ l[j].1 ≤ l[j].2) : rts l (j + 1) = rts l j := by
  unfold rts
  rw [List.take_succ_eq_append_getElem hj, List.filter_append, List.filter_cons_of_neg (by simpa [rt] using h)]; simp
theorem rts_zero (l : List (Nat × Nat)) : rts l 0 = [] := by simp [rts]
theorem rts_mem {l : List (Nat × Nat)} {n j : Nat} (hj : j < l.length) (hn : j < n) (h : l[j].1 ≤ l[j].2) : l[j] ∈ rts l n := by
  unfold rts
  rw [List.mem_filter]
  refine ⟨?_, by simpa [rt] using h⟩
  have e : (l.take n)[j]'(by rw [List.length_take]; omega) = l[j] := List.getElem_take
  rw [← e]; exact List.getElem_mem _
theorem rts_rev (l : List (Nat × Nat)) (n : Nat) (hn : n ≤ l.length) : (rts (l.take n).reverse n).Perm (rts l n) := by
  unfold rts
  rw [List.take_of_length_le (by simp; omega)]
  rw [List.filter_reverse]
  exact List.reverse_perm _
theorem rev_at {l : List (Nat × Nat)} {n j : Nat} (hn : n ≤ l.length) (hj : j < n) (h1 : j < (l.take n).reverse.length) (h2 : n - 1 - j < l.length) : (l.take n).reverse[j] = l[n - 1 - j] := by
  rw [List.getElem_reverse, List.getElem_take]
  congr 1
  rw [List.length_take]; omega
/-- An Add, its error. -/
theorem add_pack (L : List (Nat × Nat)) (r : Nat × Nat) (hr : r.2 < 4294967296) (hL : L.length < 500) : ∃ ea : Int, (ea = 0 ↔ r.1 ≤ r.2) ∧ ∀ (v : Value) (W : World), IsTab0 W v L → Calls Try.prog 24 #[v, .agg #[.int .u32 r.1, .int .u32 r.2]] W (ToutE W (L ++ [r]) ea) := by
  by_cases h : r.1 ≤ r.2
  · exact ⟨0, by simp [h], fun v W hv => (add_ok L r.1 r.2 W hv h hr hL).mono fun _ _ h => h.pack⟩
  · exact ⟨51, by simp [h], fun v W hv => (add_wrong L r.1 r.2 W hv (by omega)).mono fun _ _ h => h.pack (by decide)⟩
theorem bnds_more {L : List (Nat × Nat)} {r : Nat × Nat} (h : r ∈ L) : bnds (L ++ [r]) = bnds L := bnds_perm fun q => by
  rw [List.mem_append]
  constructor
  · rintro (h1 | h1)
    · exact h1
    · simp at h1; rw [h1]; exact h
  · exact .inl
set_option maxRecDepth 100000 in
set_option maxHeartbeats 4000000 in
theorem atomsOrder_walk {lv : Value} (l : List (Nat × Nat)) (w : World) (hu : U32 l) (hlz : IsZ w lv l) : Calls Try.prog 7 #[lv] w fun e w' => e = .returned (.bool true) ∧ Below w.heap.size w w' := by
  obtain ⟨Al, cl, rfl, nl, ml, zl⟩ := hlz
  simp only [maxLen] at ml
  have HLZ : Hid (∀ W, Below w.heap.size w W → Zs W Al l) := Lib.hid fun W hW => zl.belows hW
  have HU := Lib.hid hu
  clear zl hu
  go_enter Try.func7, Try.ntmps7
  go_wp2_with fail
  refine (new_any w).mono ?_
  rintro e w1 ⟨v1, rfl, t1, b1⟩
  obtain ⟨B1, rfl⟩ := t1.ptr
  go_wp2_with fail
  refine (new_any w1).mono ?_
  rintro e w2 ⟨v2, rfl, t2, b2⟩
  obtain ⟨B2, rfl⟩ := t2.ptr
  have t1 := t1.belows b2
  have b2 := b1.trans (b2.mono b1.size)
  have HT12 := Lib.hid (And.intro t1 t2)
  have HB2 := Lib.hid b2
  clear t1 t2 b1 b2
  obtain ⟨n, hn⟩ : ∃ n, n = min l.length 60 := ⟨_, rfl⟩
  have hn1 : n ≤ l.length := by omega
  have hn2 : n ≤ 60 := by omega
  have hmin : min (l.length : Int) 60 = (n : Int) := by omega
  have hmin2 : (if (60 : Int) < (l.length : Int) then (60 : Int) else (l.length : Int)) = (n : Int) := by split <;> omega
  clear hn
  go_wp2_with fail
  go_loopw [3, 4, 6] (fun tv uv k wr => ∃ (j Bt Bu : Nat), tv = .pointer (some ⟨Bt, 0, none⟩) ∧ uv = .pointer (some ⟨Bu, 0, none⟩) ∧ k = .int .i64 j ∧ j ≤ n ∧ Hid (IsTab wr (.pointer (some ⟨Bt, 0, none⟩)) (rts l j) ∧ IsTab wr (.pointer (some ⟨Bu, 0, none⟩)) (rts (l.take n).reverse j) ∧ Below w2.heap.size w2 wr)) (fun _ _ k _ => n - (intOf k).toNat)
  case atStart => exact ⟨0, B1, B2, rfl, rfl, rfl, by omega, Lib.hid ⟨by rw [rts_zero]; exact HT12.out.1, by rw [rts_zero]; exact HT12.out.2, Below.refl _ _⟩⟩
  case round =>
    obtain ⟨j, Bt, Bu, rfl, rfl, rfl, hj, HJ⟩ := hrel
    obtain ⟨htt, htu, hbj⟩ := HJ.out
    have HBJ := Lib.hid hbj
    have HTT := Lib.hid htt
    have HUU := Lib.hid htu
    have hTl := rts_len l j
    have hUl := rts_len (l.take n).reverse j
    by_cases hlt : j < n
    · obtain ⟨g, o, rfl, hg, hc⟩ := HLZ.out w (Below.refl _ _) (by omega)
      have hj1 : j < l.length := by omega
      have hjr : j < (l.take n).reverse.length := by simp; omega
      have hm1 : n - 1 - j < l.length := by omega
      have hrev := rev_at hn1 hlt hjr hm1
      have hidx : (n : Int) - 1 - (j : Int) = ((n - 1 - j : Nat) : Int) := by omega
      have hy1 := rts_yes hj1
      have hy2 := rts_no hj1
      have hy3 := rts_yes hjr
      have hy4 := rts_no hjr
      rw [hrev] at hy3 hy4
      have HC1 : Hid (∀ W, Below w.heap.size w W → W.cell? ⟨g, o + j * 2, none⟩ = some (.int .u32 l[j].1) ∧ W.cell? ⟨g, o + j * 2 + 1, none⟩ = some (.int .u32 l[j].2)) := Lib.hid fun W hW => ⟨(hW.cell (p := ⟨g, _, none⟩) hg).trans (hc j hj1).1, (hW.cell (p := ⟨g, _, none⟩) hg).trans (hc j hj1).2⟩
      have HC2 : Hid (∀ W, Below w.heap.size w W → W.cell? ⟨g, o + (n - 1 - j) * 2, none⟩ = some (.int .u32 l[n - 1 - j].1) ∧ W.cell? ⟨g, o + (n - 1 - j) * 2 + 1, none⟩ = some (.int .u32 l[n - 1 - j].2)) := Lib.hid fun W hW => ⟨(hW.cell (p := ⟨g, _, none⟩) hg).trans (hc _ hm1).1, (hW.cell (p := ⟨g, _, none⟩) hg).trans (hc _ hm1).2⟩
      have hu1 := (HU.out.at j hj1).2
      have hu2 := (HU.out.at _ hm1).2
      generalize l[j] = r1 at *
      generalize l[n - 1 - j] = r2 at *
      obtain ⟨f1, t1⟩ := r1
      obtain ⟨f2, t2⟩ := r2
      simp only at hy1 hy2 hy3 hy4 hu1 hu2 HC1 HC2
      have hm2 : ((n - 1 - j : Nat) : Int) < (l.length : Int) := by omega
      have hm0 : (0 : Int) ≤ ((n - 1 - j : Nat) : Int) := by omega
      generalize n - 1 - j = m at *
      generalize hT : rts l j = T at *
      generalize hU : rts (l.take n).reverse j = U at *
      have hTl : T.length < 500 := by omega
      have hUl : U.length < 500 := by omega
      obtain ⟨p0, p1⟩ := HC1.out wr (HB2.out.trans (hbj.mono HB2.out.size))
      have k0 : (0 : Int) ≤ (j : Int) := by omega
      have k1 : (j : Int) < (n : Int) := by omega
      have k2 : (j : Int) < (l.length : Int) := by omega
      clear hc htt htu hbj HJ hT hU hrev hm1 hjr
      by_cases h1 : f1 ≤ t1
      · have HEQ1 := Lib.hid (hy1 h1)
        by_cases h2 : f2 ≤ t2
        · have HEQ2 := Lib.hid (hy3 h2)
          clear hy1 hy2 hy3 hy4
          go_wp2_with fail
          refine (add_ok T f1 t1 wr HTT.out.any h1 hu1 hTl).mono ?_
          rintro e w3 ⟨v3, rfl, x3, b3⟩
          obtain ⟨B3, rfl⟩ := x3.ptr
          have hb3 := HBJ.out.trans (b3.mono HBJ.out.size)
          obtain ⟨p2, p3⟩ := HC2.out w3 (HB2.out.trans (hb3.mono HB2.out.size))
          have HU3 := Lib.hid (HUU.out.belows b3)
          have HT3 := Lib.hid x3
          clear x3
          clear b3
          go_wp2_with fail
          refine (add_ok U f2 t2 w3 HU3.out.any h2 hu2 hUl).mono ?_
          rintro e w4 ⟨v4, rfl, x4, b4⟩
          obtain ⟨B4, rfl⟩ := x4.ptr
          have HB4 := Lib.hid (hb3.trans (b4.mono hb3.size))
          have HT4 := Lib.hid (HT3.out.belows b4)
          have HU4 := Lib.hid x4
          clear x4
          clear b4 hb3 p2 p3
          go_wp2
          go_roundw
          case rel => exact ⟨j + 1, _, _, rfl, rfl, by go_num, by omega, Lib.hid ⟨by rw [HEQ1.out]; exact HT4.out, by rw [HEQ2.out]; exact HU4.out, HB4.out⟩⟩
          case measure => simp [intOf]; omega
        · have HEQ2 := Lib.hid (hy4 h2)
          clear hy1 hy2 hy3 hy4
          go_wp2_with fail
          refine (add_ok T f1 t1 wr HTT.out.any h1 hu1 hTl).mono ?_
          rintro e w3 ⟨v3, rfl, x3, b3⟩
          obtain ⟨B3, rfl⟩ := x3.ptr
          have hb3 := HBJ.out.trans (b3.mono HBJ.out.size)
          obtain ⟨p2, p3⟩ := HC2.out w3 (HB2.out.trans (hb3.mono HB2.out.size))
          have HU3 := Lib.hid (HUU.out.belows b3)
          have HT3 := Lib.hid x3
          clear x3
          clear b3
          go_wp2_with fail
          refine (add_wrong U f2 t2 w3 HU3.out.any (by omega)).mono ?_
          rintro e w4 ⟨rfl, b4⟩
          have HB4 := Lib.hid (hb3.trans (b4.mono hb3.size))
          have HT4 := Lib.hid (HT3.out.belows b4)
          have HU4 := Lib.hid (HU3.out.belows b4)
          clear b4 hb3 p2 p3
          go_wp2
          go_roundw
          case rel => exact ⟨j + 1, _, _, rfl, rfl, by go_num, by omega, Lib.hid ⟨by rw [HEQ1.out]; exact HT4.out, by rw [HEQ2.out]; exact HU4.out, HB4.out⟩⟩
          case measure => simp [intOf]; omega
      · have HEQ1 := Lib.hid (hy2 h1)
        by_cases h2 : f2 ≤ t2
        · have HEQ2 := Lib.hid (hy3 h2)
          clear hy1 hy2 hy3 hy4
          go_wp2_with fail
          refine (add_wrong T f1 t1 wr HTT.out.any (by omega)).mono ?_
          rintro e w3 ⟨rfl, b3⟩
          have hb3 := HBJ.out.trans (b3.mono HBJ.out.size)
          obtain ⟨p2, p3⟩ := HC2.out w3 (HB2.out.trans (hb3.mono HB2.out.size))
          have HU3 := Lib.hid (HUU.out.belows b3)
          have HT3 := Lib.hid (HTT.out.belows b3)
          clear b3
          go_wp2_with fail
          refine (add_ok U f2 t2 w3 HU3.out.any h2 hu2 hUl).mono ?_
          rintro e w4 ⟨v4, rfl, x4, b4⟩
          obtain ⟨B4, rfl⟩ := x4.ptr
          have HB4 := Lib.hid (hb3.trans (b4.mono hb3.size))
          have HT4 := Lib.hid (HT3.out.belows b4)
          have HU4 := Lib.hid x4
          clear x4
          clear b4 hb3 p2 p3
          go_wp2
          go_roundw
          case rel => exact ⟨j + 1, _, _, rfl, rfl, by go_num, by omega, Lib.hid ⟨by rw [HEQ1.out]; exact HT4.out, by rw [HEQ2.out]; exact HU4.out, HB4.out⟩⟩
          case measure => simp [intOf]; omega
        · have HEQ2 := Lib.hid (hy4 h2)
          clear hy1 hy2 hy3 hy4
          go_wp2_with fail
          refine (add_wrong T f1 t1 wr HTT.out.any (by omega)).mono ?_
          rintro e w3 ⟨rfl, b3⟩
          have hb3 := HBJ.out.trans (b3.mono HBJ.out.size)
          obtain ⟨p2, p3⟩ := HC2.out w3 (HB2.out.trans (hb3.mono HB2.out.size))
          have HU3 := Lib.hid (HUU.out.belows b3)
          have HT3 := Lib.hid (HTT.out.belows b3)
          clear b3
          go_wp2_with fail
          refine (add_wrong U f2 t2 w3 HU3.out.any (by omega)).mono ?_
          rintro e w4 ⟨rfl, b4⟩
          have HB4 := Lib.hid (hb3.trans (b4.mono hb3.size))
          have HT4 := Lib.hid (HT3.out.belows b4)
          have HU4 := Lib.hid (HU3.out.belows b4)
          clear b4 hb3 p2 p3
          go_wp2
          go_roundw
          case rel => exact ⟨j + 1, _, _, rfl, rfl, by go_num, by omega, Lib.hid ⟨by rw [HEQ1.out]; exact HT4.out, by rw [HEQ2.out]; exact HU4.out, HB4.out⟩⟩
          case measure => simp [intOf]; omega
    · obtain rfl : j = n := by omega
      have htu2 := htu.perm (rts_rev l j hn1)
      obtain ⟨w3, ew⟩ : ∃ w3, wr = w3 := ⟨_, rfl⟩
      rw [ew] at htt htu2 hbj ⊢
      clear ew HJ HTT HUU HBJ htu hlt hUl hmin hmin2
      have HMEM : Hid (∀ k (hk : k < l.length), k < j → l[k].1 ≤ l[k].2 → l[k] ∈ rts l j) := Lib.hid fun k hk hkj h => rts_mem hk hkj h
      generalize rts l j = T at *
      have HT : Hid (∀ W, Below w3.heap.size w3 W → IsTab W (.pointer (some ⟨Bt, 0, none⟩)) T) := Lib.hid fun W hW => htt.belows hW
      have HU2 : Hid (∀ W, Below w3.heap.size w3 W → IsTab W (.pointer (some ⟨Bu, 0, none⟩)) T) := Lib.hid fun W hW => htu2.belows hW
      have hlen : (bnds T).length ≤ 4294967296 := by
        rcases rising_len (bnds_rise T) with h | h
        · omega
        · rw [h]; simp
      have HLEN : Hid (∀ v, (v = .pointer (some ⟨Bt, 0, none⟩) ∨ v = .pointer (some ⟨Bu, 0, none⟩)) → ∀ W, Below w3.heap.size w3 W → Calls Try.prog 23 #[v] W fun e w' => e = .returned (.int .i64 ((bnds T).length : Int)) ∧ Below W.heap.size W w') := Lib.hid fun v hv W hW => by
        rcases hv with rfl | rfl
        · exact len5_any T W (HT.out W hW).any
        · exact len5_any T W (HU2.out W hW).any
      have HAT : Hid (∀ v, (v = .pointer (some ⟨Bt, 0, none⟩) ∨ v = .pointer (some ⟨Bu, 0, none⟩)) → ∀ k, k < (bnds T).length → ∀ W, Below w3.heap.size w3 W → Calls Try.prog 22 #[v, .int .i64 (k : Int)] W fun e w' => e = .returned (.tuple #[.agg #[.int .u32 (frm (bnds T) k : Nat), .int .u32 (too (bnds T) k : Nat)], .bool true]) ∧ Below W.heap.size W w') := Lib.hid fun v hv k hk W hW => by
        rcases hv with rfl | rfl
        · exact atom_ok T k W (HT.out W hW).any hk
        · exact atom_ok T k W (HU2.out W hW).any hk
      have HBM : Hid (∀ r, r ∈ T → bnds (T ++ [r]) = bnds T) := Lib.hid fun r hr => bnds_more hr
      have HB3 := Lib.hid (HB2.out.trans (hbj.mono HB2.out.size))
      clear htt htu2 hbj
      obtain ⟨C, hC⟩ : ∃ C, C = bnds T := ⟨_, rfl⟩
      rw [← hC] at HLEN HAT HBM hlen
      clear hC
      go_wp2_with fail
      refine (HLEN.out _ (.inl rfl) w3 (Below.refl _ _)).mono ?_
      rintro e w4 ⟨rfl, b4⟩
      go_wp2_with fail
      refine (HLEN.out _ (.inr rfl) w4 b4).mono ?_
      rintro e w5 ⟨rfl, b5⟩
      have HB5 := Lib.hid (b4.trans (b5.mono b4.size))
      have dn : ((C.length : Int) != (C.length : Int)) = false := by simp
      clear b4 b5
      go_wp2_with fail
      go_loopw [11] (fun kv wr => ∃ k : Nat, kv = .int .i64 k ∧ k ≤ C.length ∧ Hid (Below w3.heap.size w3 wr)) (fun kv _ => C.length - (intOf kv).toNat)
      case atStart => exact ⟨0, rfl, by omega, HB5⟩
      case round =>
        obtain ⟨k, rfl, hk, HK⟩ := hrel
        by_cases hlt : k < C.length
        · have hat := fun v hv => HAT.out v hv k hlt
          generalize frm C k = x at hat
          generalize too C k = y at hat
          have HA := Lib.hid hat
          clear hat
          have k1 : (k : Int) < (C.length : Int) := by omega
          go_wp2_with fail
          refine (HLEN.out _ (.inl rfl) _ HK.out).mono ?_
          rintro e w6 ⟨rfl, b6⟩
          have c6 := HK.out.trans (b6.mono HK.out.size)
          go_wp2_with fail
          refine (HA.out _ (.inl rfl) w6 c6).mono ?_
          rintro e w7 ⟨rfl, b7⟩
          have b7' := b7.alloc b7.size (.cells #[.int .u32 x, .int .u32 y] 32)
          have A7 := At.new w7 #[.int .u32 x, .int .u32 y] 32
          have c7 := c6.trans (b7'.mono c6.size)
          clear b6 b7 b7' c6
          go_wp2_with fail
          obtain ⟨w8, hw8⟩ : ∃ w8, w7.alloc (.cells #[.int .u32 x, .int .u32 y] 32) = w8 := ⟨_, rfl⟩
          rw [hw8] at A7 c7 ⊢
          clear hw8
          refine (HA.out _ (.inr rfl) w8 c7).mono ?_
          rintro e w9 ⟨rfl, b9⟩
          have b9' := b9.alloc b9.size (.cells #[.int .u32 x, .int .u32 y] 32)
          have A9 := At.new w9 #[.int .u32 x, .int .u32 y] 32
          have A7' := A7.belows b9'
          have HB9 := Lib.hid (c7.trans (b9'.mono c7.size))
          have z0 := (A7'.cell 0).trans rfl
          have z1 := (A7'.cell 1).trans rfl
          have z2 := (A9.cell 0).trans rfl
          have z3 := (A9.cell 1).trans rfl
          have d1 : ((x : Int) != (x : Int)) = false := by simp
          have d2 : ((y : Int) != (y : Int)) = false := by simp
          clear A7 A7' A9 b9 b9' c7
          go_wp2_with fail
          exact ⟨⟨k + 1, by go_num, by omega, HB9⟩, by simp [intOf]; omega⟩
        · obtain rfl : k = C.length := by omega
          go_wp2_with fail
          refine (HLEN.out _ (.inl rfl) _ HK.out).mono ?_
          rintro e w6 ⟨rfl, b6⟩
          have HB6 := Lib.hid (HK.out.trans (b6.mono HK.out.size))
          clear b6
          go_wp2_with fail
          go_loopw [16] (fun kv wr => ∃ k : Nat, kv = .int .i64 k ∧ k ≤ j ∧ Hid (Below w3.heap.size w3 wr)) (fun kv _ => j - (intOf kv).toNat)
          case atStart => exact ⟨0, rfl, by omega, HB6⟩
          case round =>
            obtain ⟨k, rfl, hkj, HK2⟩ := hrel
            by_cases hlt3 : k < j
            · obtain ⟨g, o, rfl, hg, hc⟩ := HLZ.out w (Below.refl _ _) (by omega)
              have hkl : k < l.length := by omega
              have hmm := HMEM.out k hkl hlt3
              have HC1 : Hid (∀ W, Below w.heap.size w W → W.cell? ⟨g, o + k * 2, none⟩ = some (.int .u32 l[k].1) ∧ W.cell? ⟨g, o + k * 2 + 1, none⟩ = some (.int .u32 l[k].2)) := Lib.hid fun W hW => ⟨(hW.cell (p := ⟨g, _, none⟩) hg).trans (hc k hkl).1, (hW.cell (p := ⟨g, _, none⟩) hg).trans (hc k hkl).2⟩
              have hu1 := (HU.out.at k hkl).1
              have hu2 := (HU.out.at k hkl).2
              generalize l[k] = r at *
              obtain ⟨f, t⟩ := r
              simp only at hmm hu1 hu2 HC1
              obtain ⟨w7, ew⟩ : ∃ w7, wr = w7 := ⟨_, rfl⟩
              rw [ew] at HK2 ⊢
              clear ew
              have HB7 := Lib.hid (HB3.out.trans (HK2.out.mono HB3.out.size))
              obtain ⟨p0, p1⟩ := HC1.out w7 HB7.out
              have k0 : (0 : Int) ≤ (k : Int) := by omega
              have k1 : (k : Int) < (j : Int) := by omega
              have k2 : (k : Int) < (l.length : Int) := by omega
              clear hc
              by_cases hft : f ≤ t
              · have hmem := hmm hft
                have HBM2 := Lib.hid (HBM.out _ hmem)
                clear hmm
                go_wp2_with fail
                refine (add_ok T f t w7 (HT.out w7 HK2.out).any hft hu2 (by omega)).mono ?_
                rintro e w8 ⟨v8, rfl, t8, b8⟩
                obtain ⟨B8, rfl⟩ := t8.ptr
                have c8 := HK2.out.trans (b8.mono HK2.out.size)
                clear p0 p1 b8
                have hcn : (T ++ [(f, t)]).count (f, t) = T.count (f, t) + 1 := by rw [List.count_append]; simp
                have hcl : T.count (f, t) ≤ T.length := List.count_le_length
                have kl : ∀ v, (v = .pointer (some ⟨B8, 0, none⟩) ∨ v = .pointer (some ⟨Bt, 0, none⟩)) → ∀ z : Sub w8, Calls Try.prog 23 #[v] z.u fun e w' => e = .returned (.int .i64 (C.length : Int)) ∧ Below z.u.heap.size z.u w' := fun v hv z => by
                  rcases hv with rfl | rfl
                  · have := len5_any _ z.u (t8.belows z.h).any
                    rwa [HBM2.out] at this
                  · exact HLEN.out _ (.inl rfl) z.u (c8.trans (z.h.mono c8.size))
                have kc : ∀ (v : Value) (m : Int), (v = .pointer (some ⟨B8, 0, none⟩) ∧ m = ((T.count (f, t) : Nat) : Int) + 1 ∨ v = .pointer (some ⟨Bt, 0, none⟩) ∧ m = ((T.count (f, t) : Nat) : Int)) → ∀ z : Sub w8, Calls Try.prog 12 #[v, .agg #[.int .u32 f, .int .u32 t]] z.u fun e w' => e = .returned (.int .i64 m) ∧ Below z.u.heap.size z.u w' := fun v m hv z => by
                  rcases hv with ⟨rfl, rfl⟩ | ⟨rfl, rfl⟩
                  · have := count_any5 _ f t z.u hu1 hu2 (t8.belows z.h).any
                    rw [hcn] at this
                    exact this
                  · exact count_any5 T f t z.u hu1 hu2 (HT.out z.u (c8.trans (z.h.mono c8.size))).any
                have s2 : ∀ z : Sub w8, z.u.cell? ⟨g, o + k * 2, none⟩ = some (.int .u32 f) := fun z => (HC1.out z.u (HB3.out.trans ((c8.trans (z.h.mono c8.size)).mono HB3.out.size))).1
                have s3 : ∀ z : Sub w8, z.u.cell? ⟨g, o + k * 2 + 1, none⟩ = some (.int .u32 t) := fun z => (HC1.out z.u (HB3.out.trans ((c8.trans (z.h.mono c8.size)).mono HB3.out.size))).2
                have j1 : IntKind.i64.wrap (((T.count (f, t) : Nat) : Int) + 1) = ((T.count (f, t) : Nat) : Int) + 1 := IntWalk.i64_in _ (by omega)
                generalize T.count (f, t) = n at *
                have d1 : ((n : Int) + 1 != (n : Int) + 1) = false := by simp
                have HC8 := Lib.hid c8
                clear t8 c8
                go_wp2_with fail
                refine wp_region_cls (by kernel_rfl) (by kernel_rfl) ?_
                repeat (go_big_quiet_step ((first | (go_at_call 23; exact Calls.cls_of (kl _ (by first | exact .inl rfl | exact .inr rfl) _)) | (go_at_call 12; exact Calls.cls_of (kc _ _ (by first | exact .inl ⟨rfl, rfl⟩ | exact .inr ⟨rfl, rfl⟩) _)))))
                refine wpQuiet_nil ?_
                rintro w9 ⟨x9, hx⟩
                have b9 := x9.h
                rw [← hx] at b9
                clear hx x9 kl kc s2 s3
                have HB9 := Lib.hid (HC8.out.trans (b9.mono HC8.out.size))
                clear b9
                go_wp2
                go_roundw
                case rel => exact ⟨k + 1, by go_num, by omega, HB9⟩
                case measure => simp [intOf]; omega
              · clear hmm
                go_wp2_with fail
                refine (add_wrong T f t w7 (HT.out w7 HK2.out).any (by omega)).mono ?_
                rintro e w8 ⟨rfl, b8⟩
                have HB8 := Lib.hid (HK2.out.trans (b8.mono HK2.out.size))
                clear p0 p1 b8
                go_wp2_with fail
                refine wp_region_cls (by kernel_rfl) (by kernel_rfl) ?_
                repeat (go_big_quiet_step (fail))
                refine wpQuiet_nil ?_
                rintro w9 ⟨x9, hx⟩
                have b9 := x9.h
                rw [← hx] at b9
                clear hx x9
                have HB9 := Lib.hid (HB8.out.trans (b9.mono HB8.out.size))
                clear b9
                go_wp2
                go_roundw
                case rel => exact ⟨k + 1, by go_num, by omega, HB9⟩
                case measure => simp [intOf]; omega
            · obtain rfl : k = j := by omega
              have HBF := Lib.hid (HB3.out.trans (HK2.out.mono HB3.out.size))
              go_wp2_with (go_at_call 17; refine (alive_any _).mono ?_; rintro e w8 ⟨rfl, b8⟩)
              go_ret
              exact ⟨rfl, HBF.out.trans (b8.mono HBF.out.size)⟩
end Go.Proofs.Ytjljkpecpofbcaa
