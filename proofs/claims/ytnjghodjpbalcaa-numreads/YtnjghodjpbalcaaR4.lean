/- The contracts of the document's own reader, whole. -/
import Derived.Test.YtnjghodjpbalcaaR3
namespace Go.Proofs.Ytnjghodjpbalcaa
open Go.RowKit

theorem refnum_any (A : Option Addr) (l : List UInt8) (c i gm most B : Nat) (w : World) (hm : MR w gm A l.length c i) (hr : Rd w B A l) (hB : B ≤ w.heap.size) (hi : i ≤ l.length) (hc : l.length ≤ c) (hcm : c ≤ maxLen) (hn : l.length ≤ 400) :
    Calls Try.prog 16 #[.pointer (some ⟨gm, 0, none⟩), .int .u64 most] w (RefOut (l.drop i) most gm A l.length c i w) := by
  have hcm : c ≤ 9223372036854775807 := hcm
  match hd : l.drop i with
  | [] =>
    have : i = l.length := by have := congrArg List.length hd; simp at this; omega
    subst this
    exact ref_empty A l.length c gm most w hm hc hcm (by omega)
  | b :: r =>
    have hlen : l.length = i + (r.length + 1) := by have := congrArg List.length hd; simp at this; omega
    obtain ⟨ad, rfl, _, _⟩ := hr (by omega)
    have hat := refAt hm hd hr hB
    rw [hlen] at hm hc hn ⊢
    have hn : i + (r.length + 1) ≤ 1000 := by omega
    have hb8 : b.toNat < 256 := b.toNat_lt
    by_cases h1 : b.toNat < 240
    · by_cases h2 : b.toNat ≤ most
      · exact ref_low ad b r c i gm most w hm hat hc hcm hn h1 h2
      · exact ref_low_more ad b r c i gm most w hm hat hc hcm hn h1 (by omega)
    · by_cases h2 : r.length < b.toNat - 239
      · exact ref_none ad b r c i gm most w hm hat hc hcm hn (by omega) (num1_short r h1 h2)
      · by_cases h3 : 248 ≤ b.toNat
        · refine ref_none ad b r c i gm most w hm hat hc hcm hn (.inl h3) (num1_bad r h1 h2 (.inr ?_))
          have := bw_eight (vm_lt (r.take (b.toNat - 239)))
          omega
        · by_cases h4 : vm (r.take (b.toNat - 239)) ≤ most
          · match hN : num1 (b :: r) with
            | none => exact ref_high_bad ad b r c i gm most w hm hat hc hcm hn (by omega) (by omega) h2 h4 hN
            | some (v, n) => exact ref_high_good ad b r c i gm most w hm hat hc hcm hn (by omega) (by omega) h2 v n h4 hN
          · exact ref_high_more ad b r c i gm most w hm hat hc hcm hn (by omega) (by omega) h2 (by omega)

/-- What the document's Text leaves. -/
def RefText (r : List UInt8) (most : Int) (gm : Nat) (A : Option Addr) (n c i : Nat) (w : World) (e : Ending) (w' : World) : Prop :=
  w.grownBy w' (some gm) ∧
  match textAt r most with
  | none => e = .returned (.tuple #[.string ⟨#[]⟩, .int .i64 11]) ∧ MR w' gm A n c i
  | some (v, m) => e = .returned (.tuple #[.string ⟨((r.drop m).take v).toArray⟩, .int .i64 0]) ∧ MR w' gm A n c (i + m + v)

theorem text_of_num_none {r : List UInt8} {most : Int} {M : Nat} (hM : most ≤ M) (h : numAt r M = none) : textAt r most = none := by
  unfold numAt at h
  match hN : num1 r with
  | none => exact textAt_none hN
  | some (v, n) =>
    rw [hN] at h
    simp only at h
    split at h
    · cases h
    · exact textAt_no hN (by omega)
theorem num_of_numAt {r : List UInt8} {M v n : Nat} (h : numAt r M = some (v, n)) : num1 r = some (v, n) ∧ v ≤ M := by
  unfold numAt at h
  match hN : num1 r with
  | none => rw [hN] at h; cases h
  | some (v', n') =>
    rw [hN] at h
    simp only at h
    split at h
    · injection h with h; injection h with h1 h2; subst h1 h2; exact ⟨rfl, by assumption⟩
    · cases h

theorem RefText.no {r : List UInt8} {most : Int} {gm n c i j : Nat} {A : Option Addr} {w u : World} (h : textAt r most = none) (hu : w.grownBy u (some gm)) (hm : MR u gm A n c j) :
    RefText r most gm A n c i w (.returned (.tuple #[.string ⟨#[]⟩, .int .i64 11])) ((u.setCell ⟨gm, 1, none⟩ (.int .i64 i)).setCell ⟨gm, 2, none⟩ (.bool true)) := by
  refine ⟨grownBy_trans hu (grownBy_trans (grownBy_set _ _ _ _) (grownBy_set _ _ _ _)), ?_⟩
  rw [h]
  obtain ⟨b, hb⟩ := hm
  exact ⟨rfl, true, by simp [World.setCell, Array.getElem?_modify, hb]⟩
theorem RefText.yes {r : List UInt8} {most : Int} {gm n c i j v m : Nat} {A : Option Addr} {w u : World} (h : textAt r most = some (v, m)) (hu : w.grownBy u (some gm)) (hm : MR u gm A n c j) (k : Nat) (I : Int) (hI : I = ((i + m + v : Nat) : Int)) :
    RefText r most gm A n c i w (.returned (.tuple #[.string ⟨((r.drop m).take v).toArray⟩, .int .i64 0])) ((u.setCell ⟨gm, 1, none⟩ (.int .i64 I)).drewN k) := by
  subst hI
  refine ⟨grownBy_trans (grownBy_trans hu (grownBy_set _ _ _ _)) (grownBy_drewN _ _ _), ?_⟩
  rw [h]
  obtain ⟨b, hb⟩ := hm
  refine ⟨rfl, b, ?_⟩
  show (u.setCell ⟨gm, 1, none⟩ (.int .i64 ((i + m + v : Nat) : Int))).heap[gm]? = _
  simp [World.setCell, Array.getElem?_modify, hb]

theorem mr_cells {w : World} {gm n c i : Nat} {A : Option Addr} (h : MR w gm A n c i) : ∃ bad, w.cell? ⟨gm, 0, none⟩ = some (.slice A n c) ∧ w.cell? ⟨gm, 1, none⟩ = some (.int .i64 i) ∧ w.cell? ⟨gm, 2, none⟩ = some (.bool bad) ∧ ∀ j, w.frozen? ⟨gm, j, none⟩ = false := by
  obtain ⟨bad, hb⟩ := h
  exact ⟨bad, by rw [cell_of_row w gm 0 _ 37 (0, 0) hb]; rfl, by rw [cell_of_row w gm 1 _ 37 (0, 0) hb]; rfl, by rw [cell_of_row w gm 2 _ 37 (0, 0) hb]; rfl, fun j => by simp [World.frozen?, hb]⟩

theorem set_cells {w : World} {gm n c i : Nat} {A : Option Addr} (h : MR w gm A n c i) (k : Nat) (I : Int) :
    ((w.drewN k).setCell ⟨gm, 1, none⟩ (.int .i64 I)).cell? ⟨gm, 0, none⟩ = some (.slice A n c) ∧ ((w.drewN k).setCell ⟨gm, 1, none⟩ (.int .i64 I)).cell? ⟨gm, 1, none⟩ = some (.int .i64 I) := by
  obtain ⟨bad, hb⟩ := h
  have h1 : ((w.drewN k).setCell ⟨gm, 1, none⟩ (.int .i64 I)).heap[gm]? = some (.cells #[.slice A n c, .int .i64 I, .bool bad] 37 (0, 0)) := by simp [World.setCell, Array.getElem?_modify, hb]
  exact ⟨by rw [cell_of_row _ gm 0 _ 37 (0, 0) h1]; rfl, by rw [cell_of_row _ gm 1 _ 37 (0, 0) h1]; rfl⟩

/-- What Number leaves, without a match. -/
theorem RefOut.none_ {r : List UInt8} {most gm n c i : Nat} {A : Option Addr} {w w' : World} {e : Ending} (h : RefOut r most gm A n c i w e w') (hN : numAt r most = none) : w.grownBy w' (some gm) ∧ e = .returned (.tuple #[.int .u64 0, .int .i64 11]) ∧ MR w' gm A n c i := by
  obtain ⟨h1, h2⟩ := h
  rw [hN] at h2
  exact ⟨h1, h2⟩
theorem RefOut.some_ {r : List UInt8} {most gm n c i v m : Nat} {A : Option Addr} {w w' : World} {e : Ending} (h : RefOut r most gm A n c i w e w') (hN : numAt r most = some (v, m)) : w.grownBy w' (some gm) ∧ e = .returned (.tuple #[.int .u64 v, .int .i64 0]) ∧ MR w' gm A n c (i + m) := by
  obtain ⟨h1, h2⟩ := h
  rw [hN] at h2
  exact ⟨h1, h2⟩

set_option maxRecDepth 100000 in
set_option maxHeartbeats 4000000 in
theorem reftext_neg (A : Option Addr) (l : List UInt8) (c i gm B : Nat) (most : Int) (w : World) (hm : MR w gm A l.length c i) (hr : Rd w B A l) (hB : B ≤ gm) (hi : i ≤ l.length) (hc : l.length ≤ c) (hcm : c ≤ maxLen) (hn : l.length ≤ 400) (hm1 : most < 0) (hm0 : -9223372036854775808 ≤ most) :
    Calls Try.prog 18 #[.pointer (some ⟨gm, 0, none⟩), .int .i64 most] w (RefText (l.drop i) most gm A l.length c i w) := by
  have hlt := hm.lt
  have HT : Hid (textAt (l.drop i) most = none) := by
    show _ = _
    match hN : num1 (l.drop i) with
    | none => exact textAt_none hN
    | some (v, n) => exact textAt_no hN (by omega)
  obtain ⟨bad, c0, c1, c2, fz⟩ := mr_cells hm
  have HM0 := Lib.hid hm
  clear hm
  match hN : numAt (l.drop i) 0 with
  | none =>
    go_enter Try.func18, Try.ntmps18
    go_wp2_with fail
    refine (refnum_any A l c i gm 0 B w HM0.out hr (by omega) hi hc hcm hn).mono ?_
    rintro e w1 ho
    obtain ⟨g1, rfl, hm2⟩ := ho.none_ hN
    obtain ⟨bad2, d0, d1, d2, dz⟩ := mr_cells hm2
    clear ho c0 c1 c2 fz hN
    go_wp2_with fail
    go_quiet (fail)
    go_wp2
    go_ret2
    exact RefText.no HT.out (grownBy_trans g1 (grownBy_drewN _ nq _)) (hm2.keep rfl)
  | some (v, n) =>
    go_enter Try.func18, Try.ntmps18
    go_wp2_with fail
    refine (refnum_any A l c i gm 0 B w HM0.out hr (by omega) hi hc hcm hn).mono ?_
    rintro e w1 ho
    obtain ⟨g1, rfl, hm2⟩ := ho.some_ hN
    obtain ⟨bad2, d0, d1, d2, dz⟩ := mr_cells hm2
    have hd : decide (most < 0) = true := by simp; omega
    clear ho c0 c1 c2 fz hN
    go_wp2_with fail
    go_quiet (fail)
    go_wp2
    go_ret2
    exact RefText.no HT.out (grownBy_trans g1 (grownBy_drewN _ nq _)) (hm2.keep rfl)

set_option maxRecDepth 100000 in
set_option maxHeartbeats 4000000 in
theorem reftext_pos (A : Option Addr) (l : List UInt8) (c i gm B : Nat) (M : Nat) (w : World) (hm : MR w gm A l.length c i) (hr : Rd w B A l) (hB : B ≤ gm) (hi : i ≤ l.length) (hc : l.length ≤ c) (hcm : c ≤ maxLen) (hn : l.length ≤ 400) (hm1 : M < 9223372036854775808) :
    Calls Try.prog 18 #[.pointer (some ⟨gm, 0, none⟩), .int .i64 M] w (RefText (l.drop i) M gm A l.length c i w) := by
  have hlt := hm.lt
  have hcm2 : c ≤ 9223372036854775807 := hcm
  obtain ⟨bad, c0, c1, c2, fz⟩ := mr_cells hm
  have HM0 := Lib.hid hm
  clear hm
  match hN : numAt (l.drop i) M with
  | none =>
    have HT := Lib.hid (text_of_num_none (most := M) (Int.le_refl _) hN)
    go_enter Try.func18, Try.ntmps18
    go_wp2_with fail
    refine (refnum_any A l c i gm M B w HM0.out hr (by omega) hi hc hcm hn).mono ?_
    rintro e w1 ho
    obtain ⟨g1, rfl, hm2⟩ := ho.none_ hN
    obtain ⟨bad2, d0, d1, d2, dz⟩ := mr_cells hm2
    clear ho c0 c1 c2 fz hN
    go_wp2_with fail
    go_quiet (fail)
    go_wp2
    go_ret2
    exact RefText.no HT.out (grownBy_trans g1 (grownBy_drewN _ nq _)) (hm2.keep rfl)
  | some (v, n) =>
    obtain ⟨h1, h2⟩ := num_of_numAt hN
    have hnl := (num1_le h1).2.1
    rw [List.length_drop] at hnl
    have hv := (num1_le h1).2.2
    by_cases hfit : v ≤ l.length - (i + n)
    · have HT := Lib.hid (textAt_yes (most := M) h1 ⟨by omega, by omega, by rw [List.length_drop]; omega⟩)
      have hd0 : decide ((M : Int) < 0) = false := by simp
      go_enter Try.func18, Try.ntmps18
      go_wp2_with fail
      refine (refnum_any A l c i gm M B w HM0.out hr (by omega) hi hc hcm hn).mono ?_
      rintro e w1 ho
      obtain ⟨g1, rfl, hm2⟩ := ho.some_ hN
      obtain ⟨bad2, d0, d1, d2, dz⟩ := mr_cells hm2
      clear ho c0 c1 c2 fz hN h1
      have hsub : IntKind.i64.wrap ((l.length : Int) - ((i + n : Nat) : Int)) = ((l.length - (i + n) : Nat) : Int) := by rw [IntWalk.i64_in _ (by omega)]; omega
      go_wp2_with fail
      go_quiet (fail)
      go_wp2
      have hfin := fun k => RefText.yes (i := i) (k := k) (I := (i : Int) + n + v) HT.out (grownBy_trans g1 (grownBy_drewN _ nq _)) (hm2.keep (w' := w1.drewN nq) rfl) (by omega)
      have hrd1 : Rd w1 B A l := hr.keep fun p hp => World.cell?_of_block (g1.block p.block (by omega) (by simp; omega))
      have hrd2 := (hrd1.cut (k := i + n) (cap := c) (by omega) hc).take v
      generalize hA' : (if c = i + n then A else A.map (·.add (i + n))) = A' at hrd2
      have hrd8 : Rd ((w1.drewN nq).setCell ⟨gm, 1, none⟩ (.int .i64 ((i : Int) + n + v))) B A' ((l.drop (i + n)).take v) := hrd2.keep fun p hp => World.cell?_of_block (Below.heap_setCell (w1.drewN nq) ⟨gm, 1, none⟩ _ p.block (by show p.block ≠ gm; omega))
      obtain ⟨k0, k1⟩ := set_cells hm2 nq ((i : Int) + n + v)
      have hln : ((l.drop (i + n)).take v).length = v := by simp; omega
      have hcv : ∀ m, Sem.run Try.prog (convert 23 9 (.slice A' v (c - (i + n)))) (((w1.drewN nq).setCell ⟨gm, 1, none⟩ (.int .i64 ((i : Int) + n + v))).drewN m) = .ok (.string ⟨((l.drop (i + n)).take v).toArray⟩) (((w1.drewN nq).setCell ⟨gm, 1, none⟩ (.int .i64 ((i : Int) + n + v))).drewN m) := fun m => by
        have h := conv_any _ B A' ((l.drop (i + n)).take v) (c - (i + n)) (hrd8.drewN m)
        rwa [hln] at h
      have hstr : (⟨(((l.drop i).drop n).take v).toArray⟩ : ByteArray) = ⟨((l.drop (i + n)).take v).toArray⟩ := by rw [List.drop_drop]
      rw [hstr] at hfin
      generalize (⟨((l.drop (i + n)).take v).toArray⟩ : ByteArray) = SS at hcv hfin
      have HF := Lib.hid hfin
      clear hfin hrd1 hrd2 hrd8 hstr hm2 g1 HM0 HT d0 d1 d2 dz
      generalize ((w1.drewN nq).setCell ⟨gm, 1, none⟩ (.int .i64 ((i : Int) + n + v))) = u8 at *
      have ht1 : ((i : Int) + (n : Int)).toNat = i + n := by omega
      have ht2 : ((i : Int) + (n : Int) + (v : Int)).toNat = i + n + v := by omega
      have hle3 : i + n + v ≤ c := by omega
      by_cases hcc : c = i + n
      · rw [if_pos hcc] at hA'
        subst hA'
        obtain rfl : v = 0 := by omega
        have hc0 : (0 : Nat) = c - (i + n) := by omega
        simp only [Int.natCast_zero, Int.add_zero, Nat.add_zero] at k1 HF hle3 ht2 ⊢
        rw [← hc0] at hcv
        clear hc0
        have hci1 : ¬ (c : Int) < (i : Int) + (n : Int) := by omega
        have hci2 : c - (i + n) = 0 := by omega
        have hci3 : ¬ (i : Int) + (n : Int) < (i : Int) + (n : Int) := by omega
        go_quiet (fail)
        go_wp2
        go_ret2
        have hF := HF.out nq
        rw [hcc] at hF
        exact hF
      · rw [if_neg hcc] at hA'
        subst hA'
        go_quiet (fail)
        go_wp2
        go_ret2
        exact HF.out _
    · have HT := Lib.hid (textAt_no (most := M) h1 (by rw [List.length_drop]; omega))
      go_enter Try.func18, Try.ntmps18
      go_wp2_with fail
      refine (refnum_any A l c i gm M B w HM0.out hr (by omega) hi hc hcm hn).mono ?_
      rintro e w1 ho
      obtain ⟨g1, rfl, hm2⟩ := ho.some_ hN
      obtain ⟨bad2, d0, d1, d2, dz⟩ := mr_cells hm2
      have hd0 : decide ((M : Int) < 0) = false := by simp
      clear ho c0 c1 c2 fz hN h1
      go_wp2_with fail
      go_quiet (fail)
      go_wp2
      go_ret2
      exact RefText.no HT.out (grownBy_trans g1 (grownBy_drewN _ nq _)) (hm2.keep rfl)
theorem reftext_any (A : Option Addr) (l : List UInt8) (c i gm B : Nat) (most : Int) (w : World) (hm : MR w gm A l.length c i) (hr : Rd w B A l) (hB : B ≤ gm) (hi : i ≤ l.length) (hc : l.length ≤ c) (hcm : c ≤ maxLen) (hn : l.length ≤ 400) (hm0 : -9223372036854775808 ≤ most) (hm1 : most < 9223372036854775808) :
    Calls Try.prog 18 #[.pointer (some ⟨gm, 0, none⟩), .int .i64 most] w (RefText (l.drop i) most gm A l.length c i w) := by
  by_cases h : most < 0
  · exact reftext_neg A l c i gm B most w hm hr hB hi hc hcm hn h hm0
  · obtain ⟨M, rfl⟩ := Int.eq_ofNat_of_zero_le (show 0 ≤ most by omega)
    exact reftext_pos A l c i gm B M w hm hr hB hi hc hcm hn (by omega)
end Go.Proofs.Ytnjghodjpbalcaa
