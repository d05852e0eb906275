/- Contracts: strings.SplitN at a text and a blank, read. -/
import Derived.Test.YtmpgfmedldnhjaaGreatDoorS10
namespace Go.Proofs.YtmpgfmedldnhjaaGreatDoor
open Go.RowKit Go.Shelf

theorem rangeOf_lt {l : List UInt8} {f t : Nat} (h : rangeOf l = some (f, t)) : f < 4294967296 ∧ t < 4294967296 := by
  cases hp : prefOf l with
  | some an =>
    obtain ⟨a, n⟩ := an
    rw [rg_pref hp] at h
    injection h with h
    injection h with h1 h2
    obtain ⟨h3, h4, h5⟩ := prefOf_right hp
    have := last_lt h3 h5
    have hs : 0 < sz n := Nat.pow_pos (by decide)
    subst h1 h2; omega
  | none =>
    rcases split_at 45 l with hno | ⟨p, q, hs, hp'⟩
    · rw [rg_no hno hp] at h; cases h
    · rw [rg_cut hs hp'] at h
      cases h1 : addrOf p with
      | none => rw [h1] at h; cases h
      | some a =>
        cases h2 : addrOf q with
        | none => rw [h1, h2] at h; cases h
        | some b =>
          rw [h1, h2] at h
          simp only [] at h
          split at h
          · injection h with h
            injection h with h3 h4
            subst h3 h4
            exact ⟨addrOf_lt h1, addrOf_lt h2⟩
          · cases h
/-- What ParseRange answers, as far as it is asked. -/
def RngOut (s : ByteArray) (w : World) (e : Ending) (w' : World) : Prop := ∃ (f t : Nat) (er : Int), e = .returned (.tuple #[.agg #[.int .u32 f, .int .u32 t], .int .i64 er]) ∧ f < 4294967296 ∧ t < 4294967296 ∧ (∀ f' t' : Nat, f' ≤ t' → t' < 4294967296 → s.data.toList = rngT f' t' → f = f' ∧ t = t' ∧ er = 0) ∧ Below w.heap.size w w'
theorem prange_any (s : ByteArray) (w : World) (hz : s.size ≤ 1000) : Calls Tryz.prog 52 #[.string s] w (RngOut s w) := by
  refine (parseRange_any s w hz).mono ?_
  rintro e w' ⟨rfl, hb⟩
  cases h : rangeOf s.data.toList with
  | none =>
    refine ⟨0, 0, 21, by rw [prV_none h]; rfl, by omega, by omega, fun f' t' h1 h2 e => ?_, hb⟩
    rw [e, range_back h1 h2] at h; cases h
  | some ft =>
    obtain ⟨f, t⟩ := ft
    obtain ⟨h3, h4⟩ := rangeOf_lt h
    refine ⟨f, t, 0, by rw [prV_some h], h3, h4, fun f' t' h1 h2 e => ?_, hb⟩
    rw [e, range_back h1 h2] at h
    injection h with h
    injection h with h5 h6
    exact ⟨h5.symm, h6.symm, rfl⟩

/-- What SplitN answers, as far as it is asked. -/
def SplOut (s : ByteArray) (w : World) (e : Ending) (w' : World) : Prop := ∃ (ps : List ByteArray) (c B : Nat), e = .returned (.slice (some ⟨B, 0, none⟩) ps.length c) ∧ ps.length ≤ 6 ∧ ps.length ≤ c ∧ w.heap.size ≤ B ∧ B < w'.heap.size ∧
  (∀ (j : Nat) p, ps[j]? = some p → w'.cell? ⟨B, j, none⟩ = some (.string p)) ∧ (∀ p ∈ ps, p.size ≤ 1000) ∧ (∀ r, s.data.toList = textL r → ps.map (·.data.toList) = partsR r) ∧ Below w.heap.size w w'
theorem split_any (s : ByteArray) (w : World) (hT : Tb w) (hz : s.size ≤ 1000) : Calls Tryz.prog 49 #[.string s, .string ⟨#[32]⟩, .int .i64 6] w (SplOut s w) := by
  obtain ⟨m, hm⟩ := hT.ml
  refine (splitN_lib s ⟨#[32]⟩ 6 m w (by omega) hm (by decide) (by omega) (by omega)).mono ?_
  rintro e w' ⟨rfl, rfl⟩
  have hdat := Lib.splitB_data ⟨#[32]⟩ 0 (min 6 (s.size + 1) - 1) s
  have hln := Lib.splitB_length_le ⟨#[32]⟩ 0 (min 6 (s.size + 1) - 1) s
  generalize Lib.splitB ⟨#[32]⟩ 0 (min 6 (s.size + 1) - 1) s = ps at hdat hln
  have hd2 : ps.map (·.data.toList) = Lib.splitK [32] 0 (min 6 (s.size + 1) - 1) s.data.toList := hdat
  refine ⟨ps, min 6 (s.size + 1), w.heap.size, rfl, by omega, by omega, Nat.le_refl _, by simp, fun j p hj => ?_, fun p hp => ?_, fun r hr => ?_, (Below.refl _ _).alloc (Nat.le_refl _) _⟩
  · rw [(At.new w _ _).cell j]
    have hlt : j < ps.length := (List.getElem?_eq_some_iff.1 hj).1
    simp only [Lib.cellsOf, List.getElem?_toArray]
    rw [List.getElem?_append_left (by simpa using hlt), List.getElem?_map, hj]; rfl
  · have := splitK_le [32] _ s.data.toList p.data.toList (by rw [← hd2]; exact List.mem_map_of_mem hp)
    have e1 : p.data.toList.length = p.size := Array.length_toList
    have e2 : s.data.toList.length = s.size := Array.length_toList
    omega
  · rw [hd2, hr]
    have e2 : s.size = (textL r).length := by rw [← hr]; exact Array.length_toList.symm
    rw [e2]
    exact splitN_text r

/-- What read answers, as far as it is asked. -/
def ReadOut (s : ByteArray) (w : World) (e : Ending) (w' : World) : Prop := ∃ (r : Ru) (ok : Bool), e = .returned (.tuple #[.agg (ruA r), .bool ok]) ∧ r.wf ∧ (∀ r', ruB r' = true → r'.wf → s.data.toList = textL r' → r = r' ∧ ok = true) ∧ Below w.heap.size w w'
set_option maxRecDepth 100000 in
set_option maxHeartbeats 4000000 in
theorem read_any (s : ByteArray) (w : World) (hT : Tb w) (hz : s.size ≤ 1000) : Calls Tryz.prog 33 #[.string s] w (ReadOut s w) := by
  have Z0 := At.new w (ruA ru0) 31
  have b0 : Below w.heap.size w (w.alloc (.cells (ruA ru0) 31)) := (Below.refl _ _).alloc (Nat.le_refl _) _
  have hsp := split_any s (w.alloc (.cells (ruA ru0) 31)) (hT.alloc _) hz
  have T0 := hT.alloc (.cells (ruA ru0) 31)
  rw [rd0] at Z0 b0 hsp T0
  go_enter Tryz.func33, Tryz.ntmps33
  go_wp2_with fail
  refine hsp.mono ?_
  rintro e w1 ⟨ps, c, B, rfl, hn6, hnc, hB, hB1, hcell, hsize, hps, b1⟩
  have Z1 := Z0.belows b1
  have T1 := T0.below b1
  have B1 := b0.trans (b1.mono b0.size)
  clear Z0 T0 b0 b1 hsp
  have HC := Lib.hid hcell
  have HP := Lib.hid hps
  clear hcell hps
  by_cases hn : ps.length < 5
  · have hnI : decide ((ps.length : Int) < 5) = true := by simp; omega
    have hnN : decide (ps.length < 5) = true := by simpa using hn
    have y0 := (Z1.cell 0).trans rfl; have q0 := Z1.frozen 0; have y1 := (Z1.cell 1).trans rfl; have q1 := Z1.frozen 1; have y2 := (Z1.cell 2).trans rfl; have q2 := Z1.frozen 2; have y3 := (Z1.cell 3).trans rfl; have q3 := Z1.frozen 3; have y4 := (Z1.cell 4).trans rfl; have q4 := Z1.frozen 4; have y5 := (Z1.cell 5).trans rfl; have q5 := Z1.frozen 5; have y6 := (Z1.cell 6).trans rfl; have q6 := Z1.frozen 6
    have HN : Hid (∀ r', ruB r' = true → r'.wf → s.data.toList = textL r' → ru0 = r' ∧ false = true) := Lib.hid fun r' _ _ e => by
      have h1 := congrArg List.length (HP.out r' e)
      rw [List.length_map] at h1
      have h2 : 5 ≤ (partsR r').length := by simp [partsR]
      omega
    clear HP HC hn
    go_wp2_with fail
    have Z := At.fill (y := ru0) (by rw [rd0]; exact Z1) ru0
    have Y0 := Z.cell 0; have Y1 := Z.cell 1; have Y2 := Z.cell 2; have Y3 := Z.cell 3; have Y4 := Z.cell 4; have Y5 := Z.cell 5; have Y6 := Z.cell 6
    unfold fillW at Y0 Y1 Y2 Y3 Y4 Y5 Y6
    refine bodyPost_ret (v := .tuple #[.agg (ruA ru0), .bool false]) ?_ rfl ⟨ru0, false, rfl, ru0_wf, HN.out, below_fill B1 (Nat.le_refl _) ru0⟩
    simp [ru0, ruA] at Y0 Y1 Y2 Y3 Y4 Y5 Y6
    simp [results, Tryz.results33, go_sem, Y0, Y1, Y2, Y3, Y4, Y5, Y6, ruA, ru0]
  · have hnI : decide ((ps.length : Int) < 5) = false := by simp; omega
    have hnN : decide (ps.length < 5) = false := by simpa using hn
    have l0 : (0 : Int) < (ps.length : Int) := by omega
    have l1 : (1 : Int) < (ps.length : Int) := by omega
    have l2 : (2 : Int) < (ps.length : Int) := by omega
    have l3 : (3 : Int) < (ps.length : Int) := by omega
    have l4 : (4 : Int) < (ps.length : Int) := by omega
    obtain ⟨p0, e0⟩ : ∃ p, ps[0]? = some p := ⟨_, List.getElem?_eq_getElem (by omega)⟩
    obtain ⟨p1, e1⟩ : ∃ p, ps[1]? = some p := ⟨_, List.getElem?_eq_getElem (by omega)⟩
    obtain ⟨p2, e2⟩ : ∃ p, ps[2]? = some p := ⟨_, List.getElem?_eq_getElem (by omega)⟩
    obtain ⟨p3, e3⟩ : ∃ p, ps[3]? = some p := ⟨_, List.getElem?_eq_getElem (by omega)⟩
    obtain ⟨p4, e4⟩ : ∃ p, ps[4]? = some p := ⟨_, List.getElem?_eq_getElem (by omega)⟩
    have HR : Hid (∀ r', s.data.toList = textL r' → p0.data.toList = dg r'.id ∧ p1.data.toList = dg r'.dv ∧ p2.data.toList = dg r'.pr ∧ p3.data.toList = word r'.kd ∧ p4.data.toList = rngT r'.f r'.t ∧ (ps.length = 5 → ¬ r'.kd = 0) ∧ ∀ p, ps[5]? = some p → p.data.toList = dg r'.pt ∧ r'.kd = 0) := Lib.hid fun r' e => by
      have h := HP.out r' e
      have g : ∀ (j : Nat) (p : ByteArray), ps[j]? = some p → (partsR r')[j]? = some p.data.toList := fun j p hj => by rw [← h, List.getElem?_map, hj]; rfl
      have hl : ps.length = (partsR r').length := by rw [← h, List.length_map]
      refine ⟨(by simpa [partsR] using (g 0 p0 e0).symm), (by simpa [partsR] using (g 1 p1 e1).symm), (by simpa [partsR] using (g 2 p2 e2).symm), (by simpa [partsR] using (g 3 p3 e3).symm), (by simpa [partsR] using (g 4 p4 e4).symm), fun h5 hk => ?_, fun p hp => ?_⟩
      · rw [h5] at hl; simp [partsR, hk] at hl
      · have h6 := g 5 p hp
        by_cases hk : r'.kd = 0
        · simp [partsR, hk] at h6; exact ⟨h6.symm, hk⟩
        · simp [partsR, hk] at h6
    have z0 : p0.size ≤ 1000 := hsize _ (List.mem_of_getElem? e0)
    have z1 : p1.size ≤ 1000 := hsize _ (List.mem_of_getElem? e1)
    have z2 : p2.size ≤ 1000 := hsize _ (List.mem_of_getElem? e2)
    have z3 : p3.size ≤ 1000 := hsize _ (List.mem_of_getElem? e3)
    have z4 : p4.size ≤ 1000 := hsize _ (List.mem_of_getElem? e4)
    have HC2 : Hid (∀ W, Below w1.heap.size w1 W → ∀ (j : Nat) p, ps[j]? = some p → W.cell? ⟨B, j, none⟩ = some (.string p)) := Lib.hid fun W hW j p hj => (hW.cell (p := ⟨B, j, none⟩) hB1).trans (HC.out j p hj)
    have E0 := Lib.hid e0
    have E1 := Lib.hid e1
    have E2 := Lib.hid e2
    have E3 := Lib.hid e3
    have E4 := Lib.hid e4
    have ND : Hid (¬ ps.length < 5) := Lib.hid hn
    clear e0 e1 e2 e3 e4 HP HC hn
    have c0 := HC2.out w1 (Below.refl _ _) 0 p0 E0.out
    go_wp2_with fail
    refine (number_any p0 w1 T1 z0).mono ?_
    rintro e w2 ⟨n0, k0, rfl, i0, m0, b2⟩
    have M0 := Lib.hid m0
    clear m0 c0
    have T2 := T1.below b2
    have c1 := HC2.out w2 b2 1 p1 E1.out
    go_wp2_with fail
    refine (number_any p1 w2 T2 z1).mono ?_
    rintro e w3 ⟨n1, k1, rfl, i1, m1, b3'⟩
    have M1 := Lib.hid m1
    have b3 := b2.trans (b3'.mono b2.size)
    have T3 := T2.below b3'
    clear m1 c1 b2 T2 b3'
    have c2 := HC2.out w3 b3 2 p2 E2.out
    go_wp2_with fail
    refine (number_any p2 w3 T3 z2).mono ?_
    rintro e w4 ⟨n2, k2, rfl, i2, m2, b4'⟩
    have M2 := Lib.hid m2
    have b4 := b3.trans (b4'.mono b3.size)
    have T4 := T3.below b4'
    clear m2 c2 b3 T3 b4'
    have c3 := HC2.out w4 b4 3 p3 E3.out
    go_wp2_with fail
    refine (kindOf_any p3 w4 T4).mono ?_
    rintro e w5 ⟨n3, k3, rfl, i3, m3, b5'⟩
    have M3 := Lib.hid m3
    have b5 := b4.trans (b5'.mono b4.size)
    have T5 := T4.below b5'
    clear m3 c3 b4 T4 b5'
    have c4 := HC2.out w5 b5 4 p4 E4.out
    go_wp2_with fail
    refine (prange_any p4 w5 z4).mono ?_
    rintro e w6 ⟨f, t, er, rfl, if_, it, m4, b6'⟩
    have M4 := Lib.hid m4
    have b6 := b5.trans (b6'.mono b5.size)
    have T6 := T5.below b6'
    have Z6 := Z1.belows b6
    clear m4 c4 b5 T5 b6' Z1
    have X7 : At (w6.alloc (.cells #[.int .u32 f, .int .u32 t] 29)) w6.heap.size #[.int .u32 f, .int .u32 t] 29 := At.new _ _ _
    have Z7 := Z6.alloc (.cells #[.int .u32 f, .int .u32 t] 29)
    have bb : Below w6.heap.size w6 (w6.alloc (.cells #[.int .u32 f, .int .u32 t] 29)) := (Below.refl _ w6).alloc (Nat.le_refl _) _
    have b7 := b6.trans (bb.mono b6.size)
    have T7 := T6.below bb
    have B7 := B1.trans (b7.mono B1.size)
    have hs7 := bb.size
    clear b6 T6 Z6 bb
    generalize hW7 : w6.alloc (.cells #[.int .u32 f, .int .u32 t] 29) = w7 at X7 Z7 b7 T7 B7 hs7
    have x0 : w7.cell? ⟨w6.heap.size, 0, none⟩ = some (.int .u32 f) := X7.cell 0
    have x1 : w7.cell? ⟨w6.heap.size, 1, none⟩ = some (.int .u32 t) := X7.cell 1
    by_cases h5 : ps.length = 5
    · have d5 : ((ps.length : Int) == 6) = false := by simp; omega
      have d5n : (ps.length == 6) = false := by simp; omega
      have HF : Hid (∀ r', ruB r' = true → r'.wf → s.data.toList = textL r' → (⟨n0, n1, n2, n3, f, t, 0⟩ : Ru) = r' ∧ k0 = true ∧ k1 = true ∧ k2 = true ∧ k3 = true ∧ er = 0) := Lib.hid fun r' hr hw hs => by
        obtain ⟨q0, q1, q2, q3, q4, q5, _⟩ := HR.out r' hs
        obtain ⟨⟨h1, h2⟩, ⟨h3, h4⟩, ⟨h5', h6⟩, h7, h8, h9, h10, h11, h12⟩ := (ruB_iff r').1 hr
        obtain ⟨a0, a0'⟩ := M0.out _ (by omega) (by omega) q0
        obtain ⟨a1, a1'⟩ := M1.out _ (by omega) (by omega) q1
        obtain ⟨a2, a2'⟩ := M2.out _ (by omega) (by omega) q2
        obtain ⟨a3, a3'⟩ := M3.out _ (by omega) (by omega) q3
        obtain ⟨a4, a5, a6⟩ := M4.out _ _ h9 hw.2.2.2.2.2.1 q4
        refine ⟨(Ru.eq_iff _ _).2 ⟨a0, a1, a2, a3, a4, a5, ?_⟩, a0', a1', a2', a3', a6⟩
        exact (h12.resolve_left (q5 h5)).symm
      have WF : Hid ((⟨n0, n1, n2, n3, f, t, 0⟩ : Ru).wf) := Lib.hid ⟨i0, i1, i2, i3, if_, it, by simp [isI]⟩
      clear M0 M1 M2 M3 M4 HR HC2 E0 E1 E2 E3 E4 i0 i1 i2 i3 X7 T7 b7
      have Z8 := Z7
      have B8 := B7
      clear Z7 B7
      cases k0 with
      | false =>
        have y0 := (Z8.cell 0).trans rfl; have q0 := Z8.frozen 0; have y1 := (Z8.cell 1).trans rfl; have q1 := Z8.frozen 1; have y2 := (Z8.cell 2).trans rfl; have q2 := Z8.frozen 2; have y3 := (Z8.cell 3).trans rfl; have q3 := Z8.frozen 3; have y4 := (Z8.cell 4).trans rfl; have q4 := Z8.frozen 4; have y5 := (Z8.cell 5).trans rfl; have q5 := Z8.frozen 5; have y6 := (Z8.cell 6).trans rfl; have q6 := Z8.frozen 6
        go_wp2_with fail
        have Z := At.fill (y := ru0) (by rw [rd0]; exact Z8) ⟨n0, n1, n2, n3, f, t, 0⟩
        have Y0 := Z.cell 0; have Y1 := Z.cell 1; have Y2 := Z.cell 2; have Y3 := Z.cell 3; have Y4 := Z.cell 4; have Y5 := Z.cell 5; have Y6 := Z.cell 6
        unfold fillW at Y0 Y1 Y2 Y3 Y4 Y5 Y6
        refine bodyPost_ret (v := .tuple #[.agg (ruA ⟨n0, n1, n2, n3, f, t, 0⟩), .bool false]) ?_ rfl ⟨⟨n0, n1, n2, n3, f, t, 0⟩, false, rfl, WF.out, (fun r' a b c => by have := HF.out r' a b c; simp at this), below_fill B8 (Nat.le_refl _) ⟨n0, n1, n2, n3, f, t, 0⟩⟩
        simp [ruA] at Y0 Y1 Y2 Y3 Y4 Y5 Y6
        simp [results, Tryz.results33, go_sem, Y0, Y1, Y2, Y3, Y4, Y5, Y6, ruA]
      | true =>
        cases k1 with
        | false =>
          have y0 := (Z8.cell 0).trans rfl; have q0 := Z8.frozen 0; have y1 := (Z8.cell 1).trans rfl; have q1 := Z8.frozen 1; have y2 := (Z8.cell 2).trans rfl; have q2 := Z8.frozen 2; have y3 := (Z8.cell 3).trans rfl; have q3 := Z8.frozen 3; have y4 := (Z8.cell 4).trans rfl; have q4 := Z8.frozen 4; have y5 := (Z8.cell 5).trans rfl; have q5 := Z8.frozen 5; have y6 := (Z8.cell 6).trans rfl; have q6 := Z8.frozen 6
          go_wp2_with fail
          have Z := At.fill (y := ru0) (by rw [rd0]; exact Z8) ⟨n0, n1, n2, n3, f, t, 0⟩
          have Y0 := Z.cell 0; have Y1 := Z.cell 1; have Y2 := Z.cell 2; have Y3 := Z.cell 3; have Y4 := Z.cell 4; have Y5 := Z.cell 5; have Y6 := Z.cell 6
          unfold fillW at Y0 Y1 Y2 Y3 Y4 Y5 Y6
          refine bodyPost_ret (v := .tuple #[.agg (ruA ⟨n0, n1, n2, n3, f, t, 0⟩), .bool false]) ?_ rfl ⟨⟨n0, n1, n2, n3, f, t, 0⟩, false, rfl, WF.out, (fun r' a b c => by have := HF.out r' a b c; simp at this), below_fill B8 (Nat.le_refl _) ⟨n0, n1, n2, n3, f, t, 0⟩⟩
          simp [ruA] at Y0 Y1 Y2 Y3 Y4 Y5 Y6
          simp [results, Tryz.results33, go_sem, Y0, Y1, Y2, Y3, Y4, Y5, Y6, ruA]
        | true =>
          cases k2 with
          | false =>
            have y0 := (Z8.cell 0).trans rfl; have q0 := Z8.frozen 0; have y1 := (Z8.cell 1).trans rfl; have q1 := Z8.frozen 1; have y2 := (Z8.cell 2).trans rfl; have q2 := Z8.frozen 2; have y3 := (Z8.cell 3).trans rfl; have q3 := Z8.frozen 3; have y4 := (Z8.cell 4).trans rfl; have q4 := Z8.frozen 4; have y5 := (Z8.cell 5).trans rfl; have q5 := Z8.frozen 5; have y6 := (Z8.cell 6).trans rfl; have q6 := Z8.frozen 6
            go_wp2_with fail
            have Z := At.fill (y := ru0) (by rw [rd0]; exact Z8) ⟨n0, n1, n2, n3, f, t, 0⟩
            have Y0 := Z.cell 0; have Y1 := Z.cell 1; have Y2 := Z.cell 2; have Y3 := Z.cell 3; have Y4 := Z.cell 4; have Y5 := Z.cell 5; have Y6 := Z.cell 6
            unfold fillW at Y0 Y1 Y2 Y3 Y4 Y5 Y6
            refine bodyPost_ret (v := .tuple #[.agg (ruA ⟨n0, n1, n2, n3, f, t, 0⟩), .bool false]) ?_ rfl ⟨⟨n0, n1, n2, n3, f, t, 0⟩, false, rfl, WF.out, (fun r' a b c => by have := HF.out r' a b c; simp at this), below_fill B8 (Nat.le_refl _) ⟨n0, n1, n2, n3, f, t, 0⟩⟩
            simp [ruA] at Y0 Y1 Y2 Y3 Y4 Y5 Y6
            simp [results, Tryz.results33, go_sem, Y0, Y1, Y2, Y3, Y4, Y5, Y6, ruA]
          | true =>
            cases k3 with
            | false =>
              have y0 := (Z8.cell 0).trans rfl; have q0 := Z8.frozen 0; have y1 := (Z8.cell 1).trans rfl; have q1 := Z8.frozen 1; have y2 := (Z8.cell 2).trans rfl; have q2 := Z8.frozen 2; have y3 := (Z8.cell 3).trans rfl; have q3 := Z8.frozen 3; have y4 := (Z8.cell 4).trans rfl; have q4 := Z8.frozen 4; have y5 := (Z8.cell 5).trans rfl; have q5 := Z8.frozen 5; have y6 := (Z8.cell 6).trans rfl; have q6 := Z8.frozen 6
              go_wp2_with fail
              have Z := At.fill (y := ru0) (by rw [rd0]; exact Z8) ⟨n0, n1, n2, n3, f, t, 0⟩
              have Y0 := Z.cell 0; have Y1 := Z.cell 1; have Y2 := Z.cell 2; have Y3 := Z.cell 3; have Y4 := Z.cell 4; have Y5 := Z.cell 5; have Y6 := Z.cell 6
              unfold fillW at Y0 Y1 Y2 Y3 Y4 Y5 Y6
              refine bodyPost_ret (v := .tuple #[.agg (ruA ⟨n0, n1, n2, n3, f, t, 0⟩), .bool false]) ?_ rfl ⟨⟨n0, n1, n2, n3, f, t, 0⟩, false, rfl, WF.out, (fun r' a b c => by have := HF.out r' a b c; simp at this), below_fill B8 (Nat.le_refl _) ⟨n0, n1, n2, n3, f, t, 0⟩⟩
              simp [ruA] at Y0 Y1 Y2 Y3 Y4 Y5 Y6
              simp [results, Tryz.results33, go_sem, Y0, Y1, Y2, Y3, Y4, Y5, Y6, ruA]
            | true =>
              by_cases her : er = 0
              · have d7 : (er == 0) = true := by simpa using her
                have HE := Lib.hid her
                clear her
                have y0 := (Z8.cell 0).trans rfl; have q0 := Z8.frozen 0; have y1 := (Z8.cell 1).trans rfl; have q1 := Z8.frozen 1; have y2 := (Z8.cell 2).trans rfl; have q2 := Z8.frozen 2; have y3 := (Z8.cell 3).trans rfl; have q3 := Z8.frozen 3; have y4 := (Z8.cell 4).trans rfl; have q4 := Z8.frozen 4; have y5 := (Z8.cell 5).trans rfl; have q5 := Z8.frozen 5; have y6 := (Z8.cell 6).trans rfl; have q6 := Z8.frozen 6
                go_wp2_with fail
                have Z := At.fill (y := ru0) (by rw [rd0]; exact Z8) ⟨n0, n1, n2, n3, f, t, 0⟩
                have Y0 := Z.cell 0; have Y1 := Z.cell 1; have Y2 := Z.cell 2; have Y3 := Z.cell 3; have Y4 := Z.cell 4; have Y5 := Z.cell 5; have Y6 := Z.cell 6
                unfold fillW at Y0 Y1 Y2 Y3 Y4 Y5 Y6
                refine bodyPost_ret (v := .tuple #[.agg (ruA ⟨n0, n1, n2, n3, f, t, 0⟩), .bool true]) ?_ rfl ⟨⟨n0, n1, n2, n3, f, t, 0⟩, true, rfl, WF.out, (fun r' a b c => ⟨(HF.out r' a b c).1, rfl⟩), below_fill B8 (Nat.le_refl _) ⟨n0, n1, n2, n3, f, t, 0⟩⟩
                simp [ruA] at Y0 Y1 Y2 Y3 Y4 Y5 Y6
                simp [results, Tryz.results33, go_sem, Y0, Y1, Y2, Y3, Y4, Y5, Y6, ruA]
              · have d7 : (er == 0) = false := by simpa using her
                have HE : Hid (¬ er = 0) := Lib.hid her
                clear her
                have y0 := (Z8.cell 0).trans rfl; have q0 := Z8.frozen 0; have y1 := (Z8.cell 1).trans rfl; have q1 := Z8.frozen 1; have y2 := (Z8.cell 2).trans rfl; have q2 := Z8.frozen 2; have y3 := (Z8.cell 3).trans rfl; have q3 := Z8.frozen 3; have y4 := (Z8.cell 4).trans rfl; have q4 := Z8.frozen 4; have y5 := (Z8.cell 5).trans rfl; have q5 := Z8.frozen 5; have y6 := (Z8.cell 6).trans rfl; have q6 := Z8.frozen 6
                go_wp2_with fail
                have Z := At.fill (y := ru0) (by rw [rd0]; exact Z8) ⟨n0, n1, n2, n3, f, t, 0⟩
                have Y0 := Z.cell 0; have Y1 := Z.cell 1; have Y2 := Z.cell 2; have Y3 := Z.cell 3; have Y4 := Z.cell 4; have Y5 := Z.cell 5; have Y6 := Z.cell 6
                unfold fillW at Y0 Y1 Y2 Y3 Y4 Y5 Y6
                refine bodyPost_ret (v := .tuple #[.agg (ruA ⟨n0, n1, n2, n3, f, t, 0⟩), .bool false]) ?_ rfl ⟨⟨n0, n1, n2, n3, f, t, 0⟩, false, rfl, WF.out, (fun r' a b c => by have := HF.out r' a b c; exact absurd this.2.2.2.2.2 HE.out), below_fill B8 (Nat.le_refl _) ⟨n0, n1, n2, n3, f, t, 0⟩⟩
                simp [ruA] at Y0 Y1 Y2 Y3 Y4 Y5 Y6
                simp [results, Tryz.results33, go_sem, Y0, Y1, Y2, Y3, Y4, Y5, Y6, ruA]
    · have d5 : ((ps.length : Int) == 6) = true := by simp; omega
      have d5n : (ps.length == 6) = true := by simp; omega
      have l5 : (5 : Int) < (ps.length : Int) := by have := ND.out; omega
      obtain ⟨p5, e5⟩ : ∃ p, ps[5]? = some p := ⟨_, List.getElem?_eq_getElem (by have := ND.out; omega)⟩
      have z5 : p5.size ≤ 1000 := hsize _ (List.mem_of_getElem? e5)
      have c5 := HC2.out w7 b7 5 p5 e5
      have E5 := Lib.hid e5
      clear e5
      have kall : Hid (k0 = k0) := Lib.hid rfl
      go_wp2_with fail
      clear hW7
      refine (number_any p5 w7 T7 z5).mono ?_
      rintro e w8 ⟨n5, k5, rfl, i5, m5, b8⟩
      have X8 := X7.belows b8
      have Z8 := Z7.belows b8
      have B8 := B7.trans (b8.mono B7.size)
      have u0 : w8.cell? ⟨w6.heap.size, 0, none⟩ = some (.int .u32 f) := X8.cell 0
      have u1 : w8.cell? ⟨w6.heap.size, 1, none⟩ = some (.int .u32 t) := X8.cell 1
      have HF : Hid (∀ r', ruB r' = true → r'.wf → s.data.toList = textL r' → (⟨n0, n1, n2, n3, f, t, n5⟩ : Ru) = r' ∧ k0 = true ∧ k1 = true ∧ k2 = true ∧ k3 = true ∧ er = 0 ∧ k5 = true) := Lib.hid fun r' hr hw hs => by
        obtain ⟨q0, q1, q2, q3, q4, _, q5⟩ := HR.out r' hs
        obtain ⟨⟨h1, h2⟩, ⟨h3, h4⟩, ⟨h5', h6⟩, h7, h8, h9, h10, h11, h12⟩ := (ruB_iff r').1 hr
        obtain ⟨a0, a0'⟩ := M0.out _ (by omega) (by omega) q0
        obtain ⟨a1, a1'⟩ := M1.out _ (by omega) (by omega) q1
        obtain ⟨a2, a2'⟩ := M2.out _ (by omega) (by omega) q2
        obtain ⟨a3, a3'⟩ := M3.out _ (by omega) (by omega) q3
        obtain ⟨a4, a5, a6⟩ := M4.out _ _ h9 hw.2.2.2.2.2.1 q4
        obtain ⟨a7, a7'⟩ := m5 _ (by omega) (by omega) (q5 p5 E5.out).1
        exact ⟨(Ru.eq_iff _ _).2 ⟨a0, a1, a2, a3, a4, a5, a7⟩, a0', a1', a2', a3', a6, a7'⟩
      have WF : Hid ((⟨n0, n1, n2, n3, f, t, n5⟩ : Ru).wf) := Lib.hid ⟨i0, i1, i2, i3, if_, it, i5⟩
      clear M0 M1 M2 M3 M4 HR HC2 E0 E1 E2 E3 E4 E5 i0 i1 i2 i3 i5 X7 T7 b7 Z7 B7 X8 m5 kall c5
      cases k0 with
      | false =>
        have y0 := (Z8.cell 0).trans rfl; have q0 := Z8.frozen 0; have y1 := (Z8.cell 1).trans rfl; have q1 := Z8.frozen 1; have y2 := (Z8.cell 2).trans rfl; have q2 := Z8.frozen 2; have y3 := (Z8.cell 3).trans rfl; have q3 := Z8.frozen 3; have y4 := (Z8.cell 4).trans rfl; have q4 := Z8.frozen 4; have y5 := (Z8.cell 5).trans rfl; have q5 := Z8.frozen 5; have y6 := (Z8.cell 6).trans rfl; have q6 := Z8.frozen 6
        go_wp2_with fail
        have Z := At.fill (y := ru0) (by rw [rd0]; exact Z8) ⟨n0, n1, n2, n3, f, t, n5⟩
        have Y0 := Z.cell 0; have Y1 := Z.cell 1; have Y2 := Z.cell 2; have Y3 := Z.cell 3; have Y4 := Z.cell 4; have Y5 := Z.cell 5; have Y6 := Z.cell 6
        unfold fillW at Y0 Y1 Y2 Y3 Y4 Y5 Y6
        refine bodyPost_ret (v := .tuple #[.agg (ruA ⟨n0, n1, n2, n3, f, t, n5⟩), .bool false]) ?_ rfl ⟨⟨n0, n1, n2, n3, f, t, n5⟩, false, rfl, WF.out, (fun r' a b c => by have := HF.out r' a b c; simp at this), below_fill B8 (Nat.le_refl _) ⟨n0, n1, n2, n3, f, t, n5⟩⟩
        simp [ruA] at Y0 Y1 Y2 Y3 Y4 Y5 Y6
        simp [results, Tryz.results33, go_sem, Y0, Y1, Y2, Y3, Y4, Y5, Y6, ruA]
      | true =>
        cases k1 with
        | false =>
          have y0 := (Z8.cell 0).trans rfl; have q0 := Z8.frozen 0; have y1 := (Z8.cell 1).trans rfl; have q1 := Z8.frozen 1; have y2 := (Z8.cell 2).trans rfl; have q2 := Z8.frozen 2; have y3 := (Z8.cell 3).trans rfl; have q3 := Z8.frozen 3; have y4 := (Z8.cell 4).trans rfl; have q4 := Z8.frozen 4; have y5 := (Z8.cell 5).trans rfl; have q5 := Z8.frozen 5; have y6 := (Z8.cell 6).trans rfl; have q6 := Z8.frozen 6
          go_wp2_with fail
          have Z := At.fill (y := ru0) (by rw [rd0]; exact Z8) ⟨n0, n1, n2, n3, f, t, n5⟩
          have Y0 := Z.cell 0; have Y1 := Z.cell 1; have Y2 := Z.cell 2; have Y3 := Z.cell 3; have Y4 := Z.cell 4; have Y5 := Z.cell 5; have Y6 := Z.cell 6
          unfold fillW at Y0 Y1 Y2 Y3 Y4 Y5 Y6
          refine bodyPost_ret (v := .tuple #[.agg (ruA ⟨n0, n1, n2, n3, f, t, n5⟩), .bool false]) ?_ rfl ⟨⟨n0, n1, n2, n3, f, t, n5⟩, false, rfl, WF.out, (fun r' a b c => by have := HF.out r' a b c; simp at this), below_fill B8 (Nat.le_refl _) ⟨n0, n1, n2, n3, f, t, n5⟩⟩
          simp [ruA] at Y0 Y1 Y2 Y3 Y4 Y5 Y6
          simp [results, Tryz.results33, go_sem, Y0, Y1, Y2, Y3, Y4, Y5, Y6, ruA]
        | true =>
          cases k2 with
          | false =>
            have y0 := (Z8.cell 0).trans rfl; have q0 := Z8.frozen 0; have y1 := (Z8.cell 1).trans rfl; have q1 := Z8.frozen 1; have y2 := (Z8.cell 2).trans rfl; have q2 := Z8.frozen 2; have y3 := (Z8.cell 3).trans rfl; have q3 := Z8.frozen 3; have y4 := (Z8.cell 4).trans rfl; have q4 := Z8.frozen 4; have y5 := (Z8.cell 5).trans rfl; have q5 := Z8.frozen 5; have y6 := (Z8.cell 6).trans rfl; have q6 := Z8.frozen 6
            go_wp2_with fail
            have Z := At.fill (y := ru0) (by rw [rd0]; exact Z8) ⟨n0, n1, n2, n3, f, t, n5⟩
            have Y0 := Z.cell 0; have Y1 := Z.cell 1; have Y2 := Z.cell 2; have Y3 := Z.cell 3; have Y4 := Z.cell 4; have Y5 := Z.cell 5; have Y6 := Z.cell 6
            unfold fillW at Y0 Y1 Y2 Y3 Y4 Y5 Y6
            refine bodyPost_ret (v := .tuple #[.agg (ruA ⟨n0, n1, n2, n3, f, t, n5⟩), .bool false]) ?_ rfl ⟨⟨n0, n1, n2, n3, f, t, n5⟩, false, rfl, WF.out, (fun r' a b c => by have := HF.out r' a b c; simp at this), below_fill B8 (Nat.le_refl _) ⟨n0, n1, n2, n3, f, t, n5⟩⟩
            simp [ruA] at Y0 Y1 Y2 Y3 Y4 Y5 Y6
            simp [results, Tryz.results33, go_sem, Y0, Y1, Y2, Y3, Y4, Y5, Y6, ruA]
          | true =>
            cases k3 with
            | false =>
              have y0 := (Z8.cell 0).trans rfl; have q0 := Z8.frozen 0; have y1 := (Z8.cell 1).trans rfl; have q1 := Z8.frozen 1; have y2 := (Z8.cell 2).trans rfl; have q2 := Z8.frozen 2; have y3 := (Z8.cell 3).trans rfl; have q3 := Z8.frozen 3; have y4 := (Z8.cell 4).trans rfl; have q4 := Z8.frozen 4; have y5 := (Z8.cell 5).trans rfl; have q5 := Z8.frozen 5; have y6 := (Z8.cell 6).trans rfl; have q6 := Z8.frozen 6
              go_wp2_with fail
              have Z := At.fill (y := ru0) (by rw [rd0]; exact Z8) ⟨n0, n1, n2, n3, f, t, n5⟩
              have Y0 := Z.cell 0; have Y1 := Z.cell 1; have Y2 := Z.cell 2; have Y3 := Z.cell 3; have Y4 := Z.cell 4; have Y5 := Z.cell 5; have Y6 := Z.cell 6
              unfold fillW at Y0 Y1 Y2 Y3 Y4 Y5 Y6
              refine bodyPost_ret (v := .tuple #[.agg (ruA ⟨n0, n1, n2, n3, f, t, n5⟩), .bool false]) ?_ rfl ⟨⟨n0, n1, n2, n3, f, t, n5⟩, false, rfl, WF.out, (fun r' a b c => by have := HF.out r' a b c; simp at this), below_fill B8 (Nat.le_refl _) ⟨n0, n1, n2, n3, f, t, n5⟩⟩
              simp [ruA] at Y0 Y1 Y2 Y3 Y4 Y5 Y6
              simp [results, Tryz.results33, go_sem, Y0, Y1, Y2, Y3, Y4, Y5, Y6, ruA]
            | true =>
              by_cases her : er = 0
              · have d7 : (er == 0) = true := by simpa using her
                have HE := Lib.hid her
                clear her
                cases k5 with
                | false =>
                  have y0 := (Z8.cell 0).trans rfl; have q0 := Z8.frozen 0; have y1 := (Z8.cell 1).trans rfl; have q1 := Z8.frozen 1; have y2 := (Z8.cell 2).trans rfl; have q2 := Z8.frozen 2; have y3 := (Z8.cell 3).trans rfl; have q3 := Z8.frozen 3; have y4 := (Z8.cell 4).trans rfl; have q4 := Z8.frozen 4; have y5 := (Z8.cell 5).trans rfl; have q5 := Z8.frozen 5; have y6 := (Z8.cell 6).trans rfl; have q6 := Z8.frozen 6
                  go_wp2_with fail
                  have Z := At.fill (y := ru0) (by rw [rd0]; exact Z8) ⟨n0, n1, n2, n3, f, t, n5⟩
                  have Y0 := Z.cell 0; have Y1 := Z.cell 1; have Y2 := Z.cell 2; have Y3 := Z.cell 3; have Y4 := Z.cell 4; have Y5 := Z.cell 5; have Y6 := Z.cell 6
                  unfold fillW at Y0 Y1 Y2 Y3 Y4 Y5 Y6
                  refine bodyPost_ret (v := .tuple #[.agg (ruA ⟨n0, n1, n2, n3, f, t, n5⟩), .bool false]) ?_ rfl ⟨⟨n0, n1, n2, n3, f, t, n5⟩, false, rfl, WF.out, (fun r' a b c => by have := HF.out r' a b c; simp at this), below_fill B8 (Nat.le_refl _) ⟨n0, n1, n2, n3, f, t, n5⟩⟩
                  simp [ruA] at Y0 Y1 Y2 Y3 Y4 Y5 Y6
                  simp [results, Tryz.results33, go_sem, Y0, Y1, Y2, Y3, Y4, Y5, Y6, ruA]
                | true =>
                  have y0 := (Z8.cell 0).trans rfl; have q0 := Z8.frozen 0; have y1 := (Z8.cell 1).trans rfl; have q1 := Z8.frozen 1; have y2 := (Z8.cell 2).trans rfl; have q2 := Z8.frozen 2; have y3 := (Z8.cell 3).trans rfl; have q3 := Z8.frozen 3; have y4 := (Z8.cell 4).trans rfl; have q4 := Z8.frozen 4; have y5 := (Z8.cell 5).trans rfl; have q5 := Z8.frozen 5; have y6 := (Z8.cell 6).trans rfl; have q6 := Z8.frozen 6
                  go_wp2_with fail
                  have Z := At.fill (y := ru0) (by rw [rd0]; exact Z8) ⟨n0, n1, n2, n3, f, t, n5⟩
                  have Y0 := Z.cell 0; have Y1 := Z.cell 1; have Y2 := Z.cell 2; have Y3 := Z.cell 3; have Y4 := Z.cell 4; have Y5 := Z.cell 5; have Y6 := Z.cell 6
                  unfold fillW at Y0 Y1 Y2 Y3 Y4 Y5 Y6
                  refine bodyPost_ret (v := .tuple #[.agg (ruA ⟨n0, n1, n2, n3, f, t, n5⟩), .bool true]) ?_ rfl ⟨⟨n0, n1, n2, n3, f, t, n5⟩, true, rfl, WF.out, (fun r' a b c => ⟨(HF.out r' a b c).1, rfl⟩), below_fill B8 (Nat.le_refl _) ⟨n0, n1, n2, n3, f, t, n5⟩⟩
                  simp [ruA] at Y0 Y1 Y2 Y3 Y4 Y5 Y6
                  simp [results, Tryz.results33, go_sem, Y0, Y1, Y2, Y3, Y4, Y5, Y6, ruA]
              · have d7 : (er == 0) = false := by simpa using her
                have HE : Hid (¬ er = 0) := Lib.hid her
                clear her
                have y0 := (Z8.cell 0).trans rfl; have q0 := Z8.frozen 0; have y1 := (Z8.cell 1).trans rfl; have q1 := Z8.frozen 1; have y2 := (Z8.cell 2).trans rfl; have q2 := Z8.frozen 2; have y3 := (Z8.cell 3).trans rfl; have q3 := Z8.frozen 3; have y4 := (Z8.cell 4).trans rfl; have q4 := Z8.frozen 4; have y5 := (Z8.cell 5).trans rfl; have q5 := Z8.frozen 5; have y6 := (Z8.cell 6).trans rfl; have q6 := Z8.frozen 6
                go_wp2_with fail
                have Z := At.fill (y := ru0) (by rw [rd0]; exact Z8) ⟨n0, n1, n2, n3, f, t, n5⟩
                have Y0 := Z.cell 0; have Y1 := Z.cell 1; have Y2 := Z.cell 2; have Y3 := Z.cell 3; have Y4 := Z.cell 4; have Y5 := Z.cell 5; have Y6 := Z.cell 6
                unfold fillW at Y0 Y1 Y2 Y3 Y4 Y5 Y6
                refine bodyPost_ret (v := .tuple #[.agg (ruA ⟨n0, n1, n2, n3, f, t, n5⟩), .bool false]) ?_ rfl ⟨⟨n0, n1, n2, n3, f, t, n5⟩, false, rfl, WF.out, (fun r' a b c => by have := HF.out r' a b c; exact absurd this.2.2.2.2.2.1 HE.out), below_fill B8 (Nat.le_refl _) ⟨n0, n1, n2, n3, f, t, n5⟩⟩
                simp [ruA] at Y0 Y1 Y2 Y3 Y4 Y5 Y6
                simp [results, Tryz.results33, go_sem, Y0, Y1, Y2, Y3, Y4, Y5, Y6, ruA]
end Go.Proofs.YtmpgfmedldnhjaaGreatDoor
