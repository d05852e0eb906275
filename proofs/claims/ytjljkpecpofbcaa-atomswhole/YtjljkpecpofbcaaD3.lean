/- Contracts of the document: Atoms, Of. -/
import Derived.Test.YtjljkpecpofbcaaD2
namespace Go.Proofs.Ytjljkpecpofbcaa
open Go.RowKit Go.Shelf

theorem atomsL_take {C : List Nat} {k : Nat} (hk : k < C.length) : (atomsL C).take (k + 1) = (atomsL C).take k ++ [(frm C k, too C k)] := by
  have h : k < (atomsL C).length := by rw [atomsL_len]; exact hk
  rw [List.take_succ_eq_append_getElem h, atomsL_at]
/-- Where the loop over the boundaries stands. -/
def AI (W0 : World) (C : List Nat) (k : Nat) (v : Value) (W : World) : Prop := W.ownsRow W0.heap.size 32 2 v k (zcells ((atomsL C).take k)) ∧ Below W0.heap.size W0 W
/-- What Atoms answers. -/
def AtOut (w : World) (L : List (Nat × Nat)) (e : Ending) (w' : World) : Prop := ∃ v', e = .returned v' ∧ IsZ w' v' (atomsL (bnds L)) ∧ Below w.heap.size w w'
set_option maxRecDepth 100000 in
set_option maxHeartbeats 2000000 in
theorem ratoms_any {v : Value} (L : List (Nat × Nat)) (w : World) (hL : RL L) (hz : IsZ w v L) : Calls Try.prog 18 #[v] w (AtOut w L) := by
  obtain ⟨i0, hi, hz0, hz1, hz2⟩ := info_parts info32
  have hcuts := cuts_any L w hL.u32 (by have := hL.2; omega) hz
  obtain ⟨A, c, rfl, n1, m1, _⟩ := hz
  have hbd := bd_of L
  have hlen : (bnds L).length ≤ 4294967296 := by
    rcases rising_len (bnds_rise L) with h | h
    · omega
    · rw [h]; simp
  go_enter Try.func18, Try.ntmps18
  go_wp2_with fail
  refine hcuts.mono ?_
  rintro e w1 ⟨v1, rfl, i1, b1⟩
  change IsI w1 v1 (bnds L) at i1
  have HL := Lib.hid (rfl : bnds L = bnds L)
  have hgoal : ∃ C, C = bnds L := ⟨_, rfl⟩
  obtain ⟨C, hC⟩ := hgoal
  rw [← hC] at i1 hbd hlen
  have HC := Lib.hid hC
  clear hC HL hcuts
  have HBD := Lib.hid hbd
  have HEND : Hid (∀ (k : Nat) (hk : k < C.length) W, Below w1.heap.size w1 W → Calls Try.prog 34 #[v1, .int .i64 (k : Int)] W fun e w' => e = .returned (.int .i64 (too C k : Nat)) ∧ w' = W) := Lib.hid fun k hk W hW => end_any C k W hk (fun j hj h0 => by have := rising_at hbd.1 0 j hbd.pos hj h0; omega) (fun j hj => hbd.lt hj) (i1.belows hW)
  have HI := Lib.hid (fun W (hW : Below w1.heap.size w1 W) => i1.belows hW)
  obtain ⟨A1, c1, rfl, n2, m2, z1⟩ := i1
  clear hbd z1
  have HB1 := Lib.hid b1
  go_wp2_with fail
  go_loopw [4, 5] (fun ov i wr => ∃ k : Nat, i = .int .i64 k ∧ k ≤ C.length ∧ Hid (AI w1 C k ov wr)) (fun _ i _ => C.length - (intOf i).toNat)
  case atStart => exact ⟨0, rfl, by omega, Lib.hid ⟨by simpa [zcells] using World.ownsRow_nil w1 w1.heap.size 32 2, Below.refl _ _⟩⟩
  case round =>
    obtain ⟨k, rfl, hk, HA⟩ := hrel
    obtain ⟨hrow, hb⟩ := HA.out
    by_cases hlt : k < C.length
    · obtain ⟨A1', c1', e, _, _, z⟩ := HI.out w1 (Below.refl _ _)
      injection e with e1 e2 e3
      subst e1
      obtain ⟨g, rfl, hg, hc⟩ := z (by omega)
      have q0 := (hb.cell (p := ⟨g, k, none⟩) hg).trans (hc k hlt)
      rw [← frm_in hlt] at q0
      have hfl := HBD.out.frm_le hlt
      have hEnd := HEND.out k hlt
      have hzt : zcells ((atomsL C).take (k + 1)) = zcells ((atomsL C).take k) ++ [.int .u32 (frm C k : Nat), .int .u32 (too C k : Nat)] := by rw [atomsL_take hlt, zcells_snoc]
      have HZ := Lib.hid hzt
      have HROW := Lib.hid hrow
      have HB := Lib.hid hb
      have hsb := hb.size
      have HE : Hid (∀ W, Below w1.heap.size w1 W → Calls Try.prog 34 #[.slice (some ⟨g, 0, none⟩) C.length c1, .int .i64 (k : Int)] W fun e w' => e = .returned (.int .i64 (too C k : Nat)) ∧ w' = W) := Lib.hid hEnd
      clear hEnd hzt hrow hc z HA e2 e3
      generalize frm C k = x at q0 hfl HZ
      generalize too C k = y at hfl HZ HE
      have j1 : IntKind.u32.wrap (x : Int) = (x : Int) := IntWalk.u32_in _ (by omega)
      have j2 : IntKind.u32.wrap (y : Int) = (y : Int) := IntWalk.u32_in _ (by omega)
      have k0 : (0 : Int) ≤ (k : Int) := by omega
      have k1 : (k : Int) < (C.length : Int) := by omega
      go_wp2_with fail
      go_region_held3 (fun W => W.cell? ⟨g, k, none⟩ = some (.int .i64 (x : Int))) (first | go_keep) (first
        | (go_at_call 34; refine (HE.out _ (by first | exact HB.out.drew | exact HB.out)).mono ?_; rintro e w4 ⟨rfl, rfl⟩)
        | ((refine step_append_own rfl (.tmp 14) (.tmp 25) 26 rfl w1.heap.size 32 i0 (.agg #[.int .u32 0, .int .u32 0]) 2 8 Try.underlying26 hi hz0 hz1 hz2 rfl (by decide) u4 k (zcells ((atomsL C).take k)) (by simp [Act.eval, Act.put]) (HROW.out.alloc _) ⟨wr.heap.size, 0, none⟩ 1 1 [.int .u32 x, .int .u32 y] (by simp [Act.eval, Act.put]) rfl (World.news_of_block (cs := #[.int .u32 x, .int .u32 y]) (t := 32) (fr := (0, 0)) (heap_alloc_new wr _)) (by simp [Value.oneCell']) (by simp only [maxLen]; omega) (by omega) (by simp; omega) ?_; intro v' w3 hown' hgrow; have hb3 : Below w1.heap.size wr w3 := Below.grown (by first | exact ((Below.refl w1.heap.size wr).alloc hsb _).drew | exact (Below.refl w1.heap.size wr).drew.alloc hsb _ | exact (Below.refl w1.heap.size wr).alloc hsb _) hgrow (by simp; omega) (fun j hj => (HROW.out.lt j hj).1); have d10 := (hb3.cell (p := ⟨g, k, none⟩) hg).trans q0)))
      rename_i hHeld
      clear hHeld
      go_wp2
      go_roundw
      case rel => exact ⟨k + 1, by go_num, by omega, Lib.hid ⟨by rw [HZ.out]; exact hown', hb.trans hb3⟩⟩
      case measure => simp [intOf]; omega
    · obtain rfl : k = C.length := by omega
      have hfull : (atomsL C).take C.length = atomsL C := by rw [← atomsL_len, List.take_length]
      rw [hfull] at hrow
      have hzz : IsZ wr u4 (atomsL C) := isZ_of_row (base := w1.heap.size) (by rw [atomsL_len]; exact hrow)
      have HZ := Lib.hid hzz
      clear hrow hfull hzz HA
      go_wp2
      go_ret
      exact ⟨_, rfl, by rw [← HC.out]; exact HZ.out, HB1.out.trans (hb.mono HB1.out.size)⟩
/-- The document's Of, of atoms. -/
def ofDoc (m : List (Nat × Nat)) (a : Nat) : Nat := (m.takeWhile fun r => decide (r.2 < a)).length
theorem ofDoc_at {m : List (Nat × Nat)} {a k : Nat} (hk : k ≤ m.length) (h1 : ∀ j (hj : j < m.length), j < k → m[j].2 < a) (h2 : ∀ hj : k < m.length, ¬ m[k].2 < a) : ofDoc m a = k := by
  unfold ofDoc
  induction m generalizing k with
  | nil => simp at hk; simp [hk]
  | cons r m ih =>
    cases k with
    | zero =>
      have := h2 (by simp)
      rw [List.takeWhile_cons_of_neg (by simpa using this)]; rfl
    | succ k =>
      have := h1 0 (by simp) (by omega)
      rw [List.takeWhile_cons_of_pos (by simpa using this), List.length_cons, ih (by simpa using hk) (fun j hj hjk => by have := h1 (j + 1) (by simpa using hj) (by omega); simpa using this) (fun hj => by have := h2 (by simpa using hj); simpa using this)]
theorem ofDoc_atoms {C : List Nat} (h : Bd C) {a : Nat} (ha : a < 4294967296) : ofDoc (atomsL C) a = ofL C a := by
  have hl := h.of_le a
  have hi := h.of_in ha
  refine ofDoc_at (by rw [atomsL_len]; omega) (fun j hj hjk => ?_) (fun hj => ?_)
  · rw [atomsL_at]
    show too C j < a
    have h1 : j + 1 < C.length := by omega
    have h2 := (h.of_iff a (j + 1) h1).1 (by omega)
    rw [h.next h1] at h2
    omega
  · rw [atomsL_at]
    show ¬ too C _ < a
    omega
set_option maxRecDepth 100000 in
set_option maxHeartbeats 1000000 in
theorem rof_any {v : Value} (m : List (Nat × Nat)) (a : Nat) (w : World) (hz : IsZ w v m) : Calls Try.prog 20 #[v, .int .u32 a] w fun e w' => e = .returned (.int .i64 (ofDoc m a : Int)) ∧ Below w.heap.size w w' := by
  obtain ⟨A, c, rfl, n1, m1, z1⟩ := hz
  simp only [maxLen] at m1
  have HS := Lib.hid z1
  clear z1
  go_enter Try.func20, Try.ntmps20
  go_wp2_with fail
  go_loop [5] (fun i => ∃ k : Nat, i = .int .i64 k ∧ k ≤ m.length ∧ Hid (∀ j (hj : j < m.length), j < k → m[j].2 < a)) (fun i => m.length - (intOf i).toNat)
  case atStart => exact ⟨0, rfl, by omega, Lib.hid fun j hj h => by omega⟩
  case round =>
    obtain ⟨k, rfl, hk, HJ⟩ := hrel
    by_cases hlt : k < m.length
    · obtain ⟨g, o, rfl, _, hc⟩ := HS.out (by omega)
      obtain ⟨q0, q1⟩ := hc k hlt
      have i0 : (0 : Int) ≤ (k : Int) := by omega
      have i1 : (k : Int) < (m.length : Int) := by omega
      clear hc
      by_cases hx : m[k].2 < a
      · have HJ2 : Hid (∀ j (hj : j < m.length), j < k + 1 → m[j].2 < a) := Lib.hid fun j hj hjk => by
          by_cases e : j = k
          · subst e; exact hx
          · exact HJ.out j hj (by omega)
        generalize m[k] = x at q0 q1 hx
        go_wp2
        go_round
        case rel => exact ⟨k + 1, by go_num, by omega, HJ2⟩
        case measure => simp [intOf]; omega
      · have HO := Lib.hid (ofDoc_at (a := a) hk HJ.out (fun _ => hx))
        generalize m[k] = x at q0 q1 hx
        go_wp2
        go_ret
        exact ⟨ret_int (by rw [HO.out]), Below.refl _ _⟩
    · obtain rfl : k = m.length := by omega
      have HO := Lib.hid (ofDoc_at (a := a) hk HJ.out (fun h => absurd h (by omega)))
      go_wp2
      go_ret
      exact ⟨ret_int (by rw [HO.out]), Below.refl _ _⟩
end Go.Proofs.Ytjljkpecpofbcaa
