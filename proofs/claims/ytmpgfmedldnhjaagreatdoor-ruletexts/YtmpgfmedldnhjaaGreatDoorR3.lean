/- Contracts: the document's ParseAddr. -/
import Derived.Test.YtmpgfmedldnhjaaGreatDoorR1
import Derived.Test.YtmpgfmedldnhjaaGreatDoorR2
namespace Go.Proofs.YtmpgfmedldnhjaaGreatDoor
open Go.RowKit

theorem addz (g j : Nat) : (⟨g, 0, none⟩ : Addr).add j = ⟨g, j, none⟩ := by unfold Addr.add; split <;> simp_all
/-- A row of texts in memory: its form, and its cells. -/
theorem srow {w : World} {base : Nat} {v : Value} {ps : List (List UInt8)} (h : w.ownsRow base 9 1 v ps.length (scells ps)) (hn : 0 < ps.length) : ∃ g cap, v = .slice (some ⟨g, 0, none⟩) ps.length cap ∧ ps.length ≤ cap ∧ base ≤ g ∧ g < w.heap.size ∧ ∀ k (hk : k < ps.length), w.cell? ⟨g, k, none⟩ = some (.string ⟨ps[k].toArray⟩) := by
  rcases h.2 with ⟨rfl, h0⟩ | ⟨g, cap, cur, rfl, hb, hg, hnc, hm, _⟩
  · omega
  · refine ⟨g, cap, rfl, hnc, hb, (Array.getElem?_eq_some_iff.1 hg).1, fun k hk => ?_⟩
    have := World.ownsRow.cells h (g := g) rfl k (.string ⟨ps[k].toArray⟩) (by simp [scells, hk])
    rwa [addz] at this

theorem addrV_snoc (ps : List (List UInt8)) (p : List UInt8) : addrV (ps ++ [p]) = 256 * addrV ps + (numOf p 255).getD 0 := by simp [addrV]
/-- The loop of the document's ParseAddr. -/
def AI (ps : List (List UInt8)) (k : Nat) (a : Value) : Prop := ∃ x : Nat, a = .int .i64 x ∧ x < 256 ^ k ∧ Hid (addrV (ps.take k) = x ∧ ∀ p ∈ ps.take k, (numOf p 255).isSome = true)
theorem take_next (ps : List (List UInt8)) (k : Nat) (h : k < ps.length) : ps.take (k + 1) = ps.take k ++ [ps[k]] := by
  rw [List.take_succ_eq_append_getElem h]

set_option maxRecDepth 100000 in
set_option maxHeartbeats 2000000 in
theorem rpa_len (s : ByteArray) (w : World) (hz : s.size ≤ 80) (hl : (partsL 46 s.data.toList).length ≠ 4) : Calls Tryz.prog 57 #[.string s] w fun e w' => e = .returned (.tuple #[.int .u32 0, .int .i64 21]) ∧ Below w.heap.size w w' := by
  have hP := fun u => parts_any s 46 u hz
  obtain ⟨ps, hps⟩ : ∃ ps, partsL 46 s.data.toList = ps := ⟨_, rfl⟩
  unfold PartsOut at hP
  rw [hps] at hP hl
  have l1 : ((ps.length : Int) != 4) = true := by simp; omega
  have l2 : ((ps.length : Int) == 4) = false := by rw [beq_eq_false_iff_ne]; omega
  clear hps
  go_enter Tryz.func57, Tryz.ntmps57
  go_wp2_with fail
  refine (hP _).mono ?_
  rintro e w1 ⟨v, rfl, row, b1⟩
  obtain ⟨A, c, rfl⟩ : ∃ A c, v = .slice A ps.length c := by
    rcases row.2 with ⟨rfl, h0⟩ | ⟨g, cap, cur, rfl, _⟩
    · exact ⟨none, 0, by rw [h0]⟩
    · exact ⟨_, cap, rfl⟩
  clear row
  go_wp2
  go_ret2
  exact ⟨rfl, b1⟩
set_option maxRecDepth 100000 in
set_option maxHeartbeats 4000000 in
theorem rpa_four (s : ByteArray) (w : World) (hz : s.size ≤ 80) (hl : (partsL 46 s.data.toList).length = 4) : Calls Tryz.prog 57 #[.string s] w fun e w' => e = .returned (paV s.data.toList) ∧ Below w.heap.size w w' := by
  have hP := fun u => parts_any s 46 u hz
  obtain ⟨V, hV⟩ : ∃ V, paV s.data.toList = V := ⟨_, rfl⟩
  rw [hV]
  obtain ⟨ps, hps⟩ : ∃ ps, partsL 46 s.data.toList = ps := ⟨_, rfl⟩
  have hplen : ∀ p ∈ ps, p.length ≤ 80 := fun p hp => by
    have := part_len 46 s.data.toList p (by rw [hps]; exact hp)
    rw [← str_size] at this; omega
  unfold PartsOut at hP
  rw [hps] at hP hl
  have HV := Lib.hid hV
  have HPS := Lib.hid hps
  have HPL := Lib.hid hplen
  clear hps hV hplen
  go_enter Tryz.func57, Tryz.ntmps57
  go_wp2_with fail
  refine (hP _).mono ?_
  rintro e w1 ⟨v, rfl, row, b1⟩
  obtain ⟨g, cap, rfl, hcap, _, hg, hcell⟩ := srow row (by omega)
  have HC := Lib.hid hcell
  have HLen := Lib.hid hl
  have l1 : ((ps.length : Int) == 4) = true := by rw [beq_iff_eq]; omega
  have l2 : ((ps.length : Int) != 4) = false := by simp; omega
  have l3 : ps.length = 4 := hl
  clear row hcell hl hP
  rw [l3] at hcap ⊢
  go_wp2
  go_loop [5, 6] (fun a i => ∃ k : Nat, i = .int .i64 k ∧ k ≤ 4 ∧ AI ps k a) (fun _ i => 4 - (intOf i).toNat)
  case atStart => exact ⟨0, rfl, by omega, 0, rfl, by decide, Lib.hid ⟨rfl, by simp⟩⟩
  case round =>
    obtain ⟨k, rfl, hk, x, rfl, hx, HX⟩ := hrel
    by_cases hlt : k < 4
    · have hkp : k < ps.length := by rw [HLen.out]; exact hlt
      have c0 := HC.out k hkp
      have hlen := HPL.out ps[k] (List.getElem_mem hkp)
      have HT : Hid (ps.take (k + 1) = ps.take k ++ [ps[k]]) := take_next ps k hkp
      have HM : Hid (ps[k] ∈ partsL 46 s.data.toList) := by rw [HPS.out]; exact List.getElem_mem hkp
      generalize hp : ps[k] = p at c0 hlen HT HM
      clear hp
      have k42 : ∀ u : World, Calls Tryz.prog 35 #[.string ⟨p.toArray⟩, .int .i64 255] u fun e w' => e = .returned (.int .i64 (numI p 255)) ∧ u = w' := fun u => rnumber_any ⟨p.toArray⟩ 255 u (by omega) (by rw [str_len]; omega)
      have hx2 : x < 16777216 := by
        have : 256 ^ k ≤ 256 ^ 3 := Nat.pow_le_pow_right (by decide) (by omega)
        have : (256 : Nat) ^ 3 = 16777216 := by decide
        omega
      cases hnum : numOf p 255 with
      | none =>
        rw [numI_none hnum] at k42
        have HN := Lib.hid hnum
        clear hnum
        go_wp2_with (go_at_call 35; refine (k42 _).mono ?_; rintro e w2 ⟨rfl, rfl⟩)
        go_ret2
        refine ⟨?_, b1⟩
        rw [← HV.out, paV_none]
        · rfl
        · unfold addrOf
          rw [if_neg]
          rintro ⟨_, h2⟩
          have := h2 p HM.out
          rw [HN.out] at this; cases this
      | some n =>
        rw [numI_some hnum] at k42
        have hn := (numOf_some hnum).2
        have HN := Lib.hid hnum
        clear hnum
        go_wp2_with (go_at_call 35; refine (k42 _).mono ?_; rintro e w2 ⟨rfl, rfl⟩)
        refine ⟨⟨k + 1, by go_num, by omega, 256 * x + n, by go_num, by rw [Nat.pow_succ]; omega, Lib.hid ⟨?_, ?_⟩⟩, by simp [intOf]; omega⟩
        · rw [HT.out, addrV_snoc, HX.out.1, HN.out]; rfl
        · intro q hq
          rw [HT.out] at hq
          rcases List.mem_append.1 hq with h | h
          · exact HX.out.2 q h
          · simp only [List.mem_singleton] at h
            rw [h, HN.out]; rfl
    · have h4 : k = 4 := by omega
      have hx2 : x < 4294967296 := by
        rw [h4] at hx
        have : (256 : Nat) ^ 4 = 4294967296 := by decide
        omega
      have n1 : ¬ k < 4 := hlt
      have HA : Hid (addrOf s.data.toList = some x) := by
        have hall : ps.take k = ps := List.take_of_length_le (by rw [HLen.out]; omega)
        obtain ⟨h1, h2⟩ := HX.out
        rw [hall] at h1 h2
        show addrOf s.data.toList = some x
        unfold addrOf
        rw [HPS.out, if_pos ⟨HLen.out, h2⟩, h1]
      clear h4
      go_wp2
      go_ret2
      exact ⟨by rw [← HV.out, paV_some HA.out]; rfl, b1⟩
/-- The document's ParseAddr. -/
theorem rpa_any (s : ByteArray) (w : World) (hz : s.size ≤ 80) : Calls Tryz.prog 57 #[.string s] w fun e w' => e = .returned (paV s.data.toList) ∧ Below w.heap.size w w' := by
  by_cases h : (partsL 46 s.data.toList).length = 4
  · exact rpa_four s w hz h
  · rw [paV_none (pa_len h)]
    exact rpa_len s w hz h
theorem rpad_none {l : List UInt8} (s : ByteArray) (w : World) (hs : s.data.toList = l) (hz : s.size ≤ 80) (h : addrOf l = none) : Calls Tryz.prog 57 #[.string s] w fun e w' => e = .returned (.tuple #[.int .u32 0, .int .i64 21]) ∧ Below w.heap.size w w' := by
  subst hs
  have := rpa_any s w hz
  rwa [paV_none h] at this
theorem rpad_some {l : List UInt8} {a : Nat} (s : ByteArray) (w : World) (hs : s.data.toList = l) (hz : s.size ≤ 80) (h : addrOf l = some a) : Calls Tryz.prog 57 #[.string s] w fun e w' => e = .returned (.tuple #[.int .u32 a, .int .i64 0]) ∧ Below w.heap.size w w' := by
  subst hs
  have := rpa_any s w hz
  rwa [paV_some h] at this
end Go.Proofs.YtmpgfmedldnhjaaGreatDoor
