/- Contract of the document: Drop. -/
import Derived.Test.YtjljkpecpofbcaaD1
namespace Go.Proofs.Ytjljkpecpofbcaa
open Go.RowKit Go.Shelf

theorem erase_at {L : List (Nat × Nat)} {r : Nat × Nat} {k : Nat} (hk : k < L.length) (h : r ∉ L.take k) (e : L[k] = r) : L.erase r = L.take k ++ L.drop (k + 1) := by
  have e2 : L = L.take k ++ L[k] :: L.drop (k + 1) := by rw [List.getElem_cons_drop, List.take_append_drop]
  conv => lhs; rw [e2]
  rw [List.erase_append_right _ h, e, List.erase_cons_head]
theorem not_mem_take {L : List (Nat × Nat)} {r : Nat × Nat} {k : Nat} (hk : k < L.length) (h : r ∉ L.take k) (e : L[k] ≠ r) : r ∉ L.take (k + 1) := by
  rw [List.take_succ_eq_append_getElem hk]
  intro hm
  rcases List.mem_append.1 hm with hm | hm
  · exact h hm
  · simp at hm; exact e hm.symm
/-- What Drop answers. -/
def DOut (w : World) (L : List (Nat × Nat)) (r : Nat × Nat) (e : Ending) (w' : World) : Prop := (r ∈ L → LOut w (L.erase r) e w') ∧ (r ∉ L → LErr w 51 e w')
set_option maxRecDepth 100000 in
set_option maxHeartbeats 1000000 in
theorem rdrop_any {v : Value} (L : List (Nat × Nat)) (f t : Nat) (w : World) (hz : IsZ w v L) (hlen : L.length ≤ 500) : Calls Try.prog 27 #[v, .agg #[.int .u32 f, .int .u32 t]] w (DOut w L (f, t)) := by
  obtain ⟨A, c, rfl, n1, m1, z1⟩ := hz
  have b0 : Below w.heap.size w (w.alloc (.cells #[.int .u32 f, .int .u32 t] 32)) := (Below.refl _ w).alloc (Nat.le_refl _) _
  have A0 := At.new w #[.int .u32 f, .int .u32 t] 32
  have HS : Hid (∀ W, Below w.heap.size w W → Zs W A L) := Lib.hid fun W hW => z1.belows hW
  clear z1
  go_enter Try.func27, Try.ntmps27
  go_wp2_with fail
  obtain ⟨W0, hW0⟩ : ∃ W0, w.alloc (.cells #[.int .u32 f, .int .u32 t] 32) = W0 := ⟨_, rfl⟩
  rw [hW0] at A0 b0 ⊢
  clear hW0
  go_loopw [6] (fun i wr => ∃ k : Nat, i = .int .i64 k ∧ k ≤ L.length ∧ Hid ((f, t) ∉ L.take k) ∧ ∃ q, wr = W0.drewN q) (fun i _ => L.length - (intOf i).toNat)
  case atStart => exact ⟨0, rfl, by omega, Lib.hid (by simp), 0, rfl⟩
  case round =>
    obtain ⟨k, rfl, hk, HN, q, rfl⟩ := hrel
    by_cases hlt : k < L.length
    · have hzs := HS.out W0 b0
      obtain ⟨g, o, rfl, _, hc⟩ := hzs (by omega)
      obtain ⟨q0, q1⟩ := hc k hlt
      have k2 := (A0.cell 0).trans rfl
      have k3 := (A0.cell 1).trans rfl
      have i0 : (0 : Int) ≤ (k : Int) := by omega
      have i1 : (k : Int) < (L.length : Int) := by omega
      clear hc hzs
      by_cases hx : L[k] = (f, t)
      · rw [hx] at q0 q1
        have hmem : (f, t) ∈ L := hx ▸ List.getElem_mem hlt
        have HE := Lib.hid (And.intro hmem (erase_at hlt HN.out hx))
        obtain ⟨A2, c2, hs2, n2, m2, z2⟩ := slice_from (some ⟨g, o, none⟩) c L (k + 1) (by omega) n1 m1
        have hs1 := slice_to (some ⟨g, o, none⟩) c L k (by omega) n1 m1
        have HZ : Hid (∀ W, Below w.heap.size w W → Zs W (some ⟨g, o, none⟩) (L.take k) ∧ Zs W A2 (L.drop (k + 1))) := Lib.hid fun W hW => ⟨(HS.out W hW).take k, z2 W (HS.out W hW)⟩
        have hs2' : ∀ u : World, (Instr.slice 26 (.slice (some ⟨g, o, none⟩) L.length c) (some (.int .i64 ((k : Int) + 1))) none none).run Try.prog u = .ok (.slice A2 (L.length - (k + 1)) c2) u := by
          have e : ((k + 1 : Nat) : Int) = (k : Int) + 1 := by omega
          rw [e] at hs2; exact hs2
        clear hs2 z2 hx hmem HS
        simp only [maxLen] at m1 m2
        go_wp2_with fail
        go_quiet (fail)
        obtain ⟨W1, hW1, bW1⟩ : ∃ W1, (W0.drewN q).drewN nq = W1 ∧ Below w.heap.size w W1 := ⟨_, rfl, bdrewN (bdrewN b0 _) _⟩
        rw [hW1]
        have ba : Below w.heap.size w (W1.alloc (.cells #[] 32)) := bW1.alloc bW1.size _
        have hsz := bW1.size
        clear hW1 q0 q1 k2 k3 A0 b0
        go_wp2_with (first
          | (at_builtin; refine wpList_app_y rfl (.tmp 25) (.tmp 29) rfl W1.heap.size _ (L.take k) rfl HR1.out _ _ _ (L.drop (k + 1)) rfl (by rw [List.length_drop]) (HZ.out _ bb2).2 (by simp; omega) (by have := b2.size; simp at this; omega) ?_; intro g2 cap2 w3 hrow2 b3; have bb3 : Below w.heap.size w w3 := bb2.trans (b3.mono hsz))
          | (at_builtin; refine wpList_app_y rfl (.tmp 20) (.tmp 23) rfl W1.heap.size _ [] rfl (Row.empty W1) _ _ _ (L.take k) rfl (by rw [List.length_take]; omega) (HZ.out _ ba).1 (by simp; omega) (by simp) ?_; intro g1 cap1 w2 hrow1 b2; simp only [List.length_nil, Nat.zero_add, List.nil_append] at hrow1; have bb2 : Below w.heap.size w w2 := ba.trans (b2.mono hsz); have HR1 : Hid (Row w2 W1.heap.size (.slice (some ⟨g1, 0, none⟩) k cap1) (L.take k)) := Lib.hid (by rw [List.length_take, Nat.min_eq_left (by omega)] at hrow1; exact hrow1); clear hrow1))
        go_ret2
        refine ⟨fun _ => ⟨_, rfl, ?_, ?_, bb3⟩, fun h => absurd HE.out.1 h⟩
        · rw [HE.out.2]; have := hrow2.isZ; rw [List.length_take, List.length_drop, Nat.min_eq_left (by omega)] at this; exact this
        · have := hrow2.ty; rw [List.length_take, List.length_drop, Nat.min_eq_left (by omega)] at this; exact this
      · have HN2 := Lib.hid (not_mem_take hlt HN.out hx)
        generalize L[k] = x at q0 q1 hx
        by_cases hx1 : x.1 = f
        · have hx2 : x.2 ≠ t := fun e => hx (Prod.ext hx1 e)
          have d1 : ((x.1 : Int) == (f : Int)) = true := by rw [beq_iff_eq]; omega
          have d2 : ((x.2 : Int) == (t : Int)) = false := by rw [beq_eq_false_iff_ne]; omega
          clear hx
          go_wp2_with fail
          go_quiet (fail)
          go_wp2
          go_roundw
          case rel => exact ⟨k + 1, by go_num, by omega, HN2, q + nq, rfl⟩
          case measure => simp [intOf]; omega
        · have d1 : ((x.1 : Int) == (f : Int)) = false := by rw [beq_eq_false_iff_ne]; omega
          clear hx
          go_wp2_with fail
          go_quiet (fail)
          go_wp2
          go_roundw
          case rel => exact ⟨k + 1, by go_num, by omega, HN2, q + nq, rfl⟩
          case measure => simp [intOf]; omega
    · obtain rfl : k = L.length := by omega
      have HM : Hid ((f, t) ∉ L) := Lib.hid (by have := HN.out; rwa [List.take_length] at this)
      go_wp2
      go_ret2
      exact ⟨fun h => absurd h HM.out, fun _ => ⟨rfl, bdrewN b0 _⟩⟩
end Go.Proofs.Ytjljkpecpofbcaa
