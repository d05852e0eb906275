/- Contracts of the document: Count, Add, Drop. -/
import Derived.Test.YtjljkpecpofbcaaZ3
namespace Go.Proofs.Ytjljkpecpofbcaa
open Go.RowKit Go.Shelf

theorem count_take_nn {L : List (Nat × Nat)} {k : Nat} (hk : k < L.length) (r : Nat × Nat) : (L.take (k + 1)).count r = (L.take k).count r + if L[k] = r then 1 else 0 := by
  rw [List.take_succ_eq_append_getElem hk, List.count_append, List.count_singleton]
  congr 1
  by_cases h : L[k] = r
  · simp [h]
  · rw [if_neg h, if_neg (by simpa using h)]
set_option maxRecDepth 100000 in
set_option maxHeartbeats 1000000 in
theorem rcount_any {v : Value} (L : List (Nat × Nat)) (f t : Nat) (w : World) (hz : IsZ w v L) : Calls Try.prog 13 #[v, .agg #[.int .u32 f, .int .u32 t]] w fun e w' => e = .returned (.int .i64 (L.count (f, t) : Int)) ∧ Below w.heap.size w w' := by
  obtain ⟨A, c, rfl, n1, m1, z1⟩ := hz
  simp only [maxLen] at m1
  have b0 : Below w.heap.size w (w.alloc (.cells #[.int .u32 f, .int .u32 t] 32)) := (Below.refl _ w).alloc (Nat.le_refl _) _
  have A0 := At.new w #[.int .u32 f, .int .u32 t] 32
  have HS : Hid (∀ W, Below w.heap.size w W → Zs W A L) := Lib.hid fun W hW => z1.belows hW
  clear z1
  go_enter Try.func13, Try.ntmps13
  go_wp2_with fail
  obtain ⟨W0, hW0⟩ : ∃ W0, w.alloc (.cells #[.int .u32 f, .int .u32 t] 32) = W0 := ⟨_, rfl⟩
  rw [hW0] at A0 b0 ⊢
  clear hW0
  go_loopw [5, 6] (fun nv i wr => ∃ k : Nat, i = .int .i64 k ∧ nv = .int .i64 ((L.take k).count (f, t) : Nat) ∧ k ≤ L.length ∧ ∃ q, wr = W0.drewN q) (fun _ i _ => L.length - (intOf i).toNat)
  case atStart => exact ⟨0, rfl, rfl, by omega, 0, rfl⟩
  case round =>
    obtain ⟨k, rfl, rfl, hk, q, rfl⟩ := hrel
    by_cases hlt : k < L.length
    · obtain ⟨g, o, rfl, _, hc⟩ := HS.out W0 b0 (by omega)
      obtain ⟨q0, q1⟩ := hc k hlt
      have hct := count_take_nn hlt (f, t)
      have hle : (L.take k).count (f, t) ≤ k := Nat.le_trans List.count_le_length (by simp; omega)
      have k2 := (A0.cell 0).trans rfl
      have k3 := (A0.cell 1).trans rfl
      have i0 : (0 : Int) ≤ (k : Int) := by omega
      have i1 : (k : Int) < (L.length : Int) := by omega
      clear hc
      by_cases hx : L[k] = (f, t)
      · rw [if_pos hx] at hct
        rw [hx] at q0 q1
        have HCT := Lib.hid hct
        clear hct hx
        generalize (L.take k).count (f, t) = n at hle HCT ⊢
        go_wp2_with fail
        go_quiet (fail)
        go_wp2
        go_roundw
        case rel => exact ⟨k + 1, by go_num, by rw [HCT.out]; go_num, by omega, q + nq, rfl⟩
        case measure => simp [intOf]; omega
      · rw [if_neg hx] at hct
        have HCT := Lib.hid hct
        clear hct
        generalize L[k] = x at q0 q1 hx
        generalize (L.take k).count (f, t) = n at hle HCT ⊢
        by_cases hx1 : x.1 = f
        · have hx2 : x.2 ≠ t := fun e => hx (Prod.ext hx1 e)
          have d1 : ((x.1 : Int) == (f : Int)) = true := by rw [beq_iff_eq]; omega
          have d2 : ((x.2 : Int) == (t : Int)) = false := by rw [beq_eq_false_iff_ne]; omega
          clear hx
          go_wp2_with fail
          go_quiet (fail)
          go_wp2
          go_roundw
          case rel => exact ⟨k + 1, by go_num, by rw [HCT.out]; rfl, by omega, q + nq, rfl⟩
          case measure => simp [intOf]; omega
        · have d1 : ((x.1 : Int) == (f : Int)) = false := by rw [beq_eq_false_iff_ne]; omega
          clear hx
          go_wp2_with fail
          go_quiet (fail)
          go_wp2
          go_roundw
          case rel => exact ⟨k + 1, by go_num, by rw [HCT.out]; rfl, by omega, q + nq, rfl⟩
          case measure => simp [intOf]; omega
    · obtain rfl : k = L.length := by omega
      rw [List.take_length]
      go_wp2
      go_ret
      exact ⟨rfl, bdrewN b0 _⟩

/-- A slice of ranges whose row is of ranges. -/
def Ty (w : World) (v : Value) : Prop := ∀ A n c, v = .slice A n c → ∀ g o, A = some ⟨g, o, none⟩ → ∃ cur, w.heap[g]? = some (.cells cur 32 (0, 0))
theorem Ty.nil (w : World) : Ty w (.slice none 0 0) := fun A n c e g o h => by cases e; cases h
theorem Ty.belows {w w' : World} {v : Value} (h : Ty w v) (hb : Below w.heap.size w w') : Ty w' v := fun A n c e g o ha => by
  obtain ⟨cur, hg⟩ := h A n c e g o ha
  exact ⟨cur, (hb.block g (Array.getElem?_eq_some_iff.1 hg).1).trans hg⟩
theorem Row.ty {w : World} {base : Nat} {v : Value} {L : List (Nat × Nat)} (h : Row w base v L) : Ty w v := fun A n c e g o ha => by
  obtain ⟨hown, _⟩ := h
  rcases hown.2 with ⟨e2, _⟩ | ⟨g', cap, cur, e2, _, hg, _⟩
  · rw [e] at e2; injection e2 with e3; rw [e3] at ha; cases ha
  · rw [e] at e2
    injection e2 with e3
    rw [e3] at ha
    cases ha
    exact ⟨cur, hg⟩
/-- Ranges in new memory, and no error. -/
def LOut (w : World) (M : List (Nat × Nat)) (e : Ending) (w' : World) : Prop := ∃ v', e = .returned (.tuple #[v', .int .i64 0]) ∧ IsZ w' v' M ∧ Ty w' v' ∧ Below w.heap.size w w'
def LErr (w : World) (n : Int) (e : Ending) (w' : World) : Prop := e = .returned (.tuple #[.slice none 0 0, .int .i64 n]) ∧ Below w.heap.size w w'
set_option maxRecDepth 100000 in
theorem radd_wrong {v : Value} (L : List (Nat × Nat)) (f t : Nat) (w : World) (hz : IsZ w v L) (h1 : t < f) : Calls Try.prog 26 #[v, .agg #[.int .u32 f, .int .u32 t]] w (LErr w 51) := by
  obtain ⟨A, c, rfl, n1, m1, z1⟩ := hz
  go_enter Try.func26, Try.ntmps26
  go_wp2
  go_ret2
  exact ⟨rfl, (Below.refl _ w).alloc (Nat.le_refl _) _⟩
set_option maxRecDepth 100000 in
theorem radd_full {v : Value} (L : List (Nat × Nat)) (f t : Nat) (w : World) (hz : IsZ w v L) (h1 : f ≤ t) (h2 : L.length = 500) : Calls Try.prog 26 #[v, .agg #[.int .u32 f, .int .u32 t]] w (LErr w 41) := by
  obtain ⟨A, c, rfl, n1, m1, z1⟩ := hz
  rw [h2]
  clear h2 n1 z1
  go_enter Try.func26, Try.ntmps26
  go_wp2
  go_ret2
  exact ⟨rfl, (Below.refl _ w).alloc (Nat.le_refl _) _⟩
set_option maxRecDepth 100000 in
set_option maxHeartbeats 1000000 in
theorem radd_ok {v : Value} (L : List (Nat × Nat)) (f t : Nat) (w : World) (hz : IsZ w v L) (h1 : f ≤ t) (h2 : L.length < 500) : Calls Try.prog 26 #[v, .agg #[.int .u32 f, .int .u32 t]] w (LOut w (L ++ [(f, t)])) := by
  have HZ := Lib.hid hz
  obtain ⟨A, c, rfl, n1, m1, z1⟩ := hz
  have A0 := At.new w #[.int .u32 f, .int .u32 t] 32
  have b0 : Below w.heap.size w (w.alloc (.cells #[.int .u32 f, .int .u32 t] 32)) := (Below.refl _ w).alloc (Nat.le_refl _) _
  have d1 : decide (500 ≤ (L.length : Int)) = false := by simp; omega
  have HS : Hid (∀ W, Below w.heap.size w W → Zs W A L) := Lib.hid fun W hW => z1.belows hW
  have R0 : Row ((w.alloc (.cells #[.int .u32 f, .int .u32 t] 32)).alloc (.cells #[] 32)) (w.heap.size + 1) (.slice (some ⟨w.heap.size + 1, 0, none⟩) 0 0) [] := by
    have := Row.empty (w.alloc (.cells #[.int .u32 f, .int .u32 t] 32))
    rwa [World.size_alloc] at this
  have HR0 := Lib.hid R0
  have bA : Below w.heap.size w ((w.alloc (.cells #[.int .u32 f, .int .u32 t] 32)).alloc (.cells #[] 32)) := b0.alloc b0.size _
  have HA0 := Lib.hid (A0.alloc (.cells #[] 32))
  clear z1 A0 b0 R0
  go_enter Try.func26, Try.ntmps26
  go_wp2_with (first
    | (at_builtin; refine wpList_app_y rfl (.tmp 18) (.tmp 20) rfl (w.heap.size + 1) _ L rfl (HR1.out.alloc _) _ _ _ [(f, t)] rfl rfl (zs_one w1 (f, t)) (by simp; omega) (by simp; omega) ?_; intro g2 cap2 w2 hrow2 b2; have bb2 : Below w.heap.size w w2 := (bb1.alloc bb1.size _).trans (b2.mono (by omega)))
    | (at_builtin; refine wpList_app_y rfl (.tmp 15) (.tmp 16) rfl (w.heap.size + 1) _ [] rfl HR0.out _ _ _ L rfl rfl (HS.out _ bA) (by simp; omega) (by simp) ?_; intro g1 cap1 w1 hrow1 b1; simp only [List.length_nil, Nat.zero_add, List.nil_append] at hrow1; have bb1 : Below w.heap.size w w1 := bA.trans (b1.mono (by omega)); have HR1 := Lib.hid hrow1; have A1 := HA0.out.below b1 (by omega); have k0 := (A1.cell 0).trans rfl; have k1 := (A1.cell 1).trans rfl; have hs1 : w.heap.size + 1 ≤ w1.heap.size := (by have := b1.size; simp at this; omega); clear hrow1 A1))
  go_ret2
  exact ⟨_, rfl, by simpa using hrow2.isZ, hrow2.ty, bb2⟩
end Go.Proofs.Ytjljkpecpofbcaa
