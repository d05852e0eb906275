/- Contracts: New, With. -/
import Derived.Test.YtkglaoagiifejaaDoorS3
namespace Go.Proofs.YtkglaoagiifejaaDoor
open Go.RowKit Go.Shelf

theorem isV_nil (w : World) : IsV w (.slice none 0 0) [] := ⟨none, 0, rfl, Nat.le_refl _, by simp, Vs.nil _ _⟩
/-- bits.New. -/
theorem new_any (size : Int) (w : World) : Calls Tryd.prog 21 #[.int .i64 size] w (OfOut w size []) := by
  have ho := of_any size [] w (isV_nil w)
  go_enter Tryd.func21, Tryd.ntmps21
  go_wp2_with fail
  refine ho.mono ?_
  rintro e w1 (⟨hg, v, n, hn, rfl, hf, hb⟩ | ⟨hg, rfl, hb⟩)
  · have HF := Lib.hid hf
    have HN := Lib.hid hn
    clear hf hn
    go_wp2
    go_ret2
    exact .inl ⟨hg, v, n, HN.out, rfl, HF.out, hb⟩
  · go_wp2
    go_ret2
    exact .inr ⟨hg, rfl, hb⟩

theorem Fresh.up {w w0 w' : World} {v : Value} {n : Nat} {p : Nat → Bool} (h : Fresh w w' v n p) (hs : w0.heap.size ≤ w.heap.size) : Fresh w0 w' v n p := by
  obtain ⟨B, C, e, hh, h1, h2, h3⟩ := h
  exact ⟨B, C, e, hh, by omega, by omega, h3⟩
/-- What With adds. -/
def addW (p : Nat → Bool) (i j : Int) (m : Nat) : Bool := p m || (blw j m && !blw i m)
theorem addW_sup {p : Nat → Bool} {n : Nat} {i j : Int} (hs : Sup n p) (hj : j ≤ n) : Sup n (addW p i j) := fun m hm => by
  have h : blw j m = false := by simp [blw]; omega
  simp [addW, hs m hm, h]
set_option maxRecDepth 100000 in
set_option maxHeartbeats 1000000 in
/-- (*Set).With, where it may be. -/
theorem with_ok {v : Value} (n : Nat) (p : Nat → Bool) (i j : Int) (w : World) (h : IsSet w v n p) (hi : 0 ≤ i) (hij : i ≤ j) (hj : j ≤ n) :
    Calls Tryd.prog 11 #[v, .int .i64 i, .int .i64 j] w fun e w' => ∃ v', e = .returned (.tuple #[v', .int .i64 0]) ∧ Fresh w w' v' n (addW p i j) ∧ Below w.heap.size w w' := by
  have hn := h.2.1
  obtain ⟨A, rfl⟩ := h.ptr
  have b0 : Below w.heap.size w (((w.alloc (.cells #[.pointer A] 25)).alloc (.cells #[.int .i64 i] 3)).alloc (.cells #[.int .i64 j] 3)) := (((Below.refl _ w).alloc (Nat.le_refl _) _).alloc (by simp) _).alloc (by simp; omega) _
  have D0 : At (((w.alloc (.cells #[.pointer A] 25)).alloc (.cells #[.int .i64 i] 3)).alloc (.cells #[.int .i64 j] 3)) w.heap.size #[.pointer A] 25 := ((At.new w _ _).alloc _).alloc _
  have F0 : At (((w.alloc (.cells #[.pointer A] 25)).alloc (.cells #[.int .i64 i] 3)).alloc (.cells #[.int .i64 j] 3)) (w.heap.size + 1) #[.int .i64 i] 3 := (At.new1 w _ _ _).alloc _
  have E0 : At (((w.alloc (.cells #[.pointer A] 25)).alloc (.cells #[.int .i64 i] 3)).alloc (.cells #[.int .i64 j] 3)) (w.heap.size + 1 + 1) #[.int .i64 j] 3 := At.new2 w _ _ _ _
  have HS : Hid (∀ u, Below w.heap.size w u → IsSet u (.pointer A) n p) := Lib.hid fun u hu => h.belows hu
  clear h
  go_enter Tryd.func11, Tryd.ntmps11
  go_wp2_with fail
  generalize ((w.alloc (.cells #[.pointer A] 25)).alloc (.cells #[.int .i64 i] 3)).alloc (.cells #[.int .i64 j] 3) = w0 at *
  have c0 := (D0.cell 0).trans rfl
  have c1 := (F0.cell 0).trans rfl
  have c2 := (E0.cell 0).trans rfl
  have HZ : Hid (∀ q, Calls Tryd.prog 25 #[.pointer A] (w0.drewN q) fun e w' => e = .returned (.int .i64 (n : Nat)) ∧ w0.drewN q = w') := Lib.hid fun q => size_any n p _ (HS.out _ (bdrewN b0 q))
  have g1 : decide (i < 0) = false := by simp; omega
  have g2 : decide (j < i) = false := by simp; omega
  have g3 : decide ((n : Int) < j) = false := by simp; omega
  go_quiet ((go_at_call 25; exact Calls.quiet_of_same (same_of (HZ.out _))))
  have b1 : Below w.heap.size w (w0.drewN nq) := bdrewN b0 nq
  have D1 : At (w0.drewN nq) w.heap.size #[.pointer A] 25 := D0
  have F1 : At (w0.drewN nq) (w.heap.size + 1) #[.int .i64 i] 3 := F0
  have E1 : At (w0.drewN nq) (w.heap.size + 1 + 1) #[.int .i64 j] 3 := E0
  have z1 := HZ.out nq
  clear D0 F0 E0 HZ c0 c1 c2 b0
  generalize w0.drewN nq = w1 at *
  have c0 := (D1.cell 0).trans rfl
  have hmade := made_any 28 #[.pointer (some ⟨w.heap.size, 0, none⟩), .pointer (some ⟨w.heap.size + 1 + 1, 0, none⟩), .pointer (some ⟨w.heap.size + 1, 0, none⟩)] (enters_of Tryd.func28 (by kernel_rfl) rfl) n (addW p i j) w1 hn (fun k hk W hW => by
    have hn0 : 0 < n := by unfold nw at hk; omega
    obtain ⟨B, C, e, hset⟩ := (HS.out W (b1.trans (hW.mono b1.size))).blocks hn0
    cases e
    exact with1_any i j k W hk hn hi hij (by omega) hset (D1.belows hW) (E1.belows hW) (F1.belows hW))
  go_wp2_with (first | (go_at_call 25; refine z1.mono ?_; rintro e w2 ⟨rfl, rfl⟩) | (go_at_call 26; refine hmade.mono ?_; rintro e w2 ⟨v2, rfl, hf, b2⟩))
  go_ret2
  exact ⟨_, rfl, hf.up b1.size, b1.trans (b2.mono b1.size)⟩

set_option maxRecDepth 100000 in
set_option maxHeartbeats 1000000 in
/-- (*Set).With, where it may not be. -/
theorem with_not {v : Value} (n : Nat) (p : Nat → Bool) (i j : Int) (w : World) (h : IsSet w v n p) (hno : ¬ (0 ≤ i ∧ i ≤ j ∧ j ≤ n)) :
    Calls Tryd.prog 11 #[v, .int .i64 i, .int .i64 j] w fun e w' => e = .returned (.tuple #[.pointer none, .int .i64 61]) ∧ Below w.heap.size w w' := by
  have hn := h.2.1
  obtain ⟨A, rfl⟩ := h.ptr
  have b0 : Below w.heap.size w (((w.alloc (.cells #[.pointer A] 25)).alloc (.cells #[.int .i64 i] 3)).alloc (.cells #[.int .i64 j] 3)) := (((Below.refl _ w).alloc (Nat.le_refl _) _).alloc (by simp) _).alloc (by simp; omega) _
  have D0 : At (((w.alloc (.cells #[.pointer A] 25)).alloc (.cells #[.int .i64 i] 3)).alloc (.cells #[.int .i64 j] 3)) w.heap.size #[.pointer A] 25 := ((At.new w _ _).alloc _).alloc _
  have F0 : At (((w.alloc (.cells #[.pointer A] 25)).alloc (.cells #[.int .i64 i] 3)).alloc (.cells #[.int .i64 j] 3)) (w.heap.size + 1) #[.int .i64 i] 3 := (At.new1 w _ _ _).alloc _
  have E0 : At (((w.alloc (.cells #[.pointer A] 25)).alloc (.cells #[.int .i64 i] 3)).alloc (.cells #[.int .i64 j] 3)) (w.heap.size + 1 + 1) #[.int .i64 j] 3 := At.new2 w _ _ _ _
  have HS : Hid (∀ u, Below w.heap.size w u → IsSet u (.pointer A) n p) := Lib.hid fun u hu => h.belows hu
  clear h
  go_enter Tryd.func11, Tryd.ntmps11
  go_wp2_with fail
  generalize ((w.alloc (.cells #[.pointer A] 25)).alloc (.cells #[.int .i64 i] 3)).alloc (.cells #[.int .i64 j] 3) = w0 at *
  have c0 := (D0.cell 0).trans rfl
  have c1 := (F0.cell 0).trans rfl
  have c2 := (E0.cell 0).trans rfl
  have HZ : Hid (∀ q, Calls Tryd.prog 25 #[.pointer A] (w0.drewN q) fun e w' => e = .returned (.int .i64 (n : Nat)) ∧ w0.drewN q = w') := Lib.hid fun q => size_any n p _ (HS.out _ (bdrewN b0 q))
  have HNO := Lib.hid hno
  clear hno
  by_cases h1 : i < 0
  · have g1 : decide (i < 0) = true := by simpa using h1
    go_quiet ((go_at_call 25; exact Calls.quiet_of_same (same_of (HZ.out _))))
    go_wp2
    go_ret2
    exact ⟨rfl, bdrewN b0 nq⟩
  · have g1 : decide (i < 0) = false := by simpa using h1
    by_cases h2 : j < i
    · have g2 : decide (j < i) = true := by simpa using h2
      go_quiet ((go_at_call 25; exact Calls.quiet_of_same (same_of (HZ.out _))))
      go_wp2
      go_ret2
      exact ⟨rfl, bdrewN b0 nq⟩
    · have g2 : decide (j < i) = false := by simpa using h2
      have h3 : (n : Int) < j := by have := HNO.out; omega
      have g3 : decide ((n : Int) < j) = true := by simpa using h3
      go_quiet ((go_at_call 25; exact Calls.quiet_of_same (same_of (HZ.out _))))
      go_wp2
      go_ret2
      exact ⟨rfl, bdrewN b0 nq⟩
/-- What With answers. -/
def WithOut (w : World) (n : Nat) (p : Nat → Bool) (i j : Int) (e : Ending) (w' : World) : Prop := ((0 ≤ i ∧ i ≤ j ∧ j ≤ n) ∧ ∃ v', e = .returned (.tuple #[v', .int .i64 0]) ∧ Fresh w w' v' n (addW p i j) ∧ Below w.heap.size w w') ∨ (¬ (0 ≤ i ∧ i ≤ j ∧ j ≤ n) ∧ e = .returned (.tuple #[.pointer none, .int .i64 61]) ∧ Below w.heap.size w w')
theorem with_any {v : Value} (n : Nat) (p : Nat → Bool) (i j : Int) (w : World) (h : IsSet w v n p) : Calls Tryd.prog 11 #[v, .int .i64 i, .int .i64 j] w (WithOut w n p i j) := by
  by_cases hc : 0 ≤ i ∧ i ≤ j ∧ j ≤ n
  · exact (with_ok n p i j w h hc.1 hc.2.1 hc.2.2).mono fun e w' hh => .inl ⟨hc, hh⟩
  · exact (with_not n p i j w h hc).mono fun e w' hh => .inr ⟨hc, hh⟩
end Go.Proofs.YtkglaoagiifejaaDoor
