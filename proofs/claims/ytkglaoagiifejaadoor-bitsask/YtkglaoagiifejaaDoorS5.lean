/- Contracts: ofTwo, And, Or, Minus, Not. -/
import Derived.Test.YtkglaoagiifejaaDoorS4
namespace Go.Proofs.YtkglaoagiifejaaDoor
open Go.RowKit Go.Shelf

/-- What And, Or, Minus answer. -/
def TwoOut (w : World) (n m : Nat) (r : Nat → Bool) (e : Ending) (w' : World) : Prop := (n = m ∧ ∃ v', e = .returned (.tuple #[v', .int .i64 0]) ∧ Fresh w w' v' n r ∧ Below w.heap.size w w') ∨ (n ≠ m ∧ e = .returned (.tuple #[.pointer none, .int .i64 61]) ∧ Below w.heap.size w w')
set_option maxRecDepth 100000 in
set_option maxHeartbeats 1000000 in
/-- bits.ofTwo. -/
theorem two_any {v v' : Value} (g n m : Nat) (p q r : Nat → Bool) (w : World) (eg : ∀ args w, (callFunc g args).run Tryd.prog w = .ok (.enter g args) w) (h : IsSet w v n p) (h' : IsSet w v' m q)
    (hg : ∀ (k : Nat) (u : World), Calls Tryd.prog g #[.int .u64 (wd p k : Nat), .int .u64 (wd q k : Nat)] u fun e w' => e = .returned (.int .u64 (wd r k : Nat)) ∧ u = w') :
    Calls Tryd.prog 33 #[v, v', .func (.func g) #[] #[]] w (TwoOut w n m r) := by
  have hn := h.2.1
  have hm := h'.2.1
  obtain ⟨A, rfl⟩ := h.ptr
  obtain ⟨A', rfl⟩ := h'.ptr
  have b0 : Below w.heap.size w (((w.alloc (.cells #[.pointer A] 25)).alloc (.cells #[.pointer A'] 25)).alloc (.cells #[.func (.func g) #[] #[]] 62)) := (((Below.refl _ w).alloc (Nat.le_refl _) _).alloc (by simp) _).alloc (by simp; omega) _
  have D0 : At (((w.alloc (.cells #[.pointer A] 25)).alloc (.cells #[.pointer A'] 25)).alloc (.cells #[.func (.func g) #[] #[]] 62)) w.heap.size #[.pointer A] 25 := ((At.new w _ _).alloc _).alloc _
  have F0 : At (((w.alloc (.cells #[.pointer A] 25)).alloc (.cells #[.pointer A'] 25)).alloc (.cells #[.func (.func g) #[] #[]] 62)) (w.heap.size + 1) #[.pointer A'] 25 := (At.new1 w _ _ _).alloc _
  have E0 : At (((w.alloc (.cells #[.pointer A] 25)).alloc (.cells #[.pointer A'] 25)).alloc (.cells #[.func (.func g) #[] #[]] 62)) (w.heap.size + 1 + 1) #[.func (.func g) #[] #[]] 62 := At.new2 w _ _ _ _
  have HS : Hid (∀ u, Below w.heap.size w u → IsSet u (.pointer A) n p) := Lib.hid fun u hu => h.belows hu
  have HS' : Hid (∀ u, Below w.heap.size w u → IsSet u (.pointer A') m q) := Lib.hid fun u hu => h'.belows hu
  have HG := Lib.hid hg
  clear h h' hg
  go_enter Tryd.func33, Tryd.ntmps33
  go_wp2_with fail
  generalize ((w.alloc (.cells #[.pointer A] 25)).alloc (.cells #[.pointer A'] 25)).alloc (.cells #[.func (.func g) #[] #[]] 62) = w0 at *
  have c0 := (D0.cell 0).trans rfl
  have c1 := (F0.cell 0).trans rfl
  have HZ : Hid (∀ (x : Option Addr) (y : Nat), (x = A ∧ y = n) ∨ (x = A' ∧ y = m) → ∀ q, Calls Tryd.prog 25 #[.pointer x] (w0.drewN q) fun e w' => e = .returned (.int .i64 (y : Nat)) ∧ w0.drewN q = w') := Lib.hid fun x y hxy q' => by
    rcases hxy with ⟨rfl, rfl⟩ | ⟨rfl, rfl⟩
    · exact size_any _ p _ (HS.out _ (bdrewN b0 q'))
    · exact size_any _ q _ (HS'.out _ (bdrewN b0 q'))
  by_cases hnm : n = m
  · subst hnm
    go_quiet ((go_at_call 25; exact Calls.quiet_of_same (same_of (HZ.out _ _ (by first | exact .inl ⟨rfl, rfl⟩ | exact .inr ⟨rfl, rfl⟩) _))))
    have b1 : Below w.heap.size w (w0.drewN nq) := bdrewN b0 nq
    have D1 : At (w0.drewN nq) w.heap.size #[.pointer A] 25 := D0
    have F1 : At (w0.drewN nq) (w.heap.size + 1) #[.pointer A'] 25 := F0
    have E1 : At (w0.drewN nq) (w.heap.size + 1 + 1) #[.func (.func g) #[] #[]] 62 := E0
    have z1 := HZ.out A n (.inl ⟨rfl, rfl⟩) nq
    clear D0 F0 E0 HZ c0 c1 b0
    generalize w0.drewN nq = w1 at *
    have c0 := (D1.cell 0).trans rfl
    have hmade := made_any 39 #[.pointer (some ⟨w.heap.size + 1 + 1, 0, none⟩), .pointer (some ⟨w.heap.size, 0, none⟩), .pointer (some ⟨w.heap.size + 1, 0, none⟩)] (enters_of Tryd.func39 (by kernel_rfl) rfl) n r w1 hn (fun k hk W hW => by
      have hn0 : 0 < n := by unfold nw at hk; omega
      obtain ⟨B, C, e, hset⟩ := (HS.out W (b1.trans (hW.mono b1.size))).blocks hn0
      obtain ⟨B', C', e', hset'⟩ := (HS'.out W (b1.trans (hW.mono b1.size))).blocks hn0
      cases e
      cases e'
      exact two1_any g k W eg hk hset hset' (E1.belows hW) (D1.belows hW) (F1.belows hW) (HG.out k))
    go_wp2_with (first | (go_at_call 25; refine z1.mono ?_; rintro e w2 ⟨rfl, rfl⟩) | (go_at_call 26; refine hmade.mono ?_; rintro e w2 ⟨v2, rfl, hf, b2⟩))
    go_ret2
    exact .inl ⟨rfl, _, rfl, hf.up b1.size, b1.trans (b2.mono b1.size)⟩
  · have g1 : ((n : Int) == (m : Int)) = false := by simp; omega
    have g2 : (n == m) = false := by simpa using hnm
    go_quiet ((go_at_call 25; exact Calls.quiet_of_same (same_of (HZ.out _ _ (by first | exact .inl ⟨rfl, rfl⟩ | exact .inr ⟨rfl, rfl⟩) _))))
    go_wp2
    go_ret2
    exact .inr ⟨hnm, rfl, bdrewN b0 nq⟩
theorem and_any {v v' : Value} (n m : Nat) (p q : Nat → Bool) (w : World) (h : IsSet w v n p) (h' : IsSet w v' m q) : Calls Tryd.prog 16 #[v, v'] w (TwoOut w n m fun i => p i && q i) := by
  have ht := two_any 34 n m p q (fun i => p i && q i) w (enters_of Tryd.func34 (by kernel_rfl) rfl) h h' (fun k u => and1_any p q k u)
  obtain ⟨A, rfl⟩ := h.ptr
  obtain ⟨A', rfl⟩ := h'.ptr
  clear h h'
  go_enter Tryd.func16, Tryd.ntmps16
  go_wp2_with fail
  refine ht.mono ?_
  rintro e w1 (⟨hnm, v1, rfl, hf, hb⟩ | ⟨hnm, rfl, hb⟩)
  · have HF := Lib.hid hf
    have HN := Lib.hid hnm
    clear hf hnm
    go_wp2
    go_ret2
    exact .inl ⟨HN.out, _, rfl, HF.out, hb⟩
  · have HN := Lib.hid hnm
    clear hnm
    go_wp2
    go_ret2
    exact .inr ⟨HN.out, rfl, hb⟩
theorem or_any {v v' : Value} (n m : Nat) (p q : Nat → Bool) (w : World) (h : IsSet w v n p) (h' : IsSet w v' m q) : Calls Tryd.prog 17 #[v, v'] w (TwoOut w n m fun i => p i || q i) := by
  have ht := two_any 35 n m p q (fun i => p i || q i) w (enters_of Tryd.func35 (by kernel_rfl) rfl) h h' (fun k u => or1_any p q k u)
  obtain ⟨A, rfl⟩ := h.ptr
  obtain ⟨A', rfl⟩ := h'.ptr
  clear h h'
  go_enter Tryd.func17, Tryd.ntmps17
  go_wp2_with fail
  refine ht.mono ?_
  rintro e w1 (⟨hnm, v1, rfl, hf, hb⟩ | ⟨hnm, rfl, hb⟩)
  · have HF := Lib.hid hf
    have HN := Lib.hid hnm
    clear hf hnm
    go_wp2
    go_ret2
    exact .inl ⟨HN.out, _, rfl, HF.out, hb⟩
  · have HN := Lib.hid hnm
    clear hnm
    go_wp2
    go_ret2
    exact .inr ⟨HN.out, rfl, hb⟩
theorem minus_any {v v' : Value} (n m : Nat) (p q : Nat → Bool) (w : World) (h : IsSet w v n p) (h' : IsSet w v' m q) : Calls Tryd.prog 18 #[v, v'] w (TwoOut w n m fun i => p i && !q i) := by
  have ht := two_any 36 n m p q (fun i => p i && !q i) w (enters_of Tryd.func36 (by kernel_rfl) rfl) h h' (fun k u => minus1_any p q k u)
  obtain ⟨A, rfl⟩ := h.ptr
  obtain ⟨A', rfl⟩ := h'.ptr
  clear h h'
  go_enter Tryd.func18, Tryd.ntmps18
  go_wp2_with fail
  refine ht.mono ?_
  rintro e w1 (⟨hnm, v1, rfl, hf, hb⟩ | ⟨hnm, rfl, hb⟩)
  · have HF := Lib.hid hf
    have HN := Lib.hid hnm
    clear hf hnm
    go_wp2
    go_ret2
    exact .inl ⟨HN.out, _, rfl, HF.out, hb⟩
  · have HN := Lib.hid hnm
    clear hnm
    go_wp2
    go_ret2
    exact .inr ⟨HN.out, rfl, hb⟩
/-- What is not in. -/
def notP (p : Nat → Bool) (n : Nat) (i : Nat) : Bool := blw n i && !p i
theorem notP_sup (p : Nat → Bool) (n : Nat) : Sup n (notP p n) := fun m hm => by
  have h : blw n m = false := by simp [blw]; omega
  simp [notP, h]
set_option maxRecDepth 100000 in
set_option maxHeartbeats 1000000 in
/-- (*Set).Not. -/
theorem not_any {v : Value} (n : Nat) (p : Nat → Bool) (w : World) (h : IsSet w v n p) : Calls Tryd.prog 20 #[v] w fun e w' => ∃ v', e = .returned v' ∧ Fresh w w' v' n (notP p n) ∧ Below w.heap.size w w' := by
  have hn := h.2.1
  obtain ⟨A, rfl⟩ := h.ptr
  have b0 : Below w.heap.size w (w.alloc (.cells #[.pointer A] 25)) := (Below.refl _ w).alloc (Nat.le_refl _) _
  have D0 : At (w.alloc (.cells #[.pointer A] 25)) w.heap.size #[.pointer A] 25 := At.new w _ _
  have HS : Hid (∀ u, Below w.heap.size w u → IsSet u (.pointer A) n p) := Lib.hid fun u hu => h.belows hu
  clear h
  have z1 := size_any n p _ (HS.out _ b0)
  have hmade := made_any 37 #[.pointer (some ⟨w.heap.size, 0, none⟩)] (enters_of Tryd.func37 (by kernel_rfl) rfl) n (notP p n) _ hn (fun k hk W hW => by
    have hn0 : 0 < n := by unfold nw at hk; omega
    obtain ⟨B, C, e, hset⟩ := (HS.out W (b0.trans (hW.mono b0.size))).blocks hn0
    cases e
    exact not1_any k W hk hn hset (D0.belows hW))
  have c0 := (D0.cell 0).trans rfl
  go_enter Tryd.func20, Tryd.ntmps20
  go_wp2_with (first | (go_at_call 25; refine z1.mono ?_; rintro e w2 ⟨rfl, rfl⟩) | (go_at_call 26; refine hmade.mono ?_; rintro e w2 ⟨v2, rfl, hf, b2⟩))
  go_ret
  exact ⟨_, rfl, hf.up b0.size, b0.trans (b2.mono b0.size)⟩
end Go.Proofs.YtkglaoagiifejaaDoor
