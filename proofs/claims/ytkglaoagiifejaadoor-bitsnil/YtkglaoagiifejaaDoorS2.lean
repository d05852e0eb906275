/- Contracts: the closures of With, Not, ofTwo; Of, New. -/
import Derived.Test.YtkglaoagiifejaaDoorS1
import Derived.StillTailTactics
namespace Go.Proofs.YtkglaoagiifejaaDoor
open Go.RowKit Go.Shelf

theorem of1_any (k : Nat) (w : World) : Calls Tryd.prog 27 #[.int .i64 k] w fun e w' => e = .returned (.int .u64 0) ∧ Below w.heap.size w w' := by
  go_enter Tryd.func27, Tryd.ntmps27
  go_wp2
  go_ret
  exact ⟨rfl, Below.refl _ _⟩
theorem and1_any (p q : Nat → Bool) (k : Nat) (w : World) : Calls Tryd.prog 34 #[.int .u64 (wd p k : Nat), .int .u64 (wd q k : Nat)] w fun e w' => e = .returned (.int .u64 (wd (fun i => p i && q i) k : Nat)) ∧ w = w' := by
  have h := bits_and_wd p q k
  go_enter Tryd.func34, Tryd.ntmps34
  go_wp2
  go_ret
  exact ⟨ret_int (by first | rfl | exact h), rfl⟩
theorem or1_any (p q : Nat → Bool) (k : Nat) (w : World) : Calls Tryd.prog 35 #[.int .u64 (wd p k : Nat), .int .u64 (wd q k : Nat)] w fun e w' => e = .returned (.int .u64 (wd (fun i => p i || q i) k : Nat)) ∧ w = w' := by
  have h := bits_or_wd p q k
  go_enter Tryd.func35, Tryd.ntmps35
  go_wp2
  go_ret
  exact ⟨ret_int (by first | rfl | exact h), rfl⟩
theorem minus1_any (p q : Nat → Bool) (k : Nat) (w : World) : Calls Tryd.prog 36 #[.int .u64 (wd p k : Nat), .int .u64 (wd q k : Nat)] w fun e w' => e = .returned (.int .u64 (wd (fun i => p i && !q i) k : Nat)) ∧ w = w' := by
  have h := bits_andNot_wd p q k
  go_enter Tryd.func36, Tryd.ntmps36
  go_wp2
  go_ret
  exact ⟨ret_int (by first | rfl | exact h), rfl⟩

set_option maxRecDepth 100000 in
set_option maxHeartbeats 1000000 in
/-- Not's closure: the box D holds the set. -/
theorem not1_any {B C D n : Nat} {p : Nat → Bool} (k : Nat) (w : World) (hk : k < nw n) (hn : n ≤ 1024) (hs : SetAt w B C n p) (hd : At w D #[.pointer (some ⟨B, 0, none⟩)] 25) :
    Calls Tryd.prog 37 #[.int .i64 k, .pointer (some ⟨D, 0, none⟩)] w fun e w' => e = .returned (.int .u64 (wd (fun i => blw n i && !p i) k : Nat)) ∧ Below w.heap.size w w' := by
  have c0 := (hd.cell 0).trans rfl
  have c1 := (hs.1.cell 0).trans rfl
  have c2 := (hs.1.cell 1).trans rfl
  have c3 := (hs.2.cell k).trans (ws_get hk)
  have hb := fun u : World => below_any n k u (by omega) (by omega) (by have := nw_max hn; omega)
  have h := bits_andNot_wd (blw n) p k
  have i0 : (0 : Int) ≤ (k : Int) := by omega
  have i1 : (k : Int) < (nw n : Int) := by omega
  generalize wd (blw ↑n) k = x1 at *
  generalize wd p k = x2 at *
  generalize wd (fun i => blw ↑n i && !p i) k = x3 at *
  generalize nw n = N at *
  clear hs hd hk
  go_enter Tryd.func37, Tryd.ntmps37
  go_wp2_with fail
  go_quiet ((go_at_call 29; exact Calls.quiet_of_same (same_of (hb _))))
  go_wp2
  go_ret
  refine ⟨ret_int (by first | rfl | exact h), ?_⟩
  exact bdrewN (Below.refl _ _) _

set_option maxRecDepth 100000 in
set_option maxHeartbeats 1000000 in
/-- With's closure: boxes D, E, F hold the set, k, i. -/
theorem with1_any {B C D E F n : Nat} {p : Nat → Bool} (i j : Int) (k : Nat) (w : World) (hk : k < nw n) (hn : n ≤ 1024) (hi : 0 ≤ i) (hij : i ≤ j) (hj : j ≤ 1024) (hs : SetAt w B C n p) (hd : At w D #[.pointer (some ⟨B, 0, none⟩)] 25)
    (he : At w E #[.int .i64 j] 3) (hf : At w F #[.int .i64 i] 3) :
    Calls Tryd.prog 28 #[.int .i64 k, .pointer (some ⟨D, 0, none⟩), .pointer (some ⟨E, 0, none⟩), .pointer (some ⟨F, 0, none⟩)] w fun e w' => e = .returned (.int .u64 (wd (fun m => p m || (blw j m && !blw i m)) k : Nat)) ∧ Below w.heap.size w w' := by
  have c0 := (hd.cell 0).trans rfl
  have c2 := (hs.1.cell 1).trans rfl
  have c3 := (hs.2.cell k).trans (ws_get hk)
  have c4 := (he.cell 0).trans rfl
  have c5 := (hf.cell 0).trans rfl
  have hb : ∀ (a : Int) (x : Nat), (a = j ∧ x = wd (blw j) k) ∨ (a = i ∧ x = wd (blw i) k) → ∀ u : World, Calls Tryd.prog 29 #[.int .i64 a, .int .i64 k] u fun e w' => e = .returned (.int .u64 (x : Nat)) ∧ u = w' := by
    have hk16 : k ≤ 16 := by have := nw_max hn; omega
    rintro a x (⟨rfl, rfl⟩ | ⟨rfl, rfl⟩) u
    · exact below_any _ k u (by omega) (by omega) hk16
    · exact below_any _ k u (by omega) (by omega) hk16
  have h1 := bits_andNot_wd (blw j) (blw i) k
  have h2 := bits_or_wd p (fun m => blw j m && !blw i m) k
  have i0 : (0 : Int) ≤ (k : Int) := by omega
  have i1 : (k : Int) < (nw n : Int) := by omega
  generalize wd (blw j) k = x1 at *
  generalize wd (blw i) k = x2 at *
  generalize wd (fun m => blw j m && !blw i m) k = x3 at *
  generalize wd p k = x4 at *
  generalize wd (fun m => p m || (blw j m && !blw i m)) k = x5 at *
  generalize nw n = N at *
  clear hs hd he hf hk
  go_enter Tryd.func28, Tryd.ntmps28
  go_wp2_with fail
  go_quiet ((go_at_call 29; exact Calls.quiet_of_same (same_of (hb _ _ (by first | exact .inl ⟨rfl, rfl⟩ | exact .inr ⟨rfl, rfl⟩) _))))
  go_wp2
  go_ret
  refine ⟨ret_int (by first | rfl | exact h2), ?_⟩
  exact bdrewN (Below.refl _ _) _

set_option maxRecDepth 100000 in
set_option maxHeartbeats 1000000 in
/-- ofTwo's closure: boxes D, E, F hold what becomes, and the two. -/
theorem two1_any {B C B' C' D E F n : Nat} {p q r : Nat → Bool} (g k : Nat) (w : World) (eg : ∀ args w, (callFunc g args).run Tryd.prog w = .ok (.enter g args) w) (hk : k < nw n) (hs : SetAt w B C n p) (ht : SetAt w B' C' n q) (hd : At w D #[.func (.func g) #[] #[]] 62)
    (he : At w E #[.pointer (some ⟨B, 0, none⟩)] 25) (hf : At w F #[.pointer (some ⟨B', 0, none⟩)] 25)
    (hg : ∀ u : World, Calls Tryd.prog g #[.int .u64 (wd p k : Nat), .int .u64 (wd q k : Nat)] u fun e w' => e = .returned (.int .u64 (wd r k : Nat)) ∧ u = w') :
    Calls Tryd.prog 39 #[.int .i64 k, .pointer (some ⟨D, 0, none⟩), .pointer (some ⟨E, 0, none⟩), .pointer (some ⟨F, 0, none⟩)] w fun e w' => e = .returned (.int .u64 (wd r k : Nat)) ∧ Below w.heap.size w w' := by
  have c0 := (hd.cell 0).trans rfl
  have c1 := (he.cell 0).trans rfl
  have c2 := (hf.cell 0).trans rfl
  have c3 := (hs.1.cell 1).trans rfl
  have c4 := (ht.1.cell 1).trans rfl
  have c5 := (hs.2.cell k).trans (ws_get hk)
  have c6 := (ht.2.cell k).trans (ws_get hk)
  have i0 : (0 : Int) ≤ (k : Int) := by omega
  have i1 : (k : Int) < (nw n : Int) := by omega
  generalize wd p k = x1 at *
  generalize wd q k = x2 at *
  generalize wd r k = x3 at *
  generalize nw n = N at *
  clear hs ht hd he hf hk
  go_enter Tryd.func39, Tryd.ntmps39
  go_wp2_with fail
  go_quiet ((go_at_fn g; exact Calls.quiet_of_same (same_of (hg _))))
  go_wp2
  go_ret
  exact ⟨rfl, bdrewN (Below.refl _ _) _⟩
end Go.Proofs.YtkglaoagiifejaaDoor
