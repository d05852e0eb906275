/- A set in memory; Size, made. -/
import Derived.Test.YtkglaoagiifejaaDoorC0
import Derived.Shelf.RegionOpen
namespace Go.Proofs.YtkglaoagiifejaaDoor
open Go.RowKit Go.Shelf

/-- The words of a set. -/
def ws (p : Nat → Bool) (n : Nat) : Array Value := ((List.range (nw n)).map fun k => Value.int .u64 (wd p k : Nat)).toArray
theorem ws_get {p : Nat → Bool} {n k : Nat} (h : k < nw n) : (ws p n)[k]? = some (.int .u64 (wd p k : Nat)) := by simp [ws, h]
theorem ws_set {p q : Nat → Bool} {n k x : Nat} (h1 : wd q k = x) (h2 : ∀ j, j ≠ k → wd q j = wd p j) : (ws p n).setIfInBounds k (.int .u64 (x : Nat)) = ws q n := by
  apply Array.ext_getElem?
  intro j
  rw [Array.getElem?_setIfInBounds]
  by_cases hj : j < nw n
  · by_cases e : k = j
    · subst e; subst h1; simp [ws, hj]
    · simp [ws, hj, e, h2 j (fun h => e h.symm)]
  · by_cases e : k = j <;> simp [ws, hj, e]
theorem ws_congr {p q : Nat → Bool} {n : Nat} (h : ∀ k, k < nw n → wd p k = wd q k) : ws p n = ws q n := by
  unfold ws
  congr 1
  apply List.map_congr_left
  intro k hk
  rw [h k (by simpa using hk)]
/-- The first k words of it alone. -/
def cutW (p : Nat → Bool) (k : Nat) (i : Nat) : Bool := p i && decide (i < 64 * k)
theorem cutW_lt {p : Nat → Bool} {k j : Nat} (h : j < k) : wd (cutW p k) j = wd p j := wd_congr fun i hi => by
  have : 64 * j + i < 64 * k := by omega
  simp [cutW, this]
theorem cutW_ge {p : Nat → Bool} {k j : Nat} (h : k ≤ j) : wd (cutW p k) j = 0 := by
  rw [← wd_zero j]
  exact wd_congr fun i hi => by
    have : ¬ 64 * j + i < 64 * k := by omega
    simp [cutW, this]
theorem cutW_put {p : Nat → Bool} {n k : Nat} : (ws (cutW p k) n).setIfInBounds k (.int .u64 (wd p k : Nat)) = ws (cutW p (k + 1)) n :=
  ws_set (cutW_lt (by omega)) fun j hj => by
    by_cases h : j < k
    · rw [cutW_lt h, cutW_lt (by omega)]
    · rw [cutW_ge (by omega), cutW_ge (by omega)]
theorem cutW_all (p : Nat → Bool) (n : Nat) : ws (cutW p (nw n)) n = ws p n := ws_congr fun k hk => cutW_lt hk
theorem cutW_none (p : Nat → Bool) (n : Nat) : madeCells #[.int .u64 0] (nw n) = ws (cutW p 0) n := by
  apply Array.ext_getElem?
  intro j
  by_cases hj : j < nw n
  · rw [ws_get hj, cutW_ge (by omega)]
    simp [madeCells, hj, Nat.mod_one]
  · simp [madeCells, ws, hj]

/-- A set in memory: its block, and its words'. -/
def SetAt (W : World) (B C n : Nat) (p : Nat → Bool) : Prop := At W B #[.int .i64 (n : Nat), .slice (some ⟨C, 0, none⟩) (nw n) (nw n)] 56 ∧ At W C (ws p n) 52
/-- A value that is this set. -/
def IsSet (W : World) (v : Value) (n : Nat) (p : Nat → Bool) : Prop := Sup n p ∧ n ≤ 1024 ∧ ((v = .pointer none ∧ n = 0) ∨ ∃ B C, v = .pointer (some ⟨B, 0, none⟩) ∧ SetAt W B C n p)
/-- A set that a call has made. -/
def Fresh (w w' : World) (v : Value) (n : Nat) (p : Nat → Bool) : Prop := ∃ B C, v = .pointer (some ⟨B, 0, none⟩) ∧ SetAt w' B C n p ∧ w.heap.size ≤ B ∧ w.heap.size ≤ C ∧ B ≠ C
theorem IsSet.ptr {W : World} {v : Value} {n : Nat} {p : Nat → Bool} (h : IsSet W v n p) : ∃ A, v = .pointer A := by
  rcases h.2.2 with ⟨e, _⟩ | ⟨B, C, e, _⟩ <;> exact ⟨_, e⟩
theorem IsSet.belows {W W' : World} {v : Value} {n : Nat} {p : Nat → Bool} (h : IsSet W v n p) (hb : Below W.heap.size W W') : IsSet W' v n p := by
  obtain ⟨h1, h2, h3⟩ := h
  refine ⟨h1, h2, ?_⟩
  rcases h3 with h3 | ⟨B, C, e, a, b⟩
  · exact .inl h3
  · exact .inr ⟨B, C, e, a.belows hb, b.belows hb⟩
theorem IsSet.blocks {W : World} {v : Value} {n : Nat} {p : Nat → Bool} (h : IsSet W v n p) (hn : 0 < n) : ∃ B C, v = .pointer (some ⟨B, 0, none⟩) ∧ SetAt W B C n p := by
  rcases h.2.2 with ⟨_, h0⟩ | h
  · omega
  · exact h
theorem Fresh.isSet {w w' : World} {v : Value} {n : Nat} {p : Nat → Bool} (h : Fresh w w' v n p) (hs : Sup n p) (hn : n ≤ 1024) : IsSet w' v n p := by
  obtain ⟨B, C, e, hs', _⟩ := h
  exact ⟨hs, hn, .inr ⟨B, C, e, hs'⟩⟩
theorem isSet_nil (W : World) : IsSet W (.pointer none) 0 (fun _ => false) := ⟨fun _ _ => rfl, by omega, .inl ⟨rfl, rfl⟩⟩

/-- (*Set).Size. -/
theorem size_any {v : Value} (n : Nat) (p : Nat → Bool) (w : World) (h : IsSet w v n p) : Calls Tryd.prog 25 #[v] w fun e w' => e = .returned (.int .i64 (n : Nat)) ∧ w = w' := by
  rcases h.2.2 with ⟨rfl, rfl⟩ | ⟨B, C, rfl, a, b⟩
  · go_enter Tryd.func25, Tryd.ntmps25
    go_wp2
    go_ret
    exact ⟨rfl, rfl⟩
  · have hc := (a.cell 0).trans rfl
    clear a b h
    go_enter Tryd.func25, Tryd.ntmps25
    go_wp2
    go_ret
    exact ⟨rfl, rfl⟩

theorem info52 : (Tryd.prog.info? 52).map (fun i => (i.zero, i.size, i.bytes)) = some (some (.int .u64 0), 1, 8) := by kernel_rfl
set_option maxRecDepth 100000 in
set_option maxHeartbeats 1000000 in
/-- bits.made. -/
theorem made_any (g : Nat) (lb : Array Value) (eg : ∀ args w, (callFunc g args).run Tryd.prog w = .ok (.enter g args) w) (n : Nat) (p : Nat → Bool) (w : World) (hn : n ≤ 1024)
    (hc : ∀ k, k < nw n → ∀ W, Below w.heap.size w W → Calls Tryd.prog g (#[.int .i64 (k : Nat)] ++ lb) W fun e W' => e = .returned (.int .u64 (wd p k : Nat)) ∧ Below W.heap.size W W') :
    Calls Tryd.prog 26 #[.int .i64 (n : Nat), .func (.func g) #[] lb] w fun e w' => ∃ v, e = .returned v ∧ Fresh w w' v n p ∧ Below w.heap.size w w' := by
  have HC := Lib.hid hc
  have hm := nw_max hn
  have hw := fun u : World => wordsOf_any n u hn
  clear hc
  have hcall : ∀ k, k < nw n → ∀ W, Below w.heap.size w W → Calls Tryd.prog g (#[.int .i64 (k : Nat)] ++ lb) W fun e W' => e = .returned (.int .u64 (wd p k : Nat)) ∧ Below W.heap.size W W' := HC.out
  have hcut := Lib.hid (cutW_none p n)
  have hall := Lib.hid (cutW_all p n)
  have hput := Lib.hid (fun k => cutW_put (p := p) (n := n) (k := k))
  have hsz : Hid (∀ k, (ws (cutW p k) n).size = nw n) := Lib.hid (fun k => by simp [ws])
  generalize hN : nw n = N at *
  have hmk := Lib.hid fun u => run_make_row' (P := Tryd.prog) 54 52 (.int .u64 0) 8 Tryd.underlying54 info52 rfl .i64 .i64 N (by omega) (by omega) u
  clear hcall
  go_enter Tryd.func26, Tryd.ntmps26
  go_wp2_with (first | (go_at_call 31; refine (hw _).mono ?_; rintro e w1 ⟨rfl, rfl⟩) | rw [hmk.out])
  go_loopw [12] (fun i wr => ∃ k : Nat, i = .int .i64 (k : Nat) ∧ k ≤ N ∧ Hid (At wr w.heap.size (ws (cutW p k) n) 52) ∧ Below w.heap.size w wr ∧ w.heap.size < wr.heap.size) (fun i _ => N - (intOf i).toNat)
  case atStart =>
    refine ⟨0, rfl, by omega, Lib.hid ?_, (Below.refl _ w).alloc (Nat.le_refl _) _, by simp⟩
    rw [← hcut.out]; exact At.new _ _ _
  case round =>
    obtain ⟨k, rfl, hk, HA, hb, hlt0⟩ := hrel
    by_cases hlt : k < N
    · have hcall := HC.out k hlt wr hb
      have hA := HA.out
      have i0 : (0 : Int) ≤ (k : Int) := by omega
      have i1 : (k : Int) < (N : Int) := by omega
      go_wp2_with (go_at_fn g; refine hcall.mono ?_; rintro e w' ⟨rfl, b'⟩; have hA' := hA.belows b'; have hfz' := hA'.frozen k; have hcell' : w'.cell? ⟨w.heap.size, k, none⟩ = some (.int .u64 (wd (cutW p k) k : Nat)) := (hA'.cell k).trans (ws_get (by omega)))
      go_roundw
      case rel =>
        refine ⟨k + 1, by go_num, by omega, Lib.hid ?_, (hb.trans (b'.mono (by omega))).setCell (p := ⟨w.heap.size, k, none⟩) (Nat.le_refl _) _, by have := b'.size; simp; omega⟩
        have := hA'.set0 k (.int .u64 (wd p k : Nat))
        rwa [hput.out] at this
      case measure => simp [intOf]; omega
    · obtain rfl : k = N := by omega
      go_wp2
      go_ret
      have hA := HA.out
      rw [hall.out] at hA
      refine ⟨_, rfl, ⟨_, _, rfl, ⟨?_, hA.alloc _⟩, hb.size, Nat.le_refl _, by omega⟩, hb.alloc hb.size _⟩
      rw [hN]
      exact At.new _ _ _
end Go.Proofs.YtkglaoagiifejaaDoor
