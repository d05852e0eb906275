/- Contracts: a range's boundaries; a table in memory; New, some. -/
import Derived.Test.YtjljkpecpofbcaaB2
namespace Go.Proofs.Ytjljkpecpofbcaa
open Go.RowKit Go.Shelf

/-- A step of a count. -/
def Stp (s : Int) (c : Int) (g q : Int → Nat) : Prop := (s = 1 ∧ ∀ j, q j = g j + if j = c then 1 else 0) ∨ (s = -1 ∧ ∀ j, g j = q j + if j = c then 1 else 0)
theorem recC_any {v : Value} (P : List (Int × Int)) (g q : Int → Nat) (s c : Int) (w : World) (h0 : 0 ≤ c) (h1 : c < 4294967296) (h : IsTree w v P) (hT : Tal P g) (hl : P.length < 1024) (hn : g c ≤ 1000) (hs : Stp s c g q) : Calls Try.prog 48 #[v, .int .u32 c, .int .i64 s] w (RecOut w q) := by
  rcases hs with ⟨rfl, hq⟩ | ⟨rfl, hq⟩
  · obtain rfl : q = fun j => g j + if j = c then 1 else 0 := funext hq
    exact recountC_more P g c w h0 h1 h hT hl hn
  · have h2 := hq c
    rw [if_pos rfl] at h2
    by_cases h3 : 1 < g c
    · exact recountC_less P g c w h0 h1 h hT (by omega) hn h3 q hq
    · exact recountC_gone P g c w h0 h1 h hT (by omega) q hq
theorem recS_any {v : Value} (P : List (Int × Int)) (L : List (Nat × Nat)) (q : Int → Nat) (s : Int) (f t : Nat) (w : World) (hf : f < 4294967296) (ht : t < 4294967296) (h : IsTree w v P) (hT : Tal P (nR L)) (hl : P.length < 1024) (hn : nR L (keyI (f, t)) ≤ 1000) (hs : Stp s (keyI (f, t)) (nR L) q) : Calls Try.prog 49 #[v, .agg #[.int .u32 f, .int .u32 t], .int .i64 s] w (RecOut w q) := by
  rcases hs with ⟨rfl, hq⟩ | ⟨rfl, hq⟩
  · obtain rfl : q = fun j => nR L j + if j = keyI (f, t) then 1 else 0 := funext hq
    exact recountS_more P L f t w hf ht h hT hl hn
  · have h2 := hq (keyI (f, t))
    rw [if_pos rfl] at h2
    by_cases h3 : 1 < nR L (keyI (f, t))
    · exact recountS_less P L f t w hf ht h hT (by omega) hn h3 q hq
    · exact recountS_gone P L f t w hf ht h hT (by omega) q hq

/-- A slice that reads as these boundaries. -/
def IsC (w : World) (v : Value) (C : List Int) : Prop := ∃ A c, v = .slice A C.length c ∧ (0 < C.length → ∃ g, A = some ⟨g, 0, none⟩ ∧ g < w.heap.size ∧ ∀ k (hk : k < C.length), w.cell? ⟨g, k, none⟩ = some (.int .u32 C[k]))
def ucells (C : List Int) : List Value := C.map fun c => .int .u32 c
theorem isC_of_row {w : World} {base : Nat} {v : Value} {C : List Int} (h : w.ownsRow base 99 1 v C.length (ucells C)) : IsC w v C := by
  rcases h.2 with ⟨rfl, h0⟩ | ⟨g, cap, cur, rfl, hb, hg, hnc, hm, _⟩
  · obtain rfl := List.eq_nil_of_length_eq_zero h0
    exact ⟨none, 0, rfl, fun h => absurd h (by simp)⟩
  · refine ⟨_, cap, rfl, fun _ => ⟨g, rfl, (Array.getElem?_eq_some_iff.1 hg).1, fun k hk => ?_⟩⟩
    rw [World.ownsRow.cellAt h k (by omega)]
    simp [ucells, hk]
theorem info99 : (Try.prog.info? 99).map (fun i => (i.zero, i.size, i.bytes)) = some (some (.int .u32 0), 1, 4) := by kernel_rfl
set_option maxRecDepth 100000 in
set_option maxHeartbeats 1000000 in
theorem cutsOf_any (f t : Nat) (w : World) (hf : f < 4294967296) (ht : t < 4294967296) : Calls Try.prog 47 #[.agg #[.int .u32 f, .int .u32 t]] w fun e w' => ∃ v, e = .returned v ∧ IsC w' v (cutsR (f, t)) ∧ Below w.heap.size w w' := by
  obtain ⟨i0, hi, hz0, hz1, hz2⟩ := info_parts info99
  have A0 := At.new w #[.int .u32 f, .int .u32 t] 32
  have b0 : Below w.heap.size w (w.alloc (.cells #[.int .u32 f, .int .u32 t] 32)) := (Below.refl _ w).alloc (Nat.le_refl _) _
  by_cases h1 : 0 < f
  · by_cases h2 : t < 4294967295
    · have e : cutsR (f, t) = [(f : Int), (t : Int) + 1] := by simp [cutsR, h1, h2]
      rw [e]
      have d2 : decide ((t : Int) < 4294967295) = true := by simp; omega
      have d3 : decide (t < 4294967295) = true := by simp; omega
      have j1 : IntKind.u32.wrap ((t : Int) + 1) = (t : Int) + 1 := IntWalk.u32_in _ (by omega)
      clear e h2
      go_enter Try.func47, Try.ntmps47
      go_wp2_with (first | (at_builtin; refine wpList_append_own _ rfl _ _ 97 rfl (w.heap.size + 1) 99 i0 (.int .u32 0) 1 4 Try.underlying97 hi hz0 hz1 hz2 rfl (by decide) _ 1 [.int .u32 f] rfl (own1.alloc _) ⟨w1.heap.size, 0, none⟩ 1 1 [.int .u32 ((t : Int) + 1)] rfl rfl (cell_one_new w1 _ _) (by simp [Value.oneCell']) (by simp [maxLen]) (by simp) (by simp; omega) ?_; intro v2 w2 own2 grow2 _) | (at_builtin; refine wpList_append_own _ rfl _ _ 97 rfl (w.heap.size + 1) 99 i0 (.int .u32 0) 1 4 Try.underlying97 hi hz0 hz1 hz2 rfl (by decide) _ 0 [] rfl (World.ownsRow_nil _ _ _ _) ⟨w.heap.size + 1, 0, none⟩ 1 1 [.int .u32 f] rfl rfl (by simpa using cell_one_new (w.alloc (.cells #[.int .u32 f, .int .u32 t] 32)) (.int .u32 f) 99) (by simp [Value.oneCell']) (by simp [maxLen]) (by simp) (by simp) ?_; intro v1 w1 own1 grow1 _; have b1 : Below (w.heap.size + 1) (w.alloc (.cells #[.int .u32 f, .int .u32 t] 32)) w1 := ((Below.refl (w.heap.size + 1) (w.alloc (.cells #[.int .u32 f, .int .u32 t] 32))).alloc (by simp) _).grown grow1 (by simp) (fun k hk => by cases hk); obtain ⟨g1, cap1, rfl⟩ := ownsRow_succ own1; have A1 := A0.below b1 (by omega); have c1 := (A1.cell 1).trans rfl; have hs1 := b1.size; simp only [World.size_alloc] at hs1))
      go_ret
      have b2 : Below w.heap.size w w2 := (b0.trans (b1.mono (by omega))).trans (((Below.refl w.heap.size w1).alloc (by omega) _).grown grow2 (by simp; omega) (fun k hk => by have := (own1.lt k hk).1; omega))
      exact ⟨_, rfl, isC_of_row (base := w.heap.size + 1) (C := [(f : Int), (t : Int) + 1]) (by simpa [ucells] using own2), b2⟩
    · have e : cutsR (f, t) = [(f : Int)] := by simp [cutsR, h1, h2]
      rw [e]
      have d2 : decide ((t : Int) < 4294967295) = false := by simp; omega
      have d3 : decide (t < 4294967295) = false := by simp; omega
      clear e h2
      go_enter Try.func47, Try.ntmps47
      go_wp2_with (at_builtin; refine wpList_append_own _ rfl _ _ 97 rfl (w.heap.size + 1) 99 i0 (.int .u32 0) 1 4 Try.underlying97 hi hz0 hz1 hz2 rfl (by decide) _ 0 [] rfl (World.ownsRow_nil _ _ _ _) ⟨w.heap.size + 1, 0, none⟩ 1 1 [.int .u32 f] rfl rfl (by simpa using cell_one_new (w.alloc (.cells #[.int .u32 f, .int .u32 t] 32)) (.int .u32 f) 99) (by simp [Value.oneCell']) (by simp [maxLen]) (by simp) (by simp) ?_; intro v1 w1 own1 grow1 _; have b1 : Below (w.heap.size + 1) (w.alloc (.cells #[.int .u32 f, .int .u32 t] 32)) w1 := ((Below.refl (w.heap.size + 1) (w.alloc (.cells #[.int .u32 f, .int .u32 t] 32))).alloc (by simp) _).grown grow1 (by simp) (fun k hk => by cases hk); obtain ⟨g1, cap1, rfl⟩ := ownsRow_succ own1; have A1 := A0.below b1 (by omega); have c1 := (A1.cell 1).trans rfl; have hs1 := b1.size; simp only [World.size_alloc] at hs1)
      go_ret
      exact ⟨_, rfl, isC_of_row (base := w.heap.size + 1) (C := [(f : Int)]) (by simpa [ucells] using own1), b0.trans (b1.mono (by omega))⟩
  · obtain rfl : f = 0 := by omega
    by_cases h2 : t < 4294967295
    · have e : cutsR (0, t) = [(t : Int) + 1] := by simp [cutsR, h2]
      rw [e]
      have d2 : decide ((t : Int) < 4294967295) = true := by simp; omega
      have d3 : decide (t < 4294967295) = true := by simp; omega
      have j1 : IntKind.u32.wrap ((t : Int) + 1) = (t : Int) + 1 := IntWalk.u32_in _ (by omega)
      clear e h2 h1 hf
      go_enter Try.func47, Try.ntmps47
      go_wp2_with (at_builtin; refine wpList_append_own _ rfl _ _ 97 rfl (w.heap.size + 1) 99 i0 (.int .u32 0) 1 4 Try.underlying97 hi hz0 hz1 hz2 rfl (by decide) _ 0 [] rfl (World.ownsRow_nil _ _ _ _) ⟨w.heap.size + 1, 0, none⟩ 1 1 [.int .u32 ((t : Int) + 1)] rfl rfl (by simpa using cell_one_new (w.alloc (.cells #[.int .u32 (0 : Nat), .int .u32 t] 32)) (.int .u32 ((t : Int) + 1)) 99) (by simp [Value.oneCell']) (by simp [maxLen]) (by simp) (by simp) ?_; intro v1 w1 own1 grow1 _; have b1 : Below (w.heap.size + 1) (w.alloc (.cells #[.int .u32 (0 : Nat), .int .u32 t] 32)) w1 := ((Below.refl (w.heap.size + 1) (w.alloc (.cells #[.int .u32 (0 : Nat), .int .u32 t] 32))).alloc (by simp) _).grown grow1 (by simp) (fun k hk => by cases hk); obtain ⟨g1, cap1, rfl⟩ := ownsRow_succ own1; have A1 := A0.below b1 (by omega); have c1 := (A1.cell 1).trans rfl; have hs1 := b1.size; simp only [World.size_alloc] at hs1)
      go_ret
      exact ⟨_, rfl, isC_of_row (base := w.heap.size + 1) (C := [(t : Int) + 1]) (by simpa [ucells] using own1), b0.trans (b1.mono (by omega))⟩
    · have e : cutsR (0, t) = [] := by simp [cutsR, h2]
      rw [e]
      have d2 : decide ((t : Int) < 4294967295) = false := by simp; omega
      have d3 : decide (t < 4294967295) = false := by simp; omega
      clear e h2 h1 hf
      go_enter Try.func47, Try.ntmps47
      go_wp2
      go_ret
      exact ⟨_, rfl, ⟨none, 0, rfl, fun h => absurd h (by simp)⟩, b0⟩

/-- A table with these ranges. -/
def IsTab (w : World) (v : Value) (L : List (Nat × Nat)) : Prop := RL L ∧ ∃ (B : Nat) (vr vc : Value) (R C : List (Int × Int)), v = .pointer (some ⟨B, 0, none⟩) ∧ At w B #[vr, vc, .int .i64 (L.length : Int)] 59 ∧ IsTree w vr R ∧ IsTree w vc C ∧ Tal R (nR L) ∧ Tal C (nC L)
/-- A table with these ranges: nil has none. -/
def IsTab0 (w : World) (v : Value) (L : List (Nat × Nat)) : Prop := (v = .pointer none ∧ L = []) ∨ IsTab w v L
theorem IsTab.belows {w w' : World} {v : Value} {L : List (Nat × Nat)} (h : IsTab w v L) (hb : Below w.heap.size w w') : IsTab w' v L := by
  obtain ⟨h1, B, vr, vc, R, C, e, ha, hr, hc, tr, tc⟩ := h
  exact ⟨h1, B, vr, vc, R, C, e, ha.belows hb, hr.belows hb, hc.belows hb, tr, tc⟩
theorem IsTab0.belows {w w' : World} {v : Value} {L : List (Nat × Nat)} (h : IsTab0 w v L) (hb : Below w.heap.size w w') : IsTab0 w' v L := h.imp id fun h => h.belows hb
theorem IsTab.perm {w : World} {v : Value} {L M : List (Nat × Nat)} (h : IsTab w v L) (hp : L.Perm M) : IsTab w v M := by
  obtain ⟨h1, B, vr, vc, R, C, e, ha, hr, hc, tr, tc⟩ := h
  exact ⟨h1.perm hp, B, vr, vc, R, C, e, by rw [← hp.length_eq]; exact ha, hr, hc, by rw [← nR_perm hp]; exact tr, by rw [← nC_perm hp]; exact tc⟩
theorem IsTab.any {w : World} {v : Value} {L : List (Nat × Nat)} (h : IsTab w v L) : IsTab0 w v L := .inr h
theorem IsTab.ptr {w : World} {v : Value} {L : List (Nat × Nat)} (h : IsTab w v L) : ∃ B, v = .pointer (some ⟨B, 0, none⟩) := by
  obtain ⟨h1, B, vr, vc, R, C, e, _⟩ := h
  exact ⟨B, e⟩
theorem IsTab0.ptr {w : World} {v : Value} {L : List (Nat × Nat)} (h : IsTab0 w v L) : ∃ p, v = .pointer p := by
  rcases h with ⟨rfl, _⟩ | h
  · exact ⟨_, rfl⟩
  · obtain ⟨B, rfl⟩ := h.ptr; exact ⟨_, rfl⟩
theorem IsTab0.rl {w : World} {v : Value} {L : List (Nat × Nat)} (h : IsTab0 w v L) : RL L := by
  rcases h with ⟨_, rfl⟩ | h
  · exact RL.nil
  · exact h.1
theorem tab_new (W : World) {vr vc : Value} {R C : List (Int × Int)} {L : List (Nat × Nat)} {n : Int} (hL : RL L) (hn : n = (L.length : Int)) (hr : IsTree W vr R) (hc : IsTree W vc C) (tr : Tal R (nR L)) (tc : Tal C (nC L)) : IsTab (W.alloc (.cells #[vr, vc, .int .i64 n] 59)) (.pointer (some ⟨W.heap.size, 0, none⟩)) L := by
  subst hn
  have b : Below W.heap.size W (W.alloc (.cells #[vr, vc, .int .i64 (L.length : Int)] 59)) := (Below.refl _ W).alloc (Nat.le_refl _) _
  exact ⟨hL, W.heap.size, vr, vc, R, C, rfl, At.new W _ _, hr.belows b, hc.belows b, tr, tc⟩
theorem new_any (w : World) : Calls Try.prog 9 #[] w fun e w' => ∃ v, e = .returned v ∧ IsTab w' v [] ∧ Below w.heap.size w w' := by
  go_enter Try.func9, Try.ntmps9
  go_wp2
  go_ret
  exact ⟨_, rfl, tab_new w RL.nil rfl (.inl ⟨rfl, rfl⟩) (.inl ⟨rfl, rfl⟩) Tal.nil Tal.nil, (Below.refl _ w).alloc (Nat.le_refl _) _⟩
theorem some_any {v : Value} (L : List (Nat × Nat)) (w : World) (h : IsTab0 w v L) : Calls Try.prog 29 #[v] w fun e w' => ∃ v', e = .returned v' ∧ IsTab w' v' L ∧ Below w.heap.size w w' := by
  rcases h with ⟨rfl, rfl⟩ | h
  · go_enter Try.func29, Try.ntmps29
    go_wp2_with (go_at_call 9; refine (new_any _).mono ?_; rintro e w1 ⟨v1, rfl, t1, b1⟩)
    go_ret
    exact ⟨_, rfl, t1, b1⟩
  · obtain ⟨B, rfl⟩ := h.ptr
    go_enter Try.func29, Try.ntmps29
    go_wp2
    go_ret
    exact ⟨_, rfl, h, Below.refl _ _⟩
/-- Of a table that is not nil. -/
theorem some_same {B : Nat} (w : World) : Calls Try.prog 29 #[.pointer (some ⟨B, 0, none⟩)] w fun e w' => e = .returned (.pointer (some ⟨B, 0, none⟩)) ∧ w = w' := by
  go_enter Try.func29, Try.ntmps29
  go_wp2
  go_ret
  exact ⟨rfl, rfl⟩
end Go.Proofs.Ytjljkpecpofbcaa
