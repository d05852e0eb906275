/- Contracts: slices.ContainsFunc at a predicate with a state; zone.Right, zone.Has. -/
import Derived.Test.YtonhmppobdbidaaR2
import Derived.Shelf.RegionOpen
namespace Go.Proofs.Ytonhmppobdbidaa
open Go.RowKit Go.Shelf

/-- What is asked of a predicate at each range of a list: its answer, and its state behind it. -/
def Steps (g : Nat) (lb : Array Value) (L : List (Nat × Nat)) (p : Nat → Bool) (I : Nat → World → Prop) (B : Nat) : Prop :=
  ∀ k (hk : k < L.length) W, I k W → Calls Try.prog g (#[.agg #[.int .u32 L[k].1, .int .u32 L[k].2]] ++ lb) W fun e W' => e = .returned (.bool (p k)) ∧ I (k + 1) W' ∧ Below B W W'

/-- What a search answers. -/
def Found (n : Nat) (p : Nat → Bool) (r : Int) : Prop := (r = -1 ∧ ∀ j, j < n → p j = false) ∨ ∃ k : Nat, k < n ∧ r = k ∧ p k = true
set_option maxRecDepth 100000 in
set_option maxHeartbeats 1000000 in
theorem indexFunc_any {v : Value} (g : Nat) (lb : Array Value) (eg : ∀ args w, (callFunc g args).run Try.prog w = .ok (.enter g args) w) (L : List (Nat × Nat)) (p : Nat → Bool) (I : Nat → World → Prop) (B : Nat) (w : World)
    (hs : Steps g lb L p I B) (h0 : I 0 w) (h : ∀ W, Below B w W → IsZ W v L) :
    Calls Try.prog 45 #[v, .func (.func g) #[] lb] w fun e w' => ∃ r : Int, e = .returned (.int .i64 r) ∧ Found L.length p r ∧ Below B w w' := by
  obtain ⟨A1, c1, rfl, n1, m1, z1⟩ := h w (Below.refl _ _)
  have hL : L.length ≤ 9223372036854775807 := Nat.le_trans n1 m1
  have H1 : Hid (∀ W, Below B w W → Zs W A1 L) := Lib.hid fun W hW => by
    obtain ⟨A, c, e, _, _, z⟩ := h W hW
    cases e
    exact z
  have HS := Lib.hid hs
  have H0 := Lib.hid h0
  clear z1 h hs h0
  go_enter Try.func45, Try.ntmps45
  go_wp2
  go_loopw [8] (fun i wr => ∃ k : Nat, i = .int .i64 k ∧ k ≤ L.length ∧ Hid (∀ j, j < k → p j = false) ∧ Hid (I k wr) ∧ Below B w wr) (fun i _ => L.length - (intOf i).toNat)
  case atStart => exact ⟨0, rfl, by omega, Lib.hid (fun j hj => by omega), H0, Below.refl _ _⟩
  case round =>
    obtain ⟨k, rfl, hk, HR, HI, hb⟩ := hrel
    by_cases hlt : k < L.length
    · obtain ⟨g1, o1, e1, _, r1⟩ := (H1.out wr hb) (by omega)
      subst e1
      obtain ⟨c10, c11⟩ := r1 k hlt
      have hcall := HS.out k hlt wr HI.out
      generalize L[k] = x at c10 c11 hcall
      clear r1
      have i0 : (0 : Int) ≤ (k : Int) := by omega
      have i1 : (k : Int) < (L.length : Int) := by omega
      cases hq : p k with
      | true =>
        rw [hq] at hcall
        go_wp2_with (go_at_fn g; refine hcall.mono ?_; rintro e w' ⟨rfl, hi', hb'⟩)
        go_ret
        exact ⟨_, rfl, .inr ⟨k, hlt, rfl, hq⟩, hb.trans hb'⟩
      | false =>
        rw [hq] at hcall
        go_wp2_with (go_at_fn g; refine hcall.mono ?_; rintro e w' ⟨rfl, hi', hb'⟩)
        go_roundw
        case rel =>
          refine ⟨k + 1, by go_num, by omega, Lib.hid (fun j hj => ?_), Lib.hid hi', hb.trans hb'⟩
          by_cases e : j = k
          · subst e; exact hq
          · exact HR.out j (by omega)
        case measure => simp [intOf]; omega
    · obtain rfl : k = L.length := by omega
      go_wp2
      go_ret
      exact ⟨_, rfl, .inl ⟨rfl, HR.out⟩, hb⟩

theorem containsFunc_any {v : Value} (g : Nat) (lb : Array Value) (eg : ∀ args w, (callFunc g args).run Try.prog w = .ok (.enter g args) w) (L : List (Nat × Nat)) (p : Nat → Bool) (I : Nat → World → Prop) (B : Nat) (w : World)
    (hs : Steps g lb L p I B) (h0 : I 0 w) (h : ∀ W, Below B w W → IsZ W v L) :
    Calls Try.prog 27 #[v, .func (.func g) #[] lb] w fun e w' => ∃ b : Bool, e = .returned (.bool b) ∧ (b = true ↔ ∃ k, k < L.length ∧ p k = true) ∧ Below B w w' := by
  have hi := indexFunc_any g lb eg L p I B w hs h0 h
  obtain ⟨A1, c1, rfl, n1, m1, z1⟩ := h w (Below.refl _ _)
  clear hs h0 h z1
  go_enter Try.func27, Try.ntmps27
  go_wp2_with (go_at_call 45; refine hi.mono ?_; rintro e w1 ⟨r, rfl, hr, b1⟩)
  go_ret
  refine ⟨_, rfl, ?_, b1⟩
  rw [decide_eq_true_eq]
  rcases hr with ⟨rfl, hn⟩ | ⟨k, hk, rfl, hp⟩
  · constructor
    · intro h; omega
    · rintro ⟨k, hk, hp⟩; rw [hn k hk] at hp; cases hp
  · exact ⟨fun _ => ⟨k, hk, hp⟩, fun _ => by omega⟩

/-- Whether a range is backward, or begins too early. -/
def wrongAt (L : List (Nat × Nat)) (k : Nat) : Bool := decide ((L[k]?.getD (0, 0)).2 < (L[k]?.getD (0, 0)).1) || decide ((L[k]?.getD (0, 0)).1 < least L k)

set_option maxRecDepth 100000 in
set_option maxHeartbeats 1000000 in
theorem right1_any (f t l C : Nat) (W : World) (hf : f < 4294967296) (ht : t < 4294967296) (hl : l < 18446744073709551616) (hA : At W C #[.int .u64 l] 35) :
    Calls Try.prog 38 #[.agg #[.int .u32 f, .int .u32 t], .pointer (some ⟨C, 0, none⟩)] W fun e W' => e = .returned (.bool (decide (t < f) || decide (f < l))) ∧ At W' C #[.int .u64 (t + 2 : Nat)] 35 ∧ Below C W W' := by
  have hC := hA.lt
  by_cases h1 : t < f
  · have d1 : decide (t < f) = true := by simpa using h1
    rw [d1, Bool.true_or]
    go_enter Try.func38, Try.ntmps38
    go_wp2_with (go_at_call 28; refine (backward_any f t _).mono ?_; rintro e w1 ⟨rfl, b1⟩; have A1 := (hA.alloc (.cells #[.int .u32 f, .int .u32 t] 33)).belows b1; have X1 := (At.new W #[.int .u32 f, .int .u32 t] 33).belows b1; have hx0 := (X1.cell 0).trans rfl; have hx1 := (X1.cell 1).trans rfl; have ha0 := (A1.cell 0).trans rfl; have hfz := A1.frozen 0; rw [d1])
    go_ret
    refine ⟨rfl, ?_, ?_⟩
    · have := A1.set0 0 (.int .u64 (t + 2 : Nat))
      simpa using this
    · exact ((((Below.refl C W).alloc (by omega) _).trans (b1.mono (by simp; omega)))).setCell (p := ⟨C, 0, none⟩) (Nat.le_refl _) _
  · have d1 : decide (t < f) = false := by simpa using h1
    rw [d1, Bool.false_or]
    go_enter Try.func38, Try.ntmps38
    go_wp2_with (go_at_call 28; refine (backward_any f t _).mono ?_; rintro e w1 ⟨rfl, b1⟩; have A1 := (hA.alloc (.cells #[.int .u32 f, .int .u32 t] 33)).belows b1; have X1 := (At.new W #[.int .u32 f, .int .u32 t] 33).belows b1; have hx0 := (X1.cell 0).trans rfl; have hx1 := (X1.cell 1).trans rfl; have ha0 := (A1.cell 0).trans rfl; have hfz := A1.frozen 0; rw [d1])
    go_ret
    refine ⟨rfl, ?_, ?_⟩
    · have := A1.set0 0 (.int .u64 (t + 2 : Nat))
      simpa using this
    · exact ((((Below.refl C W).alloc (by omega) _).trans (b1.mono (by simp; omega)))).setCell (p := ⟨C, 0, none⟩) (Nat.le_refl _) _

theorem least_lt {L : List (Nat × Nat)} (hu : U32 L) (k : Nat) : least L k < 18446744073709551616 := by
  cases k with
  | zero => simp [least]
  | succ k =>
    simp only [least]
    by_cases h : k < L.length
    · have := hu.at k h; simp [h]; omega
    · simp [h]
/-- zone.Right. -/
theorem right_any {v : Value} (L : List (Nat × Nat)) (w : World) (hu : U32 L) (h : IsZ w v L) : Calls Try.prog 12 #[v] w fun e w' => e = .returned (.bool (rzB 0 L)) ∧ Below w.heap.size w w' := by
  have hsteps : Steps 38 #[.pointer (some ⟨w.heap.size, 0, none⟩)] L (wrongAt L) (fun k W => At W w.heap.size #[.int .u64 (least L k : Nat)] 35) w.heap.size := by
    intro k hk W hI
    have e1 : wrongAt L k = (decide (L[k].2 < L[k].1) || decide (L[k].1 < least L k)) := by simp [wrongAt, hk]
    have e2 : least L (k + 1) = L[k].2 + 2 := by simp [least, hk]
    rw [e1]
    show Calls Try.prog 38 _ W fun e W' => _ ∧ At W' w.heap.size #[.int .u64 (least L (k + 1) : Nat)] 35 ∧ _
    rw [e2]
    obtain ⟨b1, b2⟩ := hu.at k hk
    exact right1_any _ _ _ _ W b1 b2 (least_lt hu k) hI
  have hZ : ∀ W, Below w.heap.size (w.alloc (.cells #[.int .u64 0] 35)) W → IsZ W v L := fun W hW => h.belows (((Below.refl _ w).alloc (Nat.le_refl _) _).trans hW)
  have hc := containsFunc_any 38 #[.pointer (some ⟨w.heap.size, 0, none⟩)] (enters_of Try.func38 (by kernel_rfl) rfl) L (wrongAt L) _ w.heap.size (w.alloc (.cells #[.int .u64 0] 35)) hsteps (At.new _ _ _) hZ
  have hfin : ∀ b : Bool, (b = true ↔ ∃ k, k < L.length ∧ wrongAt L k = true) → (!b) = rzB 0 L := by
    intro b hb
    have : b = true ↔ rzB 0 L = false := by
      rw [hb, ← rz_any]
      constructor
      · rintro ⟨k, hk, hp⟩; exact ⟨k, hk, by simpa [wrongAt, hk] using hp⟩
      · rintro ⟨k, hk, hp⟩; exact ⟨k, hk, by simpa [wrongAt, hk] using hp⟩
    cases b <;> cases hq : rzB 0 L <;> simp_all
  obtain ⟨A1, c1, rfl, n1, m1, z1⟩ := h
  clear hsteps hZ z1
  go_enter Try.func12, Try.ntmps12
  go_wp2_with (go_at_call 27; refine hc.mono ?_; rintro e w1 ⟨b, rfl, hb, b1⟩)
  go_ret
  refine ⟨by first | rfl | exact ret_bool (hfin b hb), ?_⟩
  exact (((Below.refl _ w).alloc (Nat.le_refl _) _).trans b1)

/-- zone.Has's closure. -/
theorem has1_any (f t a : Nat) (w : World) : Calls Try.prog 40 #[.agg #[.int .u32 f, .int .u32 t], .int .u32 a] w fun e w' => e = .returned (.int .i64 (cmpN t a)) ∧ Below w.heap.size w w' := by
  have hc := fun u : World => compare_any t a u
  generalize cmpN t a = c at hc ⊢
  go_enter Try.func40, Try.ntmps40
  go_wp2_with (go_at_call 32; refine (hc _).mono ?_; rintro e w1 ⟨rfl, rfl⟩)
  go_ret
  exact ⟨rfl, (Below.refl _ w).alloc (Nat.le_refl _) _⟩

/-- What lies on either side of a search by halves. -/
def BS (L : List (Nat × Nat)) (a i j : Nat) : Prop := (∀ t (ht : t < L.length), t < i → L[t].2 < a) ∧ (∀ t (ht : t < L.length), j ≤ t → a ≤ L[t].2)
theorem BS.up {L : List (Nat × Nat)} {a i j h : Nat} (hz : RZ 0 L) (hb : BS L a i j) (hh : h < L.length) (hlt : L[h].2 < a) : BS L a (h + 1) j :=
  ⟨fun t ht h1 => by
    by_cases e : t = h
    · subst e; exact hlt
    · have := hz.rise t h ht hh (by omega); have := hz.each h hh; omega, hb.2⟩
theorem BS.down {L : List (Nat × Nat)} {a i j h : Nat} (hz : RZ 0 L) (hb : BS L a i j) (hh : h < L.length) (hlt : ¬ L[h].2 < a) : BS L a i h :=
  ⟨hb.1, fun t ht h1 => by
    by_cases e : t = h
    · subst e; omega
    · have := hz.rise h t hh ht (by omega); have := hz.each t ht; omega⟩

set_option maxRecDepth 100000 in
set_option maxHeartbeats 1000000 in
/-- slices.BinarySearchFunc, as zone.Has calls it. -/
theorem search_any {v : Value} (L : List (Nat × Nat)) (a : Nat) (w : World) (hz : RZ 0 L) (hlen : L.length ≤ 2147483648) (h : IsZ w v L) :
    Calls Try.prog 39 #[v, .int .u32 a, .func (.func 40) #[] #[]] w fun e w' => ∃ (i : Nat) (b : Bool), e = .returned (.tuple #[.int .i64 i, .bool b]) ∧ i ≤ L.length ∧ BS L a i i ∧ Below w.heap.size w w' := by
  obtain ⟨A1, c1, rfl, n1, m1, z1⟩ := h
  have H1 := Lib.hid z1
  have HZ := Lib.hid hz
  clear z1 hz
  go_enter Try.func39, Try.ntmps39
  go_wp2
  go_loopw [9, 10] (fun s t wr => ∃ i j : Nat, s = .int .i64 i ∧ t = .int .i64 j ∧ i ≤ j ∧ j ≤ L.length ∧ Hid (BS L a i j) ∧ Below w.heap.size w wr) (fun s t _ => (intOf t).toNat - (intOf s).toNat)
  case atStart => exact ⟨0, L.length, rfl, rfl, by omega, by omega, Lib.hid ⟨fun t ht h => by omega, fun t ht h => by omega⟩, Below.refl _ _⟩
  case round =>
    obtain ⟨i, j, rfl, rfl, hij, hj, HB, hb⟩ := hrel
    by_cases hlt : i < j
    · obtain ⟨m, hm⟩ : ∃ m, m = (i + j) / 2 := ⟨_, rfl⟩
      have hm1 : i ≤ m := by omega
      have hm2 : m < j := by omega
      obtain ⟨g1, o1, e1, _, r1⟩ := (H1.out.belows hb) (by omega)
      subst e1
      obtain ⟨c10, c11⟩ := r1 m (by omega)
      have hml : m < L.length := by omega
      have hup := BS.up (h := m) HZ.out HB.out hml
      have hdn := BS.down (h := m) HZ.out HB.out hml
      generalize L[m]'hml = x at c10 c11 hup hdn
      clear r1
      have k1 : ((i : Int) + (j : Int)).fdiv (2 ^ min (Int.toNat 1) IntKind.u64.bits) = ((i : Int) + (j : Int)) / 2 := by
        show ((i : Int) + (j : Int)).fdiv 2 = _
        rw [Int.fdiv_eq_ediv_of_nonneg _ (by omega)]
      have i0 : (0 : Int) ≤ ((i : Int) + (j : Int)) / 2 := by omega
      have i1 : ((i : Int) + (j : Int)) / 2 < (L.length : Int) := by omega
      subst hm
      have hcall := fun u : World => has1_any x.1 x.2 a u
      by_cases hx : x.2 < a
      · have HU := Lib.hid (hup hx)
        have hcm : cmpN x.2 a = -1 := by simp [cmpN, hx]
        rw [hcm] at hcall
        clear hup hdn hcm
        go_wp2_with (go_at_call 40; refine (hcall _).mono ?_; rintro e w1 ⟨rfl, b1⟩)
        go_roundw
        case rel => exact ⟨(i + j) / 2 + 1, j, by go_num, rfl, by omega, hj, HU, hb.trans (b1.mono hb.size)⟩
        case measure => simp [intOf]; omega
      · have HU := Lib.hid (hdn hx)
        have hcm : ¬ cmpN x.2 a < 0 := by unfold cmpN; rw [if_neg hx]; split <;> omega
        generalize cmpN x.2 a = cc at hcall hcm
        clear hup hdn
        go_wp2_with (go_at_call 40; refine (hcall _).mono ?_; rintro e w1 ⟨rfl, b1⟩)
        go_roundw
        case rel => exact ⟨i, (i + j) / 2, rfl, by go_num, by omega, by omega, HU, hb.trans (b1.mono hb.size)⟩
        case measure => simp [intOf]; omega
    · obtain rfl : i = j := by omega
      by_cases hL : i < L.length
      · obtain ⟨g1, o1, e1, _, r1⟩ := (H1.out.belows hb) (by omega)
        subst e1
        obtain ⟨c10, c11⟩ := r1 i hL
        generalize L[i] = x at c10 c11
        clear r1
        have i0 : (0 : Int) ≤ (i : Int) := by omega
        have i1 : (i : Int) < (L.length : Int) := by omega
        have hcall := fun u : World => has1_any x.1 x.2 a u
        generalize cmpN x.2 a = cc at hcall
        go_wp2_with (go_at_call 40; refine (hcall _).mono ?_; rintro e w1 ⟨rfl, b1⟩)
        go_ret2
        exact ⟨i, _, rfl, hj, HB.out, hb.trans (b1.mono hb.size)⟩
      · go_wp2
        go_ret2
        exact ⟨i, _, rfl, hj, HB.out, hb⟩

/-- zone.Has, of a right zone. -/
theorem has_any {v : Value} (L : List (Nat × Nat)) (a : Nat) (w : World) (hz : RZ 0 L) (hu : Under 4294967296 L) (h : IsZ w v L) : Calls Try.prog 16 #[v, .int .u32 a] w fun e w' => e = .returned (.bool (has L a)) ∧ Below w.heap.size w w' := by
  have hlen := zone_len32 hz hu
  have hs := search_any L a w hz hlen h
  obtain ⟨A1, c1, rfl, n1, m1, z1⟩ := h
  have hfin := fun i hi hb => has_search (a := a) (i := i) hz hi (And.left hb) (And.right hb)
  have HF : Hid (∀ i, i ≤ L.length → BS L a i i → has L a = if h : i < L.length then decide (L[i].1 ≤ a) else false) := Lib.hid hfin
  have H1 := Lib.hid z1
  clear z1 hz hu hfin
  go_enter Try.func16, Try.ntmps16
  go_wp2_with fail
  refine hs.mono ?_
  rintro e w1 ⟨i, b, rfl, hi, hB, b1⟩
  have hF := HF.out i hi hB
  by_cases hlt : i < L.length
  · rw [dif_pos hlt] at hF
    obtain ⟨g1, o1, e1, _, r1⟩ := (H1.out.belows b1) (by omega)
    subst e1
    obtain ⟨c10, c11⟩ := r1 i hlt
    generalize L[i] = x at c10 c11 hF
    clear r1
    have i0 : (0 : Int) ≤ (i : Int) := by omega
    have i1 : (i : Int) < (L.length : Int) := by omega
    have HFF := Lib.hid hF
    clear hF
    by_cases hx : x.1 ≤ a
    · go_wp2
      go_ret
      exact ⟨ret_bool (by rw [HFF.out]; symm; simpa using hx), b1⟩
    · go_wp2
      go_ret
      exact ⟨ret_bool (by rw [HFF.out]; symm; simpa using hx), b1⟩
  · rw [dif_neg hlt] at hF
    have HFF := Lib.hid hF
    clear hF
    go_wp2
    go_ret
    exact ⟨ret_bool HFF.out.symm, b1⟩
end Go.Proofs.Ytonhmppobdbidaa
