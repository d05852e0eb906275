/- Contracts: slices.IndexFunc, ContainsFunc at a predicate with a state; the program's Fits. -/
import Derived.Test.YtpdadcjmpjnnhaaN1
namespace Go.Proofs.Ytpdadcjmpjnnhaa
open Go.RowKit Go.Shelf

/-- What is asked of a predicate at each rule of a list: its answer, and its state behind it. -/
def Steps (g : Nat) (lb : Array Value) (L : List Ru) (p : Nat → Bool) (I : Nat → World → Prop) (B : Nat) : Prop :=
  ∀ k (hk : k < L.length) W, I k W → Calls Try.prog g (#[.agg (ruA L[k])] ++ lb) W fun e W' => e = .returned (.bool (p k)) ∧ I (k + 1) W' ∧ Below B W W'
/-- What a search answers. -/
def Found (n : Nat) (p : Nat → Bool) (r : Int) : Prop := (r = -1 ∧ ∀ j, j < n → p j = false) ∨ ∃ k : Nat, k < n ∧ r = k ∧ p k = true
set_option maxRecDepth 100000 in
set_option maxHeartbeats 1000000 in
theorem indexFunc_any {v : Value} (g : Nat) (lb : Array Value) (eg : ∀ args w, (callFunc g args).run Try.prog w = .ok (.enter g args) w) (L : List Ru) (p : Nat → Bool) (I : Nat → World → Prop) (B : Nat) (w : World)
    (hs : Steps g lb L p I B) (h0 : I 0 w) (h : ∀ W, Below B w W → IsR W v L) :
    Calls Try.prog 36 #[v, .func (.func g) #[] lb] w fun e w' => ∃ r : Int, e = .returned (.int .i64 r) ∧ Found L.length p r ∧ Below B w w' := by
  obtain ⟨A1, c1, rfl, n1, m1, z1⟩ := h w (Below.refl _ _)
  have hL : L.length ≤ 9223372036854775807 := Nat.le_trans n1 m1
  have H1 : Hid (∀ W, Below B w W → Rs W A1 L) := Lib.hid fun W hW => by
    obtain ⟨A, c, e, _, _, z⟩ := h W hW
    cases e
    exact z
  have HS := Lib.hid hs
  have H0 := Lib.hid h0
  clear z1 h hs h0
  go_enter Try.func36, Try.ntmps36
  go_wp2
  go_loopw [8] (fun i wr => ∃ k : Nat, i = .int .i64 k ∧ k ≤ L.length ∧ Hid (∀ j, j < k → p j = false) ∧ Hid (I k wr) ∧ Below B w wr) (fun i _ => L.length - (intOf i).toNat)
  case atStart => exact ⟨0, rfl, by omega, Lib.hid (fun j hj => by omega), H0, Below.refl _ _⟩
  case round =>
    obtain ⟨k, rfl, hk, HR, HI, hb⟩ := hrel
    by_cases hlt : k < L.length
    · obtain ⟨g1, o1, e1, _, r0, r1, r2, r3, r4, r5, r6⟩ := (H1.out wr hb).at k hlt
      subst e1
      have hcall := HS.out k hlt wr HI.out
      generalize L[k] = x at r0 r1 r2 r3 r4 r5 r6 hcall
      obtain ⟨id, dv, pr, kd, f, t, pt⟩ := x
      dsimp only at r0 r1 r2 r3 r4 r5 r6
      rw [ruA_mk] at hcall
      have i0 : (0 : Int) ≤ (k : Int) := by omega
      have i1 : (k : Int) < (L.length : Int) := by omega
      cases hq : p k with
      | true =>
        rw [hq] at hcall
        go_wp2_with (go_at_fn g; refine hcall.mono ?_; rintro e w' ⟨rfl, hi', hb'⟩)
        go_ret
        exact ⟨_, rfl, .inr ⟨k, hlt, rfl, hq⟩, hb.trans hb'⟩
      | false =>
        rw [hq] at hcall
        go_wp2_with (go_at_fn g; refine hcall.mono ?_; rintro e w' ⟨rfl, hi', hb'⟩)
        go_roundw
        case rel =>
          refine ⟨k + 1, by go_num, by omega, Lib.hid (fun j hj => ?_), Lib.hid hi', hb.trans hb'⟩
          by_cases e : j = k
          · subst e; exact hq
          · exact HR.out j (by omega)
        case measure => simp [intOf]; omega
    · obtain rfl : k = L.length := by omega
      go_wp2
      go_ret
      exact ⟨_, rfl, .inl ⟨rfl, HR.out⟩, hb⟩

theorem containsFunc_any {v : Value} (g : Nat) (lb : Array Value) (eg : ∀ args w, (callFunc g args).run Try.prog w = .ok (.enter g args) w) (L : List Ru) (p : Nat → Bool) (I : Nat → World → Prop) (B : Nat) (w : World)
    (hs : Steps g lb L p I B) (h0 : I 0 w) (h : ∀ W, Below B w W → IsR W v L) :
    Calls Try.prog 33 #[v, .func (.func g) #[] lb] w fun e w' => ∃ b : Bool, e = .returned (.bool b) ∧ (b = true ↔ ∃ k, k < L.length ∧ p k = true) ∧ Below B w w' := by
  have hi := indexFunc_any g lb eg L p I B w hs h0 h
  obtain ⟨A1, c1, rfl, n1, m1, z1⟩ := h w (Below.refl _ _)
  clear hs h0 h z1
  go_enter Try.func33, Try.ntmps33
  go_wp2_with (go_at_call 36; refine hi.mono ?_; rintro e w1 ⟨r, rfl, hr, b1⟩)
  go_ret
  refine ⟨_, rfl, ?_, b1⟩
  rw [decide_eq_true_eq]
  rcases hr with ⟨rfl, hn⟩ | ⟨k, hk, rfl, hp⟩
  · constructor
    · intro h; omega
    · rintro ⟨k, hk, hp⟩; rw [hn k hk] at hp; cases hp
  · exact ⟨fun _ => ⟨k, hk, hp⟩, fun _ => by omega⟩
/-- Does one rule fit, as the program asks? -/
def fitsR (ps : List Int) (r : Ru) : Bool := if r.kd = 0 then hasT ps ⟨r.dv, r.pt⟩ else devT ps r.dv
theorem fitsR_right {ps : List Int} {ls : List Lk} (hR : RT ps ls) {r : Ru} (hr : ruB r = true) : fitsR ps r = hasT ps ⟨r.dv, r.pt⟩ := by
  unfold fitsR
  by_cases h : r.kd = 0
  · rw [if_pos h]
  · rw [if_neg h]
    obtain ⟨_, _, _, _, _, _, _, _, h9⟩ := (ruB_iff r).1 hr
    have h0 := h9.resolve_left h
    unfold devT hasT
    by_cases h1 : 0 ≤ r.dv
    · by_cases h2 : r.dv < (ps.length : Int)
      · have hp := hR.ports (ps[r.dv.toNat]'(by omega)) (List.getElem_mem _)
        rw [h0]
        dsimp only
        rw [List.getElem?_eq_getElem (by omega)]
        simp [h1, h2]
        omega
      · simp [h2]
    · simp [h1]
theorem allB_right {L : List Ru} (h : allB L = true) : ∀ r ∈ L, ruB r = true := by
  intro r hr
  obtain ⟨k, hk, rfl⟩ := List.getElem_of_mem hr
  exact (((allB_iff L).1 h).2 k hk).1
theorem enters_fits : ∀ args w, (callFunc 34 args).run Try.prog w = .ok (.enter 34 args) w := enters_of Try.func34 (by kernel_rfl) rfl
set_option maxRecDepth 100000 in
set_option maxHeartbeats 1000000 in
/-- The predicate. -/
theorem fitsBody_any {vp vl : Value} (ps : List Int) (ls : List Lk) (r : Ru) (B : Nat) (W : World) (hB : At W B #[vp, vl] 25) (h : IsT W vp vl ps ls) :
    Calls Try.prog 34 #[.agg (ruA r), .pointer (some ⟨B, 0, none⟩)] W fun e W' => e = .returned (.bool (!fitsR ps r)) ∧ Below W.heap.size W W' := by
  obtain ⟨id, dv, pr, kd, f, t, pt⟩ := r
  rw [ruA_mk]
  have b0 : Below W.heap.size W (W.alloc (.cells #[.int .i64 id, .int .i64 dv, .int .i64 pr, .int .i64 kd, .int .u32 f, .int .u32 t, .int .i64 pt] 61)) := (Below.refl _ _).alloc (Nat.le_refl _) _
  have hh := h.belows b0
  have k1 := has_any ps ls ⟨dv, pt⟩ _ hh
  have k2 := hasDevice_any ps ls dv _ hh
  have D1 := hB.belows b0
  have R1 := At.new W #[.int .i64 id, .int .i64 dv, .int .i64 pr, .int .i64 kd, .int .u32 f, .int .u32 t, .int .i64 pt] 61
  obtain ⟨V, hV⟩ : ∃ V, V = fitsR ps ⟨id, dv, pr, kd, f, t, pt⟩ := ⟨_, rfl⟩
  rw [← hV]
  unfold fitsR at hV
  dsimp only at hV
  unfold ptA at k1
  dsimp only at k1
  obtain ⟨⟨A1, c1, rfl, _⟩, ⟨A2, c2, rfl, _⟩⟩ := h
  clear hh
  go_enter Try.func34, Try.ntmps34
  go_upto_region 1 with (fail)
  obtain ⟨w1, hw1⟩ : ∃ w1, w1 = W.alloc (.cells #[.int .i64 id, .int .i64 dv, .int .i64 pr, .int .i64 kd, .int .u32 f, .int .u32 t, .int .i64 pt] 61) := ⟨_, rfl⟩
  rw [← hw1] at b0 k1 k2 D1 R1 ⊢
  clear hw1
  have x0 := (D1.cell 0).trans rfl
  have x1 := (D1.cell 1).trans rfl
  have y1 := (R1.cell 1).trans rfl
  have y3 := (R1.cell 3).trans rfl
  have y5 := (R1.cell 6).trans rfl
  by_cases h0 : kd = 0
  · rw [if_pos h0] at hV
    have HV := Lib.hid hV
    subst h0
    clear hV k2
    go_wp2_with fail
    refine k1.mono ?_
    rintro e w2 ⟨rfl, b2⟩
    go_wp2
    go_ret
    exact ⟨by rw [HV.out]; rfl, b0.trans (b2.mono b0.size)⟩
  · rw [if_neg h0] at hV
    have HV := Lib.hid hV
    have e1 : (kd == 0) = false := by simp [h0]
    have e2 : decide (kd = 0) = false := by simp [h0]
    clear hV k1 h0
    go_wp2_with fail
    refine k2.mono ?_
    rintro e w2 ⟨rfl, b2⟩
    go_wp2
    go_ret
    exact ⟨by rw [HV.out]; rfl, b0.trans (b2.mono b0.size)⟩
set_option maxRecDepth 100000 in
set_option maxHeartbeats 1000000 in
/-- Fits, of a right topology and right rules. -/
theorem fits_any {vp vl vr : Value} (ps : List Int) (ls : List Lk) (L : List Ru) (w : World) (hR : RT ps ls) (hA : allB L = true) (h : IsT w vp vl ps ls) (hr : IsR w vr L) : Calls Try.prog 23 #[.agg #[vp, vl], vr] w fun e w' => e = .returned (.bool (fitsT ps L)) ∧ Below w.heap.size w w' := by
  have b0 : Below w.heap.size w (w.alloc (.cells #[vp, vl] 25)) := (Below.refl _ w).alloc (Nat.le_refl _) _
  have D0 := At.new w #[vp, vl] 25
  have hsteps : Steps 34 #[.pointer (some ⟨w.heap.size, 0, none⟩)] L (fun k => !fitsR ps (L[k]?.getD ru0)) (fun _ W => Below (w.alloc (.cells #[vp, vl] 25)).heap.size (w.alloc (.cells #[vp, vl] 25)) W) (w.alloc (.cells #[vp, vl] 25)).heap.size := by
    intro k hk W hI
    refine (fitsBody_any ps ls L[k] w.heap.size W (D0.belows hI) (h.belows (b0.trans (hI.mono b0.size)))).mono ?_
    rintro e W' ⟨rfl, hb⟩
    exact ⟨by show _ = Ending.returned (.bool (!fitsR ps (L[k]?.getD ru0))); rw [List.getElem?_eq_getElem hk]; rfl, hI.trans (hb.mono hI.size), hb.mono hI.size⟩
  have hZ : ∀ W, Below (w.alloc (.cells #[vp, vl] 25)).heap.size (w.alloc (.cells #[vp, vl] 25)) W → IsR W vr L := fun W hW => hr.belows (b0.trans (hW.mono b0.size))
  have hc := containsFunc_any 34 #[.pointer (some ⟨w.heap.size, 0, none⟩)] enters_fits L _ _ _ (w.alloc (.cells #[vp, vl] 25)) hsteps (Below.refl _ _) hZ
  obtain ⟨q, hq⟩ : ∃ q, q = fitsT ps L := ⟨_, rfl⟩
  rw [← hq]
  have HQ : Hid (∀ b : Bool, (b = true ↔ ∃ k, k < L.length ∧ (!fitsR ps (L[k]?.getD ru0)) = true) → (!b) = q) := Lib.hid fun b hb => by
    rw [hq, Bool.eq_iff_iff, Bool.not_eq_true', ← Bool.not_eq_true, hb]
    unfold fitsT
    rw [List.all_eq_true]
    constructor
    · intro hno r hrL
      obtain ⟨k, hk, rfl⟩ := List.getElem_of_mem hrL
      cases hf : fitsR ps L[k] with
      | true => rw [← fitsR_right hR (allB_right hA _ hrL)]; exact hf
      | false => exact absurd ⟨k, hk, by rw [List.getElem?_eq_getElem hk]; simp [hf]⟩ hno
    · rintro hall ⟨k, hk, hf⟩
      rw [List.getElem?_eq_getElem hk] at hf
      have := hall L[k] (List.getElem_mem hk)
      rw [← fitsR_right hR (allB_right hA _ (List.getElem_mem hk))] at this
      simp [this] at hf
  obtain ⟨⟨A1, c1, rfl, _⟩, ⟨A2, c2, rfl, _⟩⟩ := h
  obtain ⟨A3, c3, rfl, _⟩ := hr
  clear hsteps hZ hq
  go_enter Try.func23, Try.ntmps23
  go_wp2_with (go_at_call 33; refine hc.mono ?_; rintro e w1 ⟨b, rfl, hb, b1⟩)
  go_ret
  exact ⟨by rw [← HQ.out b hb]; rfl, b0.trans (b1.mono b0.size)⟩
end Go.Proofs.Ytpdadcjmpjnnhaa
