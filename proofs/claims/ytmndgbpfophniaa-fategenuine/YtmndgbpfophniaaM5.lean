/- Contracts: the program's Fits. -/
import Derived.Test.YtmndgbpfophniaaN1
import Derived.Test.YtmndgbpfophniaaSF
import Derived.Test.YtmndgbpfophniaaT4
namespace Go.Proofs.Ytmndgbpfophniaa
open Go.RowKit Go.Shelf

/-- Does one rule fit, as the program asks? -/
def fitsR (ps : List Int) (r : Ru) : Bool := if r.kd = 0 then hasT ps ⟨r.dv, r.pt⟩ else devT ps r.dv
theorem fitsR_right {ps : List Int} {ls : List Lk} (hR : RT ps ls) {r : Ru} (hr : ruB r = true) : fitsR ps r = hasT ps ⟨r.dv, r.pt⟩ := by
  unfold fitsR
  by_cases h : r.kd = 0
  · rw [if_pos h]
  · rw [if_neg h]
    obtain ⟨_, _, _, _, _, _, _, _, h9⟩ := (ruB_iff r).1 hr
    have h0 := h9.resolve_left h
    unfold devT hasT
    by_cases h1 : 0 ≤ r.dv
    · by_cases h2 : r.dv < (ps.length : Int)
      · have hp := hR.ports (ps[r.dv.toNat]'(by omega)) (List.getElem_mem _)
        rw [h0]
        dsimp only
        rw [List.getElem?_eq_getElem (by omega)]
        simp [h1, h2]
        omega
      · simp [h2]
    · simp [h1]
theorem allB_right {L : List Ru} (h : allB L = true) : ∀ r ∈ L, ruB r = true := by
  intro r hr
  obtain ⟨k, hk, rfl⟩ := List.getElem_of_mem hr
  exact (((allB_iff L).1 h).2 k hk).1
theorem enters_fits : ∀ args w, (callFunc 43 args).run Try.prog w = .ok (.enter 43 args) w := enters_of Try.func43 (by kernel_rfl) rfl
set_option maxRecDepth 100000 in
set_option maxHeartbeats 1000000 in
/-- The predicate. -/
theorem fitsBody_any {vp vl : Value} (ps : List Int) (ls : List Lk) (r : Ru) (B : Nat) (W : World) (hB : At W B #[vp, vl] 25) (h : IsT W vp vl ps ls) :
    Calls Try.prog 43 #[.agg (ruA r), .pointer (some ⟨B, 0, none⟩)] W fun e W' => e = .returned (.bool (!fitsR ps r)) ∧ Below W.heap.size W W' := by
  obtain ⟨id, dv, pr, kd, f, t, pt⟩ := r
  rw [ruA_mk]
  have b0 : Below W.heap.size W (W.alloc (.cells #[.int .i64 id, .int .i64 dv, .int .i64 pr, .int .i64 kd, .int .u32 f, .int .u32 t, .int .i64 pt] 63)) := (Below.refl _ _).alloc (Nat.le_refl _) _
  have hh := h.belows b0
  have k1 := has_any ps ls ⟨dv, pt⟩ _ hh
  have k2 := hasDevice_any ps ls dv _ hh
  have D1 := hB.belows b0
  have R1 := At.new W #[.int .i64 id, .int .i64 dv, .int .i64 pr, .int .i64 kd, .int .u32 f, .int .u32 t, .int .i64 pt] 63
  obtain ⟨V, hV⟩ : ∃ V, V = fitsR ps ⟨id, dv, pr, kd, f, t, pt⟩ := ⟨_, rfl⟩
  rw [← hV]
  unfold fitsR at hV
  dsimp only at hV
  unfold ptA at k1
  dsimp only at k1
  obtain ⟨⟨A1, c1, rfl, _⟩, ⟨A2, c2, rfl, _⟩⟩ := h
  clear hh
  go_enter Try.func43, Try.ntmps43
  go_upto_region 1 with (fail)
  obtain ⟨w1, hw1⟩ : ∃ w1, w1 = W.alloc (.cells #[.int .i64 id, .int .i64 dv, .int .i64 pr, .int .i64 kd, .int .u32 f, .int .u32 t, .int .i64 pt] 63) := ⟨_, rfl⟩
  rw [← hw1] at b0 k1 k2 D1 R1 ⊢
  clear hw1
  have x0 := (D1.cell 0).trans rfl
  have x1 := (D1.cell 1).trans rfl
  have y1 := (R1.cell 1).trans rfl
  have y3 := (R1.cell 3).trans rfl
  have y5 := (R1.cell 6).trans rfl
  by_cases h0 : kd = 0
  · rw [if_pos h0] at hV
    have HV := Lib.hid hV
    subst h0
    clear hV k2
    go_wp2_with fail
    refine k1.mono ?_
    rintro e w2 ⟨rfl, b2⟩
    go_wp2
    go_ret
    exact ⟨by rw [HV.out]; rfl, b0.trans (b2.mono b0.size)⟩
  · rw [if_neg h0] at hV
    have HV := Lib.hid hV
    have e1 : (kd == 0) = false := by simp [h0]
    have e2 : decide (kd = 0) = false := by simp [h0]
    clear hV k1 h0
    go_wp2_with fail
    refine k2.mono ?_
    rintro e w2 ⟨rfl, b2⟩
    go_wp2
    go_ret
    exact ⟨by rw [HV.out]; rfl, b0.trans (b2.mono b0.size)⟩
set_option maxRecDepth 100000 in
set_option maxHeartbeats 1000000 in
/-- Fits, of a right topology and right rules. -/
theorem fits_any {vp vl vr : Value} (ps : List Int) (ls : List Lk) (L : List Ru) (w : World) (hR : RT ps ls) (hA : allB L = true) (h : IsT w vp vl ps ls) (hr : IsR w vr L) : Calls Try.prog 26 #[.agg #[vp, vl], vr] w fun e w' => e = .returned (.bool (fitsT ps L)) ∧ Below w.heap.size w w' := by
  have b0 : Below w.heap.size w (w.alloc (.cells #[vp, vl] 25)) := (Below.refl _ w).alloc (Nat.le_refl _) _
  have D0 := At.new w #[vp, vl] 25
  have hsteps : Steps 43 #[.pointer (some ⟨w.heap.size, 0, none⟩)] L (fun k => !fitsR ps (L[k]?.getD ru0)) (fun _ W => Below (w.alloc (.cells #[vp, vl] 25)).heap.size (w.alloc (.cells #[vp, vl] 25)) W) (w.alloc (.cells #[vp, vl] 25)).heap.size := by
    intro k hk W hI
    refine (fitsBody_any ps ls L[k] w.heap.size W (D0.belows hI) (h.belows (b0.trans (hI.mono b0.size)))).mono ?_
    rintro e W' ⟨rfl, hb⟩
    exact ⟨by show _ = Ending.returned (.bool (!fitsR ps (L[k]?.getD ru0))); rw [List.getElem?_eq_getElem hk]; rfl, hI.trans (hb.mono hI.size), hb.mono hI.size⟩
  have hZ : ∀ W, Below (w.alloc (.cells #[vp, vl] 25)).heap.size (w.alloc (.cells #[vp, vl] 25)) W → IsR W vr L := fun W hW => hr.belows (b0.trans (hW.mono b0.size))
  have hc := containsFunc_any 43 #[.pointer (some ⟨w.heap.size, 0, none⟩)] enters_fits L _ _ _ (w.alloc (.cells #[vp, vl] 25)) hsteps (Below.refl _ _) hZ
  obtain ⟨q, hq⟩ : ∃ q, q = fitsT ps L := ⟨_, rfl⟩
  rw [← hq]
  have HQ : Hid (∀ b : Bool, (b = true ↔ ∃ k, k < L.length ∧ (!fitsR ps (L[k]?.getD ru0)) = true) → (!b) = q) := Lib.hid fun b hb => by
    rw [hq, Bool.eq_iff_iff, Bool.not_eq_true', ← Bool.not_eq_true, hb]
    unfold fitsT
    rw [List.all_eq_true]
    constructor
    · intro hno r hrL
      obtain ⟨k, hk, rfl⟩ := List.getElem_of_mem hrL
      cases hf : fitsR ps L[k] with
      | true => rw [← fitsR_right hR (allB_right hA _ hrL)]; exact hf
      | false => exact absurd ⟨k, hk, by rw [List.getElem?_eq_getElem hk]; simp [hf]⟩ hno
    · rintro hall ⟨k, hk, hf⟩
      rw [List.getElem?_eq_getElem hk] at hf
      have := hall L[k] (List.getElem_mem hk)
      rw [← fitsR_right hR (allB_right hA _ (List.getElem_mem hk))] at this
      simp [this] at hf
  obtain ⟨⟨A1, c1, rfl, _⟩, ⟨A2, c2, rfl, _⟩⟩ := h
  obtain ⟨A3, c3, rfl, _⟩ := hr
  clear hsteps hZ hq
  go_enter Try.func26, Try.ntmps26
  go_wp2_with (go_at_call 40; refine hc.mono ?_; rintro e w1 ⟨b, rfl, hb, b1⟩)
  go_ret
  exact ⟨by rw [← HQ.out b hb]; rfl, b0.trans (b1.mono b0.size)⟩
end Go.Proofs.Ytmndgbpfophniaa
