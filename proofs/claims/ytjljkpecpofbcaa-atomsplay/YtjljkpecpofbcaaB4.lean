/- Contract: a table with a range once more, or once less. -/
import Derived.Test.YtjljkpecpofbcaaB3
namespace Go.Proofs.Ytjljkpecpofbcaa
open Go.RowKit Go.Shelf

/-- How far the counts of boundaries are turned. -/
def Far (s : Int) (g : Int → Nat) (C : List Int) (k : Nat) (q : Int → Nat) : Prop := (s = 1 ∧ ∀ j, q j = g j + (C.take k).count j) ∨ (s = -1 ∧ ∀ j, g j = q j + (C.take k).count j)
/-- A range once more, or once less. -/
def Chg (s : Int) (r : Nat × Nat) (L M : List (Nat × Nat)) : Prop := (s = 1 ∧ M = L ++ [r] ∧ RL M) ∨ (s = -1 ∧ r ∈ L ∧ M = L.erase r)
theorem Chg.zero {s : Int} {r : Nat × Nat} {L M : List (Nat × Nat)} (h : Chg s r L M) (g : Int → Nat) (C : List Int) : Far s g C 0 g := by
  rcases h with ⟨h, _⟩ | ⟨h, _⟩
  · exact .inl ⟨h, fun j => by simp⟩
  · exact .inr ⟨h, fun j => by simp⟩
theorem count_take_succ {C : List Int} {k : Nat} (hk : k < C.length) (j : Int) : (C.take (k + 1)).count j = (C.take k).count j + if j = C[k] then 1 else 0 := by
  rw [List.take_succ_eq_append_getElem hk, List.count_append, List.count_singleton]
  congr 1
  by_cases h : j = C[k]
  · simp [h]
  · rw [if_neg h, if_neg (by simpa using fun e => h e.symm)]
theorem count_take_le {C : List Int} {k : Nat} (j : Int) : (C.take k).count j ≤ C.count j := (List.take_sublist k C).count_le j
theorem Chg.next {s : Int} {r : Nat × Nat} {L M : List (Nat × Nat)} (h : Chg s r L M) {k : Nat} {q : Int → Nat} (hf : Far s (nC L) (cutsR r) k q) (hk : k < (cutsR r).length) :
    ∃ q', Stp s (cutsR r)[k] q q' ∧ Far s (nC L) (cutsR r) (k + 1) q' := by
  rcases hf with ⟨rfl, hq⟩ | ⟨rfl, hq⟩
  · exact ⟨fun j => q j + if j = (cutsR r)[k] then 1 else 0, .inl ⟨rfl, fun j => rfl⟩, .inl ⟨rfl, fun j => by show q j + _ = _; rw [hq, count_take_succ hk]; omega⟩⟩
  · rcases h with ⟨h, _⟩ | ⟨_, hr, _⟩
    · cases h
    · have key : ∀ j, q j = (q j - if j = (cutsR r)[k] then 1 else 0) + if j = (cutsR r)[k] then 1 else 0 := fun j => by
        have h1 := nC_erase hr j
        have h2 := hq j
        have h3 := count_take_le (C := cutsR r) (k := k + 1) j
        rw [count_take_succ hk] at h3
        split at h3 <;> rename_i e
        · rw [if_pos e]; omega
        · rw [if_neg e]; omega
      refine ⟨fun j => q j - if j = (cutsR r)[k] then 1 else 0, .inr ⟨rfl, key⟩, .inr ⟨rfl, fun j => ?_⟩⟩
      have := key j
      show _ = (q j - if j = (cutsR r)[k] then 1 else 0) + _
      rw [hq, count_take_succ hk]
      omega
theorem nC_le (X : List (Nat × Nat)) (j : Int) : nC X j ≤ 2 * X.length := Nat.le_trans List.count_le_length (flat_len X)
theorem nR_le (X : List (Nat × Nat)) (j : Int) : nR X j ≤ X.length := by
  have : nR X j ≤ (X.map keyI).length := List.count_le_length
  simpa using this
theorem Chg.bound {s : Int} {r : Nat × Nat} {L M : List (Nat × Nat)} (hL : RL L) (h : Chg s r L M) {k : Nat} {q : Int → Nat} (hf : Far s (nC L) (cutsR r) k q) {P : List (Int × Int)} (hT : Tal P q) : P.length < 1024 ∧ ∀ j, q j ≤ 1000 := by
  have key : ∃ X : List (Nat × Nat), X.length ≤ 500 ∧ ∀ j, q j ≤ nC X j := by
    rcases hf with ⟨rfl, hq⟩ | ⟨rfl, hq⟩
    · rcases h with ⟨_, rfl, hM⟩ | ⟨h, _⟩
      · refine ⟨L ++ [r], hM.2, fun j => ?_⟩
        rw [nC_snoc, hq]
        have := count_take_le (C := cutsR r) (k := k) j
        omega
      · cases h
    · exact ⟨L, hL.2, fun j => by have := hq j; omega⟩
  obtain ⟨X, hX, hq⟩ := key
  constructor
  · have := rise_len (ks := X.flatMap cutsR) hT.rise fun a ha => List.count_pos_iff.1 (Nat.lt_of_lt_of_le ((hT.mem a).1 ha) (hq a))
    have := flat_len X
    simp at *; omega
  · intro j; have := hq j; have := nC_le X j; omega
theorem Chg.fin {s : Int} {r : Nat × Nat} {L M : List (Nat × Nat)} (h : Chg s r L M) {q : Int → Nat} (hf : Far s (nC L) (cutsR r) (cutsR r).length q) : q = nC M := by
  funext j
  unfold Far at hf
  rw [List.take_length] at hf
  rcases hf with ⟨rfl, hq⟩ | ⟨rfl, hq⟩
  · rcases h with ⟨_, rfl, _⟩ | ⟨h, _⟩
    · rw [nC_snoc, hq]
    · cases h
  · rcases h with ⟨h, _⟩ | ⟨_, hr, rfl⟩
    · cases h
    · have := nC_erase hr j; have := hq j; omega
theorem Chg.stp {s : Int} {r : Nat × Nat} {L M : List (Nat × Nat)} (h : Chg s r L M) : Stp s (keyI r) (nR L) (nR M) := by
  rcases h with ⟨h, rfl, _⟩ | ⟨h, hr, rfl⟩
  · exact .inl ⟨h, fun j => nR_snoc r L j⟩
  · exact .inr ⟨h, fun j => nR_erase hr j⟩
theorem Chg.rl {s : Int} {r : Nat × Nat} {L M : List (Nat × Nat)} (hL : RL L) (h : Chg s r L M) : RL M ∧ (L.length : Int) + s = (M.length : Int) ∧ (s = 1 ∨ s = -1) ∧ r.1 ≤ r.2 ∧ r.2 < 4294967296 := by
  rcases h with ⟨h, rfl, hM⟩ | ⟨h, hr, rfl⟩
  · have := hM.1 r (by simp)
    exact ⟨hM, by simp [h], .inl h, this.1, this.2⟩
  · have h1 := List.length_erase_of_mem hr
    have h2 := List.length_pos_of_mem hr
    have := hL.1 r hr
    exact ⟨hL.erase r, by omega, .inr h, this.1, this.2⟩
theorem IsC.belows {w w' : World} {v : Value} {C : List Int} (h : IsC w v C) (hb : Below w.heap.size w w') : IsC w' v C := by
  obtain ⟨A, c, e, h3⟩ := h
  refine ⟨A, c, e, fun hn => ?_⟩
  obtain ⟨g, e, hg, hc⟩ := h3 hn
  exact ⟨g, e, Nat.lt_of_lt_of_le hg hb.size, fun k hk => (hb.cell (p := ⟨g, k, none⟩) hg).trans (hc k hk)⟩
/-- Where the loop over the boundaries stands. -/
def CF (s : Int) (r : Nat × Nat) (L : List (Nat × Nat)) (w1 : World) (k : Nat) (cv : Value) (W : World) : Prop := ∃ P q, IsTree W cv P ∧ Tal P q ∧ Far s (nC L) (cutsR r) k q ∧ Below w1.heap.size w1 W
set_option maxRecDepth 100000 in
set_option maxHeartbeats 2000000 in
theorem changed_any {v : Value} (s : Int) (f t : Nat) (L M : List (Nat × Nat)) (w : World) (h : IsTab w v L) (hc : Chg s (f, t) L M) : Calls Try.prog 38 #[v, .agg #[.int .u32 f, .int .u32 t], .int .i64 s] w fun e w' => ∃ v', e = .returned v' ∧ IsTab w' v' M ∧ Below w.heap.size w w' := by
  have HT := Lib.hid h
  obtain ⟨hL, B, vr, vc, R, C, rfl, ha, ir, ic, tr, tc⟩ := h
  obtain ⟨hM, hlen, hs, hft, ht⟩ := hc.rl hL
  have hf : f < 4294967296 := by simp at hft ht; omega
  simp only at ht
  have hLl := hL.2
  have HC := Lib.hid hc
  have HL := Lib.hid (And.intro hL hM)
  obtain ⟨pr, rfl⟩ := ir.ptr
  obtain ⟨pc, rfl⟩ := ic.ptr
  have A0 := At.new w #[.int .u32 f, .int .u32 t] 32
  have b0 : Below w.heap.size w (w.alloc (.cells #[.int .u32 f, .int .u32 t] 32)) := (Below.refl _ w).alloc (Nat.le_refl _) _
  have a0 := ha.belows b0
  have c1 := (a0.cell 1).trans rfl
  clear hc hL hM hft
  go_enter Try.func38, Try.ntmps38
  go_wp2_with fail
  refine (cutsOf_any f t _ hf ht).mono ?_
  rintro e w1 ⟨v1, rfl, ⟨Ac, cc, rfl, hcc⟩, b1⟩
  have bb1 := b0.trans (b1.mono b0.size)
  have A1 := A0.belows b1
  have a1 := a0.belows b1
  have HI := Lib.hid (And.intro (ir.belows bb1) (ic.belows bb1))
  have HTT := Lib.hid (And.intro tr tc)
  have HCC : Hid (∀ W, Below w1.heap.size w1 W → IsC W (.slice Ac (cutsR (f, t)).length cc) (cutsR (f, t))) := Lib.hid fun W hW => (show IsC w1 _ _ from ⟨Ac, cc, rfl, hcc⟩).belows hW
  have h2 := cutsR_len (f, t)
  have HK : Hid (∀ W, Below w1.heap.size w1 W → At W B #[.pointer pr, .pointer pc, .int .i64 (L.length : Int)] 59 ∧ At W w.heap.size #[.int .u32 f, .int .u32 t] 32) := Lib.hid fun W hW => ⟨a1.belows hW, A1.belows hW⟩
  have HB1 := Lib.hid bb1
  clear hcc ir ic tr tc A0 a0 A1 a1 c1 b0 b1 ha bb1
  go_wp2
  go_loopw [7, 17] (fun cv i wr => ∃ k : Nat, i = .int .i64 k ∧ k ≤ (cutsR (f, t)).length ∧ Hid (CF s (f, t) L w1 k cv wr)) (fun _ i _ => (cutsR (f, t)).length - (intOf i).toNat)
  case atStart => exact ⟨0, rfl, by omega, Lib.hid ⟨C, nC L, HI.out.2, HTT.out.2, HC.out.zero _ _, Below.refl _ _⟩⟩
  case round =>
    obtain ⟨k, rfl, hk, HF⟩ := hrel
    obtain ⟨P, q, hP, hTq, hfar, hbq⟩ := HF.out
    obtain ⟨pq, rfl⟩ := hP.ptr
    by_cases hlt : k < (cutsR (f, t)).length
    · obtain ⟨Ac', cc', e, hcell⟩ := HCC.out wr hbq
      injection e with e1 e2 e3
      subst e1
      obtain ⟨g, rfl, hg, hc'⟩ := hcell (by omega)
      have q0 := hc' k hlt
      obtain ⟨q', hstp, hfar'⟩ := HC.out.next hfar hlt
      obtain ⟨hl1, hl2⟩ := HC.out.bound HL.out.1 hfar hTq
      have hm := (cutsR_mem (r := (f, t)) ht (HC.out.rl HL.out.1).2.2.2.1).1 (List.getElem_mem hlt)
      obtain ⟨cx, hcx⟩ : ∃ cx, cx = (cutsR (f, t))[k] := ⟨_, rfl⟩
      rw [← hcx] at q0 hstp hm
      have HS := Lib.hid (And.intro hstp (And.intro hl1 (hl2 cx)))
      have HFF := Lib.hid hfar'
      have HP := Lib.hid (And.intro hP hTq)
      have HBQ := Lib.hid hbq
      have hm1 : 0 ≤ cx := by omega
      have hm2 : cx < 4294967296 := hm.2.1
      clear hcell hc' hstp hfar' hl1 hl2 hm hcx e2 e3 hP hTq hfar hbq HF
      have i0 : (0 : Int) ≤ (k : Int) := by omega
      have i1 : (k : Int) < ((cutsR (f, t)).length : Int) := by omega
      go_wp2_with (go_at_call 48; refine (recC_any P q q' s cx _ hm1 hm2 HP.out.1 HP.out.2 HS.out.2.1 HS.out.2.2 HS.out.1).mono ?_; rintro e w2 ⟨v2, P2, rfl, t2, tl2, b2⟩; obtain ⟨B2, rfl⟩ := t2.ptr)
      go_roundw
      case rel => exact ⟨k + 1, by go_num, by omega, Lib.hid ⟨P2, q', t2.any, tl2, HFF.out, HBQ.out.trans (b2.mono HBQ.out.size)⟩⟩
      case measure => simp [intOf]; omega
    · obtain rfl : k = (cutsR (f, t)).length := by omega
      have hq := HC.out.fin hfar
      subst hq
      have HP := Lib.hid (And.intro hP hTq)
      clear hP hTq hfar HF
      obtain ⟨wq, rfl⟩ : ∃ wq, wq = wr := ⟨_, rfl⟩
      have HR := Lib.hid ((HI.out.1).belows hbq)
      have hRl : R.length < 1024 := by have := talR_len HTT.out.1; omega
      have hRn : nR L (keyI (f, t)) ≤ 1000 := by have := nR_le L (keyI (f, t)); omega
      have hRs := Lib.hid (HC.out.stp)
      have KS : Hid (∀ W, Below wq.heap.size wq W → W.cell? ⟨B, 0, none⟩ = some (.pointer pr) ∧ W.cell? ⟨B, 2, none⟩ = some (.int .i64 (L.length : Int)) ∧ W.cell? ⟨w.heap.size, 0, none⟩ = some (.int .u32 f) ∧ W.cell? ⟨w.heap.size, 1, none⟩ = some (.int .u32 t)) := Lib.hid fun W hW => by
        obtain ⟨x1, x2⟩ := HK.out W (hbq.trans (hW.mono hbq.size))
        exact ⟨(x1.cell 0).trans rfl, (x1.cell 2).trans rfl, (x2.cell 0).trans rfl, (x2.cell 1).trans rfl⟩
      have hb1 := Below.refl wq.heap.size wq
      obtain ⟨q0, q1, q2, q3⟩ := KS.out wq hb1
      have j1 : IntKind.i64.wrap ((L.length : Int) + s) = (L.length : Int) + s := IntWalk.i64_in _ (by omega)
      have HBQ := Lib.hid (HB1.out.trans (hbq.mono HB1.out.size))
      have HLEN := Lib.hid hlen
      clear hbq hlt hk hlen
      go_wp2_with fail
      go_region_held3 (fun W => W.cell? ⟨B, 0, none⟩ = some (.pointer pr) ∧ W.cell? ⟨B, 2, none⟩ = some (.int .i64 (L.length : Int)) ∧ W.cell? ⟨w.heap.size, 0, none⟩ = some (.int .u32 f) ∧ W.cell? ⟨w.heap.size, 1, none⟩ = some (.int .u32 t)) (first | exact KS.out _ (bb2.alloc bb2.size _) | exact KS.out _ bb2 | exact KS.out _ hb1.drew | exact KS.out _ hb1) (first
        | (go_at_call 49; refine (recS_any R L (nR M) s f t _ hf ht (HR.out.belows (by first | exact hb1.drew | exact hb1)) HTT.out.1 hRl hRn hRs.out).mono ?_; rintro e w2 ⟨v2, P2, rfl, t2, tl2, b2⟩; obtain ⟨B2, rfl⟩ := t2.ptr; have bb2 : Below wq.heap.size wq w2 := (by first | exact hb1.drew.trans (b2.mono hb1.size) | exact b2)))
      rename_i hHeld
      clear hHeld
      go_wp2
      go_ret
      have bq := HBQ.out.trans (bb2.mono HBQ.out.size)
      exact ⟨_, rfl, tab_new w2 HL.out.2 HLEN.out t2.any (HP.out.1.belows bb2) tl2 HP.out.2, bq.alloc bq.size _⟩
end Go.Proofs.Ytjljkpecpofbcaa
