/- Texts of this seat, put together: RtB4, RtB5, La4, La5, La6p, F5, F2, SF, F6, K1, K2, J1, M1, N1, M2, M5, N2, N3, FS, RtB6, RtB6a, RtB6b, RtB6c, RtB6d, RtB7, La6, La7, La8, La9. -/
import Derived.Test.YtlhfaildeemngaaGreatZ3
import Derived.Deep.OwnRows
import Derived.Test.YtlhfaildeemngaaGreatZ2
import Derived.Test.YtlhfaildeemngaaGreatZ1
import Derived.Maps.OwnSet
import Derived.Maps.OwnOps
import Derived.Maps.Views
import Derived.DeepKeys4
/- Contract: a table with a range once more, or once less. -/
namespace Go.Proofs.YtlhfaildeemngaaGreat.Tr
open Go.RowKit Go.Shelf

/-- How far the counts of boundaries are turned. -/
def Far (s : Int) (g : Int → Nat) (C : List Int) (k : Nat) (q : Int → Nat) : Prop := (s = 1 ∧ ∀ j, q j = g j + (C.take k).count j) ∨ (s = -1 ∧ ∀ j, g j = q j + (C.take k).count j)
/-- A range once more, or once less. -/
def Chg (s : Int) (r : Nat × Nat) (L M : List (Nat × Nat)) : Prop := (s = 1 ∧ M = L ++ [r] ∧ RL M) ∨ (s = -1 ∧ r ∈ L ∧ M = L.erase r)
theorem Chg.zero {s : Int} {r : Nat × Nat} {L M : List (Nat × Nat)} (h : Chg s r L M) (g : Int → Nat) (C : List Int) : Far s g C 0 g := by
  rcases h with ⟨h, _⟩ | ⟨h, _⟩
  · exact .inl ⟨h, fun j => by simp⟩
  · exact .inr ⟨h, fun j => by simp⟩
theorem count_take_succ {C : List Int} {k : Nat} (hk : k < C.length) (j : Int) : (C.take (k + 1)).count j = (C.take k).count j + if j = C[k] then 1 else 0 := by
  rw [List.take_succ_eq_append_getElem hk, List.count_append, List.count_singleton]
  congr 1
  by_cases h : j = C[k]
  · simp [h]
  · rw [if_neg h, if_neg (by simpa using fun e => h e.symm)]
theorem count_take_le {C : List Int} {k : Nat} (j : Int) : (C.take k).count j ≤ C.count j := (List.take_sublist k C).count_le j
theorem Chg.next {s : Int} {r : Nat × Nat} {L M : List (Nat × Nat)} (h : Chg s r L M) {k : Nat} {q : Int → Nat} (hf : Far s (nC L) (cutsR r) k q) (hk : k < (cutsR r).length) :
    ∃ q', Stp s (cutsR r)[k] q q' ∧ Far s (nC L) (cutsR r) (k + 1) q' := by
  rcases hf with ⟨rfl, hq⟩ | ⟨rfl, hq⟩
  · exact ⟨fun j => q j + if j = (cutsR r)[k] then 1 else 0, .inl ⟨rfl, fun j => rfl⟩, .inl ⟨rfl, fun j => by show q j + _ = _; rw [hq, count_take_succ hk]; omega⟩⟩
  · rcases h with ⟨h, _⟩ | ⟨_, hr, _⟩
    · cases h
    · have key : ∀ j, q j = (q j - if j = (cutsR r)[k] then 1 else 0) + if j = (cutsR r)[k] then 1 else 0 := fun j => by
        have h1 := nC_erase hr j
        have h2 := hq j
        have h3 := count_take_le (C := cutsR r) (k := k + 1) j
        rw [count_take_succ hk] at h3
        split at h3 <;> rename_i e
        · rw [if_pos e]; omega
        · rw [if_neg e]; omega
      refine ⟨fun j => q j - if j = (cutsR r)[k] then 1 else 0, .inr ⟨rfl, key⟩, .inr ⟨rfl, fun j => ?_⟩⟩
      have := key j
      show _ = (q j - if j = (cutsR r)[k] then 1 else 0) + _
      rw [hq, count_take_succ hk]
      omega
theorem nC_le (X : List (Nat × Nat)) (j : Int) : nC X j ≤ 2 * X.length := Nat.le_trans List.count_le_length (flat_len X)
theorem nR_le (X : List (Nat × Nat)) (j : Int) : nR X j ≤ X.length := by
  have : nR X j ≤ (X.map keyI).length := List.count_le_length
  simpa using this
theorem Chg.bound {s : Int} {r : Nat × Nat} {L M : List (Nat × Nat)} (hL : RL L) (h : Chg s r L M) {k : Nat} {q : Int → Nat} (hf : Far s (nC L) (cutsR r) k q) {P : List (Int × Int)} (hT : Tal P q) : P.length < 1024 ∧ ∀ j, q j ≤ 1000 := by
  have key : ∃ X : List (Nat × Nat), X.length ≤ 500 ∧ ∀ j, q j ≤ nC X j := by
    rcases hf with ⟨rfl, hq⟩ | ⟨rfl, hq⟩
    · rcases h with ⟨_, rfl, hM⟩ | ⟨h, _⟩
      · refine ⟨L ++ [r], hM.2, fun j => ?_⟩
        rw [nC_snoc, hq]
        have := count_take_le (C := cutsR r) (k := k) j
        omega
      · cases h
    · exact ⟨L, hL.2, fun j => by have := hq j; omega⟩
  obtain ⟨X, hX, hq⟩ := key
  constructor
  · have := rise_len (ks := X.flatMap cutsR) hT.rise fun a ha => List.count_pos_iff.1 (Nat.lt_of_lt_of_le ((hT.mem a).1 ha) (hq a))
    have := flat_len X
    simp at *; omega
  · intro j; have := hq j; have := nC_le X j; omega
theorem Chg.fin {s : Int} {r : Nat × Nat} {L M : List (Nat × Nat)} (h : Chg s r L M) {q : Int → Nat} (hf : Far s (nC L) (cutsR r) (cutsR r).length q) : q = nC M := by
  funext j
  unfold Far at hf
  rw [List.take_length] at hf
  rcases hf with ⟨rfl, hq⟩ | ⟨rfl, hq⟩
  · rcases h with ⟨_, rfl, _⟩ | ⟨h, _⟩
    · rw [nC_snoc, hq]
    · cases h
  · rcases h with ⟨h, _⟩ | ⟨_, hr, rfl⟩
    · cases h
    · have := nC_erase hr j; have := hq j; omega
theorem Chg.stp {s : Int} {r : Nat × Nat} {L M : List (Nat × Nat)} (h : Chg s r L M) : Stp s (keyI r) (nR L) (nR M) := by
  rcases h with ⟨h, rfl, _⟩ | ⟨h, hr, rfl⟩
  · exact .inl ⟨h, fun j => nR_snoc r L j⟩
  · exact .inr ⟨h, fun j => nR_erase hr j⟩
theorem Chg.rl {s : Int} {r : Nat × Nat} {L M : List (Nat × Nat)} (hL : RL L) (h : Chg s r L M) : RL M ∧ (L.length : Int) + s = (M.length : Int) ∧ (s = 1 ∨ s = -1) ∧ r.1 ≤ r.2 ∧ r.2 < 4294967296 := by
  rcases h with ⟨h, rfl, hM⟩ | ⟨h, hr, rfl⟩
  · have := hM.1 r (by simp)
    exact ⟨hM, by simp [h], .inl h, this.1, this.2⟩
  · have h1 := List.length_erase_of_mem hr
    have h2 := List.length_pos_of_mem hr
    have := hL.1 r hr
    exact ⟨hL.erase r, by omega, .inr h, this.1, this.2⟩
theorem IsC.belows {w w' : World} {v : Value} {C : List Int} (h : IsC w v C) (hb : Below w.heap.size w w') : IsC w' v C := by
  obtain ⟨A, c, e, h3⟩ := h
  refine ⟨A, c, e, fun hn => ?_⟩
  obtain ⟨g, e, hg, hc⟩ := h3 hn
  exact ⟨g, e, Nat.lt_of_lt_of_le hg hb.size, fun k hk => (hb.cell (p := ⟨g, k, none⟩) hg).trans (hc k hk)⟩
/-- Where the loop over the boundaries stands. -/
def CF (s : Int) (r : Nat × Nat) (L : List (Nat × Nat)) (w1 : World) (k : Nat) (cv : Value) (W : World) : Prop := ∃ P q, IsTree W cv P ∧ Tal P q ∧ Far s (nC L) (cutsR r) k q ∧ Below w1.heap.size w1 W
set_option maxRecDepth 100000 in
set_option maxHeartbeats 2000000 in
theorem changed_any {v : Value} (s : Int) (f t : Nat) (L M : List (Nat × Nat)) (w : World) (h : IsTab w v L) (hc : Chg s (f, t) L M) : Calls Tryz.prog 63 #[v, .agg #[.int .u32 f, .int .u32 t], .int .i64 s] w fun e w' => ∃ v', e = .returned v' ∧ IsTab w' v' M ∧ Below w.heap.size w w' := by
  have HT := Lib.hid h
  obtain ⟨hL, B, vr, vc, R, C, rfl, ha, ir, ic, tr, tc⟩ := h
  obtain ⟨hM, hlen, hs, hft, ht⟩ := hc.rl hL
  have hf : f < 4294967296 := by simp at hft ht; omega
  simp only at ht
  have hLl := hL.2
  have HC := Lib.hid hc
  have HL := Lib.hid (And.intro hL hM)
  obtain ⟨pr, rfl⟩ := ir.ptr
  obtain ⟨pc, rfl⟩ := ic.ptr
  have A0 := At.new w #[.int .u32 f, .int .u32 t] 39
  have b0 : Below w.heap.size w (w.alloc (.cells #[.int .u32 f, .int .u32 t] 39)) := (Below.refl _ w).alloc (Nat.le_refl _) _
  have a0 := ha.belows b0
  have c1 := (a0.cell 1).trans rfl
  clear hc hL hM hft
  go_enter Tryz.func63, Tryz.ntmps63
  go_wp2_with fail
  refine (cutsOf_any f t _ hf ht).mono ?_
  rintro e w1 ⟨v1, rfl, ⟨Ac, cc, rfl, hcc⟩, b1⟩
  have bb1 := b0.trans (b1.mono b0.size)
  have A1 := A0.belows b1
  have a1 := a0.belows b1
  have HI := Lib.hid (And.intro (ir.belows bb1) (ic.belows bb1))
  have HTT := Lib.hid (And.intro tr tc)
  have HCC : Hid (∀ W, Below w1.heap.size w1 W → IsC W (.slice Ac (cutsR (f, t)).length cc) (cutsR (f, t))) := Lib.hid fun W hW => (show IsC w1 _ _ from ⟨Ac, cc, rfl, hcc⟩).belows hW
  have h2 := cutsR_len (f, t)
  have HK : Hid (∀ W, Below w1.heap.size w1 W → At W B #[.pointer pr, .pointer pc, .int .i64 (L.length : Int)] 105 ∧ At W w.heap.size #[.int .u32 f, .int .u32 t] 39) := Lib.hid fun W hW => ⟨a1.belows hW, A1.belows hW⟩
  have HB1 := Lib.hid bb1
  clear hcc ir ic tr tc A0 a0 A1 a1 c1 b0 b1 ha bb1
  go_wp2
  go_loopw [7, 17] (fun cv i wr => ∃ k : Nat, i = .int .i64 k ∧ k ≤ (cutsR (f, t)).length ∧ Hid (CF s (f, t) L w1 k cv wr)) (fun _ i _ => (cutsR (f, t)).length - (intOf i).toNat)
  case atStart => exact ⟨0, rfl, by omega, Lib.hid ⟨C, nC L, HI.out.2, HTT.out.2, HC.out.zero _ _, Below.refl _ _⟩⟩
  case round =>
    obtain ⟨k, rfl, hk, HF⟩ := hrel
    obtain ⟨P, q, hP, hTq, hfar, hbq⟩ := HF.out
    obtain ⟨pq, rfl⟩ := hP.ptr
    by_cases hlt : k < (cutsR (f, t)).length
    · obtain ⟨Ac', cc', e, hcell⟩ := HCC.out wr hbq
      injection e with e1 e2 e3
      subst e1
      obtain ⟨g, rfl, hg, hc'⟩ := hcell (by omega)
      have q0 := hc' k hlt
      obtain ⟨q', hstp, hfar'⟩ := HC.out.next hfar hlt
      obtain ⟨hl1, hl2⟩ := HC.out.bound HL.out.1 hfar hTq
      have hm := (cutsR_mem (r := (f, t)) ht (HC.out.rl HL.out.1).2.2.2.1).1 (List.getElem_mem hlt)
      obtain ⟨cx, hcx⟩ : ∃ cx, cx = (cutsR (f, t))[k] := ⟨_, rfl⟩
      rw [← hcx] at q0 hstp hm
      have HS := Lib.hid (And.intro hstp (And.intro hl1 (hl2 cx)))
      have HFF := Lib.hid hfar'
      have HP := Lib.hid (And.intro hP hTq)
      have HBQ := Lib.hid hbq
      have hm1 : 0 ≤ cx := by omega
      have hm2 : cx < 4294967296 := hm.2.1
      clear hcell hc' hstp hfar' hl1 hl2 hm hcx e2 e3 hP hTq hfar hbq HF
      have i0 : (0 : Int) ≤ (k : Int) := by omega
      have i1 : (k : Int) < ((cutsR (f, t)).length : Int) := by omega
      go_wp2_with (go_at_call 80; refine (recC_any P q q' s cx _ hm1 hm2 HP.out.1 HP.out.2 HS.out.2.1 HS.out.2.2 HS.out.1).mono ?_; rintro e w2 ⟨v2, P2, rfl, t2, tl2, b2⟩; obtain ⟨B2, rfl⟩ := t2.ptr)
      go_roundw
      case rel => exact ⟨k + 1, by go_num, by omega, Lib.hid ⟨P2, q', t2.any, tl2, HFF.out, HBQ.out.trans (b2.mono HBQ.out.size)⟩⟩
      case measure => simp [intOf]; omega
    · obtain rfl : k = (cutsR (f, t)).length := by omega
      have hq := HC.out.fin hfar
      subst hq
      have HP := Lib.hid (And.intro hP hTq)
      clear hP hTq hfar HF
      obtain ⟨wq, rfl⟩ : ∃ wq, wq = wr := ⟨_, rfl⟩
      have HR := Lib.hid ((HI.out.1).belows hbq)
      have hRl : R.length < 1024 := by have := talR_len HTT.out.1; omega
      have hRn : nR L (keyI (f, t)) ≤ 1000 := by have := nR_le L (keyI (f, t)); omega
      have hRs := Lib.hid (HC.out.stp)
      have KS : Hid (∀ W, Below wq.heap.size wq W → W.cell? ⟨B, 0, none⟩ = some (.pointer pr) ∧ W.cell? ⟨B, 2, none⟩ = some (.int .i64 (L.length : Int)) ∧ W.cell? ⟨w.heap.size, 0, none⟩ = some (.int .u32 f) ∧ W.cell? ⟨w.heap.size, 1, none⟩ = some (.int .u32 t)) := Lib.hid fun W hW => by
        obtain ⟨x1, x2⟩ := HK.out W (hbq.trans (hW.mono hbq.size))
        exact ⟨(x1.cell 0).trans rfl, (x1.cell 2).trans rfl, (x2.cell 0).trans rfl, (x2.cell 1).trans rfl⟩
      have hb1 := Below.refl wq.heap.size wq
      obtain ⟨q0, q1, q2, q3⟩ := KS.out wq hb1
      have j1 : IntKind.i64.wrap ((L.length : Int) + s) = (L.length : Int) + s := IntWalk.i64_in _ (by omega)
      have HBQ := Lib.hid (HB1.out.trans (hbq.mono HB1.out.size))
      have HLEN := Lib.hid hlen
      clear hbq hlt hk hlen
      go_wp2_with fail
      go_region_held3 (fun W => W.cell? ⟨B, 0, none⟩ = some (.pointer pr) ∧ W.cell? ⟨B, 2, none⟩ = some (.int .i64 (L.length : Int)) ∧ W.cell? ⟨w.heap.size, 0, none⟩ = some (.int .u32 f) ∧ W.cell? ⟨w.heap.size, 1, none⟩ = some (.int .u32 t)) (first | exact KS.out _ (bb2.alloc bb2.size _) | exact KS.out _ bb2 | exact KS.out _ hb1.drew | exact KS.out _ hb1) (first
        | (go_at_call 81; refine (recS_any R L (nR M) s f t _ hf ht (HR.out.belows (by first | exact hb1.drew | exact hb1)) HTT.out.1 hRl hRn hRs.out).mono ?_; rintro e w2 ⟨v2, P2, rfl, t2, tl2, b2⟩; obtain ⟨B2, rfl⟩ := t2.ptr; have bb2 : Below wq.heap.size wq w2 := (by first | exact hb1.drew.trans (b2.mono hb1.size) | exact b2)))
      rename_i hHeld
      clear hHeld
      go_wp2
      go_ret
      have bq := HBQ.out.trans (bb2.mono HBQ.out.size)
      exact ⟨_, rfl, tab_new w2 HL.out.2 HLEN.out t2.any (HP.out.1.belows bb2) tl2 HP.out.2, bq.alloc bq.size _⟩
end Go.Proofs.YtlhfaildeemngaaGreat.Tr
/- Contracts of a table: Count, Len, Add, Drop. -/
namespace Go.Proofs.YtlhfaildeemngaaGreat.Tr
open Go.RowKit Go.Shelf

set_option maxRecDepth 100000 in
set_option maxHeartbeats 1000000 in
theorem len5_any {v : Value} (L : List (Nat × Nat)) (w : World) (h : IsTab0 w v L) : Calls Tryz.prog 42 #[v] w fun e w' => e = .returned (.int .i64 ((bnds L).length : Int)) ∧ Below w.heap.size w w' := by
  have hs := some_any L w h
  obtain ⟨p, rfl⟩ := h.ptr
  go_enter Tryz.func42, Tryz.ntmps42
  go_wp2_with fail
  refine hs.mono ?_
  rintro e w1 ⟨v1, rfl, ⟨hL, B, vr, vc, R, C, rfl, ha, ir, ic, tr, tc⟩, b1⟩
  obtain ⟨pc, rfl⟩ := ic.ptr
  have c1 := (ha.cell 1).trans rfl
  have hbl := bnds_len hL tc
  have hcl := ic.up.2
  clear hs ha ir tr tc hL
  go_wp2_with fail
  refine (len_any C _ ic).mono ?_
  rintro e w2 ⟨rfl, rfl⟩
  go_wp2
  go_ret
  exact ⟨ret_int (by omega), b1⟩
theorem nilTab (W : World) : IsTab0 W (.pointer none) [] := .inl ⟨rfl, rfl⟩
/-- A pair of a new table, and no error. -/
def TabOut (w : World) (M : List (Nat × Nat)) (e : Ending) (w' : World) : Prop := ∃ v', e = .returned (.tuple #[v', .int .i64 0]) ∧ IsTab w' v' M ∧ Below w.heap.size w w'
/-- An error. -/
def ErrOut (w : World) (n : Int) (e : Ending) (w' : World) : Prop := e = .returned (.tuple #[.pointer none, .int .i64 n]) ∧ Below w.heap.size w w'
set_option maxRecDepth 100000 in
set_option maxHeartbeats 1000000 in
theorem add_wrong {v : Value} (L : List (Nat × Nat)) (f t : Nat) (w : World) (h : IsTab0 w v L) (h1 : t < f) : Calls Tryz.prog 41 #[v, .agg #[.int .u32 f, .int .u32 t]] w (ErrOut w 51) := by
  have b0 : Below w.heap.size w (w.alloc (.cells #[.int .u32 f, .int .u32 t] 39)) := (Below.refl _ w).alloc (Nat.le_refl _) _
  have A0 := At.new w #[.int .u32 f, .int .u32 t] 39
  have hs := some_any L _ (h.belows b0)
  obtain ⟨p, rfl⟩ := h.ptr
  clear h
  go_enter Tryz.func41, Tryz.ntmps41
  go_wp2_with fail
  refine hs.mono ?_
  rintro e w1 ⟨v1, rfl, ⟨hL, B1, vr, vc, R, C, rfl, ha, ir, ic, tr, tc⟩, b1⟩
  have A1 := A0.belows b1
  have k0 := (A1.cell 0).trans rfl
  have k1 := (A1.cell 1).trans rfl
  have bb := b0.trans (b1.mono b0.size)
  clear A0 A1 b0 b1 ha ir ic tr tc hs hL
  go_wp2
  go_ret2
  exact ⟨rfl, bb⟩
set_option maxRecDepth 100000 in
set_option maxHeartbeats 1000000 in
theorem add_full {v : Value} (L : List (Nat × Nat)) (f t : Nat) (w : World) (h : IsTab0 w v L) (h1 : f ≤ t) (h2 : L.length = 500) : Calls Tryz.prog 41 #[v, .agg #[.int .u32 f, .int .u32 t]] w (ErrOut w 41) := by
  have b0 : Below w.heap.size w (w.alloc (.cells #[.int .u32 f, .int .u32 t] 39)) := (Below.refl _ w).alloc (Nat.le_refl _) _
  have A0 := At.new w #[.int .u32 f, .int .u32 t] 39
  have hs := some_any L _ (h.belows b0)
  obtain ⟨p, rfl⟩ := h.ptr
  clear h
  go_enter Tryz.func41, Tryz.ntmps41
  go_wp2_with fail
  refine hs.mono ?_
  rintro e w1 ⟨v1, rfl, ⟨hL, B1, vr, vc, R, C, rfl, ha, ir, ic, tr, tc⟩, b1⟩
  have A1 := A0.belows b1
  have k0 := (A1.cell 0).trans rfl
  have k1 := (A1.cell 1).trans rfl
  have k2 := (ha.cell 2).trans rfl
  rw [h2] at k2
  have bb := b0.trans (b1.mono b0.size)
  clear A0 A1 b0 b1 ha ir ic tr tc hs hL h2
  go_wp2
  go_ret2
  exact ⟨rfl, bb⟩
set_option maxRecDepth 100000 in
set_option maxHeartbeats 1000000 in
theorem add_ok {v : Value} (L : List (Nat × Nat)) (f t : Nat) (w : World) (h : IsTab0 w v L) (h1 : f ≤ t) (ht : t < 4294967296) (h2 : L.length < 500) : Calls Tryz.prog 41 #[v, .agg #[.int .u32 f, .int .u32 t]] w (TabOut w (L ++ [(f, t)])) := by
  have b0 : Below w.heap.size w (w.alloc (.cells #[.int .u32 f, .int .u32 t] 39)) := (Below.refl _ w).alloc (Nat.le_refl _) _
  have A0 := At.new w #[.int .u32 f, .int .u32 t] 39
  have hs := some_any L _ (h.belows b0)
  have HC : Hid (Chg 1 (f, t) L (L ++ [(f, t)])) := Lib.hid (.inl ⟨rfl, rfl, h.rl.snoc h1 ht h2⟩)
  obtain ⟨p, rfl⟩ := h.ptr
  clear h
  go_enter Tryz.func41, Tryz.ntmps41
  go_wp2_with fail
  refine hs.mono ?_
  rintro e w1 ⟨v1, rfl, ht1, b1⟩
  have HT := Lib.hid ht1
  obtain ⟨hL, B1, vr, vc, R, C, rfl, ha, ir, ic, tr, tc⟩ := ht1
  have A1 := A0.belows b1
  have k0 := (A1.cell 0).trans rfl
  have k1 := (A1.cell 1).trans rfl
  have k2 := (ha.cell 2).trans rfl
  have bb := b0.trans (b1.mono b0.size)
  have d1 : decide (500 ≤ (L.length : Int)) = false := by simp; omega
  clear A0 A1 b0 b1 ha ir ic tr tc hs hL h2
  go_wp2_with (go_at_call 63; refine (changed_any 1 f t L _ _ HT.out HC.out).mono ?_; rintro e w2 ⟨v2, rfl, t2, b2⟩; obtain ⟨B2, rfl⟩ := t2.ptr)
  go_ret2
  exact ⟨_, rfl, t2, bb.trans (b2.mono bb.size)⟩
end Go.Proofs.YtlhfaildeemngaaGreat.Tr
/- Contracts of package label: place; labelOf; tableOf. -/
namespace Go.Proofs.YtlhfaildeemngaaGreat
open Go.RowKit Go.Shelf

/-- Where the rule with an ID stands, or would stand. -/
structure Plc (L : List Ru) (id : Int) (i : Nat) : Prop where
  le : i ≤ L.length
  low : ∀ j, j < i → idAt L j < id
  high : ∀ j, i ≤ j → j < L.length → id ≤ idAt L j
theorem idAt_lt {L : List Ru} (hp : L.Pairwise (fun a b => a.id < b.id)) {i j : Nat} (hij : i < j) (hj : j < L.length) : idAt L i < idAt L j := by
  rw [idAt_in (by omega), idAt_in hj]
  exact List.pairwise_iff_getElem.1 hp i j _ _ hij
/-- It is there just where it stands. -/
theorem Plc.has {L : List Ru} (hp : L.Pairwise (fun a b => a.id < b.id)) {id : Int} {i : Nat} (h : Plc L id i) : hasId id L = decide (i < L.length ∧ idAt L i = id) := by
  cases hq : hasId id L with
  | false =>
    have hno := hasId_no.1 hq
    symm
    apply decide_eq_false
    rintro ⟨h1, h2⟩
    rw [idAt_in h1] at h2
    exact hno _ (List.getElem_mem h1) h2
  | true =>
    symm
    apply decide_eq_true
    unfold hasId at hq
    rw [List.any_eq_true] at hq
    obtain ⟨x, hx, he⟩ := hq
    obtain ⟨j, hj, rfl⟩ := List.getElem_of_mem hx
    have he' : L[j].id = id := of_decide_eq_true he
    have hij : i ≤ j := by
      rcases Nat.lt_or_ge j i with h0 | h0
      · have := h.low j h0
        rw [idAt_in hj] at this
        omega
      · exact h0
    rcases Nat.lt_or_ge i j with h0 | h0
    · have h1 := h.high i (Nat.le_refl _) (by omega)
      have h2 := idAt_lt hp h0 hj
      rw [idAt_in hj] at h2
      omega
    · have e : i = j := by omega
      subst e
      exact ⟨hj, by rw [idAt_in hj]; exact he'⟩
set_option maxRecDepth 100000 in
set_option maxHeartbeats 1000000 in
theorem place_any {A : Option Addr} {c : Nat} (L : List Ru) (id : Int) (w : World) (hp : L.Pairwise (fun a b => a.id < b.id)) (hl : L.length ≤ 100000) (h1 : L.length ≤ c) (h2 : c ≤ maxLen) (hz : Rs w A L) :
    Calls Tryz.prog 24 #[.slice A L.length c, .int .i64 id] w fun e w' => ∃ i : Nat, e = .returned (.tuple #[.int .i64 (i : Int), .bool (hasId id L)]) ∧ Plc L id i ∧ Below w.heap.size w w' := by
  obtain ⟨w2, hw2⟩ : ∃ w2, w2 = (w.alloc (.cells #[.slice A L.length c] 26)).alloc (.cells #[.int .i64 id] 3) := ⟨_, rfl⟩
  have b2 : Below w.heap.size w w2 := by rw [hw2]; exact ((Below.refl _ w).alloc (Nat.le_refl _) _).alloc (by simp) _
  have L2 : At w2 w.heap.size #[.slice A L.length c] 26 := by rw [hw2]; exact (At.new w _ _).alloc _
  have I2 : At w2 (w.heap.size + 1) #[.int .i64 id] 3 := by rw [hw2]; exact At.new1 w _ _ _
  have HA : Hid (AskAt 47 #[.pointer (some ⟨w.heap.size, 0, none⟩), .pointer (some ⟨w.heap.size + 1, 0, none⟩)] L.length (fun k => decide (id ≤ idAt L k)) w2) := Lib.hid fun k hk W hW =>
    place1_any L id A c k _ _ W hk h1 h2 (L2.belows hW) (I2.belows hW) (hz.belows (b2.trans (hW.mono b2.size)))
  have HM : Hid (∀ a b, a ≤ b → b < L.length → decide (id ≤ idAt L a) = true → decide (id ≤ idAt L b) = true) := Lib.hid fun a b hab hb ha => by
    have := of_decide_eq_true ha
    apply decide_eq_true
    rcases Nat.lt_or_ge a b with h | h
    · have := idAt_lt hp h hb; omega
    · have : a = b := by omega
      subst this; exact of_decide_eq_true ha
  have HP := Lib.hid hp
  have HZ : Hid (∀ W, Below w2.heap.size w2 W → Rs W A L ∧ At W w.heap.size #[.slice A L.length c] 26 ∧ At W (w.heap.size + 1) #[.int .i64 id] 3) := Lib.hid fun W hW => ⟨hz.belows (b2.trans (hW.mono b2.size)), L2.belows hW, I2.belows hW⟩
  have c0 := (L2.cell 0).trans rfl
  have eg : ∀ args w, (callFunc 47 args).run Tryz.prog w = .ok (.enter 47 args) w := enters_of Tryz.func47 (by kernel_rfl) rfl
  have hN : L.length ≤ 9223372036854775807 := by omega
  clear hp hz L2 I2
  go_enter Tryz.func24, Tryz.ntmps24
  go_upto_region 1 with (fail)
  rw [← hw2]
  clear hw2
  go_upto_region 2 with (go_at_call 46; refine (sortSearch_any _ _ eg L.length _ w2 (by omega) HA.out HM.out).mono ?_; rintro e w3 ⟨i, rfl, hi, hlo, hhi, b3⟩)
  have PL : Hid (Plc L id i) := Lib.hid ⟨hi, fun j hj => by have := of_decide_eq_false (hlo j hj); omega, fun j h1 h2 => of_decide_eq_true (hhi j h1 h2)⟩
  have hq := PL.out.has HP.out
  have BB := Lib.hid (b2.trans (b3.mono b2.size))
  obtain ⟨z3, L3, I3⟩ := HZ.out w3 b3
  have d0 := (L3.cell 0).trans rfl
  have d1 := (I3.cell 0).trans rfl
  clear hlo hhi L3 I3 c0 b3 b2
  by_cases hlt : i < L.length
  · obtain ⟨g, o, rfl, _, r0, _⟩ := z3.at i hlt
    rw [idAt_in hlt] at hq
    have i0 : (0 : Int) ≤ (i : Int) := by omega
    have i1 : (i : Int) < (L.length : Int) := by omega
    generalize L[i].id = x at r0 hq
    by_cases hx : x = id
    · have hq' : hasId id L = true := by rw [hq]; exact decide_eq_true ⟨hlt, hx⟩
      have HQ := Lib.hid hq'
      subst hx
      clear hq hq' z3 hi
      go_wp2_with fail
      go_quiet (fail)
      go_wp2
      go_ret2
      exact ⟨i, by rw [HQ.out]; rfl, PL.out, bdrewN BB.out nq⟩
    · have hq' : hasId id L = false := by rw [hq]; exact decide_eq_false (fun h => hx h.2)
      have HQ := Lib.hid hq'
      have hx1 : (x == id) = false := by simp [hx]
      clear hq hq' z3 hi
      go_wp2_with fail
      go_quiet (fail)
      go_wp2
      go_ret2
      exact ⟨i, by rw [HQ.out]; rfl, PL.out, bdrewN BB.out nq⟩
  · have hq' : hasId id L = false := by rw [hq]; exact decide_eq_false (fun h => hlt h.1)
    have HQ := Lib.hid hq'
    obtain rfl : i = L.length := by omega
    clear hq hq' z3 hi hlt
    go_wp2_with fail
    go_quiet (fail)
    go_wp2
    go_ret2
    exact ⟨_, by rw [HQ.out]; rfl, PL.out, bdrewN BB.out nq⟩
set_option maxRecDepth 100000 in
/-- The label of a fate and a port. -/
theorem labelOf_any (f : Int) (p : Pt) (w : World) : Calls Tryz.prog 44 #[.int .i64 f, .agg (ptA p)] w fun e w' => e = .returned (.int .i64 (labP (f, p))) ∧ Below w.heap.size w w' := by
  obtain ⟨a, b⟩ := p
  unfold labP ptA
  dsimp only
  have c0 := (At.new w #[.int .i64 a, .int .i64 b] 81).cell 1
  have b0 : Below w.heap.size w (w.alloc (.cells #[.int .i64 a, .int .i64 b] 81)) := (Below.refl _ w).alloc (Nat.le_refl _) _
  by_cases h2 : f = 2
  · subst h2
    go_enter Tryz.func44, Tryz.ntmps44
    go_wp2
    go_ret
    exact ⟨rfl, b0⟩
  · by_cases h1 : f = 1
    · subst h1
      go_enter Tryz.func44, Tryz.ntmps44
      go_wp2
      go_ret
      exact ⟨rfl, b0⟩
    · by_cases h0 : f = 0
      · subst h0
        go_enter Tryz.func44, Tryz.ntmps44
        go_wp2
        go_ret
        exact ⟨rfl, b0⟩
      · rw [if_neg h2, if_neg h1, if_neg h0]
        go_enter Tryz.func44, Tryz.ntmps44
        go_wp2
        go_ret
        exact ⟨rfl, b0⟩
end Go.Proofs.YtlhfaildeemngaaGreat
/- Contract of package label: tableOf. -/
namespace Go.Proofs.YtlhfaildeemngaaGreat
open Go.RowKit Go.Shelf

theorem rgL_take {L : List Ru} {k : Nat} (hk : k < L.length) : rgL (L.take (k + 1)) = rgL (L.take k) ++ [(L[k].f, L[k].t)] := by
  rw [List.take_succ_eq_append_getElem hk]
  unfold rgL
  rw [List.map_append]
  rfl
theorem rgL_len (L : List Ru) : (rgL L).length = L.length := by simp [rgL]
set_option maxRecDepth 100000 in
set_option maxHeartbeats 1000000 in
theorem tableOf_any {v : Value} (L : List Ru) (w : World) (hR : Tr.RL (rgL L)) (hl : L.length ≤ 400) (h : IsR w v L) : Calls Tryz.prog 17 #[v] w fun e w' => ∃ t, e = .returned t ∧ Tr.IsTab w' t (rgL L) ∧ Below w.heap.size w w' := by
  obtain ⟨A, c, rfl, n1, m1, z⟩ := h
  have HZ := Lib.hid z
  have HR := Lib.hid hR
  have hN : L.length ≤ 9223372036854775807 := by omega
  clear z hR
  go_enter Tryz.func17, Tryz.ntmps17
  go_wp2_with (go_at_call 40; refine (Tr.new_any _).mono ?_; rintro e w1 ⟨vt, rfl, ht, b1⟩; obtain ⟨B1, rfl⟩ := ht.ptr)
  have HT := Lib.hid ht
  clear ht
  go_loopw [3, 9] (fun tv i wr => ∃ k B : Nat, i = .int .i64 k ∧ tv = .pointer (some ⟨B, 0, none⟩) ∧ k ≤ L.length ∧ Hid (Tr.IsTab wr (.pointer (some ⟨B, 0, none⟩)) (rgL (L.take k))) ∧ Below w.heap.size w wr) (fun _ i _ => L.length - (intOf i).toNat)
  case atStart => exact ⟨0, B1, rfl, rfl, by omega, HT, b1⟩
  case round =>
    obtain ⟨k, B, rfl, rfl, hk, HI, hb⟩ := hrel
    by_cases hlt : k < L.length
    · obtain ⟨g, o, rfl, hg, r0, r1, r2, r3, r4, r5, r6⟩ := (HZ.out.belows hb).at k hlt
      have hr := HR.out.1 (L[k].f, L[k].t) (by unfold rgL; exact List.mem_map.2 ⟨L[k], List.getElem_mem hlt, rfl⟩)
      have HE := Lib.hid (rgL_take hlt)
      have hlen : (rgL (L.take k)).length < 500 := by rw [rgL_len, List.length_take]; omega
      have i0 : (0 : Int) ≤ (k : Int) := by omega
      have i1 : (k : Int) < (L.length : Int) := by omega
      generalize L[k] = x at r0 r1 r2 r3 r4 r5 r6 HE hr
      obtain ⟨id, dv, pr, kd, f, t, pt⟩ := x
      dsimp only at r0 r1 r2 r3 r4 r5 r6 HE hr
      obtain ⟨w2, hw2⟩ : ∃ w2, w2 = wr.alloc (.cells #[.int .i64 id, .int .i64 dv, .int .i64 pr, .int .i64 kd, .int .u32 f, .int .u32 t, .int .i64 pt] 41) := ⟨_, rfl⟩
      have b2 : Below wr.heap.size wr w2 := by rw [hw2]; exact (Below.refl _ wr).alloc (Nat.le_refl _) _
      have ha := Tr.add_ok (rgL (L.take k)) f t w2 (HI.out.any.belows b2) hr.1 hr.2 hlen
      have HB2 := Lib.hid (hb.trans (b2.mono hb.size))
      rw [hw2] at ha HB2
      clear hw2 b2 hr hlen
      go_wp2_with (go_at_call 41; refine ha.mono ?_; rintro e w3 ⟨v3, rfl, t3, b3⟩; obtain ⟨B3, rfl⟩ := t3.ptr)
      go_roundw
      case rel => exact ⟨k + 1, B3, by go_num, rfl, by omega, Lib.hid (by rw [HE.out]; exact t3), HB2.out.trans (b3.mono HB2.out.size)⟩
      case measure => simp [intOf]; omega
    · obtain rfl : k = L.length := by omega
      go_wp2
      go_ret
      exact ⟨_, rfl, by have := HI.out; rwa [List.take_length] at this, hb⟩
end Go.Proofs.YtlhfaildeemngaaGreat
/- Words: a table of rows of numbers in memory, row by row filled (over any program, but for the element types' numbers). -/
namespace Go.Proofs.YtlhfaildeemngaaGreat
open Go.RowKit Go.Shelf

/-- A row of numbers of which so many are told. -/
def rwC (p : Nat → Int) (N i : Nat) : Array Value := ((List.range N).map fun j => Value.int .i64 (if j < i then p j else 0)).toArray
theorem rwC_size (p : Nat → Int) (N i : Nat) : (rwC p N i).size = N := by simp [rwC]
theorem rwC_at (p : Nat → Int) (N i j : Nat) (h : j < N) : (rwC p N i)[j]? = some (.int .i64 (if j < i then p j else 0)) := by simp [rwC, h]
theorem rwC_set (p : Nat → Int) (N i : Nat) : (rwC p N i).setIfInBounds i (.int .i64 (p i)) = rwC p N (i + 1) := by
  apply Array.ext_getElem?
  intro j
  rw [Array.getElem?_setIfInBounds]
  by_cases hij : i = j
  · subst hij
    by_cases hj : i < N <;> simp [rwC, hj]
  · rw [if_neg hij]
    by_cases hj : j < N
    · have : (j < i) = (j < i + 1) := propext ⟨fun h => by omega, fun h => by omega⟩
      simp [rwC, hj, this]
    · simp [rwC, hj]
theorem made_ints (p : Nat → Int) (n : Nat) : madeCells #[.int .i64 0] n = rwC p n 0 := by
  apply Array.ext
  · simp [madeCells, rwC]
  · intro i h1 h2
    simp [madeCells, rwC, Nat.mod_one]
theorem made_nils (n : Nat) : ∀ d, d < n → (madeCells #[.slice none 0 0] n)[d]? = some (.slice none 0 0) := by
  intro d h
  simp [madeCells, Nat.mod_one, h]
theorem infoInts : (Tryz.prog.info? 22).map (fun i => (i.zero, i.size, i.bytes)) = some (some (.slice none 0 0), 1, 24) := by kernel_rfl
/-- Rows, of which the first k are told. -/
def TB (w : World) (g N D k : Nat) (q : Nat → Nat → Int) : Prop := ∃ cs : Array Value, At w g cs 22 ∧ cs.size = D ∧
  (∀ d, d < k → d < D → ∃ gd, g < gd ∧ cs[d]? = some (.slice (some ⟨gd, 0, none⟩) N N) ∧ At w gd (rwC (q d) N N) 3) ∧ (∀ d, k ≤ d → d < D → cs[d]? = some (.slice none 0 0))
/-- .. and i numbers of the row k. -/
def TI (w : World) (g N D k gk i : Nat) (q : Nat → Nat → Int) : Prop := k < D ∧ g < gk ∧ At w gk (rwC (q k) N i) 3 ∧ ∃ cs : Array Value, At w g cs 22 ∧ cs.size = D ∧ cs[k]? = some (.slice (some ⟨gk, 0, none⟩) N N) ∧
  (∀ d, d < k → d < D → ∃ gd, g < gd ∧ gd ≠ gk ∧ cs[d]? = some (.slice (some ⟨gd, 0, none⟩) N N) ∧ At w gd (rwC (q d) N N) 3) ∧ (∀ d, k < d → d < D → cs[d]? = some (.slice none 0 0))
theorem TB.belows {w w' : World} {g N D k : Nat} {q : Nat → Nat → Int} (h : TB w g N D k q) (hb : Below w.heap.size w w') : TB w' g N D k q := by
  obtain ⟨cs, h1, h2, h3, h4⟩ := h
  exact ⟨cs, h1.belows hb, h2, fun d hd hD => by
    obtain ⟨gd, a, b, c⟩ := h3 d hd hD
    exact ⟨gd, a, b, c.belows hb⟩, h4⟩
theorem TI.belows {w w' : World} {g N D k gk i : Nat} {q : Nat → Nat → Int} (h : TI w g N D k gk i q) (hb : Below w.heap.size w w') : TI w' g N D k gk i q := by
  obtain ⟨h0, h1, h2, cs, h3, h4, h5, h6, h7⟩ := h
  exact ⟨h0, h1, h2.belows hb, cs, h3.belows hb, h4, h5, fun d hd hD => by
    obtain ⟨gd, a, b, c, e⟩ := h6 d hd hD
    exact ⟨gd, a, b, c, e.belows hb⟩, h7⟩
theorem TB.start {w : World} {g N D : Nat} {q : Nat → Nat → Int} {cs : Array Value} (h : At w g cs 22) (hs : cs.size = D) (hz : ∀ d, d < D → cs[d]? = some (.slice none 0 0)) : TB w g N D 0 q :=
  ⟨cs, h, hs, fun d hd => by omega, fun d _ hD => hz d hD⟩
theorem TB.lt {w : World} {g N D k : Nat} {q : Nat → Nat → Int} (h : TB w g N D k q) : g < w.heap.size := by
  obtain ⟨cs, h1, _⟩ := h
  exact h1.lt
/-- A row is made and put in. -/
theorem TI.of {w : World} {g N D k : Nat} {q : Nat → Nat → Int} (h : TB w g N D k q) (hk : k < D) : TI ((w.alloc (.cells (rwC (q k) N 0) 3)).setCell ⟨g, k, none⟩ (.slice (some ⟨w.heap.size, 0, none⟩) N N)) g N D k w.heap.size 0 q := by
  obtain ⟨cs, h1, h2, h3, h4⟩ := h
  have hg := h1.lt
  refine ⟨hk, hg, (At.new w _ _).other (by omega) k _, _, (h1.alloc _).set0 k _, by simpa using h2, ?_, fun d hd hD => ?_, fun d hd hD => ?_⟩
  · rw [Array.getElem?_setIfInBounds, if_pos rfl, if_pos (by omega)]
  · obtain ⟨gd, a, b, c⟩ := h3 d hd hD
    have hgd := c.lt
    refine ⟨gd, a, by omega, ?_, (c.alloc _).other (by omega) k _⟩
    rw [Array.getElem?_setIfInBounds, if_neg (by omega)]
    exact b
  · rw [Array.getElem?_setIfInBounds, if_neg (by omega)]
    exact h4 d (by omega) hD
/-- .. in the walk's order. -/
theorem TI.of' {w : World} {g N D k : Nat} {q : Nat → Nat → Int} (h : TB w g N D k q) (hk : k < D) : TI ((w.setCell ⟨g, k, none⟩ (.slice (some ⟨w.heap.size, 0, none⟩) N N)).alloc (.cells (rwC (q k) N 0) 3)) g N D k w.heap.size 0 q := by
  obtain ⟨cs, h1, h2, h3, h4⟩ := h
  have hg := h1.lt
  have hs : (w.setCell ⟨g, k, none⟩ (.slice (some ⟨w.heap.size, 0, none⟩) N N)).heap.size = w.heap.size := by simp
  refine ⟨hk, hg, ?_, _, (h1.set0 k _).alloc _, by simpa using h2, ?_, fun d hd hD => ?_, fun d hd hD => ?_⟩
  · have := At.new (w.setCell ⟨g, k, none⟩ (.slice (some ⟨w.heap.size, 0, none⟩) N N)) (rwC (q k) N 0) 3
    rwa [hs] at this
  · rw [Array.getElem?_setIfInBounds, if_pos rfl, if_pos (by omega)]
  · obtain ⟨gd, a, b, c⟩ := h3 d hd hD
    have hgd := c.lt
    refine ⟨gd, a, by omega, ?_, (c.other (by omega) k _).alloc _⟩
    rw [Array.getElem?_setIfInBounds, if_neg (by omega)]
    exact b
  · rw [Array.getElem?_setIfInBounds, if_neg (by omega)]
    exact h4 d (by omega) hD
/-- A number is told. -/
theorem TI.step {w : World} {g N D k gk i : Nat} {q : Nat → Nat → Int} (h : TI w g N D k gk i q) {v : Int} (hv : v = q k i) : TI (w.setCell ⟨gk, i, none⟩ (.int .i64 v)) g N D k gk (i + 1) q := by
  subst hv
  obtain ⟨h0, h1, h2, cs, h3, h4, h5, h6, h7⟩ := h
  refine ⟨h0, h1, ?_, cs, h3.other (by omega) i _, h4, h5, fun d hd hD => ?_, h7⟩
  · have := h2.set0 i (.int .i64 (q k i))
    rwa [rwC_set] at this
  · obtain ⟨gd, a, b, c, e⟩ := h6 d hd hD
    exact ⟨gd, a, b, c, e.other b i _⟩
theorem TI.done {w : World} {g N D k gk : Nat} {q : Nat → Nat → Int} (h : TI w g N D k gk N q) : TB w g N D (k + 1) q := by
  obtain ⟨h0, h1, h2, cs, h3, h4, h5, h6, h7⟩ := h
  refine ⟨cs, h3, h4, fun d hd hD => ?_, fun d hd hD => h7 d (by omega) hD⟩
  by_cases e : d = k
  · subst e
    exact ⟨gk, h1, h5, h2⟩
  · obtain ⟨gd, a, _, c, e⟩ := h6 d (by omega) hD
    exact ⟨gd, a, c, e⟩
/-- The cells that are read and written. -/
theorem TI.cells {w : World} {g N D k gk i : Nat} {q : Nat → Nat → Int} (h : TI w g N D k gk i q) (hi : i < N) :
    w.cell? ⟨g, k, none⟩ = some (.slice (some ⟨gk, 0, none⟩) N N) ∧ w.cell? ⟨gk, i, none⟩ = some (.int .i64 0) ∧ w.frozen? ⟨gk, i, none⟩ = false ∧ gk < w.heap.size ∧ g < w.heap.size := by
  obtain ⟨h0, h1, h2, cs, h3, h4, h5, h6, h7⟩ := h
  refine ⟨(h3.cell k).trans h5, (h2.cell i).trans ?_, h2.frozen i, h2.lt, h3.lt⟩
  rw [rwC_at _ _ _ _ hi, if_neg (by omega)]
theorem TB.cells {w : World} {g N D k : Nat} {q : Nat → Nat → Int} (h : TB w g N D k q) (hk : k < D) : w.cell? ⟨g, k, none⟩ = some (.slice none 0 0) ∧ w.frozen? ⟨g, k, none⟩ = false := by
  obtain ⟨cs, h1, h2, h3, h4⟩ := h
  exact ⟨(h1.cell k).trans (h4 k (Nat.le_refl _) hk), h1.frozen k⟩
/-- What is told. -/
theorem TB.row {w : World} {g N D : Nat} {q : Nat → Nat → Int} (h : TB w g N D D q) {d : Nat} (hd : d < D) : ∃ gd, w.cell? ⟨g, d, none⟩ = some (.slice (some ⟨gd, 0, none⟩) N N) ∧ ∀ i, i < N → w.cell? ⟨gd, i, none⟩ = some (.int .i64 (q d i)) := by
  obtain ⟨cs, h1, h2, h3, h4⟩ := h
  obtain ⟨gd, a, b, c⟩ := h3 d hd hd
  refine ⟨gd, (h1.cell d).trans b, fun i hi => (c.cell i).trans ?_⟩
  rw [rwC_at _ _ _ _ hi, if_pos hi]
/-- Blocks that hold networks are none of these. -/
theorem exc_tb {H : Nat → Prop} {W W' : World} (hx : Exc H W W') (hn : Nets H W) {g N D k : Nat} {q : Nat → Nat → Int} (h : TB W g N D k q) : TB W' g N D k q := by
  obtain ⟨cs, h1, h2, h3, h4⟩ := h
  exact ⟨cs, h1.exc hx hn (by decide), h2, fun d hd hD => by
    obtain ⟨gd, a, b, c⟩ := h3 d hd hD
    exact ⟨gd, a, b, c.exc hx hn (by decide)⟩, h4⟩
end Go.Proofs.YtlhfaildeemngaaGreat
/- Contracts: taking, Match, Denies, Find. -/
namespace Go.Proofs.YtlhfaildeemngaaGreat
open Go.RowKit Go.Shelf

/-- What taking answers. -/
def TakeOut (d one oth : Int) (a : Nat) (w : World) (e : Ending) (w' : World) : Prop := ∃ C0 C1 C2 C3 : Nat, e = .returned (.func (.func 95) #[] #[.pointer (some ⟨C0, 0, none⟩), .pointer (some ⟨C1, 0, none⟩), .pointer (some ⟨C2, 0, none⟩), .pointer (some ⟨C3, 0, none⟩)]) ∧
  At w' C0 #[.int .i64 d] 3 ∧ At w' C1 #[.int .i64 one] 36 ∧ At w' C2 #[.int .i64 oth] 36 ∧ At w' C3 #[.int .u32 a] 37 ∧ Below w.heap.size w w'
theorem taking_any (d one oth : Int) (a : Nat) (w : World) : Calls Tryz.prog 87 #[.int .i64 d, .int .u32 a, .int .i64 one, .int .i64 oth] w (TakeOut d one oth a w) := by
  go_enter Tryz.func87, Tryz.ntmps87
  go_wp2
  go_ret
  refine ⟨w.heap.size, w.heap.size + 1 + 1, w.heap.size + 1 + 1 + 1, w.heap.size + 1, rfl, ?_, ?_, ?_, ?_, ?_⟩
  · exact (((At.new w _ _).alloc _).alloc _).alloc _
  · exact (At.new2 w _ _ _ _).alloc _
  · have := At.new2 (w.alloc (.cells #[.int .i64 d] 3)) (.cells #[.int .u32 a] 37) (.cells #[.int .i64 one] 36) #[.int .i64 oth] 36
    rwa [World.size_alloc] at this
  · exact ((At.new1 w _ _ _).alloc _).alloc _
  · exact ((((Below.refl _ _).alloc (Nat.le_refl _) _).alloc (by simp) _).alloc (by simp; omega) _).alloc (by simp; omega) _

theorem taking_asks {d one oth : Int} {a C0 C1 C2 C3 : Nat} {w : World} (L : List Ru) (h0 : At w C0 #[.int .i64 d] 3) (h1 : At w C1 #[.int .i64 one] 36) (h2 : At w C2 #[.int .i64 oth] 36) (h3 : At w C3 #[.int .u32 a] 37) :
    Asks 95 #[.pointer (some ⟨C0, 0, none⟩), .pointer (some ⟨C1, 0, none⟩), .pointer (some ⟨C2, 0, none⟩), .pointer (some ⟨C3, 0, none⟩)] L (tk d one oth a) w :=
  fun k hk W hb => taking1_any L[k] d one oth a C0 C1 C2 C3 W (h0.belows hb) (h1.belows hb) (h2.belows hb) (h3.belows hb)
theorem enters_taking1 : ∀ args w, (callFunc 95 args).run Tryz.prog w = .ok (.enter 95 args) w := enters_of Tryz.func95 (by kernel_rfl) rfl

set_option maxRecDepth 100000 in
/-- rule.Match. -/
theorem match_any {v : Value} (L : List Ru) (d : Int) (a : Nat) (w : World) (h : IsR w v L) : Calls Tryz.prog 67 #[v, .int .i64 d, .int .u32 a] w fun e w' => e = .returned (firstV (firstL (tk d 0 1 a) L)) ∧ Below w.heap.size w w' := by
  have H := Lib.hid h
  obtain ⟨A1, c1, rfl, n1, m1, z1⟩ := h
  clear z1
  obtain ⟨y, hy⟩ : ∃ y, y = firstL (tk d 0 1 a) L := ⟨_, rfl⟩
  rw [← hy]
  obtain ⟨x, hx⟩ : ∃ x, x = y.getD ru0 := ⟨_, rfl⟩
  have hV : firstV y = .tuple #[.agg (ruA x), .bool y.isSome] := by rw [hx]; rfl
  rw [hV]
  generalize hq : y.isSome = q at hV ⊢
  have HV := Lib.hid hV
  have HY := Lib.hid hy
  clear hV hx hq hy
  obtain ⟨id, dv, pr, kd, f, t, pt⟩ := x
  have Z0 := At.new w (ruA ru0) 41
  have b0 : Below w.heap.size w (w.alloc (.cells (ruA ru0) 41)) := (Below.refl _ _).alloc (Nat.le_refl _) _
  rw [rd0] at Z0 b0
  go_enter Tryz.func67, Tryz.ntmps67
  go_wp2_with (first | (go_at_call 87; refine (taking_any _ _ _ _ _).mono ?_; rintro e w1 ⟨C0, C1, C2, C3, rfl, k0, k1, k2, k3, b1⟩; have Z1 := Z0.belows b1; have H1 : Hid (IsR w1 (.slice A1 L.length c1) L) := Lib.hid ((H.out.belows b0).belows b1); have HK : Hid (Asks 95 #[.pointer (some ⟨C0, 0, none⟩), .pointer (some ⟨C1, 0, none⟩), .pointer (some ⟨C2, 0, none⟩), .pointer (some ⟨C3, 0, none⟩)] L (tk d 0 1 a) w1) := Lib.hid (taking_asks L k0 k1 k2 k3); clear k0 k1 k2 k3) | (go_at_call 86; refine (first_any _ _ enters_taking1 L (tk d 0 1 a) _ HK.out H1.out).mono ?_; rintro e w2 ⟨rfl, b2⟩; rw [← HY.out, HV.out, ruA_mk]; have Z2 := Z1.belows b2; have y0 := (Z2.cell 0).trans rfl; have q0 := Z2.frozen 0; have y1 := (Z2.cell 1).trans rfl; have q1 := Z2.frozen 1; have y2 := (Z2.cell 2).trans rfl; have q2 := Z2.frozen 2; have y3 := (Z2.cell 3).trans rfl; have q3 := Z2.frozen 3; have y4 := (Z2.cell 4).trans rfl; have q4 := Z2.frozen 4; have y5 := (Z2.cell 5).trans rfl; have q5 := Z2.frozen 5; have y6 := (Z2.cell 6).trans rfl; have q6 := Z2.frozen 6))
  have Z := At.fill (y := ru0) Z2 ⟨id, dv, pr, kd, f, t, pt⟩
  unfold fillW ruA at Z
  have y0 := Z.cell 0; have y1 := Z.cell 1; have y2 := Z.cell 2; have y3 := Z.cell 3; have y4 := Z.cell 4; have y5 := Z.cell 5; have y6 := Z.cell 6
  dsimp only at y0 y1 y2 y3 y4 y5 y6
  refine bodyPost_ret (v := .tuple #[.agg (ruA ⟨id, dv, pr, kd, f, t, pt⟩), .bool q]) ?_ rfl ⟨rfl, below_fill ((b0.trans (b1.mono b0.size)).trans (b2.mono (Nat.le_trans b0.size b1.size))) (Nat.le_refl _) ⟨id, dv, pr, kd, f, t, pt⟩⟩
  simp [results, Tryz.results67, go_sem, y0, y1, y2, y3, y4, y5, y6, ruA_mk]

set_option maxRecDepth 100000 in
/-- rule.Denies. -/
theorem denies_any {v : Value} (L : List Ru) (d : Int) (a : Nat) (w : World) (h : IsR w v L) : Calls Tryz.prog 66 #[v, .int .i64 d, .int .u32 a] w fun e w' => e = .returned (.bool ((firstL (tk d 2 3 a) L).isSome && decide (((firstL (tk d 2 3 a) L).getD ru0).kd = 3))) ∧ Below w.heap.size w w' := by
  have H := Lib.hid h
  obtain ⟨A1, c1, rfl, n1, m1, z1⟩ := h
  clear z1
  obtain ⟨y, hy⟩ : ∃ y, y = firstL (tk d 2 3 a) L := ⟨_, rfl⟩
  rw [← hy]
  obtain ⟨x, hx⟩ : ∃ x, x = y.getD ru0 := ⟨_, rfl⟩
  have hV : firstV y = .tuple #[.agg (ruA x), .bool y.isSome] := by rw [hx]; rfl
  rw [← hx]
  generalize hq : y.isSome = q at hV ⊢
  have HV := Lib.hid hV
  have HY := Lib.hid hy
  clear hV hx hq hy
  obtain ⟨id, dv, pr, kd, f, t, pt⟩ := x
  dsimp only
  have hk : (kd == 3) = decide (kd = 3) := rfl
  have fin : ∀ (w1 w2 : World), Below w.heap.size w w1 → Below w1.heap.size w1 w2 → Below w.heap.size w (w2.alloc (.cells (ruA ⟨id, dv, pr, kd, f, t, pt⟩) 41)) := fun w1 w2 b1 b2 => (b1.trans (b2.mono b1.size)).alloc (Nat.le_trans b1.size b2.size) _
  cases q with
  | false =>
    simp only [Bool.false_and]
    go_enter Tryz.func66, Tryz.ntmps66
    go_wp2_with (first | (go_at_call 87; refine (taking_any _ _ _ _ _).mono ?_; rintro e w1 ⟨C0, C1, C2, C3, rfl, k0, k1, k2, k3, b1⟩; have H1 : Hid (IsR w1 (.slice A1 L.length c1) L) := Lib.hid (H.out.belows b1); have HK : Hid (Asks 95 #[.pointer (some ⟨C0, 0, none⟩), .pointer (some ⟨C1, 0, none⟩), .pointer (some ⟨C2, 0, none⟩), .pointer (some ⟨C3, 0, none⟩)] L (tk d 2 3 a) w1) := Lib.hid (taking_asks L k0 k1 k2 k3); clear k0 k1 k2 k3) | (go_at_call 86; refine (first_any _ _ enters_taking1 L (tk d 2 3 a) _ HK.out H1.out).mono ?_; rintro e w2 ⟨rfl, b2⟩; rw [← HY.out, HV.out, ruA_mk]))
    go_ret
    exact ⟨rfl, fin w1 w2 b1 b2⟩
  | true =>
    simp only [Bool.true_and]
    go_enter Tryz.func66, Tryz.ntmps66
    go_wp2_with (first | (go_at_call 87; refine (taking_any _ _ _ _ _).mono ?_; rintro e w1 ⟨C0, C1, C2, C3, rfl, k0, k1, k2, k3, b1⟩; have H1 : Hid (IsR w1 (.slice A1 L.length c1) L) := Lib.hid (H.out.belows b1); have HK : Hid (Asks 95 #[.pointer (some ⟨C0, 0, none⟩), .pointer (some ⟨C1, 0, none⟩), .pointer (some ⟨C2, 0, none⟩), .pointer (some ⟨C3, 0, none⟩)] L (tk d 2 3 a) w1) := Lib.hid (taking_asks L k0 k1 k2 k3); clear k0 k1 k2 k3) | (go_at_call 86; refine (first_any _ _ enters_taking1 L (tk d 2 3 a) _ HK.out H1.out).mono ?_; rintro e w2 ⟨rfl, b2⟩; rw [← HY.out, HV.out, ruA_mk]))
    go_ret
    exact ⟨rfl, fin w1 w2 b1 b2⟩

end Go.Proofs.YtlhfaildeemngaaGreat
/- Contracts: rule.within, rule.Right. -/
namespace Go.Proofs.YtlhfaildeemngaaGreat
open Go.RowKit Go.Shelf

theorem within_any (n a b : Int) (w : World) : Calls Tryz.prog 78 #[.int .i64 n, .int .i64 a, .int .i64 b] w fun e w' => e = .returned (.bool (wn n a b)) ∧ w = w' := by
  by_cases h : a ≤ n
  · have d1 : decide (a ≤ n) = true := decide_eq_true h
    unfold wn; rw [d1, Bool.true_and]
    go_enter Tryz.func78, Tryz.ntmps78
    go_wp2
    go_ret
    exact ⟨rfl, rfl⟩
  · have d1 : decide (a ≤ n) = false := decide_eq_false h
    unfold wn; rw [d1, Bool.false_and]
    go_enter Tryz.func78, Tryz.ntmps78
    go_wp2
    go_ret
    exact ⟨rfl, rfl⟩

set_option maxRecDepth 100000 in
theorem ruright_fwd (id dv pr kd : Int) (f t : Nat) (pt : Int) (w : World) (h0 : kd = 0) : Calls Tryz.prog 59 #[.agg #[.int .i64 id, .int .i64 dv, .int .i64 pr, .int .i64 kd, .int .u32 f, .int .u32 t, .int .i64 pt]] w fun e w' => e = .returned (.bool (wn id 1 1048576 && (wn dv 0 7 && (wn pr 0 1024 && (decide (0 ≤ kd) && (decide (kd ≤ 3) && (decide (f ≤ t) && wn pt 0 3))))))) ∧ Below w.heap.size w w' := by
  have d0 : (kd == 0) = true := by simpa using h0
  clear h0
  cases h1 : wn id 1 1048576 with
  | false =>
    simp only [Bool.false_and]
    go_enter Tryz.func59, Tryz.ntmps59
    go_wp2_with (go_at_call 78; refine (within_any _ _ _ _).mono ?_; rintro e w1 ⟨rfl, rfl⟩)
    go_ret
    exact ⟨rfl, (Below.refl _ _).alloc (Nat.le_refl _) _⟩
  | true =>
    cases h2 : wn dv 0 7 with
    | false =>
      simp only [Bool.true_and, Bool.false_and]
      go_enter Tryz.func59, Tryz.ntmps59
      go_wp2_with (go_at_call 78; refine (within_any _ _ _ _).mono ?_; rintro e w1 ⟨rfl, rfl⟩)
      go_ret
      exact ⟨rfl, (Below.refl _ _).alloc (Nat.le_refl _) _⟩
    | true =>
      cases h3 : wn pr 0 1024 with
      | false =>
        simp only [Bool.true_and, Bool.false_and]
        go_enter Tryz.func59, Tryz.ntmps59
        go_wp2_with (go_at_call 78; refine (within_any _ _ _ _).mono ?_; rintro e w1 ⟨rfl, rfl⟩)
        go_ret
        exact ⟨rfl, (Below.refl _ _).alloc (Nat.le_refl _) _⟩
      | true =>
        cases h4 : decide (0 ≤ kd) with
        | false =>
          simp only [Bool.true_and, Bool.false_and]
          go_enter Tryz.func59, Tryz.ntmps59
          go_wp2_with (go_at_call 78; refine (within_any _ _ _ _).mono ?_; rintro e w1 ⟨rfl, rfl⟩)
          go_ret
          exact ⟨rfl, (Below.refl _ _).alloc (Nat.le_refl _) _⟩
        | true =>
          cases h5 : decide (kd ≤ 3) with
          | false =>
            simp only [Bool.true_and, Bool.false_and]
            go_enter Tryz.func59, Tryz.ntmps59
            go_wp2_with (go_at_call 78; refine (within_any _ _ _ _).mono ?_; rintro e w1 ⟨rfl, rfl⟩)
            go_ret
            exact ⟨rfl, (Below.refl _ _).alloc (Nat.le_refl _) _⟩
          | true =>
            cases h6 : decide (f ≤ t) with
            | false =>
              have h6i : decide ((f : Int) ≤ (t : Int)) = false := by rw [← h6]; congr 1; simp
              simp only [Bool.true_and, Bool.false_and]
              go_enter Tryz.func59, Tryz.ntmps59
              go_wp2_with (go_at_call 78; refine (within_any _ _ _ _).mono ?_; rintro e w1 ⟨rfl, rfl⟩)
              go_ret
              exact ⟨rfl, (Below.refl _ _).alloc (Nat.le_refl _) _⟩
            | true =>
              have h6i : decide ((f : Int) ≤ (t : Int)) = true := by rw [← h6]; congr 1; simp
              simp only [Bool.true_and]
              go_enter Tryz.func59, Tryz.ntmps59
              go_wp2_with (go_at_call 78; refine (within_any _ _ _ _).mono ?_; rintro e w1 ⟨rfl, rfl⟩)
              go_ret
              exact ⟨rfl, (Below.refl _ _).alloc (Nat.le_refl _) _⟩
set_option maxRecDepth 100000 in
theorem ruright_oth (id dv pr kd : Int) (f t : Nat) (pt : Int) (w : World) (h0 : ¬ kd = 0) : Calls Tryz.prog 59 #[.agg #[.int .i64 id, .int .i64 dv, .int .i64 pr, .int .i64 kd, .int .u32 f, .int .u32 t, .int .i64 pt]] w fun e w' => e = .returned (.bool (wn id 1 1048576 && (wn dv 0 7 && (wn pr 0 1024 && (decide (0 ≤ kd) && (decide (kd ≤ 3) && (decide (f ≤ t) && wn pt 0 0))))))) ∧ Below w.heap.size w w' := by
  have d0 : (kd == 0) = false := by simpa using h0
  clear h0
  cases h1 : wn id 1 1048576 with
  | false =>
    simp only [Bool.false_and]
    go_enter Tryz.func59, Tryz.ntmps59
    go_wp2_with (go_at_call 78; refine (within_any _ _ _ _).mono ?_; rintro e w1 ⟨rfl, rfl⟩)
    go_ret
    exact ⟨rfl, (Below.refl _ _).alloc (Nat.le_refl _) _⟩
  | true =>
    cases h2 : wn dv 0 7 with
    | false =>
      simp only [Bool.true_and, Bool.false_and]
      go_enter Tryz.func59, Tryz.ntmps59
      go_wp2_with (go_at_call 78; refine (within_any _ _ _ _).mono ?_; rintro e w1 ⟨rfl, rfl⟩)
      go_ret
      exact ⟨rfl, (Below.refl _ _).alloc (Nat.le_refl _) _⟩
    | true =>
      cases h3 : wn pr 0 1024 with
      | false =>
        simp only [Bool.true_and, Bool.false_and]
        go_enter Tryz.func59, Tryz.ntmps59
        go_wp2_with (go_at_call 78; refine (within_any _ _ _ _).mono ?_; rintro e w1 ⟨rfl, rfl⟩)
        go_ret
        exact ⟨rfl, (Below.refl _ _).alloc (Nat.le_refl _) _⟩
      | true =>
        cases h4 : decide (0 ≤ kd) with
        | false =>
          simp only [Bool.true_and, Bool.false_and]
          go_enter Tryz.func59, Tryz.ntmps59
          go_wp2_with (go_at_call 78; refine (within_any _ _ _ _).mono ?_; rintro e w1 ⟨rfl, rfl⟩)
          go_ret
          exact ⟨rfl, (Below.refl _ _).alloc (Nat.le_refl _) _⟩
        | true =>
          cases h5 : decide (kd ≤ 3) with
          | false =>
            simp only [Bool.true_and, Bool.false_and]
            go_enter Tryz.func59, Tryz.ntmps59
            go_wp2_with (go_at_call 78; refine (within_any _ _ _ _).mono ?_; rintro e w1 ⟨rfl, rfl⟩)
            go_ret
            exact ⟨rfl, (Below.refl _ _).alloc (Nat.le_refl _) _⟩
          | true =>
            cases h6 : decide (f ≤ t) with
            | false =>
              have h6i : decide ((f : Int) ≤ (t : Int)) = false := by rw [← h6]; congr 1; simp
              simp only [Bool.true_and, Bool.false_and]
              go_enter Tryz.func59, Tryz.ntmps59
              go_wp2_with (go_at_call 78; refine (within_any _ _ _ _).mono ?_; rintro e w1 ⟨rfl, rfl⟩)
              go_ret
              exact ⟨rfl, (Below.refl _ _).alloc (Nat.le_refl _) _⟩
            | true =>
              have h6i : decide ((f : Int) ≤ (t : Int)) = true := by rw [← h6]; congr 1; simp
              simp only [Bool.true_and]
              go_enter Tryz.func59, Tryz.ntmps59
              go_wp2_with (go_at_call 78; refine (within_any _ _ _ _).mono ?_; rintro e w1 ⟨rfl, rfl⟩)
              go_ret
              exact ⟨rfl, (Below.refl _ _).alloc (Nat.le_refl _) _⟩
/-- rule.Right. -/
theorem ruright_any (r : Ru) (w : World) : Calls Tryz.prog 59 #[.agg (ruA r)] w fun e w' => e = .returned (.bool (ruB r)) ∧ Below w.heap.size w w' := by
  obtain ⟨id, dv, pr, kd, f, t, pt⟩ := r
  by_cases h : kd = 0
  · have := ruright_fwd id dv pr kd f t pt w h
    unfold ruB lastP; simp only [h, if_true] at this ⊢; exact this
  · have := ruright_oth id dv pr kd f t pt w h
    unfold ruB lastP; simp only [h, if_false] at this ⊢; exact this
end Go.Proofs.YtlhfaildeemngaaGreat
/- Contracts: slices.IndexFunc, ContainsFunc of rules, at a predicate with a state. -/
namespace Go.Proofs.YtlhfaildeemngaaGreat
open Go.RowKit Go.Shelf

/-- What is asked of a predicate at each rule of a list: its answer, and its state behind it. -/
def Steps (g : Nat) (lb : Array Value) (L : List Ru) (p : Nat → Bool) (I : Nat → World → Prop) (B : Nat) : Prop :=
  ∀ k (hk : k < L.length) W, I k W → Calls Tryz.prog g (#[.agg (ruA L[k])] ++ lb) W fun e W' => e = .returned (.bool (p k)) ∧ I (k + 1) W' ∧ Below B W W'
/-- What a search answers. -/
def Found (n : Nat) (p : Nat → Bool) (r : Int) : Prop := (r = -1 ∧ ∀ j, j < n → p j = false) ∨ ∃ k : Nat, k < n ∧ r = k ∧ p k = true
set_option maxRecDepth 100000 in
set_option maxHeartbeats 1000000 in
theorem indexFunc_any {v : Value} (g : Nat) (lb : Array Value) (eg : ∀ args w, (callFunc g args).run Tryz.prog w = .ok (.enter g args) w) (L : List Ru) (p : Nat → Bool) (I : Nat → World → Prop) (B : Nat) (w : World)
    (hs : Steps g lb L p I B) (h0 : I 0 w) (h : ∀ W, Below B w W → IsR W v L) :
    Calls Tryz.prog 77 #[v, .func (.func g) #[] lb] w fun e w' => ∃ r : Int, e = .returned (.int .i64 r) ∧ Found L.length p r ∧ Below B w w' := by
  obtain ⟨A1, c1, rfl, n1, m1, z1⟩ := h w (Below.refl _ _)
  have hL : L.length ≤ 9223372036854775807 := Nat.le_trans n1 m1
  have H1 : Hid (∀ W, Below B w W → Rs W A1 L) := Lib.hid fun W hW => by
    obtain ⟨A, c, e, _, _, z⟩ := h W hW
    cases e
    exact z
  have HS := Lib.hid hs
  have H0 := Lib.hid h0
  clear z1 h hs h0
  go_enter Tryz.func77, Tryz.ntmps77
  go_wp2
  go_loopw [8] (fun i wr => ∃ k : Nat, i = .int .i64 k ∧ k ≤ L.length ∧ Hid (∀ j, j < k → p j = false) ∧ Hid (I k wr) ∧ Below B w wr) (fun i _ => L.length - (intOf i).toNat)
  case atStart => exact ⟨0, rfl, by omega, Lib.hid (fun j hj => by omega), H0, Below.refl _ _⟩
  case round =>
    obtain ⟨k, rfl, hk, HR, HI, hb⟩ := hrel
    by_cases hlt : k < L.length
    · obtain ⟨g1, o1, e1, _, r0, r1, r2, r3, r4, r5, r6⟩ := (H1.out wr hb).at k hlt
      subst e1
      have hcall := HS.out k hlt wr HI.out
      generalize L[k] = x at r0 r1 r2 r3 r4 r5 r6 hcall
      obtain ⟨id, dv, pr, kd, f, t, pt⟩ := x
      dsimp only at r0 r1 r2 r3 r4 r5 r6
      rw [ruA_mk] at hcall
      have i0 : (0 : Int) ≤ (k : Int) := by omega
      have i1 : (k : Int) < (L.length : Int) := by omega
      cases hq : p k with
      | true =>
        rw [hq] at hcall
        go_wp2_with (go_at_fn g; refine hcall.mono ?_; rintro e w' ⟨rfl, hi', hb'⟩)
        go_ret
        exact ⟨_, rfl, .inr ⟨k, hlt, rfl, hq⟩, hb.trans hb'⟩
      | false =>
        rw [hq] at hcall
        go_wp2_with (go_at_fn g; refine hcall.mono ?_; rintro e w' ⟨rfl, hi', hb'⟩)
        go_roundw
        case rel =>
          refine ⟨k + 1, by go_num, by omega, Lib.hid (fun j hj => ?_), Lib.hid hi', hb.trans hb'⟩
          by_cases e : j = k
          · subst e; exact hq
          · exact HR.out j (by omega)
        case measure => simp [intOf]; omega
    · obtain rfl : k = L.length := by omega
      go_wp2
      go_ret
      exact ⟨_, rfl, .inl ⟨rfl, HR.out⟩, hb⟩

theorem containsFunc_any {v : Value} (g : Nat) (lb : Array Value) (eg : ∀ args w, (callFunc g args).run Tryz.prog w = .ok (.enter g args) w) (L : List Ru) (p : Nat → Bool) (I : Nat → World → Prop) (B : Nat) (w : World)
    (hs : Steps g lb L p I B) (h0 : I 0 w) (h : ∀ W, Below B w W → IsR W v L) :
    Calls Tryz.prog 57 #[v, .func (.func g) #[] lb] w fun e w' => ∃ b : Bool, e = .returned (.bool b) ∧ (b = true ↔ ∃ k, k < L.length ∧ p k = true) ∧ Below B w w' := by
  have hi := indexFunc_any g lb eg L p I B w hs h0 h
  obtain ⟨A1, c1, rfl, n1, m1, z1⟩ := h w (Below.refl _ _)
  clear hs h0 h z1
  go_enter Tryz.func57, Tryz.ntmps57
  go_wp2_with (go_at_call 77; refine hi.mono ?_; rintro e w1 ⟨r, rfl, hr, b1⟩)
  go_ret
  refine ⟨_, rfl, ?_, b1⟩
  rw [decide_eq_true_eq]
  rcases hr with ⟨rfl, hn⟩ | ⟨k, hk, rfl, hp⟩
  · constructor
    · intro h; omega
    · rintro ⟨k, hk, hp⟩; rw [hn k hk] at hp; cases hp
  · exact ⟨fun _ => ⟨k, hk, hp⟩, fun _ => by omega⟩
end Go.Proofs.YtlhfaildeemngaaGreat
/- Contracts: rule.All. -/
namespace Go.Proofs.YtlhfaildeemngaaGreat
open Go.RowKit Go.Shelf

set_option maxRecDepth 100000 in
theorem all1_any (x : Ru) (l : Int) (C : Nat) (W : World) (hA : At W C #[.int .i64 l] 3) :
    Calls Tryz.prog 58 (#[.agg (ruA x)] ++ #[.pointer (some ⟨C, 0, none⟩)]) W fun e W' => e = .returned (.bool (!ruB x || decide (x.id ≤ l))) ∧ At W' C #[.int .i64 x.id] 3 ∧ Below C W W' := by
  have hC := hA.lt
  have hr := fun u : World => ruright_any x u
  obtain ⟨q, hq⟩ : ∃ q, q = ruB x := ⟨_, rfl⟩
  rw [← hq] at hr ⊢
  clear hq
  obtain ⟨id, dv, pr, kd, f, t, pt⟩ := x
  have A0 := hA.alloc (.cells (ruA ⟨id, dv, pr, kd, f, t, pt⟩) 41)
  have X0 := At.new W (ruA ⟨id, dv, pr, kd, f, t, pt⟩) 41
  rw [ruA_mk] at hr A0 X0 ⊢
  dsimp only
  have fin : ∀ w1, At w1 C #[.int .i64 l] 3 → Below (W.heap.size + 1) (W.alloc (.cells #[.int .i64 id, .int .i64 dv, .int .i64 pr, .int .i64 kd, .int .u32 f, .int .u32 t, .int .i64 pt] 41)) w1 → At (w1.setCell ⟨C, 0, none⟩ (.int .i64 id)) C #[.int .i64 id] 3 ∧ Below C W (w1.setCell ⟨C, 0, none⟩ (.int .i64 id)) := fun w1 A1 b1 =>
    ⟨by have := A1.set0 0 (.int .i64 id); simpa using this, (((Below.refl C W).alloc (by omega) _).trans (b1.mono (by omega))).setCell (p := ⟨C, 0, none⟩) (Nat.le_refl _) _⟩
  show Calls Tryz.prog 58 #[_, _] W _
  cases q with
  | false =>
    simp only [Bool.not_false, Bool.true_or]
    go_enter Tryz.func58, Tryz.ntmps58
    go_wp2_with (go_at_call 59; refine (hr _).mono ?_; rintro e w1 ⟨rfl, b1⟩; have A1 := A0.belows b1; have X1 := X0.belows b1; have x0 := (X1.cell 0).trans rfl; have a0 := (A1.cell 0).trans rfl; have z0 := A1.frozen 0)
    go_ret
    exact ⟨rfl, fin w1 A1 (by simpa using b1)⟩
  | true =>
    simp only [Bool.not_true, Bool.false_or]
    go_enter Tryz.func58, Tryz.ntmps58
    go_wp2_with (go_at_call 59; refine (hr _).mono ?_; rintro e w1 ⟨rfl, b1⟩; have A1 := A0.belows b1; have X1 := X0.belows b1; have x0 := (X1.cell 0).trans rfl; have a0 := (A1.cell 0).trans rfl; have z0 := A1.frozen 0)
    go_ret
    exact ⟨rfl, fin w1 A1 (by simpa using b1)⟩

theorem enters_all1 : ∀ args w, (callFunc 58 args).run Tryz.prog w = .ok (.enter 58 args) w := enters_of Tryz.func58 (by kernel_rfl) rfl
set_option maxRecDepth 100000 in
/-- rule.All. -/
theorem all_any {v : Value} (L : List Ru) (w : World) (h : IsR w v L) : Calls Tryz.prog 35 #[v] w fun e w' => e = .returned (.bool (allB L)) ∧ Below w.heap.size w w' := by
  by_cases h40 : L.length ≤ 40
  · have hsteps : Steps 58 #[.pointer (some ⟨w.heap.size, 0, none⟩)] L (wrongAt L) (fun k W => At W w.heap.size #[.int .i64 (lastId L k)] 3) w.heap.size := by
      intro k hk W hI
      have e1 : wrongAt L k = (!ruB L[k] || decide (L[k].id ≤ lastId L k)) := by simp [wrongAt, hk]
      have e2 : lastId L (k + 1) = L[k].id := by simp [lastId, hk]
      rw [e1]
      show Calls Tryz.prog 58 _ W fun e W' => _ ∧ At W' w.heap.size #[.int .i64 (lastId L (k + 1))] 3 ∧ _
      rw [e2]
      exact all1_any _ _ _ W hI
    have hZ : ∀ W, Below w.heap.size (w.alloc (.cells #[.int .i64 0] 3)) W → IsR W v L := fun W hW => h.belows (((Below.refl _ w).alloc (Nat.le_refl _) _).trans hW)
    have hc := containsFunc_any 58 #[.pointer (some ⟨w.heap.size, 0, none⟩)] enters_all1 L (wrongAt L) _ w.heap.size (w.alloc (.cells #[.int .i64 0] 3)) hsteps (At.new _ _ _) hZ
    obtain ⟨A1, c1, rfl, n1, m1, z1⟩ := h
    clear hsteps hZ z1
    have hgt : ¬ (40 : Int) < (L.length : Int) := by omega
    obtain ⟨q, hq⟩ : ∃ q, q = allB L := ⟨_, rfl⟩
    rw [← hq]
    have HQ : Hid (∀ b : Bool, (b = true ↔ ∃ k, k < L.length ∧ wrongAt L k = true) → (!b) = q) := Lib.hid fun b hb => (allB_of h40 hb).trans hq.symm
    clear hq
    go_enter Tryz.func35, Tryz.ntmps35
    go_wp2_with (go_at_call 57; refine hc.mono ?_; rintro e w1 ⟨b, rfl, hb, b1⟩)
    go_ret
    exact ⟨ret_bool (HQ.out b hb), ((Below.refl _ w).alloc (Nat.le_refl _) _).trans b1⟩
  · have e : allB L = false := by unfold allB; rw [decide_eq_false h40, Bool.false_and]
    rw [e]
    obtain ⟨A1, c1, rfl, n1, m1, z1⟩ := h
    clear z1 e
    have hgt : (40 : Int) < (L.length : Int) := by omega
    go_enter Tryz.func35, Tryz.ntmps35
    go_wp2
    go_ret
    exact ⟨rfl, Below.refl _ _⟩
end Go.Proofs.YtlhfaildeemngaaGreat
/- Maps in memory as functions: a block that is a map, its keys values of a type of ours, its elements any values. Over any program. -/
namespace Go.Proofs.YtlhfaildeemngaaGreat
open Go.RowKit Go.Maps

/-- An element as it stands. -/
def rdV (v : Value) : Option (DataW Value × List MemPlace) := some (.held v, [])
section
variable {κ : Type} {P : Program} {k : TypeId} {kv : κ → Value} {ok : κ → Prop}
/-- Block b is a map of s entries (at most n); of the keys that are ok it tells M. -/
def MapAt (P : Program) (k : TypeId) (kv : κ → Value) (ok : κ → Prop) (w : World) (b n s : Nat) (M : κ → Option Value) : Prop :=
  ∃ D : DataW Value, w.ownsMap P k rdV b n D ∧ Maps.size D = s ∧ ∀ x, ok x → ∀ kl, keyOf P k (kv x) = some kl → has D kl = (M x).isSome ∧ ∀ z, D.atKey kl z = ((M x).map DataW.held).getD z
theorem MapAt.made (w : World) : MapAt P k kv ok (w.alloc (.map #[] 0)) w.heap.size 0 0 (fun _ => none) :=
  ⟨.map [], World.ownsMap_made w P k rdV, rfl, fun _ _ _ _ => ⟨rfl, fun _ => rfl⟩⟩
theorem MapAt.heap {w w' : World} {b n s : Nat} {M : κ → Option Value} (h : MapAt P k kv ok w b n s M) (he : w'.heap[b]? = w.heap[b]?) : MapAt P k kv ok w' b n s M := by
  obtain ⟨D, ⟨es, clock, hb, r⟩, h2⟩ := h
  exact ⟨D, ⟨es, clock, he.trans hb, r⟩, h2⟩
theorem MapAt.lt {w : World} {b n s : Nat} {M : κ → Option Value} (h : MapAt P k kv ok w b n s M) : b < w.heap.size := by
  obtain ⟨D, h, _⟩ := h
  exact h.lt
theorem MapAt.belows {w w' : World} {b n s : Nat} {M : κ → Option Value} (h : MapAt P k kv ok w b n s M) (hb : Below w.heap.size w w') : MapAt P k kv ok w' b n s M := h.heap (hb.block b h.lt)
theorem MapAt.same {w : World} {b n s : Nat} {M M' : κ → Option Value} (h : MapAt P k kv ok w b n s M) (he : ∀ x, ok x → M x = M' x) : MapAt P k kv ok w b n s M' := by
  obtain ⟨D, h1, hs, h2⟩ := h
  exact ⟨D, h1, hs, fun x hx kl hk => by rw [← he x hx]; exact h2 x hx kl hk⟩
theorem held_of {o : Option Value} {v z : Value} (h : DataW.held v = (o.map DataW.held).getD (DataW.held z)) : v = o.getD z := by
  cases o with
  | none => injection h
  | some u => injection h
/-- A look-up with 'ok'. -/
theorem MapAt.look_ok {w : World} {b n s : Nat} {M : κ → Option Value} (h : MapAt P k kv ok w b n s M) (K : Keyed P k) {t e : TypeId} (ht : P.underlying t = some (.map k e)) {z : Value} (hz : (zeroValue e).run P w = .ok z w) {x : κ} (hx : ok x) {kl : Lit} (hk : keyOf P k (kv x) = some kl) :
    (Instr.lookup t (.map (some b)) (kv x) true).run P w = .ok (.tuple #[(M x).getD z, .bool (M x).isSome]) w := by
  obtain ⟨D, h1, _, h2⟩ := h
  obtain ⟨a1, a2⟩ := h2 x hx kl hk
  obtain ⟨v, ps, hrun, hv⟩ := h1.look_ok K ht hz (zd := .held z) (zp := []) rfl hk
  unfold rdV at hv
  injection hv with hv
  injection hv with hv _
  rw [a2] at hv
  rw [hrun, a1, held_of hv]
/-- A look-up without. -/
theorem MapAt.look {w : World} {b n s : Nat} {M : κ → Option Value} (h : MapAt P k kv ok w b n s M) (K : Keyed P k) {t e : TypeId} (ht : P.underlying t = some (.map k e)) {z : Value} (hz : (zeroValue e).run P w = .ok z w) {x : κ} (hx : ok x) {kl : Lit} (hk : keyOf P k (kv x) = some kl) :
    (Instr.lookup t (.map (some b)) (kv x) false).run P w = .ok ((M x).getD z) w := by
  obtain ⟨D, h1, _, h2⟩ := h
  obtain ⟨a1, a2⟩ := h2 x hx kl hk
  obtain ⟨v, ps, hrun, hv⟩ := h1.lookup K ht hz (zd := .held z) (zp := []) rfl hk
  unfold rdV at hv
  injection hv with hv
  injection hv with hv _
  rw [a2] at hv
  rw [hrun, held_of hv]
/-- A store. -/
theorem MapAt.put [DecidableEq κ] {w : World} {b n s : Nat} {M : κ → Option Value} (h : MapAt P k kv ok w b n s M) (K : Keyed P k) (hinj : ∀ x y, kv x = kv y → x = y) {t e : TypeId} (ht : P.underlying t = some (.map k e)) (hn : n < maxLen) {x : κ} (hx : ok x) {kl : Lit} (hk : keyOf P k (kv x) = some kl) (v : Value) :
    ∃ w', (Instr.mapUpdate t (.map (some b)) (kv x) v).run P w = .ok () w' ∧ MapAt P k kv ok w' b (n + 1) (if (M x).isSome then s else s + 1) (fun y => if y = x then some v else M y) ∧ w.grownBy w' (some b) := by
  obtain ⟨D, h1, hs, h2⟩ := h
  obtain ⟨w', hrun, r1, r2⟩ := h1.update K ht hn hk (val := v) (d := .held v) (ps := []) rfl
  refine ⟨w', hrun, ⟨_, r1, ?_, fun y hy kl' hk' => ?_⟩, r2⟩
  · rw [size_put (h1.tidy K), (h2 x hx kl hk).1, hs]
  by_cases hyx : y = x
  · subst hyx
    obtain rfl : kl' = kl := Option.some.inj (hk'.symm.trans hk)
    refine ⟨?_, fun z => ?_⟩
    · rw [has_put_same h1.isMap (K.key hk)]; simp
    · rw [atKey_put_same h1.isMap (K.key hk)]; simp
  · have hne : kl' ≠ kl := fun e => hyx (hinj _ _ (K.inj (hk'.trans (congrArg some e)) hk))
    obtain ⟨a1, a2⟩ := h2 y hy kl' hk'
    refine ⟨?_, fun z => ?_⟩
    · rw [has_put_other hne, a1]; simp only [if_neg hyx]
    · rw [atKey_put_other hne, a2]; simp only [if_neg hyx]
section
variable {w : World} {ops : Array Oper} {rest : List Oper} {o : Oper} {a : Act} {Q : Exit → Act → World → Prop}
theorem wpList_map_look_ok {b n s : Nat} {M : κ → Option Value} (hg : o.guard = none) (m x : Operand) (t : TypeId) (hop : o.op = Op.lookup t m x true) (e : TypeId) (K : Keyed P k) (ht : P.underlying t = some (.map k e)) {z : Value} (hz : (zeroValue e).run P w = .ok z w)
    (hm : a.eval m = .map (some b)) (h : MapAt P k kv ok w b n s M) (y : κ) (hy : ok y) (hx : a.eval x = kv y) {kl : Lit} (hk : keyOf P k (kv y) = some kl)
    (hK : wpList P ops Q rest (a.put o.dst (.tuple #[(M y).getD z, .bool (M y).isSome])) w) : wpList P ops Q (o :: rest) a w := by
  refine wpList_plain hg fun K' hK' => ?_
  have hrun := h.look_ok K ht hz hy hk
  unfold Oper.wp
  simp [execOp, hop, hm, hx, hrun, Result.andThen]
  exact hK' _ _ hK
theorem wpList_map_look {b n s : Nat} {M : κ → Option Value} (hg : o.guard = none) (m x : Operand) (t : TypeId) (hop : o.op = Op.lookup t m x false) (e : TypeId) (K : Keyed P k) (ht : P.underlying t = some (.map k e)) {z : Value} (hz : (zeroValue e).run P w = .ok z w)
    (hm : a.eval m = .map (some b)) (h : MapAt P k kv ok w b n s M) (y : κ) (hy : ok y) (hx : a.eval x = kv y) {kl : Lit} (hk : keyOf P k (kv y) = some kl)
    (hK : wpList P ops Q rest (a.put o.dst ((M y).getD z)) w) : wpList P ops Q (o :: rest) a w := by
  refine wpList_plain hg fun K' hK' => ?_
  have hrun := h.look K ht hz hy hk
  unfold Oper.wp
  simp [execOp, hop, hm, hx, hrun, Result.andThen]
  exact hK' _ _ hK
theorem wpList_map_put [DecidableEq κ] {b n s : Nat} {M : κ → Option Value} (hg : o.guard = none) (m x u : Operand) (t : TypeId) (hop : o.op = Op.mapUpdate t m x u) (e : TypeId) (K : Keyed P k) (hinj : ∀ x y, kv x = kv y → x = y) (ht : P.underlying t = some (.map k e)) (hn : n < maxLen)
    (hm : a.eval m = .map (some b)) (h : MapAt P k kv ok w b n s M) (y : κ) (hy : ok y) (v : Value) (hx : a.eval x = kv y) (hu : a.eval u = v) {kl : Lit} (hk : keyOf P k (kv y) = some kl)
    (hK : ∀ w', MapAt P k kv ok w' b (n + 1) (if (M y).isSome then s else s + 1) (fun y' => if y' = y then some v else M y') → w.grownBy w' (some b) → wpList P ops Q rest (a.put o.dst undef) w') : wpList P ops Q (o :: rest) a w := by
  refine wpList_plain hg fun K' hK' => ?_
  obtain ⟨w', hrun, r1, r2⟩ := h.put K hinj ht hn hy hk v
  unfold Oper.wp
  simp [execOp, hop, hm, hx, hu, hrun, Result.andThen]
  exact hK' _ _ (hK w' r1 r2)
/-- A store, as a step of a region that draws. -/
theorem step_map_put [DecidableEq κ] {E : Prop} {K' : Act → World → Prop} {b n s : Nat} {M : κ → Option Value} (hg : o.guard = none) (m x u : Operand) (t : TypeId) (hop : o.op = Op.mapUpdate t m x u) (e : TypeId) (K : Keyed P k) (hinj : ∀ x y, kv x = kv y → x = y) (ht : P.underlying t = some (.map k e)) (hn : n < maxLen)
    (hm : a.eval m = .map (some b)) (h : MapAt P k kv ok w b n s M) (y : κ) (hy : ok y) (v : Value) (hx : a.eval x = kv y) (hu : a.eval u = v) {kl : Lit} (hk : keyOf P k (kv y) = some kl)
    (hK : ∀ w', MapAt P k kv ok w' b (n + 1) (if (M y).isSome then s else s + 1) (fun y' => if y' = y then some v else M y') → w.grownBy w' (some b) → K' (a.put o.dst undef) w') : if Region.wanted o (yielded ops a.tmps) = true then Oper.wp P o a w K' Q else E := by
  rw [if_pos (by simp [Region.wanted, hg])]
  obtain ⟨w', hrun, r1, r2⟩ := h.put K hinj ht hn hy hk v
  unfold Oper.wp
  simp [execOp, hop, hm, hx, hu, hrun, Result.andThen]
  exact hK w' r1 r2
/-- Its length. -/
theorem wpList_map_len {b n s : Nat} {M : κ → Option Value} (hg : o.guard = none) (m : Operand) (t : TypeId) (hop : o.op = Op.call { callee := Callee.builtin Builtin.len, args := #[m], argTypes := #[t] }) (e : TypeId) (ht : P.underlying t = some (.map k e))
    (hm : a.eval m = .map (some b)) (h : MapAt P k kv ok w b n s M) (hK : wpList P ops Q rest (a.put o.dst (.int .i64 s)) w) : wpList P ops Q (o :: rest) a w := by
  obtain ⟨D, h1, rfl, _⟩ := h
  exact wpList_len_own w hg m t hop k e ht _ b n D hm h1 hK
theorem MapAt.run_len {b n s : Nat} {M : κ → Option Value} (h : MapAt P k kv ok w b n s M) {t e : TypeId} (ht : P.underlying t = some (.map k e)) (ty : TypeId) : (Builtin.len_ #[t] ty #[.map (some b)]).run P w = .ok (.int .i64 s) w := by
  obtain ⟨D, h1, rfl, _⟩ := h
  exact h1.len ht ty
end
end
end Go.Proofs.YtlhfaildeemngaaGreat
/- Ports as keys of maps. -/
namespace Go.Proofs.YtlhfaildeemngaaGreat
open Go.RowKit Go.Maps

theorem laidOutK : laidOutB Tryz.prog = true := by kernel_rfl
theorem rowPt : decide (81 < Tryz.prog.types.size) = true := by kernel_rfl
theorem row3 : decide (3 < Tryz.prog.types.size) = true := by kernel_rfl
theorem keyedPt : Keyed Tryz.prog 81 := Keyed.of_law (deep_law_laid laidOutK (m := 3) (by decide) (of_decide_eq_true rowPt) (by kernel_rfl) (by kernel_rfl))
theorem keyPt (p : Pt) (h : isPt p) : ∃ kl, keyOf Tryz.prog 81 (.agg (ptA p)) = some kl := by
  have hk : Tryz.prog.keyType 81 = true := by kernel_rfl
  have hc : Tryz.prog.cellsOf 81 = 2 := by kernel_rfl
  have hc3 : Tryz.prog.cellsOf 3 = 1 := by kernel_rfl
  have h0 : 3 < Tryz.prog.types.size := of_decide_eq_true row3
  obtain ⟨m, hm⟩ : ∃ m, Tryz.prog.types.size = m + 1 := ⟨Tryz.prog.types.size - 1, by omega⟩
  obtain ⟨⟨h1, h2⟩, ⟨h3, h4⟩⟩ := h
  have w1 : (Lit.int .i64 p.d).wf = true := by simp [Lit.wf, IntKind.min, IntKind.max, IntKind.signed, IntKind.bits]; omega
  have w2 : (Lit.int .i64 p.p).wf = true := by simp [Lit.wf, IntKind.min, IntKind.max, IntKind.signed, IntKind.bits]; omega
  unfold keyOf
  rw [Tryz.underlying81]
  simp only [hk, Value.formed, Tryz.underlying81, hc, hm]
  simp [Program.keyLits, Tryz.underlying81, hc, hc3, Tryz.underlying3, Value.cells, ptA, w1, w2]
theorem pt_inj (p q : Pt) (h : Value.agg (ptA p) = Value.agg (ptA q)) : p = q := by
  obtain ⟨a, b⟩ := p
  obtain ⟨c, d⟩ := q
  injection h with h
  simp only [ptA, Array.mk.injEq, List.cons.injEq, Value.int.injEq] at h
  obtain ⟨⟨_, rfl⟩, ⟨_, rfl⟩, _⟩ := h
  rfl
end Go.Proofs.YtlhfaildeemngaaGreat
/- Plain mathematics: who is joined, by a map that is filled link by link; how many ports stand in it. -/
namespace Go.Proofs.YtlhfaildeemngaaGreat

/-- A map with one more. -/
def setM (M : Pt → Option Pt) (x v : Pt) : Pt → Option Pt := fun y => if y = x then some v else M y
def stepM (M : Pt → Option Pt) (l : Lk) : Pt → Option Pt := setM (setM M l.a l.b) l.b l.a
/-- The map of links. -/
def mapL (ls : List Lk) : Pt → Option Pt := ls.foldl stepM fun _ => none
theorem mapL_snoc (ls : List Lk) (k : Nat) (hk : k < ls.length) : mapL (ls.take (k + 1)) = setM (setM (mapL (ls.take k)) ls[k].a ls[k].b) ls[k].b ls[k].a := by
  unfold mapL; rw [List.take_succ_eq_append_getElem hk, List.foldl_append]; rfl
theorem mapL_app (ls : List Lk) (l : Lk) : mapL (ls ++ [l]) = stepM (mapL ls) l := by
  unfold mapL; rw [List.foldl_append]; rfl
theorem mapL_some : ∀ (ls : List Lk) (p : Pt), ((mapL ls p).isSome = true ↔ p ∈ ends ls) ∧ ∀ q, mapL ls p = some q → ∃ l ∈ ls, (l.a = p ∧ l.b = q) ∨ (l.b = p ∧ l.a = q) := by
  intro ls
  induction hn : ls.length generalizing ls with
  | zero =>
    obtain rfl := List.eq_nil_of_length_eq_zero hn
    intro p
    simp [mapL, ends]
  | succ n ih =>
    obtain ⟨r, l, rfl⟩ : ∃ r l, ls = r ++ [l] := ⟨ls.dropLast, ls.getLast (by intro e; rw [e] at hn; simp at hn), (List.dropLast_concat_getLast _).symm⟩
    intro p
    obtain ⟨h1, h2⟩ := ih r (by simpa using hn) p
    rw [mapL_app, ends_append]
    have e2 : ends [l] = [l.a, l.b] := rfl
    rw [e2]
    unfold stepM setM
    by_cases hb : p = l.b
    · rw [if_pos hb]
      refine ⟨by simp [hb], fun q hq => ?_⟩
      injection hq with hq
      exact ⟨l, by simp, .inr ⟨hb.symm, hq⟩⟩
    · rw [if_neg hb]
      by_cases ha : p = l.a
      · rw [if_pos ha]
        refine ⟨by simp [ha], fun q hq => ?_⟩
        injection hq with hq
        exact ⟨l, by simp, .inl ⟨ha.symm, hq⟩⟩
      · rw [if_neg ha]
        refine ⟨by rw [h1]; simp [ha, hb], fun q hq => ?_⟩
        obtain ⟨m, hm, hh⟩ := h2 q hq
        exact ⟨m, by simp [hm], hh⟩
/-- Where no port is in two links, the map tells who is joined. -/
theorem mapL_next {ls : List Lk} (hn : (ends ls).Nodup) (p : Pt) : mapL ls p = nextT ls p := by
  obtain ⟨h1, h2⟩ := mapL_some ls p
  cases h : mapL ls p with
  | none =>
    rw [h] at h1
    symm
    rw [nextT_none]
    intro hm
    have := h1.2 hm
    cases this
  | some q => exact (nextT_of hn (h2 q h)).symm
/-- How many there are, each once: of the last one first. -/
def dcnt : List Pt → Nat
  | [] => 0
  | x :: r => if x ∈ r then dcnt r else dcnt r + 1
theorem dcnt_cons (x : Pt) (r : List Pt) : dcnt (x :: r) = if x ∈ r then dcnt r else dcnt r + 1 := rfl
theorem dcnt_le : ∀ l : List Pt, dcnt l ≤ l.length
  | [] => Nat.le_refl _
  | x :: r => by
    have := dcnt_le r
    rw [dcnt_cons, List.length_cons]
    split <;> omega
theorem dcnt_nodup : ∀ l : List Pt, dcnt l = l.length ↔ l.Nodup
  | [] => by simp [dcnt]
  | x :: r => by
    have h1 := dcnt_le r
    have h2 := dcnt_nodup r
    rw [List.nodup_cons, ← h2]
    rw [dcnt_cons, List.length_cons]
    by_cases h : x ∈ r
    · rw [if_pos h]
      constructor
      · intro e; omega
      · intro e; exact absurd h e.1
    · rw [if_neg h]
      constructor
      · intro e; exact ⟨h, by omega⟩
      · intro e; omega
/-- How many ports stand in the links, each once. -/
def cntL (ls : List Lk) : Nat := dcnt (ends ls).reverse
theorem cntL_zero : cntL [] = 0 := rfl
theorem cntL_snoc (ls : List Lk) (k : Nat) (hk : k < ls.length) :
    cntL (ls.take (k + 1)) = if (setM (mapL (ls.take k)) ls[k].a ls[k].b ls[k].b).isSome then (if (mapL (ls.take k) ls[k].a).isSome then cntL (ls.take k) else cntL (ls.take k) + 1) else (if (mapL (ls.take k) ls[k].a).isSome then cntL (ls.take k) else cntL (ls.take k) + 1) + 1 := by
  have e : (ends (ls.take (k + 1))).reverse = ls[k].b :: ls[k].a :: (ends (ls.take k)).reverse := by
    rw [List.take_succ_eq_append_getElem hk, ends_append]
    simp [ends]
  unfold cntL
  rw [e]
  have h1 := (mapL_some (ls.take k) ls[k].a).1
  have h2 := (mapL_some (ls.take k) ls[k].b).1
  have e1 : dcnt (ls[k].a :: (ends (ls.take k)).reverse) = if (mapL (ls.take k) ls[k].a).isSome then dcnt (ends (ls.take k)).reverse else dcnt (ends (ls.take k)).reverse + 1 := by
    show (if ls[k].a ∈ (ends (ls.take k)).reverse then _ else _) = _
    by_cases h : ls[k].a ∈ ends (ls.take k)
    · rw [if_pos (List.mem_reverse.2 h), if_pos (h1.2 h)]
    · rw [if_neg (fun hh => h (List.mem_reverse.1 hh)), if_neg (fun hh => h (h1.1 hh))]
  have e2 : (setM (mapL (ls.take k)) ls[k].a ls[k].b ls[k].b).isSome = true ↔ ls[k].b ∈ ls[k].a :: (ends (ls.take k)).reverse := by
    unfold setM
    by_cases h : ls[k].b = ls[k].a
    · rw [if_pos h]; simp [h]
    · rw [if_neg h, h2]; simp [h]
  show (if ls[k].b ∈ ls[k].a :: (ends (ls.take k)).reverse then _ else _) = _
  rw [e1]
  by_cases h : ls[k].b ∈ ls[k].a :: (ends (ls.take k)).reverse
  · rw [if_pos h, if_pos (e2.2 h)]
  · rw [if_neg h, if_neg (fun hh => h (e2.1 hh))]
theorem cntL_le (ls : List Lk) : cntL ls ≤ 2 * ls.length := by
  have := dcnt_le (ends ls).reverse
  rw [List.length_reverse, ends_length] at this
  exact this
theorem cntL_nodup (ls : List Lk) : cntL ls = 2 * ls.length ↔ (ends ls).Nodup := by
  have := dcnt_nodup (ends ls).reverse
  rw [List.length_reverse, ends_length] at this
  unfold cntL
  rw [this, List.nodup_iff_pairwise_ne, List.nodup_iff_pairwise_ne, List.pairwise_reverse]
  constructor <;> intro h <;> exact h.imp fun hab => Ne.symm hab
end Go.Proofs.YtlhfaildeemngaaGreat
/- Contracts: joined: the ports that are in links, as a map. -/
namespace Go.Proofs.YtlhfaildeemngaaGreat
open Go.RowKit Go.Shelf Go.Maps

def ptV (p : Pt) : Value := .agg (ptA p)
theorem zPt (w : World) : (zeroValue 81).run Tryz.prog w = .ok (ptV ⟨0, 0⟩) w := by kernel_rfl
theorem ptV_inj (x y : Pt) (h : ptV x = ptV y) : x = y := pt_inj x y h
/-- A map from ports to ports. -/
def JMap (w : World) (b n s : Nat) (M : Pt → Option Pt) : Prop := MapAt Tryz.prog 81 ptV isPt w b n s fun y => (M y).map ptV
theorem JMap.belows {w w' : World} {b n s : Nat} {M : Pt → Option Pt} (h : JMap w b n s M) (hb : Below w.heap.size w w') : JMap w' b n s M := MapAt.belows h hb
theorem JMap.lt {w : World} {b n s : Nat} {M : Pt → Option Pt} (h : JMap w b n s M) : b < w.heap.size := MapAt.lt h
theorem JMap.of_put {w : World} {b n s : Nat} {M : Pt → Option Pt} {x v : Pt} (h : MapAt Tryz.prog 81 ptV isPt w b n (if ((M x).map ptV).isSome then s else s + 1) fun y => if y = x then some (ptV v) else (M y).map ptV) : JMap w b n (if (M x).isSome then s else s + 1) (setM M x v) := by
  rw [Option.isSome_map] at h
  have e : (fun y => (setM M x v y).map ptV) = fun y => if y = x then some (ptV v) else (M y).map ptV := by
    funext y
    unfold setM
    split <;> rfl
  unfold JMap
  rw [e]
  exact h
theorem run_makeMap_of {t k e : TypeId} (ht : Tryz.prog.underlying t = some (.map k e)) (n : Int) (w : World) : (Instr.makeMap t (some (.int .i64 n))).run Tryz.prog w = .ok (.map (some w.heap.size)) (w.alloc (.map #[] 0)) := by
  simp [Instr.makeMap, run_underlying ht, go_sem]
/-- What joined answers. -/
def JOut (ls : List Lk) (w : World) (e : Ending) (w' : World) : Prop := ∃ b, e = .returned (.map (some b)) ∧ w.heap.size ≤ b ∧ JMap w' b (2 * ls.length) (cntL ls) (mapL ls) ∧ Below w.heap.size w w'
/-- Where the loop stands. -/
def JI (ls : List Lk) (w0 : World) (b k : Nat) (W : World) : Prop := JMap W b (2 * k) (cntL (ls.take k)) (mapL (ls.take k)) ∧ Below b w0 W
set_option maxRecDepth 100000 in
set_option maxHeartbeats 4000000 in
theorem joined_any {vp vl : Value} (ps : List Int) (ls : List Lk) (w : World) (hT : TW ps ls) (h16 : ls.length ≤ 16) (h : IsT w vp vl ps ls) : Calls Tryz.prog 56 #[.agg #[vp, vl]] w (JOut ls w) := by
  obtain ⟨⟨A1, c1, rfl, n1, m1, _⟩, ⟨A2, c2, rfl, n2, m2, z2⟩⟩ := h
  have hmm := run_makeMap_of Tryz.underlying99
  have HW := Lib.hid hT.links
  have D0 := (At.new w #[.slice A1 ps.length c1, .slice A2 ls.length c2] 25).alloc (.map #[] 0)
  have b0 : Below w.heap.size w ((w.alloc (.cells #[.slice A1 ps.length c1, .slice A2 ls.length c2] 25)).alloc (.map #[] 0)) := ((Below.refl _ w).alloc (Nat.le_refl _) _).alloc (by simp) _
  have J0 : JMap ((w.alloc (.cells #[.slice A1 ps.length c1, .slice A2 ls.length c2] 25)).alloc (.map #[] 0)) (w.heap.size + 1) 0 0 (fun _ => none) := by
    have := MapAt.made (P := Tryz.prog) (k := 81) (kv := ptV) (ok := isPt) (w.alloc (.cells #[.slice A1 ps.length c1, .slice A2 ls.length c2] 25))
    rw [World.size_alloc] at this
    exact this
  have H2 := Lib.hid z2
  clear z2 hT
  go_enter Tryz.func56, Tryz.ntmps56
  obtain ⟨w0, hw0⟩ : ∃ w0, w0 = ((w.alloc (.cells #[.slice A1 ps.length c1, .slice A2 ls.length c2] 25)).alloc (.map #[] 0)) := ⟨_, rfl⟩
  go_upto_region 2 with (fail)
  rw [← hw0] at D0 b0 J0 ⊢
  have hs0 : w0.heap.size = w.heap.size + 1 + 1 := by rw [hw0]; simp
  have x1 := (D0.cell 1).trans rfl
  have HJ0 := Lib.hid J0
  have HB0 := Lib.hid b0
  have HS0 := Lib.hid hs0
  clear hw0 hmm J0 b0 hs0
  go_wp2
  go_loopw [14] (fun i wr => ∃ k : Nat, i = .int .i64 k ∧ k ≤ ls.length ∧ Hid (JI ls w0 (w.heap.size + 1) k wr)) (fun i _ => ls.length - (intOf i).toNat)
  case atStart => exact ⟨0, rfl, by omega, Lib.hid ⟨by have := HJ0.out; exact this, Below.refl _ _⟩⟩
  case round =>
    obtain ⟨k, rfl, hk, HJ⟩ := hrel
    obtain ⟨hj, hb⟩ := HJ.out
    clear HJ
    by_cases hlt : k < ls.length
    · have i0 : (0 : Int) ≤ (k : Int) := by omega
      have i1 : (k : Int) < (ls.length : Int) := by omega
      obtain ⟨g, o, e, hg, hc⟩ := H2.out.at k hlt
      subst e
      have hbw : Below w.heap.size w wr := HB0.out.trans (hb.mono (by omega))
      have r0 := (hbw.cell (p := ⟨g, _, none⟩) hg).trans (hc 0 (by decide)); have r1 := (hbw.cell (p := ⟨g, _, none⟩) hg).trans (hc 1 (by decide)); have r2 := (hbw.cell (p := ⟨g, _, none⟩) hg).trans (hc 2 (by decide)); have r3 := (hbw.cell (p := ⟨g, _, none⟩) hg).trans (hc 3 (by decide))
      have HE := Lib.hid (mapL_snoc ls k hlt)
      have HC := Lib.hid (cntL_snoc ls k hlt)
      obtain ⟨pa, pb⟩ := HW.out _ (List.getElem_mem hlt)
      generalize ls[k] = l at r0 r1 r2 r3 HE HC pa pb
      obtain ⟨⟨a, b⟩, ⟨c, d⟩⟩ := l
      simp only [lkA, Nat.add_zero] at r0 r1 r2 r3
      dsimp only at HE HC pa pb
      generalize mapL (ls.take k) = M0 at hj HE HC
      generalize cntL (ls.take k) = s0 at hj HC
      obtain ⟨ka, hka⟩ := keyPt ⟨a, b⟩ pa
      obtain ⟨kb, hkb⟩ := keyPt ⟨c, d⟩ pb
      have bs : wr.heap.size ≠ w.heap.size + 1 := by have := hj.lt; omega
      have L1 := At.new wr #[.int .i64 a, .int .i64 b, .int .i64 c, .int .i64 d] 83
      have bl1 : Below wr.heap.size wr (wr.alloc (.cells #[.int .i64 a, .int .i64 b, .int .i64 c, .int .i64 d] 83)) := (Below.refl _ wr).alloc (Nat.le_refl _) _
      have j1 := Lib.hid (hj.belows bl1)
      have hb1 : Below (w.heap.size + 1) w0 (wr.alloc (.cells #[.int .i64 a, .int .i64 b, .int .i64 c, .int .i64 d] 83)) := hb.alloc (by have := hj.lt; omega) _
      have HB1 := Lib.hid hb1
      have PA := Lib.hid pa
      have PB := Lib.hid pb
      have HKA := Lib.hid hka
      have HKB := Lib.hid hkb
      have hltL : wr.heap.size < (wr.alloc (.cells #[.int .i64 a, .int .i64 b, .int .i64 c, .int .i64 d] 83)).heap.size := by simp
      clear hc hj hb bl1 hb1 hbw pa pb hka hkb
      go_upto_region 5 with (fail)
      obtain ⟨w1, hw1⟩ : ∃ w1, w1 = (wr.alloc (.cells #[.int .i64 a, .int .i64 b, .int .i64 c, .int .i64 d] 83)) := ⟨_, rfl⟩
      rw [← hw1] at L1 j1 HB1 hltL ⊢
      have LZ : ∀ u, At u wr.heap.size #[.int .i64 a, .int .i64 b, .int .i64 c, .int .i64 d] 83 → u.cell? ⟨wr.heap.size, 0, none⟩ = some (.int .i64 a) ∧ u.cell? ⟨wr.heap.size, 1, none⟩ = some (.int .i64 b) ∧ u.cell? ⟨wr.heap.size, 2, none⟩ = some (.int .i64 c) ∧ u.cell? ⟨wr.heap.size, 3, none⟩ = some (.int .i64 d) := fun u h => ⟨(h.cell 0).trans rfl, (h.cell 1).trans rfl, (h.cell 2).trans rfl, (h.cell 3).trans rfl⟩
      have HLZ := Lib.hid LZ
      obtain ⟨B, hB⟩ : ∃ B, B = wr.heap.size := ⟨_, rfl⟩
      rw [← hB] at L1 hltL HLZ bs ⊢
      clear hw1 LZ hB r0 r1 r2 r3
      have j1d : MapAt Tryz.prog 81 ptV isPt w1.drew (w.heap.size + 1) (2 * k) s0 fun y => (M0 y).map ptV := JMap.belows j1.out (bdrewN (Below.refl _ _) 1)
      obtain ⟨w5, hrun5, j5, g5⟩ := j1d.put keyedPt ptV_inj Tryz.underlying99 (by unfold maxLen; omega) PA.out HKA.out (ptV ⟨c, d⟩)
      have J5 := Lib.hid (JMap.of_put j5)
      have L5 := L1.drew.kept g5 (by simpa using bs)
      have j5d : MapAt Tryz.prog 81 ptV isPt w5 (w.heap.size + 1) (2 * k + 1) (if (M0 ⟨a, b⟩).isSome then s0 else s0 + 1) fun y => (setM M0 ⟨a, b⟩ ⟨c, d⟩ y).map ptV := J5.out
      obtain ⟨w6, hrun6, j6, g6⟩ := j5d.put keyedPt ptV_inj Tryz.underlying99 (by unfold maxLen; omega) PB.out HKB.out (ptV ⟨a, b⟩)
      have J6 := Lib.hid (JMap.of_put j6)
      have L6 := L5.kept g6 (by simpa using bs)
      have G5 := Lib.hid g5
      have G6 := Lib.hid g6
      clear j1d j5 j5d j6 g5 g6
      rw [show ptV ⟨a, b⟩ = .agg #[.int .i64 a, .int .i64 b] from rfl, show ptV ⟨c, d⟩ = .agg #[.int .i64 c, .int .i64 d] from rfl] at hrun5 hrun6
      go_region_held3 (fun W => W.cell? ⟨B, 0, none⟩ = some (.int .i64 a) ∧ W.cell? ⟨B, 1, none⟩ = some (.int .i64 b) ∧ W.cell? ⟨B, 2, none⟩ = some (.int .i64 c) ∧ W.cell? ⟨B, 3, none⟩ = some (.int .i64 d))
        (first | exact HLZ.out _ L6 | exact HLZ.out _ L5 | exact HLZ.out _ L1.drew | exact HLZ.out _ L1) (fail)
      have HFB : Hid (Below (w.heap.size + 1) w0 w6) := Lib.hid (((bdrewN HB1.out 1).grown G5.out (by have := HB1.out.size; have := HS0.out; show w.heap.size + 1 ≤ w1.heap.size; omega) (fun j hj => by cases hj; exact Nat.le_refl _)).grown G6.out (by have := HB1.out.size; have := HS0.out; have := G5.out.size; have e : w1.drew.heap.size = w1.heap.size := rfl; omega) (fun j hj => by cases hj; exact Nat.le_refl _))
      have HFJ : Hid (JI ls w0 (w.heap.size + 1) (k + 1) w6) := Lib.hid ⟨by rw [HE.out, HC.out]; exact J6.out, HFB.out⟩
      clear HE HC J5 J6 G5 G6 HB1 L1 L5 L6 j1 HLZ hrun5 hrun6
      all_goals (go_wp2_with fail)
      all_goals (go_roundw)
      case rel => exact ⟨k + 1, by go_num, by omega, HFJ⟩
      case measure => simp [intOf]; omega
    · have hki : ¬ (k : Int) < (ls.length : Int) := by omega
      obtain rfl : k = ls.length := by omega
      rw [List.take_length] at hj
      have hbw : Below w.heap.size w wr := HB0.out.trans (hb.mono (by omega))
      have HJ := Lib.hid hj
      clear hj
      go_wp2
      go_ret
      exact ⟨_, rfl, by omega, HJ.out, hbw⟩
end Go.Proofs.YtlhfaildeemngaaGreat
/- Contracts: the program's below, hasDevice, Has. -/
namespace Go.Proofs.YtlhfaildeemngaaGreat
open Go.RowKit Go.Shelf

/-- Is there such a device? -/
def devT (ps : List Int) (d : Int) : Bool := decide (0 ≤ d) && decide (d < (ps.length : Int))
set_option maxRecDepth 100000 in
set_option maxHeartbeats 1000000 in
theorem below_any (n m : Int) (w : World) : Calls Tryz.prog 76 #[.int .i64 n, .int .i64 m] w fun e w' => e = .returned (.bool (decide (0 ≤ n) && decide (n < m))) ∧ w' = w := by
  by_cases h1 : 0 ≤ n
  · have e1 : decide (0 ≤ n) = true := decide_eq_true h1
    rw [e1]
    go_enter Tryz.func76, Tryz.ntmps76
    go_wp2
    go_ret
    exact ⟨by simp, rfl⟩
  · have e1 : decide (0 ≤ n) = false := decide_eq_false h1
    rw [e1]
    go_enter Tryz.func76, Tryz.ntmps76
    go_wp2
    go_ret
    exact ⟨by simp, rfl⟩
set_option maxRecDepth 100000 in
set_option maxHeartbeats 1000000 in
theorem hasDevice_any {vp vl : Value} (ps : List Int) (ls : List Lk) (d : Int) (w : World) (h : IsT w vp vl ps ls) : Calls Tryz.prog 61 #[.agg #[vp, vl], .int .i64 d] w fun e w' => e = .returned (.bool (devT ps d)) ∧ Below w.heap.size w w' := by
  obtain ⟨⟨A1, c1, rfl, n1, m1, _⟩, ⟨A2, c2, rfl, n2, m2, _⟩⟩ := h
  have hL : ps.length ≤ 9223372036854775807 := Nat.le_trans n1 m1
  have b0 : Below w.heap.size w (w.alloc (.cells #[.slice A1 ps.length c1, .slice A2 ls.length c2] 25)) := (Below.refl _ w).alloc (Nat.le_refl _) _
  go_enter Tryz.func61, Tryz.ntmps61
  go_wp2_with fail
  refine (below_any _ _ _).mono ?_
  rintro e w1 ⟨rfl, rfl⟩
  go_wp2
  go_ret
  exact ⟨rfl, b0⟩
set_option maxRecDepth 100000 in
set_option maxHeartbeats 1000000 in
/-- Has, of any topology. -/
theorem has_any {vp vl : Value} (ps : List Int) (ls : List Lk) (p : Pt) (w : World) (h : IsT w vp vl ps ls) : Calls Tryz.prog 55 #[.agg #[vp, vl], .agg (ptA p)] w fun e w' => e = .returned (.bool (hasT ps p)) ∧ Below w.heap.size w w' := by
  have HT : Hid (∀ u, Below w.heap.size w u → IsT u vp vl ps ls) := Lib.hid fun u hu => h.belows hu
  obtain ⟨⟨A1, c1, rfl, n1, m1, z1⟩, ⟨A2, c2, rfl, n2, m2, _⟩⟩ := h
  have hL : ps.length ≤ 9223372036854775807 := Nat.le_trans n1 m1
  obtain ⟨d, q⟩ := p
  have D0 := (At.new w #[.slice A1 ps.length c1, .slice A2 ls.length c2] 25).alloc (.cells #[.int .i64 d, .int .i64 q] 81)
  have P0 := At.new1 w (.cells #[.slice A1 ps.length c1, .slice A2 ls.length c2] 25) #[.int .i64 d, .int .i64 q] 81
  have b0 : Below w.heap.size w ((w.alloc (.cells #[.slice A1 ps.length c1, .slice A2 ls.length c2] 25)).alloc (.cells #[.int .i64 d, .int .i64 q] 81)) := ((Below.refl _ w).alloc (Nat.le_refl _) _).alloc (by simp) _
  have H1 := Lib.hid (z1.belows b0)
  clear z1
  obtain ⟨w0, hw0⟩ : ∃ w0, w0 = ((w.alloc (.cells #[.slice A1 ps.length c1, .slice A2 ls.length c2] 25)).alloc (.cells #[.int .i64 d, .int .i64 q] 81)) := ⟨_, rfl⟩
  unfold ptA
  dsimp only
  obtain ⟨V, hV⟩ : ∃ V, V = hasT ps ⟨d, q⟩ := ⟨_, rfl⟩
  rw [← hV]
  have HV := Lib.hid hV
  clear hV
  go_enter Tryz.func55, Tryz.ntmps55
  go_upto_region 1 with (fail)
  rw [← hw0] at D0 P0 b0 H1 ⊢
  clear hw0
  have s0 : ∀ x : Sub w0, x.u.cell? ⟨w.heap.size, 0, none⟩ = some (.slice A1 ps.length c1) := fun x => ((D0.belows x.h).cell 0).trans rfl
  have s1 : ∀ x : Sub w0, x.u.cell? ⟨w.heap.size, 1, none⟩ = some (.slice A2 ls.length c2) := fun x => ((D0.belows x.h).cell 1).trans rfl
  have t0 : ∀ x : Sub w0, x.u.cell? ⟨w.heap.size + 1, 0, none⟩ = some (.int .i64 d) := fun x => ((P0.belows x.h).cell 0).trans rfl
  have t1 : ∀ x : Sub w0, x.u.cell? ⟨w.heap.size + 1, 1, none⟩ = some (.int .i64 q) := fun x => ((P0.belows x.h).cell 1).trans rfl
  have kc : ∀ x : Sub w0, Calls Tryz.prog 61 #[.agg #[.slice A1 ps.length c1, .slice A2 ls.length c2], .int .i64 d] x.u fun e w' => e = .returned (.bool (devT ps d)) ∧ Below x.u.heap.size x.u w' := fun x => hasDevice_any ps ls d x.u (HT.out _ (b0.trans (x.h.mono b0.size)))
  by_cases h1 : 0 ≤ d ∧ d < (ps.length : Int)
  · obtain ⟨h1, h2⟩ := h1
    have e1 : devT ps d = true := by simp [devT, h1, h2]
    obtain ⟨k, rfl⟩ := Int.eq_ofNat_of_zero_le h1
    have hk : k < ps.length := by omega
    obtain ⟨g, o, rfl, hg, hc⟩ := H1.out.at k hk
    have c0 : ∀ x : Sub w0, x.u.cell? ⟨g, o + k, none⟩ = some (.int .i64 ps[k]) := fun x => (x.h.cell (p := ⟨g, _, none⟩) hg).trans (by have := hc 0 (by decide); simpa [intA] using this)
    have eg : hasT ps ⟨(k : Int), q⟩ = (decide (0 ≤ q) && decide (q < ps[k])) := by simp [hasT, hk]
    have HE := Lib.hid (HV.out.trans eg)
    rw [e1] at kc
    clear HV eg e1 hc D0 P0
    generalize ps[k] = y at c0 HE
    have kb : ∀ x : Sub w0, Calls Tryz.prog 76 #[.int .i64 q, .int .i64 y] x.u fun e w' => e = .returned (.bool (decide (0 ≤ q) && decide (q < y))) ∧ Below x.u.heap.size x.u w' := fun x => (below_any q y x.u).mono fun e w' h => ⟨h.1, by rw [h.2]; exact Below.refl _ _⟩
    generalize (decide (0 ≤ q) && decide (q < y)) = r at kb HE
    refine wp_region_cls (by kernel_rfl) (by kernel_rfl) ?_
    repeat (go_big_quiet_step (first | (go_at_call 61; exact Calls.cls_of (kc _)) | (go_at_call 76; exact Calls.cls_of (kb _))))
    refine wpQuiet_nil ?_
    rintro w7 ⟨x7, hx⟩
    have b7 := x7.h
    rw [← hx] at b7
    clear hx x7 s0 s1 t0 t1 kc kb c0
    go_wp2
    go_ret
    exact ⟨by rw [HE.out]; rfl, b0.trans (b7.mono b0.size)⟩
  · have e1 : devT ps d = false := by
      cases h : devT ps d with
      | false => rfl
      | true => simp [devT] at h; exact absurd h h1
    have e2 : hasT ps ⟨d, q⟩ = false := by
      cases h : hasT ps ⟨d, q⟩ with
      | false => rfl
      | true => simp [hasT] at h; exact absurd ⟨h.1, h.2.1⟩ h1
    have HE := Lib.hid (HV.out.trans e2)
    rw [e1] at kc
    clear HV e1 e2 h1 D0 P0
    refine wp_region_cls (by kernel_rfl) (by kernel_rfl) ?_
    repeat (go_big_quiet_step (first | (go_at_call 61; exact Calls.cls_of (kc _))))
    refine wpQuiet_nil ?_
    rintro w7 ⟨x7, hx⟩
    have b7 := x7.h
    rw [← hx] at b7
    clear hx x7 s0 s1 t0 t1 kc
    go_wp2
    go_ret
    exact ⟨by rw [HE.out]; rfl, b0.trans (b7.mono b0.size)⟩
end Go.Proofs.YtlhfaildeemngaaGreat
/- Contracts: the program's Right. -/
namespace Go.Proofs.YtlhfaildeemngaaGreat
open Go.RowKit Go.Shelf Go.Maps

theorem right_fin {ps : List Int} {ls : List Lk} (h1 : 1 ≤ ps.length) (h2 : ps.length ≤ 8) (h3 : ls.length ≤ 16) (hp : ∀ k (hk : k < ps.length), 1 ≤ ps[k] ∧ ps[k] ≤ 4)
    (hh : ∀ k (hk : k < ls.length), hasT ps ls[k].a = true ∧ hasT ps ls[k].b = true) : rightT ps ls = decide ((cntL ls : Int) = 2 * (ls.length : Int)) := by
  have hn := cntL_nodup ls
  cases hr : rightT ps ls with
  | true =>
    have := hn.2 ((rightT_iff _ _).1 hr).nodup
    symm
    rw [decide_eq_true_eq]
    omega
  | false =>
    symm
    rw [decide_eq_false_iff_not]
    intro e
    have hnd := hn.1 (by omega)
    have : rightT ps ls = true := by
      rw [rightT_iff]
      refine ⟨h1, h2, h3, fun x hx => ?_, fun p hp' => ?_, hnd⟩
      · obtain ⟨k, hk, rfl⟩ := List.getElem_of_mem hx; exact hp k hk
      · obtain ⟨l, hl, hh'⟩ := mem_ends.1 hp'
        obtain ⟨k, hk, rfl⟩ := List.getElem_of_mem hl
        rcases hh' with rfl | rfl
        · exact (hh k hk).1
        · exact (hh k hk).2
    rw [this] at hr; cases hr
theorem right_no5 {ps : List Int} {ls : List Lk} (k : Nat) (hk : k < ls.length) (h : hasT ps ls[k].a = false ∨ hasT ps ls[k].b = false) : rightT ps ls = false := by
  cases hr : rightT ps ls with
  | false => rfl
  | true =>
    have hR := (rightT_iff _ _).1 hr
    have h1 := hR.has _ (mem_ends.2 ⟨_, List.getElem_mem hk, .inl rfl⟩)
    have h2 := hR.has _ (mem_ends.2 ⟨_, List.getElem_mem hk, .inr rfl⟩)
    rw [h1, h2] at h
    rcases h with h | h <;> cases h
set_option maxRecDepth 100000 in
set_option maxHeartbeats 4000000 in
/-- Right, of any topology. -/
theorem right_any {vp vl : Value} (ps : List Int) (ls : List Lk) (w : World) (hT : TW ps ls) (h : IsT w vp vl ps ls) : Calls Tryz.prog 34 #[.agg #[vp, vl]] w fun e w' => e = .returned (.bool (rightT ps ls)) ∧ Below w.heap.size w w' := by
  have HT : Hid (∀ u, Below w.heap.size w u → IsT u vp vl ps ls) := Lib.hid fun u hu => h.belows hu
  have KJ : Hid (ls.length ≤ 16 → ∀ u, Below w.heap.size w u → Calls Tryz.prog 56 #[.agg #[vp, vl]] u (JOut ls u)) := Lib.hid fun h16 u hu => joined_any ps ls u hT h16 (h.belows hu)
  obtain ⟨⟨A1, c1, rfl, n1, m1, z1⟩, ⟨A2, c2, rfl, n2, m2, z2⟩⟩ := h
  have hM : ps.length ≤ 9223372036854775807 := Nat.le_trans n1 m1
  have hL : ls.length ≤ 9223372036854775807 := Nat.le_trans n2 m2
  have D0 := At.new w #[.slice A1 ps.length c1, .slice A2 ls.length c2] 25
  have b0 : Below w.heap.size w (w.alloc (.cells #[.slice A1 ps.length c1, .slice A2 ls.length c2] 25)) := (Below.refl _ w).alloc (Nat.le_refl _) _
  have H1 := Lib.hid (z1.belows b0)
  have H2 := Lib.hid (z2.belows b0)
  obtain ⟨V, hV⟩ : ∃ V, V = rightT ps ls := ⟨_, rfl⟩
  rw [← hV]
  have HV := Lib.hid hV
  clear z1 z2 hV n1 n2 m1 m2 hT
  go_enter Tryz.func34, Tryz.ntmps34
  obtain ⟨w0, hw0⟩ : ∃ w0, w0 = w.alloc (.cells #[.slice A1 ps.length c1, .slice A2 ls.length c2] 25) := ⟨_, rfl⟩
  rw [← hw0] at D0 b0 H1 H2
  have x0 := (D0.cell 0).trans rfl
  have x1 := (D0.cell 1).trans rfl
  have x1lt : w.heap.size < w0.heap.size := by rw [hw0]; simp
  go_upto_region 1 with (fail)
  rw [← hw0]
  clear hw0
  by_cases h1 : ps.length < 1
  · have hf := HV.out.trans (right_no1 (ps := ps) (ls := ls) (by omega))
    subst hf
    have e1 : decide ((ps.length : Int) < 1) = true := decide_eq_true (by omega)
    have e1n : decide (ps.length < 1) = true := decide_eq_true (by omega)
    have e0 : ps = [] := by cases ps with
      | nil => rfl
      | cons x l => simp at h1
    subst e0
    clear h1 e1 e1n
    go_wp2
    go_ret
    exact ⟨rfl, b0⟩
  have e1 : decide ((ps.length : Int) < 1) = false := decide_eq_false (by omega)
  have e1n : decide (ps.length < 1) = false := decide_eq_false (by omega)
  have hne : ps ≠ [] := fun e => by rw [e] at h1; simp at h1
  by_cases h2 : 8 < ps.length
  · have hf := HV.out.trans (right_no1 (ps := ps) (ls := ls) (by omega))
    subst hf
    have e2 : decide ((8 : Int) < (ps.length : Int)) = true := by simp; omega
    clear h1
    go_wp2
    go_ret
    exact ⟨rfl, b0⟩
  have e2 : decide ((8 : Int) < (ps.length : Int)) = false := by simp; omega
  by_cases h3 : 16 < ls.length
  · have hf := HV.out.trans (right_no1 (ps := ps) (ls := ls) (by omega))
    subst hf
    have e3 : decide ((16 : Int) < (ls.length : Int)) = true := by simp; omega
    clear h1
    go_wp2
    go_ret
    exact ⟨rfl, b0⟩
  have e3 : decide ((16 : Int) < (ls.length : Int)) = false := by simp; omega
  have h16 : ls.length ≤ 16 := by omega
  have hn1 : 1 ≤ ps.length := by omega
  have hn8 : ps.length ≤ 8 := by omega
  clear h1 h2 h3
  go_wp2
  go_loopw [26] (fun i wr => ∃ k : Nat, i = .int .i64 k ∧ k ≤ ps.length ∧ Hid (∀ j (hj : j < ps.length), j < k → 1 ≤ ps[j] ∧ ps[j] ≤ 4) ∧ wr = w0) (fun i _ => ps.length - (intOf i).toNat)
  case atStart => exact ⟨0, rfl, by omega, Lib.hid (fun j _ hj => by omega), rfl⟩
  case round =>
    obtain ⟨k, rfl, hk, HK, rfl⟩ := hrel
    by_cases hlt : k < ps.length
    · obtain ⟨g, o, f1, _, r⟩ := H1.out.at k hlt
      subst f1
      have r0 : wr.cell? ⟨g, o + k, none⟩ = some (.int .i64 ps[k]) := by have := r 0 (by decide); simpa [intA] using this
      have HX : Hid ((1 ≤ ps[k] ∧ ps[k] ≤ 4) → ∀ j (hj : j < ps.length), j < k + 1 → 1 ≤ ps[j] ∧ ps[j] ≤ 4) := Lib.hid fun e j hj hjk => by
        by_cases hjk' : j = k
        · subst hjk'; exact e
        · exact HK.out j hj (by omega)
      have HY : Hid (¬ (1 ≤ ps[k] ∧ ps[k] ≤ 4) → V = false) := Lib.hid fun e => HV.out.trans (right_no2 k hlt e)
      clear r
      generalize ps[k] = x at r0 HX HY
      have i0 : (0 : Int) ≤ (k : Int) := by omega
      have i1 : (k : Int) < (ps.length : Int) := by omega
      by_cases hx1 : x < 1
      · have hf := HY.out (by omega)
        subst hf
        have d1 : decide (x < 1) = true := decide_eq_true hx1
        clear HX HY hx1
        go_wp2
        go_ret
        exact ⟨rfl, b0⟩
      · have d1 : decide (x < 1) = false := decide_eq_false hx1
        by_cases hx4 : 4 < x
        · have hf := HY.out (by omega)
          subst hf
          have d4 : decide (4 < x) = true := decide_eq_true hx4
          clear HX HY hx1 hx4
          go_wp2
          go_ret
          exact ⟨rfl, b0⟩
        · have d4 : decide (4 < x) = false := decide_eq_false hx4
          have HN := Lib.hid (HX.out (by omega))
          clear HX HY hx1 hx4
          go_wp2
          go_roundw
          case rel => exact ⟨k + 1, by go_num, by omega, HN, (by first | rfl | trivial)⟩
          case measure => simp [intOf]; omega
    · have hki : ¬ (k : Int) < (ps.length : Int) := by omega
      have HPO : Hid (∀ j (hj : j < ps.length), 1 ≤ ps[j] ∧ ps[j] ≤ 4) := Lib.hid fun j hj => HK.out j hj (by omega)
      clear HK
      obtain ⟨w1, rfl⟩ : ∃ w1, w1 = wr := ⟨_, rfl⟩
      go_wp2
      go_loopw [40] (fun i wr => ∃ j : Nat, i = .int .i64 j ∧ j ≤ ls.length ∧ Hid (∀ m (hm : m < ls.length), m < j → hasT ps ls[m].a = true ∧ hasT ps ls[m].b = true) ∧ Below w1.heap.size w1 wr) (fun i => fun _ => ls.length - (intOf i).toNat)
      case atStart => exact ⟨0, rfl, by omega, Lib.hid (fun m _ hm => by omega), Below.refl _ _⟩
      case round =>
        obtain ⟨j, rfl, hj, HJ, hb⟩ := hrel
        have Dq := D0.belows hb
        have hbw : Below w.heap.size w wr := b0.trans (hb.mono b0.size)
        have hszr := hb.size
        by_cases hjl : j < ls.length
        · obtain ⟨g, o, f1, hg, r⟩ := H2.out.at j hjl
          subst f1
          have r0 := (hb.cell (p := ⟨g, o + j * 4 + 0, none⟩) hg).trans (r 0 (by decide))
          have r1 := (hb.cell (p := ⟨g, o + j * 4 + 1, none⟩) hg).trans (r 1 (by decide))
          have r2 := (hb.cell (p := ⟨g, o + j * 4 + 2, none⟩) hg).trans (r 2 (by decide))
          have r3 := (hb.cell (p := ⟨g, o + j * 4 + 3, none⟩) hg).trans (r 3 (by decide))
          have HX : Hid (hasT ps ls[j].a = true → hasT ps ls[j].b = true → ∀ m (hm : m < ls.length), m < j + 1 → hasT ps ls[m].a = true ∧ hasT ps ls[m].b = true) := Lib.hid fun ea eb m hm hmj => by
            by_cases hmj' : m = j
            · subst hmj'; exact ⟨ea, eb⟩
            · exact HJ.out m hm (by omega)
          have HY : Hid (hasT ps ls[j].a = false ∨ hasT ps ls[j].b = false → V = false) := Lib.hid fun e => HV.out.trans (right_no5 j hjl e)
          have ka : ∀ u, Below w.heap.size w u → Calls Tryz.prog 55 #[.agg #[.slice A1 ps.length c1, .slice (some ⟨g, o, none⟩) ls.length c2], .agg (ptA ls[j].a)] u fun e w' => e = .returned (.bool (hasT ps ls[j].a)) ∧ Below u.heap.size u w' := fun u hu => has_any ps ls ls[j].a u (HT.out u hu)
          have kb : ∀ u, Below w.heap.size w u → Calls Tryz.prog 55 #[.agg #[.slice A1 ps.length c1, .slice (some ⟨g, o, none⟩) ls.length c2], .agg (ptA ls[j].b)] u fun e w' => e = .returned (.bool (hasT ps ls[j].b)) ∧ Below u.heap.size u w' := fun u hu => has_any ps ls ls[j].b u (HT.out u hu)
          have i0 : (0 : Int) ≤ (j : Int) := by omega
          have i1 : (j : Int) < (ls.length : Int) := by omega
          clear r
          generalize ls[j] = l at r0 r1 r2 r3 HX HY ka kb
          obtain ⟨⟨a, b⟩, ⟨c, d⟩⟩ := l
          simp only [lkA, Nat.add_zero] at r0 r1 r2 r3
          dsimp only at HX HY ka kb
          unfold ptA at ka kb
          dsimp only at ka kb
          generalize hasT ps ⟨a, b⟩ = qa at ka HX HY
          generalize hasT ps ⟨c, d⟩ = qb at kb HX HY
          have L1 := At.new wr #[.int .i64 a, .int .i64 b, .int .i64 c, .int .i64 d] 83
          have D1 := Dq.alloc (.cells #[.int .i64 a, .int .i64 b, .int .i64 c, .int .i64 d] 83)
          have hb1 : Below w1.heap.size w1 (wr.alloc (.cells #[.int .i64 a, .int .i64 b, .int .i64 c, .int .i64 d] 83)) := hb.alloc hb.size _
          have hbw1 : Below w.heap.size w (wr.alloc (.cells #[.int .i64 a, .int .i64 b, .int .i64 c, .int .i64 d] 83)) := hbw.alloc hbw.size _
          have kaa := ka _ hbw1
          have HKB := Lib.hid kb
          have y0 := (Dq.cell 0).trans rfl
          have y1 := (Dq.cell 1).trans rfl
          have hlt1 : w.heap.size < wr.heap.size := by omega
          clear ka kb
          go_upto_region 12 with (fail)
          obtain ⟨w2, hw2⟩ : ∃ w2, w2 = (wr.alloc (.cells #[.int .i64 a, .int .i64 b, .int .i64 c, .int .i64 d] 83)) := ⟨_, rfl⟩
          rw [← hw2] at L1 D1 hb1 hbw1 kaa ⊢
          clear hw2 y0 y1
          have y0 := (D1.cell 0).trans rfl
          have y1 := (D1.cell 1).trans rfl
          have l0 := (L1.cell 0).trans rfl
          have l1 := (L1.cell 1).trans rfl
          cases qa with
          | false =>
            have hf := HY.out (.inl rfl)
            subst hf
            clear HX HY
            go_wp2_with fail
            refine kaa.mono ?_
            rintro e w3 ⟨rfl, b3⟩
            go_wp2
            go_ret
            exact ⟨rfl, hbw1.trans (b3.mono hbw1.size)⟩
          | true =>
            go_wp2_with fail
            refine kaa.mono ?_
            rintro e w3 ⟨rfl, b3⟩
            have hbw3 := hbw1.trans (b3.mono hbw1.size)
            have hb3 := hb1.trans (b3.mono hb1.size)
            have kbb := HKB.out w3 hbw3
            have D3 := D1.belows b3
            have L3 := L1.belows b3
            clear y0 y1 l0 l1 kaa
            have y0 := (D3.cell 0).trans rfl
            have y1 := (D3.cell 1).trans rfl
            have l2 := (L3.cell 2).trans rfl
            have l3 := (L3.cell 3).trans rfl
            cases qb with
            | false =>
              have hf := HY.out (.inr rfl)
              subst hf
              clear HX HY
              go_wp2_with fail
              refine kbb.mono ?_
              rintro e w4 ⟨rfl, b4⟩
              go_wp2
              go_ret
              exact ⟨rfl, hbw3.trans (b4.mono hbw3.size)⟩
            | true =>
              have HN := Lib.hid (HX.out (by trivial) (by trivial))
              clear HX HY
              go_wp2_with fail
              refine kbb.mono ?_
              rintro e w4 ⟨rfl, b4⟩
              have hb4 := hb3.trans (b4.mono hb3.size)
              go_wp2
              go_roundw
              case rel => exact ⟨j + 1, by go_num, by omega, HN, hb4⟩
              case measure => simp [intOf]; omega
        · have hji : ¬ (j : Int) < (ls.length : Int) := by omega
          have hV : V = decide ((cntL ls : Int) = 2 * (ls.length : Int)) := HV.out.trans (right_fin hn1 hn8 h16 HPO.out fun m hm => HJ.out m hm (by omega))
          clear HJ
          have HVV := Lib.hid hV
          have kj := KJ.out h16
          have hwr : ∀ u, Below wr.heap.size wr u → Below w.heap.size w u := fun u hu => hbw.trans (hu.mono hbw.size)
          have hml := fun u b n s M (h : JMap u b n s M) => MapAt.run_len h Tryz.underlying99 3
          have hwm : IntKind.i64.wrap (2 * (ls.length : Int)) = 2 * (ls.length : Int) := IntWalk.i64_in _ (by omega)
          have y0 := (Dq.cell 0).trans rfl
          have y1 := (Dq.cell 1).trans rfl
          clear hV y0 y1 hml
          have x0 : ∀ x : Sub wr, x.u.cell? ⟨w.heap.size, 0, none⟩ = some (.slice A1 ps.length c1) := fun x => ((Dq.belows x.h).cell 0).trans rfl
          have x1 : ∀ x : Sub wr, x.u.cell? ⟨w.heap.size, 1, none⟩ = some (.slice A2 ls.length c2) := fun x => ((Dq.belows x.h).cell 1).trans rfl
          go_wp2_with fail
          refine wp_region_seg 1 8 (by kernel_rfl) (by kernel_rfl) rfl (by kernel_rfl) (by kernel_rfl) ?_
          show wpQuiet _ _ _ _ [_] ⟨List.toArray (_ :: _ :: _ :: _ :: _ :: _ :: _ :: _ :: _ :: _ :: _ :: _ :: _ :: _ :: _ :: _ :: _ :: _ :: _ :: _ :: _ :: _ :: _ :: _ :: _ :: _ :: _ :: _ :: _ :: _ :: _ :: _ :: _ :: _ :: _ :: _ :: _ :: _ :: _ :: _ :: _ :: _ :: _ :: _ :: _ :: _ :: _ :: _ :: _ :: _ :: _ :: _ :: _ :: _ :: _ :: _ :: _ :: _ :: _ :: _ :: _ :: _ :: _ :: _ :: _ :: []), _⟩
          repeat (go_big_quiet_step (fail))
          refine wpQuiet_nil ?_
          intro u1 hu1
          refine held_more 4 4 3 (by kernel_rfl) (by kernel_rfl) (by kernel_rfl) hu1 ?_
          show wpQuiet _ _ _ _ [_, _, _, _] ⟨List.toArray (_ :: _ :: _ :: _ :: _ :: _ :: _ :: _ :: _ :: _ :: _ :: _ :: _ :: _ :: _ :: _ :: _ :: _ :: _ :: _ :: _ :: _ :: _ :: _ :: _ :: _ :: _ :: _ :: _ :: _ :: _ :: _ :: _ :: _ :: _ :: _ :: _ :: _ :: _ :: _ :: _ :: _ :: _ :: _ :: _ :: _ :: _ :: _ :: _ :: _ :: _ :: _ :: _ :: _ :: _ :: _ :: _ :: _ :: _ :: _ :: _ :: _ :: _ :: _ :: _ :: []), _⟩
          repeat (go_big_quiet_step (fail))
          refine wpQuiet_nil ?_
          intro u2 hu2
          clear x0 x1
          refine held_call (k := 1) (ys := #[.agg #[.slice A1 ps.length c1, .slice A2 ls.length c2]]) (by kernel_rfl) rfl (by kernel_rfl) rfl Tryz.func56 (by kernel_rfl) (by kernel_rfl) hu2 (by simp only [List.map_toArray, List.map_cons, List.map_nil, Act.eval] <;> rfl) (fun v => rfl) ?_
          refine (kj u2 (hwr u2 hu2)).mono ?_
          rintro e w5 ⟨bq, rfl, hbq, J5, b5⟩
          refine ⟨_, rfl, b5, ?_⟩
          have hlen : ∀ x : Sub w5, (Builtin.len_ #[99] 3 #[.map (some bq)]).run Tryz.prog x.u = .ok (.int .i64 (cntL ls)) x.u := fun x => MapAt.run_len (J5.belows x.h) Tryz.underlying99 3
          have hbw5 := (hwr u2 hu2).trans (b5.mono (hwr u2 hu2).size)
          clear J5 b5 hbq
          generalize cntL ls = cn at hlen HVV
          have hwm2 : IntKind.i64.wrap (2 * (ls.length : Int)) = 2 * (ls.length : Int) := hwm
          refine held_more 1 2 2 (by kernel_rfl) (by kernel_rfl) (by kernel_rfl) (Below.refl _ _) ?_
          show wpQuiet _ _ _ _ [_] ⟨List.toArray (_ :: _ :: _ :: _ :: _ :: _ :: _ :: _ :: _ :: _ :: _ :: _ :: _ :: _ :: _ :: _ :: _ :: _ :: _ :: _ :: _ :: _ :: _ :: _ :: _ :: _ :: _ :: _ :: _ :: _ :: _ :: _ :: _ :: _ :: _ :: _ :: _ :: _ :: _ :: _ :: _ :: _ :: _ :: _ :: _ :: _ :: _ :: _ :: _ :: _ :: _ :: _ :: _ :: _ :: _ :: _ :: _ :: _ :: _ :: _ :: _ :: _ :: _ :: _ :: _ :: []), _⟩
          repeat (go_big_quiet_step (fail))
          refine wpQuiet_nil ?_
          intro u3 hu3
          clear hlen
          refine held_more 2 0 7 (by kernel_rfl) (by kernel_rfl) (by kernel_rfl) hu3 ?_
          show wpQuiet _ _ _ _ [_, _] ⟨List.toArray (_ :: _ :: _ :: _ :: _ :: _ :: _ :: _ :: _ :: _ :: _ :: _ :: _ :: _ :: _ :: _ :: _ :: _ :: _ :: _ :: _ :: _ :: _ :: _ :: _ :: _ :: _ :: _ :: _ :: _ :: _ :: _ :: _ :: _ :: _ :: _ :: _ :: _ :: _ :: _ :: _ :: _ :: _ :: _ :: _ :: _ :: _ :: _ :: _ :: _ :: _ :: _ :: _ :: _ :: _ :: _ :: _ :: _ :: _ :: _ :: _ :: _ :: _ :: _ :: _ :: []), _⟩
          repeat (go_big_quiet_step (fail))
          refine wpQuiet_nil ?_
          intro u4 hu4
          refine held_end (by kernel_rfl) ?_
          have hbw6 := hbw5.trans (hu4.mono hbw5.size)
          go_wp2
          go_ret
          exact ⟨by rw [HVV.out]; rfl, hbw6⟩
end Go.Proofs.YtlhfaildeemngaaGreat
/- Contracts: the program's Fits. -/
namespace Go.Proofs.YtlhfaildeemngaaGreat
open Go.RowKit Go.Shelf

/-- Does one rule fit, as the program asks? -/
def fitsR (ps : List Int) (r : Ru) : Bool := if r.kd = 0 then hasT ps ⟨r.dv, r.pt⟩ else devT ps r.dv
theorem fitsR_right {ps : List Int} {ls : List Lk} (hR : RT ps ls) {r : Ru} (hr : ruB r = true) : fitsR ps r = hasT ps ⟨r.dv, r.pt⟩ := by
  unfold fitsR
  by_cases h : r.kd = 0
  · rw [if_pos h]
  · rw [if_neg h]
    obtain ⟨_, _, _, _, _, _, _, _, h9⟩ := (ruB_iff r).1 hr
    have h0 := h9.resolve_left h
    unfold devT hasT
    by_cases h1 : 0 ≤ r.dv
    · by_cases h2 : r.dv < (ps.length : Int)
      · have hp := hR.ports (ps[r.dv.toNat]'(by omega)) (List.getElem_mem _)
        rw [h0]
        dsimp only
        rw [List.getElem?_eq_getElem (by omega)]
        simp [h1, h2]
        omega
      · simp [h2]
    · simp [h1]
theorem allB_right {L : List Ru} (h : allB L = true) : ∀ r ∈ L, ruB r = true := by
  intro r hr
  obtain ⟨k, hk, rfl⟩ := List.getElem_of_mem hr
  exact (((allB_iff L).1 h).2 k hk).1
theorem enters_fits : ∀ args w, (callFunc 60 args).run Tryz.prog w = .ok (.enter 60 args) w := enters_of Tryz.func60 (by kernel_rfl) rfl
set_option maxRecDepth 100000 in
set_option maxHeartbeats 1000000 in
/-- The predicate. -/
theorem fitsBody_any {vp vl : Value} (ps : List Int) (ls : List Lk) (r : Ru) (B : Nat) (W : World) (hB : At W B #[vp, vl] 25) (h : IsT W vp vl ps ls) :
    Calls Tryz.prog 60 #[.agg (ruA r), .pointer (some ⟨B, 0, none⟩)] W fun e W' => e = .returned (.bool (!fitsR ps r)) ∧ Below W.heap.size W W' := by
  obtain ⟨id, dv, pr, kd, f, t, pt⟩ := r
  rw [ruA_mk]
  have b0 : Below W.heap.size W (W.alloc (.cells #[.int .i64 id, .int .i64 dv, .int .i64 pr, .int .i64 kd, .int .u32 f, .int .u32 t, .int .i64 pt] 41)) := (Below.refl _ _).alloc (Nat.le_refl _) _
  have hh := h.belows b0
  have k1 := has_any ps ls ⟨dv, pt⟩ _ hh
  have k2 := hasDevice_any ps ls dv _ hh
  have D1 := hB.belows b0
  have R1 := At.new W #[.int .i64 id, .int .i64 dv, .int .i64 pr, .int .i64 kd, .int .u32 f, .int .u32 t, .int .i64 pt] 41
  obtain ⟨V, hV⟩ : ∃ V, V = fitsR ps ⟨id, dv, pr, kd, f, t, pt⟩ := ⟨_, rfl⟩
  rw [← hV]
  unfold fitsR at hV
  dsimp only at hV
  unfold ptA at k1
  dsimp only at k1
  obtain ⟨⟨A1, c1, rfl, _⟩, ⟨A2, c2, rfl, _⟩⟩ := h
  clear hh
  go_enter Tryz.func60, Tryz.ntmps60
  go_upto_region 1 with (fail)
  obtain ⟨w1, hw1⟩ : ∃ w1, w1 = W.alloc (.cells #[.int .i64 id, .int .i64 dv, .int .i64 pr, .int .i64 kd, .int .u32 f, .int .u32 t, .int .i64 pt] 41) := ⟨_, rfl⟩
  rw [← hw1] at b0 k1 k2 D1 R1 ⊢
  clear hw1
  have x0 := (D1.cell 0).trans rfl
  have x1 := (D1.cell 1).trans rfl
  have y1 := (R1.cell 1).trans rfl
  have y3 := (R1.cell 3).trans rfl
  have y5 := (R1.cell 6).trans rfl
  by_cases h0 : kd = 0
  · rw [if_pos h0] at hV
    have HV := Lib.hid hV
    subst h0
    clear hV k2
    go_wp2_with fail
    refine k1.mono ?_
    rintro e w2 ⟨rfl, b2⟩
    go_wp2
    go_ret
    exact ⟨by rw [HV.out]; rfl, b0.trans (b2.mono b0.size)⟩
  · rw [if_neg h0] at hV
    have HV := Lib.hid hV
    have e1 : (kd == 0) = false := by simp [h0]
    have e2 : decide (kd = 0) = false := by simp [h0]
    clear hV k1 h0
    go_wp2_with fail
    refine k2.mono ?_
    rintro e w2 ⟨rfl, b2⟩
    go_wp2
    go_ret
    exact ⟨by rw [HV.out]; rfl, b0.trans (b2.mono b0.size)⟩
set_option maxRecDepth 100000 in
set_option maxHeartbeats 1000000 in
/-- Fits, of a right topology and right rules. -/
theorem fits_any {vp vl vr : Value} (ps : List Int) (ls : List Lk) (L : List Ru) (w : World) (hR : RT ps ls) (hA : allB L = true) (h : IsT w vp vl ps ls) (hr : IsR w vr L) : Calls Tryz.prog 36 #[.agg #[vp, vl], vr] w fun e w' => e = .returned (.bool (fitsT ps L)) ∧ Below w.heap.size w w' := by
  have b0 : Below w.heap.size w (w.alloc (.cells #[vp, vl] 25)) := (Below.refl _ w).alloc (Nat.le_refl _) _
  have D0 := At.new w #[vp, vl] 25
  have hsteps : Steps 60 #[.pointer (some ⟨w.heap.size, 0, none⟩)] L (fun k => !fitsR ps (L[k]?.getD ru0)) (fun _ W => Below (w.alloc (.cells #[vp, vl] 25)).heap.size (w.alloc (.cells #[vp, vl] 25)) W) (w.alloc (.cells #[vp, vl] 25)).heap.size := by
    intro k hk W hI
    refine (fitsBody_any ps ls L[k] w.heap.size W (D0.belows hI) (h.belows (b0.trans (hI.mono b0.size)))).mono ?_
    rintro e W' ⟨rfl, hb⟩
    exact ⟨by show _ = Ending.returned (.bool (!fitsR ps (L[k]?.getD ru0))); rw [List.getElem?_eq_getElem hk]; rfl, hI.trans (hb.mono hI.size), hb.mono hI.size⟩
  have hZ : ∀ W, Below (w.alloc (.cells #[vp, vl] 25)).heap.size (w.alloc (.cells #[vp, vl] 25)) W → IsR W vr L := fun W hW => hr.belows (b0.trans (hW.mono b0.size))
  have hc := containsFunc_any 60 #[.pointer (some ⟨w.heap.size, 0, none⟩)] enters_fits L _ _ _ (w.alloc (.cells #[vp, vl] 25)) hsteps (Below.refl _ _) hZ
  obtain ⟨q, hq⟩ : ∃ q, q = fitsT ps L := ⟨_, rfl⟩
  rw [← hq]
  have HQ : Hid (∀ b : Bool, (b = true ↔ ∃ k, k < L.length ∧ (!fitsR ps (L[k]?.getD ru0)) = true) → (!b) = q) := Lib.hid fun b hb => by
    rw [hq, Bool.eq_iff_iff, Bool.not_eq_true', ← Bool.not_eq_true, hb]
    unfold fitsT
    rw [List.all_eq_true]
    constructor
    · intro hno r hrL
      obtain ⟨k, hk, rfl⟩ := List.getElem_of_mem hrL
      cases hf : fitsR ps L[k] with
      | true => rw [← fitsR_right hR (allB_right hA _ hrL)]; exact hf
      | false => exact absurd ⟨k, hk, by rw [List.getElem?_eq_getElem hk]; simp [hf]⟩ hno
    · rintro hall ⟨k, hk, hf⟩
      rw [List.getElem?_eq_getElem hk] at hf
      have := hall L[k] (List.getElem_mem hk)
      rw [← fitsR_right hR (allB_right hA _ (List.getElem_mem hk))] at this
      simp [this] at hf
  obtain ⟨⟨A1, c1, rfl, _⟩, ⟨A2, c2, rfl, _⟩⟩ := h
  obtain ⟨A3, c3, rfl, _⟩ := hr
  clear hsteps hZ hq
  go_enter Tryz.func36, Tryz.ntmps36
  go_wp2_with (go_at_call 57; refine hc.mono ?_; rintro e w1 ⟨b, rfl, hb, b1⟩)
  go_ret
  exact ⟨by rw [← HQ.out b hb]; rfl, b0.trans (b1.mono b0.size)⟩
end Go.Proofs.YtlhfaildeemngaaGreat
/- Contracts: slices.Equal of numbers, of links; the program's Same. -/
namespace Go.Proofs.YtlhfaildeemngaaGreat
open Go.RowKit Go.Shelf

end Go.Proofs.YtlhfaildeemngaaGreat
/- Contracts: the program's Next. -/
namespace Go.Proofs.YtlhfaildeemngaaGreat
open Go.RowKit Go.Shelf

set_option maxRecDepth 100000 in
set_option maxHeartbeats 2000000 in
/-- Next, of any topology. -/
theorem next_any {vp vl : Value} (ps : List Int) (ls : List Lk) (p : Pt) (w : World) (h : IsT w vp vl ps ls) : Calls Tryz.prog 68 #[.agg #[vp, vl], .agg (ptA p)] w fun e w' => e = .returned (nextV (nextT ls p)) ∧ Below w.heap.size w w' := by
  obtain ⟨⟨A1, c1, rfl, n1, m1, _⟩, ⟨A2, c2, rfl, n2, m2, z2⟩⟩ := h
  have hL : ls.length ≤ 9223372036854775807 := Nat.le_trans n2 m2
  have hM : ps.length ≤ 9223372036854775807 := Nat.le_trans n1 m1
  obtain ⟨V, hV⟩ : ∃ V, V = nextT ls p := ⟨_, rfl⟩
  rw [← hV]
  have HV := Lib.hid hV
  clear hV
  have D0 := ((At.new w #[.slice A1 ps.length c1, .slice A2 ls.length c2] 25).alloc (.cells (ptA p) 81)).alloc (.cells (ptA ⟨0, 0⟩) 81)
  have P0 := (At.new1 w (.cells #[.slice A1 ps.length c1, .slice A2 ls.length c2] 25) (ptA p) 81).alloc (.cells (ptA ⟨0, 0⟩) 81)
  have R0 := At.new2 w (.cells #[.slice A1 ps.length c1, .slice A2 ls.length c2] 25) (.cells (ptA p) 81) (ptA ⟨0, 0⟩) 81
  have b0 : Below w.heap.size w (((w.alloc (.cells #[.slice A1 ps.length c1, .slice A2 ls.length c2] 25)).alloc (.cells (ptA p) 81)).alloc (.cells (ptA ⟨0, 0⟩) 81)) := (((Below.refl _ w).alloc (Nat.le_refl _) _).alloc (by simp) _).alloc (by simp; omega) _
  have HZ := Lib.hid (z2.belows b0)
  clear z2
  obtain ⟨d, q⟩ := p
  obtain ⟨w0, hw0⟩ : ∃ w0, w0 = (((w.alloc (.cells #[.slice A1 ps.length c1, .slice A2 ls.length c2] 25)).alloc (.cells #[.int .i64 d, .int .i64 q] 81)).alloc (.cells #[.int .i64 0, .int .i64 0] 81)) := ⟨_, rfl⟩
  rw [show ptA ⟨d, q⟩ = #[.int .i64 d, .int .i64 q] from rfl, show ptA ⟨0, 0⟩ = #[.int .i64 0, .int .i64 0] from rfl] at D0 P0 R0 b0 HZ
  rw [← hw0] at D0 P0 R0 b0 HZ
  unfold ptA
  dsimp only
  go_enter Tryz.func68, Tryz.ntmps68
  go_upto_region 1 with (fail)
  rw [← hw0]
  have hs0 : w.heap.size + 1 + 1 < w0.heap.size := by rw [hw0]; simp
  clear hw0
  have x1 := (D0.cell 1).trans rfl
  go_wp2
  go_loopw [11] (fun i wr => ∃ k : Nat, i = .int .i64 k ∧ k ≤ ls.length ∧ Hid (V = nextT (ls.drop k) ⟨d, q⟩) ∧ Below w0.heap.size w0 wr) (fun i _ => ls.length - (intOf i).toNat)
  case atStart => exact ⟨0, rfl, by omega, HV, Below.refl _ _⟩
  case round =>
    obtain ⟨k, rfl, hk, HK, hb⟩ := hrel
    have P1 := P0.belows hb
    have R1 := R0.belows hb
    have p0 := (P1.cell 0).trans rfl
    have p1 := (P1.cell 1).trans rfl
    have hsz := hb.size
    by_cases hlt : k < ls.length
    · obtain ⟨g, o, e, hg, hc⟩ := HZ.out.at k hlt
      subst e
      have r0 := (hb.cell (p := ⟨g, _, none⟩) hg).trans (hc 0 (by decide)); have r1 := (hb.cell (p := ⟨g, _, none⟩) hg).trans (hc 1 (by decide)); have r2 := (hb.cell (p := ⟨g, _, none⟩) hg).trans (hc 2 (by decide)); have r3 := (hb.cell (p := ⟨g, _, none⟩) hg).trans (hc 3 (by decide))
      have HD : Hid (ls.drop k = ls[k] :: ls.drop (k + 1)) := Lib.hid (List.drop_eq_getElem_cons hlt)
      have q1 := eql_pt ⟨d, q⟩ ls[k].a
      have q2 := eql_pt ⟨d, q⟩ ls[k].b
      have HA : Hid (ls[k].a = ⟨d, q⟩ → V = some ls[k].b) := Lib.hid fun e => by rw [HK.out, HD.out]; unfold nextT; rw [if_pos e]
      have HB : Hid (ls[k].a ≠ ⟨d, q⟩ → ls[k].b = ⟨d, q⟩ → V = some ls[k].a) := Lib.hid fun e e' => by rw [HK.out, HD.out]; unfold nextT; rw [if_neg e, if_pos e']
      have HC : Hid (ls[k].a ≠ ⟨d, q⟩ → ls[k].b ≠ ⟨d, q⟩ → V = nextT (ls.drop (k + 1)) ⟨d, q⟩) := Lib.hid fun e e' => by rw [HK.out, HD.out]; show (if _ then _ else if _ then _ else _) = _; rw [if_neg e, if_neg e']
      clear HD hc
      generalize ls[k] = l at r0 r1 r2 r3 q1 q2 HA HB HC
      obtain ⟨⟨ad, ap⟩, ⟨bd, bp⟩⟩ := l
      simp only [lkA, Nat.add_zero] at r0 r1 r2 r3
      dsimp only at q1 q2 HA HB HC
      have i0 : (0 : Int) ≤ (k : Int) := by omega
      have i1 : (k : Int) < (ls.length : Int) := by omega
      have hb2 : Below w0.heap.size w0 (wr.alloc (.cells #[.int .i64 ad, .int .i64 ap, .int .i64 bd, .int .i64 bp] 83)) := hb.alloc hb.size _
      have bw1 := b0.trans (hb.mono b0.size)
      have P2 := P1.alloc (.cells #[.int .i64 ad, .int .i64 ap, .int .i64 bd, .int .i64 bp] 83)
      have R2 := R1.alloc (.cells #[.int .i64 ad, .int .i64 ap, .int .i64 bd, .int .i64 bp] 83)
      have hlt2 : w.heap.size + 1 < wr.heap.size := by omega
      have hlt3 : w.heap.size + 1 + 1 < wr.heap.size := by omega
      have hlt4 : w.heap.size + 1 + 1 ≠ wr.heap.size := by omega
      by_cases h1 : (⟨ad, ap⟩ : Pt) = ⟨d, q⟩
      · have HV2 := Lib.hid (HA.out h1)
        rw [decide_eq_true h1.symm] at q1
        unfold ptA at q1
        dsimp only at q1
        clear HA HB HC h1 q2 HK
        have y0 := (R1.cell 0).trans rfl; have y1 := (R1.cell 1).trans rfl; have z0 := R1.frozen 0; have z1 := R1.frozen 1
        go_wp2
        have Z := ((R1.set0 0 (.int .i64 bd)).set0 1 (.int .i64 bp)).alloc (.cells #[.int .i64 ad, .int .i64 ap, .int .i64 bd, .int .i64 bp] 83)
        have Y0 := Z.cell 0
        have Y1 := Z.cell 1
        refine bodyPost_ret (v := .tuple #[.agg #[.int .i64 bd, .int .i64 bp], .bool true]) ?_ rfl ⟨by rw [HV2.out]; rfl, ((bw1.setCell (p := ⟨w.heap.size + 1 + 1, 0, none⟩) (by show w.heap.size ≤ w.heap.size + 1 + 1; omega) _).setCell (p := ⟨w.heap.size + 1 + 1, 1, none⟩) (by show w.heap.size ≤ w.heap.size + 1 + 1; omega) _).alloc (by simp; omega) _⟩
        simp at Y0 Y1
        simp [results, Tryz.results68, go_sem, Y0, Y1]
      · rw [decide_eq_false (fun e => h1 e.symm)] at q1
        unfold ptA at q1 
        dsimp only at q1
        by_cases h2 : (⟨bd, bp⟩ : Pt) = ⟨d, q⟩
        · have HV2 := Lib.hid (HB.out h1 h2)
          rw [decide_eq_true h2.symm] at q2
          unfold ptA at q2
          dsimp only at q2
          clear HA HB HC h1 h2 HK
          have y0 := (R1.cell 0).trans rfl; have y1 := (R1.cell 1).trans rfl; have z0 := R1.frozen 0; have z1 := R1.frozen 1
          go_wp2
          have Z := ((R1.set0 0 (.int .i64 ad)).set0 1 (.int .i64 ap)).alloc (.cells #[.int .i64 ad, .int .i64 ap, .int .i64 bd, .int .i64 bp] 83)
          have Y0 := Z.cell 0
          have Y1 := Z.cell 1
          refine bodyPost_ret (v := .tuple #[.agg #[.int .i64 ad, .int .i64 ap], .bool true]) ?_ rfl ⟨by rw [HV2.out]; rfl, ((bw1.setCell (p := ⟨w.heap.size + 1 + 1, 0, none⟩) (by show w.heap.size ≤ w.heap.size + 1 + 1; omega) _).setCell (p := ⟨w.heap.size + 1 + 1, 1, none⟩) (by show w.heap.size ≤ w.heap.size + 1 + 1; omega) _).alloc (by simp; omega) _⟩
          simp at Y0 Y1
          simp [results, Tryz.results68, go_sem, Y0, Y1]
        · have HV2 := Lib.hid (HC.out h1 h2)
          rw [decide_eq_false (fun e => h2 e.symm)] at q2
          unfold ptA at q2
          dsimp only at q2
          clear HA HB HC h1 h2 HK
          go_wp2
          go_roundw
          case rel => exact ⟨k + 1, by go_num, by omega, HV2, hb2⟩
          case measure => simp [intOf]; omega
    · have HV2 : Hid (V = none) := Lib.hid (by rw [HK.out, List.drop_eq_nil_of_le (by omega)]; rfl)
      have hki : ¬ (k : Int) < (ls.length : Int) := by omega
      clear HK
      have bw1 := b0.trans (hb.mono b0.size)
      have y0 := (R1.cell 0).trans rfl; have y1 := (R1.cell 1).trans rfl; have z0 := R1.frozen 0; have z1 := R1.frozen 1
      go_wp2
      have Z := (R1.set0 0 (.int .i64 0)).set0 1 (.int .i64 0)
      have Y0 := Z.cell 0
      have Y1 := Z.cell 1
      refine bodyPost_ret (v := .tuple #[.agg #[.int .i64 0, .int .i64 0], .bool false]) ?_ rfl ⟨by rw [HV2.out]; rfl, (bw1.setCell (p := ⟨w.heap.size + 1 + 1, 0, none⟩) (by show w.heap.size ≤ w.heap.size + 1 + 1; omega) _).setCell (p := ⟨w.heap.size + 1 + 1, 1, none⟩) (by show w.heap.size ≤ w.heap.size + 1 + 1; omega) _⟩
      simp at Y0 Y1
      simp [results, Tryz.results68, go_sem, Y0, Y1]
end Go.Proofs.YtlhfaildeemngaaGreat
/- Contracts: the program's Right, Step, Same. -/
namespace Go.Proofs.YtlhfaildeemngaaGreat
open Go.RowKit Go.Shelf

set_option maxRecDepth 100000 in
set_option maxHeartbeats 1000000 in
/-- Right, of any network. -/
theorem fright_any {vp vl vr : Value} (ps : List Int) (ls : List Lk) (L : List Ru) (w : World) (hW : NW ps ls L) (h : IsN w vp vl vr ps ls L) : Calls Tryz.prog 15 #[.agg #[vp, vl, vr]] w fun e w' => e = .returned (.bool (rightN ps ls L)) ∧ Below w.heap.size w w' := by
  have HN : Hid (∀ u, Below w.heap.size w u → IsN u vp vl vr ps ls L) := Lib.hid fun u hu => h.belows hu
  have HW := Lib.hid hW
  obtain ⟨⟨⟨A1, c1, rfl, _⟩, ⟨A2, c2, rfl, _⟩⟩, ⟨A3, c3, rfl, _⟩⟩ := h
  have D0 := At.new w #[.slice A1 ps.length c1, .slice A2 ls.length c2, .slice A3 L.length c3] 28
  have b0 : Below w.heap.size w (w.alloc (.cells #[.slice A1 ps.length c1, .slice A2 ls.length c2, .slice A3 L.length c3] 28)) := (Below.refl _ w).alloc (Nat.le_refl _) _
  obtain ⟨V, hV⟩ : ∃ V, V = rightN ps ls L := ⟨_, rfl⟩
  rw [← hV]
  have HV := Lib.hid hV
  clear hV hW
  go_enter Tryz.func15, Tryz.ntmps15
  go_upto_region 1 with (fail)
  obtain ⟨w0, hw0⟩ : ∃ w0, w0 = w.alloc (.cells #[.slice A1 ps.length c1, .slice A2 ls.length c2, .slice A3 L.length c3] 28) := ⟨_, rfl⟩
  rw [← hw0] at D0 b0 ⊢
  clear hw0
  have k1 := right_any ps ls w0 HW.out.topo (HN.out w0 b0).1
  have x0 := (D0.cell 0).trans rfl
  have x1 := (D0.cell 1).trans rfl
  cases h1 : rightT ps ls with
  | false =>
    have HF : Hid (V = false) := Lib.hid (by rw [HV.out, rightN, h1]; rfl)
    rw [h1] at k1
    clear h1
    go_wp2_with fail
    refine k1.mono ?_
    rintro e w1 ⟨rfl, b1⟩
    go_wp2
    go_ret
    exact ⟨by first | (rw [HF.out]; done) | (rw [HF.out]; rfl), b0.trans (b1.mono b0.size)⟩
  | true =>
    have HR := Lib.hid ((rightT_iff _ _).1 h1)
    rw [h1] at k1
    go_wp2_with fail
    refine k1.mono ?_
    rintro e w1 ⟨rfl, b1⟩
    have bw1 := b0.trans (b1.mono b0.size)
    have D1 := D0.belows b1
    have k2 := all_any L w1 (HN.out w1 bw1).2
    clear x0 x1 k1
    have x2 := (D1.cell 2).trans rfl
    cases h2 : allB L with
    | false =>
      have HF : Hid (V = false) := Lib.hid (by rw [HV.out, rightN, h1, h2]; rfl)
      rw [h2] at k2
      clear h1 h2
      go_wp2_with fail
      refine k2.mono ?_
      rintro e w2 ⟨rfl, b2⟩
      go_wp2
      go_ret
      exact ⟨by first | (rw [HF.out]; done) | (rw [HF.out]; rfl), bw1.trans (b2.mono bw1.size)⟩
    | true =>
      have HF : Hid (V = fitsT ps L) := Lib.hid (by rw [HV.out, rightN, h1, h2]; rfl)
      have HA := Lib.hid h2
      rw [h2] at k2
      clear h1 h2
      go_wp2_with fail
      refine k2.mono ?_
      rintro e w2 ⟨rfl, b2⟩
      have bw2 := bw1.trans (b2.mono bw1.size)
      have D2 := D1.belows b2
      clear x2 k2
      have x0 := (D2.cell 0).trans rfl
      have x1 := (D2.cell 1).trans rfl
      have x2 := (D2.cell 2).trans rfl
      have k3 := fits_any ps ls L w2 HR.out HA.out (HN.out w2 bw2).1 (HN.out w2 bw2).2
      go_wp2_with fail
      refine k3.mono ?_
      rintro e w3 ⟨rfl, b3⟩
      go_wp2
      go_ret
      exact ⟨by first | (rw [HF.out]; done) | (rw [HF.out]; rfl), bw2.trans (b3.mono bw2.size)⟩
set_option maxRecDepth 100000 in
set_option maxHeartbeats 2000000 in
/-- Step, of any network. -/
theorem fstep_any {vp vl vr : Value} (ps : List Int) (ls : List Lk) (L : List Ru) (d : Int) (a : Nat) (w : World) (h : IsN w vp vl vr ps ls L) : Calls Tryz.prog 45 #[.agg #[vp, vl, vr], .int .i64 d, .int .u32 a] w fun e w' => e = .returned (stepV (stepN ls L d a)) ∧ Below w.heap.size w w' := by
  have HN : Hid (∀ u, Below w.heap.size w u → IsN u vp vl vr ps ls L) := Lib.hid fun u hu => h.belows hu
  obtain ⟨⟨⟨A1, c1, rfl, _⟩, ⟨A2, c2, rfl, _⟩⟩, ⟨A3, c3, rfl, _⟩⟩ := h
  have D0 := (At.new w #[.slice A1 ps.length c1, .slice A2 ls.length c2, .slice A3 L.length c3] 28).alloc (.cells #[.int .i64 0, .int .i64 0] 81)
  have R0 := At.new1 w (.cells #[.slice A1 ps.length c1, .slice A2 ls.length c2, .slice A3 L.length c3] 28) #[.int .i64 0, .int .i64 0] 81
  have b0 : Below w.heap.size w ((w.alloc (.cells #[.slice A1 ps.length c1, .slice A2 ls.length c2, .slice A3 L.length c3] 28)).alloc (.cells #[.int .i64 0, .int .i64 0] 81)) := ((Below.refl _ w).alloc (Nat.le_refl _) _).alloc (by simp) _
  obtain ⟨V, hV⟩ : ∃ V, V = stepN ls L d a := ⟨_, rfl⟩
  rw [← hV]
  have HV := Lib.hid hV
  clear hV
  go_enter Tryz.func45, Tryz.ntmps45
  go_upto_region 1 with (fail)
  obtain ⟨w0, hw0⟩ : ∃ w0, w0 = ((w.alloc (.cells #[.slice A1 ps.length c1, .slice A2 ls.length c2, .slice A3 L.length c3] 28)).alloc (.cells #[.int .i64 0, .int .i64 0] 81)) := ⟨_, rfl⟩
  rw [← hw0] at D0 R0 b0 ⊢
  clear hw0
  have k1 := denies_any L d a w0 (HN.out w0 b0).2
  have x2 := (D0.cell 2).trans rfl
  rw [show ((firstL (tk d 2 3 a) L).isSome && decide (((firstL (tk d 2 3 a) L).getD ru0).kd = 3)) = denB L d a from rfl] at k1
  cases hd : denB L d a with
  | true =>
    have HF : Hid (V = (2, ⟨0, 0⟩)) := Lib.hid (HV.out.trans (stepN_den hd))
    rw [hd] at k1
    clear hd
    go_wp2_with (go_at_call 66; refine k1.mono ?_; rintro e w1 ⟨rfl, b1⟩; have R1 := R0.belows b1; have y0 := (R1.cell 0).trans rfl; have y1 := (R1.cell 1).trans rfl; have z0 := R1.frozen 0; have z1 := R1.frozen 1)
    have Z := (R1.set0 0 (.int .i64 0)).set0 1 (.int .i64 0)
    have Y0 := Z.cell 0
    have Y1 := Z.cell 1
    have bw1 := b0.trans (b1.mono b0.size)
    refine bodyPost_ret (v := .tuple #[.int .i64 2, .agg #[.int .i64 0, .int .i64 0]]) ?_ rfl ⟨by rw [HF.out]; rfl, (bw1.setCell (p := ⟨w.heap.size + 1, 0, none⟩) (by show w.heap.size ≤ w.heap.size + 1; omega) _).setCell (p := ⟨w.heap.size + 1, 1, none⟩) (by show w.heap.size ≤ w.heap.size + 1; omega) _⟩
    simp at Y0 Y1
    simp [results, Tryz.results45, go_sem, Y0, Y1]
  | false =>
    have HF : Hid (V = goP ls d (firstL (tk d 0 1 a) L)) := Lib.hid (HV.out.trans (stepN_go hd))
    rw [hd] at k1
    clear hd
    obtain ⟨o, ho⟩ : ∃ o, o = firstL (tk d 0 1 a) L := ⟨_, rfl⟩
    rw [← ho] at HF
    have HK2 : Hid (∀ u, Below w.heap.size w u → Calls Tryz.prog 67 #[.slice A3 L.length c3, .int .i64 d, .int .u32 a] u fun e w' => e = .returned (firstV o) ∧ Below u.heap.size u w') := Lib.hid fun u hu => by rw [ho]; exact match_any L d a u (HN.out u hu).2
    clear ho
    cases o with
    | none =>
      have HF2 : Hid (V = (0, ⟨0, 0⟩)) := Lib.hid HF.out
      rw [show firstV none = .tuple #[.agg (ruA ru0), .bool false] from rfl, rd0] at HK2
      go_wp2_with (first
        | (go_at_call 66; refine k1.mono ?_; rintro e w1 ⟨rfl, b1⟩; have bw1 := b0.trans (b1.mono b0.size); have D1 := D0.belows b1; have R1 := R0.belows b1; have k2 := HK2.out w1 bw1; clear x2; have x2 := (D1.cell 2).trans rfl; have x0 := (D1.cell 0).trans rfl; have x1 := (D1.cell 1).trans rfl)
        | (go_at_call 67; refine k2.mono ?_; rintro e w2 ⟨rfl, b2⟩; have bw2 := bw1.trans (b2.mono bw1.size); have D2 := D1.belows b2; have R2 := R1.belows b2; have hs2 := R2.lt; have hs3 : w.heap.size < w2.heap.size := (by omega); have hs4 : w.heap.size < w2.heap.size + 1 := (by omega); have hs5 : w.heap.size + 1 < w2.heap.size + 1 := (by omega); have y0 := (R2.cell 0).trans rfl; have y1 := (R2.cell 1).trans rfl; have z0 := R2.frozen 0; have z1 := R2.frozen 1))
      have Z := (((R2.set0 0 (.int .i64 0)).set0 1 (.int .i64 0)).alloc (.cells #[.int .i64 0, .int .i64 0, .int .i64 0, .int .i64 0, .int .u32 0, .int .u32 0, .int .i64 0] 41))
      have Y0 := Z.cell 0
      have Y1 := Z.cell 1
      refine bodyPost_ret (v := .tuple #[.int .i64 0, .agg #[.int .i64 0, .int .i64 0]]) ?_ rfl ⟨by rw [HF2.out]; rfl, (((bw2.setCell (p := ⟨w.heap.size + 1, 0, none⟩) (by show w.heap.size ≤ w.heap.size + 1; omega) _).setCell (p := ⟨w.heap.size + 1, 1, none⟩) (by show w.heap.size ≤ w.heap.size + 1; omega) _).alloc (by have := bw2.size; simp; omega) _)⟩
      simp at Y0 Y1
      simp [results, Tryz.results45, go_sem, Y0, Y1]
    | some r =>
      obtain ⟨id, dv, pr, kd, rf, rt, pt⟩ := r
      rw [show firstV (some ⟨id, dv, pr, kd, rf, rt, pt⟩) = .tuple #[.agg #[.int .i64 id, .int .i64 dv, .int .i64 pr, .int .i64 kd, .int .u32 rf, .int .u32 rt, .int .i64 pt], .bool true] from rfl] at HK2
      by_cases hkd : kd = 1
      · have HF2 : Hid (V = (1, ⟨0, 0⟩)) := Lib.hid (HF.out.trans (goP_drop hkd))
        subst hkd
        go_wp2_with (first
          | (go_at_call 66; refine k1.mono ?_; rintro e w1 ⟨rfl, b1⟩; have bw1 := b0.trans (b1.mono b0.size); have D1 := D0.belows b1; have R1 := R0.belows b1; have k2 := HK2.out w1 bw1; clear x2; have x2 := (D1.cell 2).trans rfl; have x0 := (D1.cell 0).trans rfl; have x1 := (D1.cell 1).trans rfl)
          | (go_at_call 67; refine k2.mono ?_; rintro e w2 ⟨rfl, b2⟩; have bw2 := bw1.trans (b2.mono bw1.size); have D2 := D1.belows b2; have R2 := R1.belows b2; have hs2 := R2.lt; have hs3 : w.heap.size < w2.heap.size := (by omega); have hs4 : w.heap.size < w2.heap.size + 1 := (by omega); have hs5 : w.heap.size + 1 < w2.heap.size + 1 := (by omega); have y0 := (R2.cell 0).trans rfl; have y1 := (R2.cell 1).trans rfl; have z0 := R2.frozen 0; have z1 := R2.frozen 1))
        have Z := (((R2.set0 0 (.int .i64 0)).set0 1 (.int .i64 0)).alloc (.cells #[.int .i64 id, .int .i64 dv, .int .i64 pr, .int .i64 1, .int .u32 rf, .int .u32 rt, .int .i64 pt] 41))
        have Y0 := Z.cell 0
        have Y1 := Z.cell 1
        refine bodyPost_ret (v := .tuple #[.int .i64 1, .agg #[.int .i64 0, .int .i64 0]]) ?_ rfl ⟨by rw [HF2.out]; rfl, (((bw2.setCell (p := ⟨w.heap.size + 1, 0, none⟩) (by show w.heap.size ≤ w.heap.size + 1; omega) _).setCell (p := ⟨w.heap.size + 1, 1, none⟩) (by show w.heap.size ≤ w.heap.size + 1; omega) _).alloc (by have := bw2.size; simp; omega) _)⟩
        simp at Y0 Y1
        simp [results, Tryz.results45, go_sem, Y0, Y1]
      · have hk1 : (kd == 1) = false := by simp [hkd]
        have hk2 : decide (kd = 1) = false := by simp [hkd]
        have HNX : Hid (∀ u, Below w.heap.size w u → Calls Tryz.prog 68 #[.agg #[.slice A1 ps.length c1, .slice A2 ls.length c2], .agg #[.int .i64 d, .int .i64 pt]] u fun e w' => e = .returned (nextV (nextT ls ⟨d, pt⟩)) ∧ Below u.heap.size u w') := Lib.hid fun u hu => next_any ps ls ⟨d, pt⟩ u (HN.out u hu).1
        cases hn : nextT ls ⟨d, pt⟩ with
        | none =>
          have HF2 : Hid (V = (3, ⟨d, pt⟩)) := Lib.hid (HF.out.trans (goP_out hkd hn))
          rw [hn, show nextV none = .tuple #[.agg #[.int .i64 0, .int .i64 0], .bool false] from rfl] at HNX
          clear hn hkd HF
          go_upto_region 11 with (first
            | (go_at_call 66; refine k1.mono ?_; rintro e w1 ⟨rfl, b1⟩; have bw1 := b0.trans (b1.mono b0.size); have D1 := D0.belows b1; have R1 := R0.belows b1; have k2 := HK2.out w1 bw1; clear x2; have x2 := (D1.cell 2).trans rfl; have x0 := (D1.cell 0).trans rfl; have x1 := (D1.cell 1).trans rfl)
            | (go_at_call 67; refine k2.mono ?_; rintro e w2 ⟨rfl, b2⟩; have bw2 := bw1.trans (b2.mono bw1.size); have D2 := D1.belows b2; have R2 := R1.belows b2; have hs2 := R2.lt; have hs3 : w.heap.size < w2.heap.size := (by omega); have hs4 : w.heap.size < w2.heap.size + 1 := (by omega); have hs5 : w.heap.size + 1 < w2.heap.size + 1 := (by omega); have P4 := At.new1 w2 (.cells #[.int .i64 id, .int .i64 dv, .int .i64 pr, .int .i64 kd, .int .u32 rf, .int .u32 rt, .int .i64 pt] 41) #[.int .i64 d, .int .i64 pt] 81; have R4 := (R2.alloc (.cells #[.int .i64 id, .int .i64 dv, .int .i64 pr, .int .i64 kd, .int .u32 rf, .int .u32 rt, .int .i64 pt] 41)).alloc (.cells #[.int .i64 d, .int .i64 pt] 81); have D4 := (D2.alloc (.cells #[.int .i64 id, .int .i64 dv, .int .i64 pr, .int .i64 kd, .int .u32 rf, .int .u32 rt, .int .i64 pt] 41)).alloc (.cells #[.int .i64 d, .int .i64 pt] 81); have bw4 : Below w.heap.size w ((w2.alloc (.cells #[.int .i64 id, .int .i64 dv, .int .i64 pr, .int .i64 kd, .int .u32 rf, .int .u32 rt, .int .i64 pt] 41)).alloc (.cells #[.int .i64 d, .int .i64 pt] 81)) := (bw2.alloc bw2.size _).alloc (by have := bw2.size; simp; omega) _; clear x0 x1; have x0 := (D2.cell 0).trans rfl; have x1 := (D2.cell 1).trans rfl)
            | (go_at_call 68; refine (HNX.out _ bw4).mono ?_; rintro e w5 ⟨rfl, b5⟩; have bw5 := bw4.trans (b5.mono bw4.size); have P5 := P4.belows b5; have R5 := R4.belows b5; have p0 := (P5.cell 0).trans rfl; have p1 := (P5.cell 1).trans rfl; have y0 := (R5.cell 0).trans rfl; have y1 := (R5.cell 1).trans rfl; have z0 := R5.frozen 0; have z1 := R5.frozen 1))
          obtain ⟨w6, hw6⟩ : ∃ w6, w6 = w5.alloc (.cells #[.int .i64 0, .int .i64 0] 81) := ⟨_, rfl⟩
          have P6 := P5.alloc (.cells #[.int .i64 0, .int .i64 0] 81)
          have R6 := R5.alloc (.cells #[.int .i64 0, .int .i64 0] 81)
          have bw6 := bw5.alloc bw5.size (.cells #[.int .i64 0, .int .i64 0] 81)
          rw [← hw6] at P6 R6 bw6 ⊢
          clear hw6 p0 p1 y0 y1 z0 z1 k1 k2 x0 x1 x2 HNX HK2 HN
          have p0 := (P6.cell 0).trans rfl; have p1 := (P6.cell 1).trans rfl
          have p0d : ({ heap := w6.heap, tape := w6.tape, drawn := w6.drawn + 1, os := w6.os, output := w6.output } : World).cell? ⟨w2.heap.size + 1, 0, none⟩ = some (.int .i64 d) := p0
          have p1d : ({ heap := w6.heap, tape := w6.tape, drawn := w6.drawn + 1, os := w6.os, output := w6.output } : World).cell? ⟨w2.heap.size + 1, 1, none⟩ = some (.int .i64 pt) := p1
          go_still_tail 2, (by kernel_rfl)
          clear p0d p1d p0 p1
          change wpList _ _ _ _ _ w6.drew
          have R7 := R6.drew
          have bw7 := bdrewN bw6 1
          change At w6.drew _ _ _ at R7
          change Below _ _ w6.drew at bw7
          generalize w6.drew = w7 at R7 bw7 ⊢
          have y0 := (R7.cell 0).trans rfl; have y1 := (R7.cell 1).trans rfl; have z0 := R7.frozen 0; have z1 := R7.frozen 1
          go_wp2
          have Z := (R7.set0 0 (.int .i64 d)).set0 1 (.int .i64 pt)
          have Y0 := Z.cell 0
          have Y1 := Z.cell 1
          refine bodyPost_ret (v := .tuple #[.int .i64 3, .agg #[.int .i64 d, .int .i64 pt]]) ?_ rfl ⟨by rw [HF2.out]; rfl, (bw7.setCell (p := ⟨w.heap.size + 1, 0, none⟩) (by show w.heap.size ≤ w.heap.size + 1; omega) _).setCell (p := ⟨w.heap.size + 1, 1, none⟩) (by show w.heap.size ≤ w.heap.size + 1; omega) _⟩
          simp at Y0 Y1
          simp [results, Tryz.results45, go_sem, Y0, Y1]
        | some q =>
          have HF2 : Hid (V = (4, ⟨d, pt⟩)) := Lib.hid (HF.out.trans (goP_on hkd hn))
          obtain ⟨qd, qp⟩ := q
          rw [hn, show nextV (some ⟨qd, qp⟩) = .tuple #[.agg #[.int .i64 qd, .int .i64 qp], .bool true] from rfl] at HNX
          clear hn hkd HF
          go_upto_region 12 with (first
            | (go_at_call 66; refine k1.mono ?_; rintro e w1 ⟨rfl, b1⟩; have bw1 := b0.trans (b1.mono b0.size); have D1 := D0.belows b1; have R1 := R0.belows b1; have k2 := HK2.out w1 bw1; clear x2; have x2 := (D1.cell 2).trans rfl; have x0 := (D1.cell 0).trans rfl; have x1 := (D1.cell 1).trans rfl)
            | (go_at_call 67; refine k2.mono ?_; rintro e w2 ⟨rfl, b2⟩; have bw2 := bw1.trans (b2.mono bw1.size); have D2 := D1.belows b2; have R2 := R1.belows b2; have hs2 := R2.lt; have hs3 : w.heap.size < w2.heap.size := (by omega); have hs4 : w.heap.size < w2.heap.size + 1 := (by omega); have hs5 : w.heap.size + 1 < w2.heap.size + 1 := (by omega); have P4 := At.new1 w2 (.cells #[.int .i64 id, .int .i64 dv, .int .i64 pr, .int .i64 kd, .int .u32 rf, .int .u32 rt, .int .i64 pt] 41) #[.int .i64 d, .int .i64 pt] 81; have R4 := (R2.alloc (.cells #[.int .i64 id, .int .i64 dv, .int .i64 pr, .int .i64 kd, .int .u32 rf, .int .u32 rt, .int .i64 pt] 41)).alloc (.cells #[.int .i64 d, .int .i64 pt] 81); have D4 := (D2.alloc (.cells #[.int .i64 id, .int .i64 dv, .int .i64 pr, .int .i64 kd, .int .u32 rf, .int .u32 rt, .int .i64 pt] 41)).alloc (.cells #[.int .i64 d, .int .i64 pt] 81); have bw4 : Below w.heap.size w ((w2.alloc (.cells #[.int .i64 id, .int .i64 dv, .int .i64 pr, .int .i64 kd, .int .u32 rf, .int .u32 rt, .int .i64 pt] 41)).alloc (.cells #[.int .i64 d, .int .i64 pt] 81)) := (bw2.alloc bw2.size _).alloc (by have := bw2.size; simp; omega) _; clear x0 x1; have x0 := (D2.cell 0).trans rfl; have x1 := (D2.cell 1).trans rfl)
            | (go_at_call 68; refine (HNX.out _ bw4).mono ?_; rintro e w5 ⟨rfl, b5⟩; have bw5 := bw4.trans (b5.mono bw4.size); have P5 := P4.belows b5; have R5 := R4.belows b5; have p0 := (P5.cell 0).trans rfl; have p1 := (P5.cell 1).trans rfl; have y0 := (R5.cell 0).trans rfl; have y1 := (R5.cell 1).trans rfl; have z0 := R5.frozen 0; have z1 := R5.frozen 1))
          obtain ⟨w6, hw6⟩ : ∃ w6, w6 = w5.alloc (.cells #[.int .i64 qd, .int .i64 qp] 81) := ⟨_, rfl⟩
          have P6 := P5.alloc (.cells #[.int .i64 qd, .int .i64 qp] 81)
          have R6 := R5.alloc (.cells #[.int .i64 qd, .int .i64 qp] 81)
          have bw6 := bw5.alloc bw5.size (.cells #[.int .i64 qd, .int .i64 qp] 81)
          rw [← hw6] at P6 R6 bw6 ⊢
          clear hw6 p0 p1 y0 y1 z0 z1 k1 k2 x0 x1 x2 HNX HK2 HN
          have p0 := (P6.cell 0).trans rfl; have p1 := (P6.cell 1).trans rfl
          have p0d : ({ heap := w6.heap, tape := w6.tape, drawn := w6.drawn + 1, os := w6.os, output := w6.output } : World).cell? ⟨w2.heap.size + 1, 0, none⟩ = some (.int .i64 d) := p0
          have p1d : ({ heap := w6.heap, tape := w6.tape, drawn := w6.drawn + 1, os := w6.os, output := w6.output } : World).cell? ⟨w2.heap.size + 1, 1, none⟩ = some (.int .i64 pt) := p1
          go_still_tail 2, (by kernel_rfl)
          clear p0d p1d p0 p1
          change wpList _ _ _ _ _ w6.drew
          have R7 := R6.drew
          have bw7 := bdrewN bw6 1
          change At w6.drew _ _ _ at R7
          change Below _ _ w6.drew at bw7
          generalize w6.drew = w7 at R7 bw7 ⊢
          have y0 := (R7.cell 0).trans rfl; have y1 := (R7.cell 1).trans rfl; have z0 := R7.frozen 0; have z1 := R7.frozen 1
          go_wp2
          have Z := (R7.set0 0 (.int .i64 d)).set0 1 (.int .i64 pt)
          have Y0 := Z.cell 0
          have Y1 := Z.cell 1
          refine bodyPost_ret (v := .tuple #[.int .i64 4, .agg #[.int .i64 d, .int .i64 pt]]) ?_ rfl ⟨by rw [HF2.out]; rfl, (bw7.setCell (p := ⟨w.heap.size + 1, 0, none⟩) (by show w.heap.size ≤ w.heap.size + 1; omega) _).setCell (p := ⟨w.heap.size + 1, 1, none⟩) (by show w.heap.size ≤ w.heap.size + 1; omega) _⟩
          simp at Y0 Y1
          simp [results, Tryz.results45, go_sem, Y0, Y1]
end Go.Proofs.YtlhfaildeemngaaGreat
/- Contracts of a table: Of, Atom, Within. -/
namespace Go.Proofs.YtlhfaildeemngaaGreat.Tr
open Go.RowKit Go.Shelf

set_option maxRecDepth 100000 in
set_option maxHeartbeats 1000000 in
theorem atom_no {v : Value} (L : List (Nat × Nat)) (i : Int) (w : World) (h : IsTab0 w v L) (hi : ¬ (0 ≤ i ∧ i < (bnds L).length)) : Calls Tryz.prog 43 #[v, .int .i64 i] w fun e w' => e = .returned (.tuple #[.agg #[.int .u32 0, .int .u32 0], .bool false]) ∧ Below w.heap.size w w' := by
  have A0 := At.new w #[.int .u32 0, .int .u32 0] 39
  have b0 : Below w.heap.size w (w.alloc (.cells #[.int .u32 0, .int .u32 0] 39)) := (Below.refl _ w).alloc (Nat.le_refl _) _
  have hs := some_any L _ (h.belows b0)
  obtain ⟨p, rfl⟩ := h.ptr
  go_enter Tryz.func43, Tryz.ntmps43
  go_wp2_with fail
  refine hs.mono ?_
  rintro e w1 ⟨v1, rfl, t1, b1⟩
  have hlen := len5_any L w1 t1.any
  obtain ⟨B, rfl⟩ := t1.ptr
  have A1 := A0.belows b1
  have bb1 := b0.trans (b1.mono b0.size)
  clear hs A0 t1 b0 b1
  generalize (bnds L).length = n at *
  by_cases h0 : i < 0
  · have A2 := (A1.set0 0 (.int .u32 0)).set0 1 (.int .u32 0)
    have f0 := A1.frozen 0
    have f1 := A1.frozen 1
    have e0 := (A1.cell 0).trans rfl
    have e1 := (A1.cell 1).trans rfl
    go_wp2
    refine bodyPost_ret (v := .tuple #[.agg #[.int .u32 0, .int .u32 0], .bool false]) (by simp [results, Tryz.results43, go_sem, A2.cell 0, A2.cell 1]) rfl ⟨rfl, ?_⟩
    exact (bb1.setCell (p := ⟨w.heap.size, 0, none⟩) (Nat.le_refl _) _).setCell (p := ⟨w.heap.size, 1, none⟩) (Nat.le_refl _) _
  · have h1 : (n : Int) ≤ i := by omega
    clear hi
    go_wp2_with fail
    refine hlen.mono ?_
    rintro e w2 ⟨rfl, b2⟩
    have A1 := A1.belows b2
    have A2 := (A1.set0 0 (.int .u32 0)).set0 1 (.int .u32 0)
    have f0 := A1.frozen 0
    have f1 := A1.frozen 1
    have e0 := (A1.cell 0).trans rfl
    have e1 := (A1.cell 1).trans rfl
    have bb2 := bb1.trans (b2.mono bb1.size)
    clear hlen b2 bb1
    go_wp2
    refine bodyPost_ret (v := .tuple #[.agg #[.int .u32 0, .int .u32 0], .bool false]) (by simp [results, Tryz.results43, go_sem, A2.cell 0, A2.cell 1]) rfl ⟨rfl, ?_⟩
    exact (bb2.setCell (p := ⟨w.heap.size, 0, none⟩) (Nat.le_refl _) _).setCell (p := ⟨w.heap.size, 1, none⟩) (Nat.le_refl _) _
end Go.Proofs.YtlhfaildeemngaaGreat.Tr
/- Contract: Atom, way 1. -/
namespace Go.Proofs.YtlhfaildeemngaaGreat.Tr
open Go.RowKit Go.Shelf

set_option maxRecDepth 100000 in
set_option maxHeartbeats 4000000 in
theorem atom_ok1 {v : Value} (L : List (Nat × Nat)) (i0 : Nat) (w : World) (h : IsTab0 w v L) (hi : i0 < (bnds L).length) (h0 : i0 = 0) (h9 : i0 + 1 = (bnds L).length) : Calls Tryz.prog 43 #[v, .int .i64 (i0 : Int)] w fun e w' => e = .returned (.tuple #[.agg #[.int .u32 (frm (bnds L) i0 : Nat), .int .u32 (too (bnds L) i0 : Nat)], .bool true]) ∧ Below w.heap.size w w' := by
  have hlast := h9
  subst h0
  clear h9
  have HLAST0 := Lib.hid hlast
  clear hlast
  have A0 := At.new w #[.int .u32 0, .int .u32 0] 39
  have b0 : Below w.heap.size w (w.alloc (.cells #[.int .u32 0, .int .u32 0] 39)) := (Below.refl _ w).alloc (Nat.le_refl _) _
  have hs := some_any L _ (h.belows b0)
  obtain ⟨p, rfl⟩ := h.ptr
  go_enter Tryz.func43, Tryz.ntmps43
  go_wp2_with fail
  refine hs.mono ?_
  rintro e w1 ⟨v1, rfl, t1, b1⟩
  have hlen := len5_any L w1 t1.any
  obtain ⟨hL, B, vr, vc, R, C, rfl, hB, ir, ic, tr, tc⟩ := t1
  obtain ⟨pc, rfl⟩ := ic.ptr
  have A1 := A0.belows b1
  have bb1 := b0.trans (b1.mono b0.size)
  have hbl := bnds_len hL tc
  have hcl := ic.up.2
  have hat := at_of hL tc
  have hbd := bd_of L
  have hfr := hbd.frm_le hi
  have HX : Hid ((∀ j, j + 1 < (bnds L).length → frm (bnds L) (j + 1) = too (bnds L) j + 1) ∧ (0 + 1 = (bnds L).length → too (bnds L) 0 = 4294967295) ∧ (True → frm (bnds L) 0 = 0)) := Lib.hid ⟨fun j hj => hbd.next hj, fun hj => hbd.last hj, fun _ => by rw [frm_in hbd.pos]; exact hbd.zero⟩
  have HAT := Lib.hid hat
  have hs0 : w.heap.size < w1.heap.size := A1.lt
  clear hs A0 b0 b1 ir tr tc hL hbd hat
  obtain ⟨n, hn⟩ : ∃ n, (bnds L).length = n := ⟨_, rfl⟩
  rw [hn] at hlen hi hbl HX HLAST0
  go_wp2_with fail
  refine hlen.mono ?_
  rintro e w2 ⟨rfl, b2⟩
  have A2 := A1.belows b2
  have hB2 := hB.belows b2
  have ic2 := ic.belows b2
  have bb2 := bb1.trans (b2.mono bb1.size)
  have c1 := (hB2.cell 1).trans rfl
  have hs2 : w.heap.size < w2.heap.size := A2.lt
  have hsB : B < w2.heap.size := hB2.lt
  clear hlen A1 hB ic bb1 b2 hs0
  have D2 := At.new w2 #[.int .u32 0, .int .u32 4294967295] 39
  have b2' : Below w2.heap.size w2 (w2.alloc (.cells #[.int .u32 0, .int .u32 4294967295] 39)) := (Below.refl _ w2).alloc (Nat.le_refl _) _
  have HLAST := HLAST0
  clear HLAST0 hn
  go_wp2_with fail
  obtain ⟨W2, hW2⟩ : ∃ W2, w2.alloc (.cells #[.int .u32 0, .int .u32 4294967295] 39) = W2 := ⟨_, rfl⟩
  rw [hW2] at D2 b2' ⊢
  clear hW2
  have hfr0 : frm (bnds L) 0 = 0 := HX.out.2.2 trivial
  have hc1 : Calls Tryz.prog 65 #[.pointer pc, .int .i64 (-1)] W2 fun e w' => e = .returned (.tuple #[.agg #[.int .u64 0, .int .i64 0], .bool false]) ∧ Below W2.heap.size W2 w' := At_any C (-1) W2 (ic2.belows b2') (by omega) (by omega)
  refine hc1.mono ?_
  rintro e w3 ⟨rfl, b3⟩
  have b3' := (b2'.trans (b3.mono b2'.size)).alloc (b2'.trans (b3.mono b2'.size)).size (.cells #[.int .u64 0, .int .i64 0] 109)
  have D3 := (D2.belows b3).alloc (.cells #[.int .u64 0, .int .i64 0] 109)
  have c3 := ((hB2.belows b3').cell 1).trans rfl
  clear hc1 b3 D2 b2' c1
  go_wp2_with fail
  obtain ⟨W3, hW3⟩ : ∃ W3, (w3.alloc (.cells #[.int .u64 0, .int .i64 0] 109)) = W3 := ⟨_, rfl⟩
  rw [hW3] at b3' D3 c3 ⊢
  clear hW3
  have h5 : C.length ≤ 0 := by have := HLAST.out; omega
  have ho : atL C ((0 : Nat) : Int) = none := by unfold atL; rw [if_pos (by omega), Int.toNat_natCast]; exact List.getElem?_eq_none h5
  clear h5
  have htoo : too (bnds L) (0) = 4294967295 := HX.out.2.1 HLAST.out
  have hc2 := At_any C ((0 : Nat) : Int) W3 (ic2.belows b3') (by omega) (by omega)
  rw [ho] at hc2
  simp only [toldV] at hc2
  clear ho
  refine hc2.mono ?_
  rintro e w4 ⟨rfl, b4⟩
  have b4 : Below W3.heap.size W3 w4 := b4
  have b4' := (b3'.trans (b4.mono b3'.size)).alloc (b3'.trans (b4.mono b3'.size)).size (.cells #[.int .u64 0, .int .i64 0] 109)
  have D4 := (D3.belows b4).alloc (.cells #[.int .u64 0, .int .i64 0] 109)
  have z0 := (D4.cell 0).trans rfl
  have z1 := (D4.cell 1).trans rfl
  have A4 := A2.belows b4'
  have q0 := (A4.cell 0).trans rfl
  have q1 := (A4.cell 1).trans rfl
  have p0 := A4.frozen 0
  have p1 := A4.frozen 1
  have A5 := (A4.set0 0 (.int .u32 0)).set0 1 (.int .u32 4294967295)
  have bw := bb2.trans (b4'.mono bb2.size)
  clear hc2 b4 D3 b3' c3
  go_wp2
  refine bodyPost_ret (v := .tuple #[.agg #[.int .u32 0, .int .u32 4294967295], .bool true]) (by simp [results, Tryz.results43, go_sem, A5.cell 0, A5.cell 1]) rfl ⟨?_, ?_⟩
  · rw [hfr0, htoo]; rfl
  · exact (bw.setCell (p := ⟨w.heap.size, 0, none⟩) (Nat.le_refl _) _).setCell (p := ⟨w.heap.size, 1, none⟩) (Nat.le_refl _) _
end Go.Proofs.YtlhfaildeemngaaGreat.Tr
/- Contract: Atom, way 2. -/
namespace Go.Proofs.YtlhfaildeemngaaGreat.Tr
open Go.RowKit Go.Shelf

set_option maxRecDepth 100000 in
set_option maxHeartbeats 4000000 in
theorem atom_ok2 {v : Value} (L : List (Nat × Nat)) (i0 : Nat) (w : World) (h : IsTab0 w v L) (hi : i0 < (bnds L).length) (h0 : i0 = 0) (h9 : ¬ i0 + 1 = (bnds L).length) : Calls Tryz.prog 43 #[v, .int .i64 (i0 : Int)] w fun e w' => e = .returned (.tuple #[.agg #[.int .u32 (frm (bnds L) i0 : Nat), .int .u32 (too (bnds L) i0 : Nat)], .bool true]) ∧ Below w.heap.size w w' := by
  have hlast := h9
  subst h0
  clear h9
  have HLAST0 := Lib.hid hlast
  clear hlast
  have A0 := At.new w #[.int .u32 0, .int .u32 0] 39
  have b0 : Below w.heap.size w (w.alloc (.cells #[.int .u32 0, .int .u32 0] 39)) := (Below.refl _ w).alloc (Nat.le_refl _) _
  have hs := some_any L _ (h.belows b0)
  obtain ⟨p, rfl⟩ := h.ptr
  go_enter Tryz.func43, Tryz.ntmps43
  go_wp2_with fail
  refine hs.mono ?_
  rintro e w1 ⟨v1, rfl, t1, b1⟩
  have hlen := len5_any L w1 t1.any
  obtain ⟨hL, B, vr, vc, R, C, rfl, hB, ir, ic, tr, tc⟩ := t1
  obtain ⟨pc, rfl⟩ := ic.ptr
  have A1 := A0.belows b1
  have bb1 := b0.trans (b1.mono b0.size)
  have hbl := bnds_len hL tc
  have hcl := ic.up.2
  have hat := at_of hL tc
  have hbd := bd_of L
  have hfr := hbd.frm_le hi
  have HX : Hid ((∀ j, j + 1 < (bnds L).length → frm (bnds L) (j + 1) = too (bnds L) j + 1) ∧ (0 + 1 = (bnds L).length → too (bnds L) 0 = 4294967295) ∧ (True → frm (bnds L) 0 = 0)) := Lib.hid ⟨fun j hj => hbd.next hj, fun hj => hbd.last hj, fun _ => by rw [frm_in hbd.pos]; exact hbd.zero⟩
  have HAT := Lib.hid hat
  have hs0 : w.heap.size < w1.heap.size := A1.lt
  clear hs A0 b0 b1 ir tr tc hL hbd hat
  obtain ⟨n, hn⟩ : ∃ n, (bnds L).length = n := ⟨_, rfl⟩
  rw [hn] at hlen hi hbl HX HLAST0
  go_wp2_with fail
  refine hlen.mono ?_
  rintro e w2 ⟨rfl, b2⟩
  have A2 := A1.belows b2
  have hB2 := hB.belows b2
  have ic2 := ic.belows b2
  have bb2 := bb1.trans (b2.mono bb1.size)
  have c1 := (hB2.cell 1).trans rfl
  have hs2 : w.heap.size < w2.heap.size := A2.lt
  have hsB : B < w2.heap.size := hB2.lt
  clear hlen A1 hB ic bb1 b2 hs0
  have D2 := At.new w2 #[.int .u32 0, .int .u32 4294967295] 39
  have b2' : Below w2.heap.size w2 (w2.alloc (.cells #[.int .u32 0, .int .u32 4294967295] 39)) := (Below.refl _ w2).alloc (Nat.le_refl _) _
  have HLAST := HLAST0
  clear HLAST0 hn
  go_wp2_with fail
  obtain ⟨W2, hW2⟩ : ∃ W2, w2.alloc (.cells #[.int .u32 0, .int .u32 4294967295] 39) = W2 := ⟨_, rfl⟩
  rw [hW2] at D2 b2' ⊢
  clear hW2
  have hfr0 : frm (bnds L) 0 = 0 := HX.out.2.2 trivial
  have hc1 : Calls Tryz.prog 65 #[.pointer pc, .int .i64 (-1)] W2 fun e w' => e = .returned (.tuple #[.agg #[.int .u64 0, .int .i64 0], .bool false]) ∧ Below W2.heap.size W2 w' := At_any C (-1) W2 (ic2.belows b2') (by omega) (by omega)
  refine hc1.mono ?_
  rintro e w3 ⟨rfl, b3⟩
  have b3' := (b2'.trans (b3.mono b2'.size)).alloc (b2'.trans (b3.mono b2'.size)).size (.cells #[.int .u64 0, .int .i64 0] 109)
  have D3 := (D2.belows b3).alloc (.cells #[.int .u64 0, .int .i64 0] 109)
  have c3 := ((hB2.belows b3').cell 1).trans rfl
  clear hc1 b3 D2 b2' c1
  go_wp2_with fail
  obtain ⟨W3, hW3⟩ : ∃ W3, (w3.alloc (.cells #[.int .u64 0, .int .i64 0] 109)) = W3 := ⟨_, rfl⟩
  rw [hW3] at b3' D3 c3 ⊢
  clear hW3
  have hlt2 : 0 < C.length := by have := HLAST.out; omega
  obtain ⟨n2, e2, _⟩ := HAT.out (0) hlt2
  have ho : atL C ((0 : Nat) : Int) = some (((frm (bnds L) (0 + 1) : Nat) : Int), n2) := by unfold atL; rw [if_pos (by omega)]; simp [hlt2, e2]
  have hnx : ((frm (bnds L) (0 + 1) : Nat) : Int) = ((too (bnds L) (0) : Nat) : Int) + 1 := by have := HX.out.1 (0) (by omega); omega
  rw [hnx] at ho
  have hc2 := At_any C ((0 : Nat) : Int) W3 (ic2.belows b3') (by omega) (by omega)
  rw [ho] at hc2
  simp only [toldV] at hc2
  clear ho e2 hnx hlt2
  refine hc2.mono ?_
  rintro e w4 ⟨rfl, b4⟩
  have b4 : Below W3.heap.size W3 w4 := b4
  have b4' := (b3'.trans (b4.mono b3'.size)).alloc (b3'.trans (b4.mono b3'.size)).size (.cells #[.int .u64 (((too (bnds L) (0) : Nat) : Int) + 1), .int .i64 n2] 109)
  have D4 := (D3.belows b4).alloc (.cells #[.int .u64 (((too (bnds L) (0) : Nat) : Int) + 1), .int .i64 n2] 109)
  have O4 := At.new w4 #[.int .u64 (((too (bnds L) (0) : Nat) : Int) + 1), .int .i64 n2] 109
  have x4 := (O4.cell 0).trans rfl
  have g4 := D4.frozen 1
  have y4 := (D4.cell 1).trans rfl
  have b4' := b4'.setCell (p := ⟨w2.heap.size, 1, none⟩) (Nat.le_refl _) (.int .u32 ((too (bnds L) (0) : Nat) : Int))
  have D4 := D4.set0 1 (.int .u32 ((too (bnds L) (0) : Nat) : Int))
  have j4 : IntKind.u32.wrap ((too (bnds L) (0) : Nat) : Int) = ((too (bnds L) (0) : Nat) : Int) := IntWalk.u32_in _ (by omega)
  have j7 : (((too (bnds L) (0) : Nat) : Int) + 1) - 1 = ((too (bnds L) (0) : Nat) : Int) := by omega
  have z0 := (D4.cell 0).trans rfl
  have z1 := (D4.cell 1).trans rfl
  have A4 := A2.belows b4'
  have q0 := (A4.cell 0).trans rfl
  have q1 := (A4.cell 1).trans rfl
  have p0 := A4.frozen 0
  have p1 := A4.frozen 1
  have A5 := (A4.set0 0 (.int .u32 0)).set0 1 (.int .u32 ((too (bnds L) (0) : Nat) : Int))
  have bw := bb2.trans (b4'.mono bb2.size)
  clear hc2 b4 D3 b3' c3
  go_wp2
  refine bodyPost_ret (v := .tuple #[.agg #[.int .u32 0, .int .u32 ((too (bnds L) (0) : Nat) : Int)], .bool true]) (by simp [results, Tryz.results43, go_sem, A5.cell 0, A5.cell 1]) rfl ⟨?_, ?_⟩
  · rw [hfr0]; rfl
  · exact (bw.setCell (p := ⟨w.heap.size, 0, none⟩) (Nat.le_refl _) _).setCell (p := ⟨w.heap.size, 1, none⟩) (Nat.le_refl _) _
end Go.Proofs.YtlhfaildeemngaaGreat.Tr
/- Contract: Atom, way 3. -/
namespace Go.Proofs.YtlhfaildeemngaaGreat.Tr
open Go.RowKit Go.Shelf

set_option maxRecDepth 100000 in
set_option maxHeartbeats 4000000 in
theorem atom_ok3 {v : Value} (L : List (Nat × Nat)) (i0 : Nat) (w : World) (h : IsTab0 w v L) (hi : i0 < (bnds L).length) (h0 : i0 ≠ 0) (h9 : i0 + 1 = (bnds L).length) : Calls Tryz.prog 43 #[v, .int .i64 (i0 : Int)] w fun e w' => e = .returned (.tuple #[.agg #[.int .u32 (frm (bnds L) i0 : Nat), .int .u32 (too (bnds L) i0 : Nat)], .bool true]) ∧ Below w.heap.size w w' := by
  have hlast := h9
  obtain ⟨i, rfl⟩ : ∃ i, i0 = i + 1 := ⟨i0 - 1, by omega⟩
  clear h9
  have HLAST0 := Lib.hid hlast
  clear hlast
  have A0 := At.new w #[.int .u32 0, .int .u32 0] 39
  have b0 : Below w.heap.size w (w.alloc (.cells #[.int .u32 0, .int .u32 0] 39)) := (Below.refl _ w).alloc (Nat.le_refl _) _
  have hs := some_any L _ (h.belows b0)
  obtain ⟨p, rfl⟩ := h.ptr
  go_enter Tryz.func43, Tryz.ntmps43
  go_wp2_with fail
  refine hs.mono ?_
  rintro e w1 ⟨v1, rfl, t1, b1⟩
  have hlen := len5_any L w1 t1.any
  obtain ⟨hL, B, vr, vc, R, C, rfl, hB, ir, ic, tr, tc⟩ := t1
  obtain ⟨pc, rfl⟩ := ic.ptr
  have A1 := A0.belows b1
  have bb1 := b0.trans (b1.mono b0.size)
  have hbl := bnds_len hL tc
  have hcl := ic.up.2
  have hat := at_of hL tc
  have hbd := bd_of L
  have hfr := hbd.frm_le hi
  have HX : Hid ((∀ j, j + 1 < (bnds L).length → frm (bnds L) (j + 1) = too (bnds L) j + 1) ∧ (i + 1 + 1 = (bnds L).length → too (bnds L) (i + 1) = 4294967295) ∧ True) := Lib.hid ⟨fun j hj => hbd.next hj, fun hj => hbd.last hj, trivial⟩
  have HAT := Lib.hid hat
  have hs0 : w.heap.size < w1.heap.size := A1.lt
  clear hs A0 b0 b1 ir tr tc hL hbd hat
  obtain ⟨n, hn⟩ : ∃ n, (bnds L).length = n := ⟨_, rfl⟩
  rw [hn] at hlen hi hbl HX HLAST0
  go_wp2_with fail
  refine hlen.mono ?_
  rintro e w2 ⟨rfl, b2⟩
  have A2 := A1.belows b2
  have hB2 := hB.belows b2
  have ic2 := ic.belows b2
  have bb2 := bb1.trans (b2.mono bb1.size)
  have c1 := (hB2.cell 1).trans rfl
  have hs2 : w.heap.size < w2.heap.size := A2.lt
  have hsB : B < w2.heap.size := hB2.lt
  clear hlen A1 hB ic bb1 b2 hs0
  have D2 := At.new w2 #[.int .u32 0, .int .u32 4294967295] 39
  have b2' : Below w2.heap.size w2 (w2.alloc (.cells #[.int .u32 0, .int .u32 4294967295] 39)) := (Below.refl _ w2).alloc (Nat.le_refl _) _
  have HLAST := HLAST0
  clear HLAST0 hn
  go_wp2_with fail
  obtain ⟨W2, hW2⟩ : ∃ W2, w2.alloc (.cells #[.int .u32 0, .int .u32 4294967295] 39) = W2 := ⟨_, rfl⟩
  rw [hW2] at D2 b2' ⊢
  clear hW2
  obtain ⟨n1, e1, _⟩ := HAT.out i (by omega)
  have ho : atL C (i : Int) = some (((frm (bnds L) (i + 1) : Nat) : Int), n1) := by unfold atL; rw [if_pos (by omega)]; simp [show i < C.length by omega, e1]
  have hc1 := At_any C (i : Int) W2 (ic2.belows b2') (by omega) (by omega)
  rw [ho] at hc1
  simp only [toldV] at hc1
  clear ho e1
  refine hc1.mono ?_
  rintro e w3 ⟨rfl, b3⟩
  have b3' := (b2'.trans (b3.mono b2'.size)).alloc (b2'.trans (b3.mono b2'.size)).size (.cells #[.int .u64 ((frm (bnds L) (i + 1) : Nat) : Int), .int .i64 n1] 109)
  have D3 := (D2.belows b3).alloc (.cells #[.int .u64 ((frm (bnds L) (i + 1) : Nat) : Int), .int .i64 n1] 109)
  have O3 := At.new w3 #[.int .u64 ((frm (bnds L) (i + 1) : Nat) : Int), .int .i64 n1] 109
  have x0 := (O3.cell 0).trans rfl
  have g0 := D3.frozen 0
  have y0 := (D3.cell 0).trans rfl
  have b3' := b3'.setCell (p := ⟨w2.heap.size, 0, none⟩) (Nat.le_refl _) (.int .u32 ((frm (bnds L) (i + 1) : Nat) : Int))
  have D3 := D3.set0 0 (.int .u32 ((frm (bnds L) (i + 1) : Nat) : Int))
  have j3 : IntKind.u32.wrap ((frm (bnds L) (i + 1) : Nat) : Int) = ((frm (bnds L) (i + 1) : Nat) : Int) := IntWalk.u32_in _ (by omega)
  have c3 := ((hB2.belows b3').cell 1).trans rfl
  clear hc1 b3 D2 b2' c1
  go_wp2_with fail
  obtain ⟨W3, hW3⟩ : ∃ W3, ((w3.alloc (.cells #[.int .u64 ((frm (bnds L) (i + 1) : Nat) : Int), .int .i64 n1] 109)).setCell ⟨w2.heap.size, 0, none⟩ (.int .u32 ((frm (bnds L) (i + 1) : Nat) : Int))) = W3 := ⟨_, rfl⟩
  rw [hW3] at b3' D3 c3 ⊢
  clear hW3
  clear x0 g0 y0 O3
  have h5 : C.length ≤ i + 1 := by have := HLAST.out; omega
  have ho : atL C ((i + 1 : Nat) : Int) = none := by unfold atL; rw [if_pos (by omega), Int.toNat_natCast]; exact List.getElem?_eq_none h5
  clear h5
  have htoo : too (bnds L) (i + 1) = 4294967295 := HX.out.2.1 HLAST.out
  have hc2 := At_any C ((i + 1 : Nat) : Int) W3 (ic2.belows b3') (by omega) (by omega)
  rw [ho] at hc2
  simp only [toldV] at hc2
  clear ho
  refine hc2.mono ?_
  rintro e w4 ⟨rfl, b4⟩
  have b4 : Below W3.heap.size W3 w4 := b4
  have b4' := (b3'.trans (b4.mono b3'.size)).alloc (b3'.trans (b4.mono b3'.size)).size (.cells #[.int .u64 0, .int .i64 0] 109)
  have D4 := (D3.belows b4).alloc (.cells #[.int .u64 0, .int .i64 0] 109)
  have z0 := (D4.cell 0).trans rfl
  have z1 := (D4.cell 1).trans rfl
  have A4 := A2.belows b4'
  have q0 := (A4.cell 0).trans rfl
  have q1 := (A4.cell 1).trans rfl
  have p0 := A4.frozen 0
  have p1 := A4.frozen 1
  have A5 := (A4.set0 0 (.int .u32 ((frm (bnds L) (i + 1) : Nat) : Int))).set0 1 (.int .u32 4294967295)
  have bw := bb2.trans (b4'.mono bb2.size)
  clear hc2 b4 D3 b3' c3
  go_wp2
  refine bodyPost_ret (v := .tuple #[.agg #[.int .u32 ((frm (bnds L) (i + 1) : Nat) : Int), .int .u32 4294967295], .bool true]) (by simp [results, Tryz.results43, go_sem, A5.cell 0, A5.cell 1]) rfl ⟨?_, ?_⟩
  · rw [htoo]; rfl
  · exact (bw.setCell (p := ⟨w.heap.size, 0, none⟩) (Nat.le_refl _) _).setCell (p := ⟨w.heap.size, 1, none⟩) (Nat.le_refl _) _
end Go.Proofs.YtlhfaildeemngaaGreat.Tr
/- Contract: Atom, way 4. -/
namespace Go.Proofs.YtlhfaildeemngaaGreat.Tr
open Go.RowKit Go.Shelf

set_option maxRecDepth 100000 in
set_option maxHeartbeats 4000000 in
theorem atom_ok4 {v : Value} (L : List (Nat × Nat)) (i0 : Nat) (w : World) (h : IsTab0 w v L) (hi : i0 < (bnds L).length) (h0 : i0 ≠ 0) (h9 : ¬ i0 + 1 = (bnds L).length) : Calls Tryz.prog 43 #[v, .int .i64 (i0 : Int)] w fun e w' => e = .returned (.tuple #[.agg #[.int .u32 (frm (bnds L) i0 : Nat), .int .u32 (too (bnds L) i0 : Nat)], .bool true]) ∧ Below w.heap.size w w' := by
  have hlast := h9
  obtain ⟨i, rfl⟩ : ∃ i, i0 = i + 1 := ⟨i0 - 1, by omega⟩
  clear h9
  have HLAST0 := Lib.hid hlast
  clear hlast
  have A0 := At.new w #[.int .u32 0, .int .u32 0] 39
  have b0 : Below w.heap.size w (w.alloc (.cells #[.int .u32 0, .int .u32 0] 39)) := (Below.refl _ w).alloc (Nat.le_refl _) _
  have hs := some_any L _ (h.belows b0)
  obtain ⟨p, rfl⟩ := h.ptr
  go_enter Tryz.func43, Tryz.ntmps43
  go_wp2_with fail
  refine hs.mono ?_
  rintro e w1 ⟨v1, rfl, t1, b1⟩
  have hlen := len5_any L w1 t1.any
  obtain ⟨hL, B, vr, vc, R, C, rfl, hB, ir, ic, tr, tc⟩ := t1
  obtain ⟨pc, rfl⟩ := ic.ptr
  have A1 := A0.belows b1
  have bb1 := b0.trans (b1.mono b0.size)
  have hbl := bnds_len hL tc
  have hcl := ic.up.2
  have hat := at_of hL tc
  have hbd := bd_of L
  have hfr := hbd.frm_le hi
  have HX : Hid ((∀ j, j + 1 < (bnds L).length → frm (bnds L) (j + 1) = too (bnds L) j + 1) ∧ (i + 1 + 1 = (bnds L).length → too (bnds L) (i + 1) = 4294967295) ∧ True) := Lib.hid ⟨fun j hj => hbd.next hj, fun hj => hbd.last hj, trivial⟩
  have HAT := Lib.hid hat
  have hs0 : w.heap.size < w1.heap.size := A1.lt
  clear hs A0 b0 b1 ir tr tc hL hbd hat
  obtain ⟨n, hn⟩ : ∃ n, (bnds L).length = n := ⟨_, rfl⟩
  rw [hn] at hlen hi hbl HX HLAST0
  go_wp2_with fail
  refine hlen.mono ?_
  rintro e w2 ⟨rfl, b2⟩
  have A2 := A1.belows b2
  have hB2 := hB.belows b2
  have ic2 := ic.belows b2
  have bb2 := bb1.trans (b2.mono bb1.size)
  have c1 := (hB2.cell 1).trans rfl
  have hs2 : w.heap.size < w2.heap.size := A2.lt
  have hsB : B < w2.heap.size := hB2.lt
  clear hlen A1 hB ic bb1 b2 hs0
  have D2 := At.new w2 #[.int .u32 0, .int .u32 4294967295] 39
  have b2' : Below w2.heap.size w2 (w2.alloc (.cells #[.int .u32 0, .int .u32 4294967295] 39)) := (Below.refl _ w2).alloc (Nat.le_refl _) _
  have HLAST := HLAST0
  clear HLAST0 hn
  go_wp2_with fail
  obtain ⟨W2, hW2⟩ : ∃ W2, w2.alloc (.cells #[.int .u32 0, .int .u32 4294967295] 39) = W2 := ⟨_, rfl⟩
  rw [hW2] at D2 b2' ⊢
  clear hW2
  obtain ⟨n1, e1, _⟩ := HAT.out i (by omega)
  have ho : atL C (i : Int) = some (((frm (bnds L) (i + 1) : Nat) : Int), n1) := by unfold atL; rw [if_pos (by omega)]; simp [show i < C.length by omega, e1]
  have hc1 := At_any C (i : Int) W2 (ic2.belows b2') (by omega) (by omega)
  rw [ho] at hc1
  simp only [toldV] at hc1
  clear ho e1
  refine hc1.mono ?_
  rintro e w3 ⟨rfl, b3⟩
  have b3' := (b2'.trans (b3.mono b2'.size)).alloc (b2'.trans (b3.mono b2'.size)).size (.cells #[.int .u64 ((frm (bnds L) (i + 1) : Nat) : Int), .int .i64 n1] 109)
  have D3 := (D2.belows b3).alloc (.cells #[.int .u64 ((frm (bnds L) (i + 1) : Nat) : Int), .int .i64 n1] 109)
  have O3 := At.new w3 #[.int .u64 ((frm (bnds L) (i + 1) : Nat) : Int), .int .i64 n1] 109
  have x0 := (O3.cell 0).trans rfl
  have g0 := D3.frozen 0
  have y0 := (D3.cell 0).trans rfl
  have b3' := b3'.setCell (p := ⟨w2.heap.size, 0, none⟩) (Nat.le_refl _) (.int .u32 ((frm (bnds L) (i + 1) : Nat) : Int))
  have D3 := D3.set0 0 (.int .u32 ((frm (bnds L) (i + 1) : Nat) : Int))
  have j3 : IntKind.u32.wrap ((frm (bnds L) (i + 1) : Nat) : Int) = ((frm (bnds L) (i + 1) : Nat) : Int) := IntWalk.u32_in _ (by omega)
  have c3 := ((hB2.belows b3').cell 1).trans rfl
  clear hc1 b3 D2 b2' c1
  go_wp2_with fail
  obtain ⟨W3, hW3⟩ : ∃ W3, ((w3.alloc (.cells #[.int .u64 ((frm (bnds L) (i + 1) : Nat) : Int), .int .i64 n1] 109)).setCell ⟨w2.heap.size, 0, none⟩ (.int .u32 ((frm (bnds L) (i + 1) : Nat) : Int))) = W3 := ⟨_, rfl⟩
  rw [hW3] at b3' D3 c3 ⊢
  clear hW3
  clear x0 g0 y0 O3
  have hlt2 : i + 1 < C.length := by have := HLAST.out; omega
  obtain ⟨n2, e2, _⟩ := HAT.out (i + 1) hlt2
  have ho : atL C ((i + 1 : Nat) : Int) = some (((frm (bnds L) (i + 1 + 1) : Nat) : Int), n2) := by unfold atL; rw [if_pos (by omega)]; simp [hlt2, e2]
  have hnx : ((frm (bnds L) (i + 1 + 1) : Nat) : Int) = ((too (bnds L) (i + 1) : Nat) : Int) + 1 := by have := HX.out.1 (i + 1) (by omega); omega
  rw [hnx] at ho
  have hc2 := At_any C ((i + 1 : Nat) : Int) W3 (ic2.belows b3') (by omega) (by omega)
  rw [ho] at hc2
  simp only [toldV] at hc2
  clear ho e2 hnx hlt2
  refine hc2.mono ?_
  rintro e w4 ⟨rfl, b4⟩
  have b4 : Below W3.heap.size W3 w4 := b4
  have b4' := (b3'.trans (b4.mono b3'.size)).alloc (b3'.trans (b4.mono b3'.size)).size (.cells #[.int .u64 (((too (bnds L) (i + 1) : Nat) : Int) + 1), .int .i64 n2] 109)
  have D4 := (D3.belows b4).alloc (.cells #[.int .u64 (((too (bnds L) (i + 1) : Nat) : Int) + 1), .int .i64 n2] 109)
  have O4 := At.new w4 #[.int .u64 (((too (bnds L) (i + 1) : Nat) : Int) + 1), .int .i64 n2] 109
  have x4 := (O4.cell 0).trans rfl
  have g4 := D4.frozen 1
  have y4 := (D4.cell 1).trans rfl
  have b4' := b4'.setCell (p := ⟨w2.heap.size, 1, none⟩) (Nat.le_refl _) (.int .u32 ((too (bnds L) (i + 1) : Nat) : Int))
  have D4 := D4.set0 1 (.int .u32 ((too (bnds L) (i + 1) : Nat) : Int))
  have j4 : IntKind.u32.wrap ((too (bnds L) (i + 1) : Nat) : Int) = ((too (bnds L) (i + 1) : Nat) : Int) := IntWalk.u32_in _ (by omega)
  have j7 : (((too (bnds L) (i + 1) : Nat) : Int) + 1) - 1 = ((too (bnds L) (i + 1) : Nat) : Int) := by omega
  have z0 := (D4.cell 0).trans rfl
  have z1 := (D4.cell 1).trans rfl
  have A4 := A2.belows b4'
  have q0 := (A4.cell 0).trans rfl
  have q1 := (A4.cell 1).trans rfl
  have p0 := A4.frozen 0
  have p1 := A4.frozen 1
  have A5 := (A4.set0 0 (.int .u32 ((frm (bnds L) (i + 1) : Nat) : Int))).set0 1 (.int .u32 ((too (bnds L) (i + 1) : Nat) : Int))
  have bw := bb2.trans (b4'.mono bb2.size)
  clear hc2 b4 D3 b3' c3
  go_wp2
  refine bodyPost_ret (v := .tuple #[.agg #[.int .u32 ((frm (bnds L) (i + 1) : Nat) : Int), .int .u32 ((too (bnds L) (i + 1) : Nat) : Int)], .bool true]) (by simp [results, Tryz.results43, go_sem, A5.cell 0, A5.cell 1]) rfl ⟨?_, ?_⟩
  · rfl
  · exact (bw.setCell (p := ⟨w.heap.size, 0, none⟩) (Nat.le_refl _) _).setCell (p := ⟨w.heap.size, 1, none⟩) (Nat.le_refl _) _
end Go.Proofs.YtlhfaildeemngaaGreat.Tr
/- Contracts of a table: Atom, Within; a range of a key. -/
namespace Go.Proofs.YtlhfaildeemngaaGreat.Tr
open Go.RowKit Go.Shelf

theorem atom_ok {v : Value} (L : List (Nat × Nat)) (i : Nat) (w : World) (h : IsTab0 w v L) (hi : i < (bnds L).length) : Calls Tryz.prog 43 #[v, .int .i64 (i : Int)] w fun e w' => e = .returned (.tuple #[.agg #[.int .u32 (frm (bnds L) i : Nat), .int .u32 (too (bnds L) i : Nat)], .bool true]) ∧ Below w.heap.size w w' := by
  by_cases h0 : i = 0
  · by_cases h9 : i + 1 = (bnds L).length
    · exact atom_ok1 L i w h hi h0 h9
    · exact atom_ok2 L i w h hi h0 h9
  · by_cases h9 : i + 1 = (bnds L).length
    · exact atom_ok3 L i w h hi h0 h9
    · exact atom_ok4 L i w h hi h0 h9
end Go.Proofs.YtlhfaildeemngaaGreat.Tr
/- Contract of package label: tell. -/
namespace Go.Proofs.YtlhfaildeemngaaGreat
open Go.RowKit Go.Shelf

/-- What is told of a device and an atom. -/
def tellQ (ls : List Lk) (L : List Ru) (d i : Nat) : Int := labN ls L (d : Int) (Tr.frm (Tr.bnds (rgL L)) i)
/-- What tell leaves. -/
def TellOut (w : World) (ps : List Int) (ls : List Lk) (L : List Ru) (e : Ending) (w' : World) : Prop :=
  ∃ g, e = .returned (.slice (some ⟨g, 0, none⟩) ps.length ps.length) ∧ TB w' g (Tr.bnds (rgL L)).length ps.length ps.length (tellQ ls L) ∧ Below w.heap.size w w'
set_option maxRecDepth 100000 in
set_option maxHeartbeats 2000000 in
theorem tell_any {vp vl vr vt : Value} (ps : List Int) (ls : List Lk) (L : List Ru) (w : World) (h : IsN w vp vl vr ps ls L) (ht : Tr.IsTab w vt (rgL L)) (hps : ps.length ≤ 100) :
    Calls Tryz.prog 18 #[.agg #[vp, vl, vr], vt] w (TellOut w ps ls L) := by
  have hBd := Tr.bd_of (rgL L)
  have hbl : (Tr.bnds (rgL L)).length ≤ 1001 := by
    obtain ⟨h1, B, vr, vc, R, C, e, ha, hr, hc, tr, tc⟩ := ht
    have e1 := Tr.bnds_len h1 tc
    have e2 := Tr.tal_len tc
    have e3 := h1.2
    omega
  obtain ⟨N, hN⟩ : ∃ N, N = (Tr.bnds (rgL L)).length := ⟨_, rfl⟩
  obtain ⟨w1, hw1⟩ : ∃ w1, w1 = w.alloc (.cells #[vp, vl, vr] 28) := ⟨_, rfl⟩
  have b1 : Below w.heap.size w w1 := by rw [hw1]; exact (Below.refl _ w).alloc (Nat.le_refl _) _
  have s1 : w1.heap.size = w.heap.size + 1 := by rw [hw1]; simp
  have NB := At.new w #[vp, vl, vr] 28
  rw [← hw1] at NB
  have HNB := Lib.hid NB
  have HN := Lib.hid (h.belows b1)
  have HT := Lib.hid (ht.belows b1)
  have HBD := Lib.hid hBd
  have HNN := Lib.hid hN
  have HB1 := Lib.hid b1
  have HS1 := Lib.hid s1
  rw [← hN] at hbl
  obtain ⟨Bt, rfl⟩ := ht.ptr
  obtain ⟨⟨⟨A1, c1, rfl, n1, m1, z1⟩, ⟨A2, c2, rfl, n2, m2, z2⟩⟩, ⟨A3, c3, rfl, n3, m3, z3⟩⟩ := h
  have c0 := (NB.cell 0).trans rfl
  unfold TellOut
  rw [← hN]
  generalize hD : ps.length = D at *
  have HDD := Lib.hid hD
  have hmkD := Lib.hid fun u : World => run_make_row' (P := Tryz.prog) 57 22 (.slice none 0 0) 24 Tryz.underlying57 infoInts rfl .i64 .i64 D (by omega) (by omega) u
  have hmkN := Lib.hid fun u : World => run_make_row' (P := Tryz.prog) 22 3 (.int .i64 0) 8 Tryz.underlying22 infoInt rfl .i64 .i64 N (by omega) (by omega) u
  clear NB b1 s1 z1 z2 z3 ht hN hBd
  clear hD
  have hk1 := hmkD.out w1
  go_enter Tryz.func18, Tryz.ntmps18
  go_upto_region 1 with (fail)
  rw [← hw1]
  clear hw1
  go_upto_region 2 with (fail)
  obtain ⟨w2, hw2⟩ : ∃ w2, w2 = w1.alloc (.cells (madeCells #[.slice none 0 0] D) 22) := ⟨_, rfl⟩
  have TB2 : TB w2 w1.heap.size N D 0 (tellQ ls L) := TB.start (by rw [hw2]; exact At.new w1 _ _) (size_madeCells _ _) (made_nils D)
  have HB2 : Hid (Below w1.heap.size w1 w2) := Lib.hid (by rw [hw2]; exact (Below.refl _ w1).alloc (Nat.le_refl _) _)
  rw [← hw2]
  obtain ⟨G, hG⟩ : ∃ G, G = w1.heap.size := ⟨_, rfl⟩
  rw [← hG] at TB2 ⊢
  have HG := Lib.hid hG
  have HTB := Lib.hid TB2
  have HMX : Hid (D ≤ 9223372036854775807 ∧ N ≤ 9223372036854775807) := Lib.hid ⟨by omega, by omega⟩
  have hD63 : D ≤ 9223372036854775807 := HMX.out.1
  have hN63 : N ≤ 9223372036854775807 := HMX.out.2
  clear hw2 hG TB2 hk1 c0 n1 m1 n2 m2 n3 m3 HMX
  go_wp2
  go_loopw [17] (fun i wr => ∃ k : Nat, i = .int .i64 k ∧ k ≤ D ∧ Hid (TB wr G N D k (tellQ ls L)) ∧ Below w1.heap.size w1 wr) (fun i _ => D - (intOf i).toNat)
  case atStart => exact ⟨0, rfl, by omega, HTB, HB2.out⟩
  case round =>
    obtain ⟨k, rfl, hk, HK, hb⟩ := hrel
    have HBr := Lib.hid hb
    clear hb
    by_cases hlt : k < D
    · have i0 : (0 : Int) ≤ (k : Int) := by omega
      have i1 : (k : Int) < (D : Int) := by omega
      have HL : Hid (∀ W, Below wr.heap.size wr W → Calls Tryz.prog 42 #[.pointer (some ⟨Bt, 0, none⟩)] W fun e w' => e = .returned (.int .i64 (N : Int)) ∧ Below W.heap.size W w') := Lib.hid fun W hW => by
        rw [HNN.out]
        exact Tr.len5_any _ W (HT.out.belows (HBr.out.trans (hW.mono HBr.out.size))).any
      have hl1 := HL.out wr (Below.refl _ _)
      obtain ⟨k0, k1⟩ := HK.out.cells hlt
      have hGs := HK.out.lt
      go_upto_region 6 with (go_at_call 42; refine hl1.mono ?_; rintro e w4 ⟨rfl, b4⟩; have hmk := hmkN.out w4; rw [made_ints (tellQ ls L k)] at hmk; have T4 := Lib.hid (HK.out.belows b4); have hG4 := T4.out.lt; have y0 := (T4.out.cells hlt).1; have y1 := (T4.out.cells hlt).2; have B4 := Lib.hid (HBr.out.trans (b4.mono HBr.out.size)); have B4r := Lib.hid b4; clear b4)
      obtain ⟨w5, hw5⟩ : ∃ w5, w5 = (w4.setCell ⟨G, k, none⟩ (.slice (some ⟨w4.heap.size, 0, none⟩) N N)).alloc (.cells (rwC (tellQ ls L k) N 0) 3) := ⟨_, rfl⟩
      have T5 : TI w5 G N D k w4.heap.size 0 (tellQ ls L) := by rw [hw5]; exact TI.of' T4.out hlt
      have B5 : Below w1.heap.size w1 w5 := by
        rw [hw5]
        have hgg := HG.out
        exact (B4.out.setCell (p := ⟨G, k, none⟩) (by show w1.heap.size ≤ G; omega) _).alloc (by simp; exact B4.out.size) _
      obtain ⟨gk, hgk⟩ : ∃ gk, gk = w4.heap.size := ⟨_, rfl⟩
      rw [← hw5, ← hgk]
      rw [← hgk] at T5
      have HGK : Hid (w1.heap.size ≤ gk) := Lib.hid (by rw [hgk]; exact B4.out.size)
      have HT5 := Lib.hid T5
      have HB5 := Lib.hid B5
      have HL5 : Hid (∀ W, Below w1.heap.size w1 W → Calls Tryz.prog 42 #[.pointer (some ⟨Bt, 0, none⟩)] W fun e w' => e = .returned (.int .i64 (N : Int)) ∧ Below W.heap.size W w') := Lib.hid fun W hW => by
        rw [HNN.out]
        exact Tr.len5_any _ W (HT.out.belows hW).any
      have hl5 := HL5.out w5 HB5.out
      clear hw5 hgk T5 B5 T4 hG4 y0 y1 B4 B4r hmk k0 k1 hGs hl1 HL HK HBr
      go_wp2_with (go_at_call 42; refine hl5.mono ?_; rintro e w6 ⟨rfl, b6⟩; have HT6 := Lib.hid (HT5.out.belows b6); have HB6 := Lib.hid (HB5.out.trans (b6.mono HB5.out.size)); clear b6 hl5)
      go_loopw [28] (fun i wq => ∃ j : Nat, i = .int .i64 j ∧ j ≤ N ∧ Hid (TI wq G N D k gk j (tellQ ls L)) ∧ Below w1.heap.size w1 wq) (fun i _ => N - (intOf i).toNat)
      case atStart => exact ⟨0, rfl, by omega, HT6, HB6.out⟩
      case round =>
        obtain ⟨j, rfl, hj, HJ, hbq⟩ := hrel
        have HBq := Lib.hid hbq
        clear hbq
        by_cases hjt : j < N
        · have j0 : (0 : Int) ≤ (j : Int) := by omega
          have j1 : (j : Int) < (N : Int) := by omega
          have hat := Tr.atom_ok (rgL L) j wr (HT.out.belows HBq.out).any (by rw [← HNN.out]; exact hjt)
          have hf32 : Tr.frm (Tr.bnds (rgL L)) j < 4294967296 := by
            have := HBD.out.frm_le (i := j) (by rw [← HNN.out]; exact hjt)
            omega
          obtain ⟨f, hf⟩ : ∃ f, f = Tr.frm (Tr.bnds (rgL L)) j := ⟨_, rfl⟩
          obtain ⟨t, ht⟩ : ∃ t, t = Tr.too (Tr.bnds (rgL L)) j := ⟨_, rfl⟩
          rw [← hf, ← ht] at hat
          rw [← hf] at hf32
          have HF := Lib.hid hf
          clear ht hf
          go_upto_region 10 with (go_at_call 43; refine hat.mono ?_; rintro e w7 ⟨rfl, b7⟩)
          obtain ⟨w8, hw8⟩ : ∃ w8, w8 = w7.alloc (.cells #[.int .u32 f, .int .u32 t] 39) := ⟨_, rfl⟩
          have A8 : At w8 w7.heap.size #[.int .u32 f, .int .u32 t] 39 := by rw [hw8]; exact At.new w7 _ _
          have b8 : Below wr.heap.size wr w8 := by rw [hw8]; exact b7.alloc b7.size _
          rw [← hw8]
          obtain ⟨AB, hAB⟩ : ∃ AB, AB = w7.heap.size := ⟨_, rfl⟩
          rw [← hAB] at A8 ⊢
          have HA8 := Lib.hid A8
          have HJ8 := Lib.hid (HJ.out.belows b8)
          have HB8 := Lib.hid (HBq.out.trans (b8.mono HBq.out.size))
          clear hw8 hAB A8 b8 b7 hat
          obtain ⟨st, hst⟩ : ∃ st, st = stepN ls L (k : Int) f := ⟨_, rfl⟩
          have HST : Hid (∀ u, Below w8.heap.size w8 u → Calls Tryz.prog 45 #[.agg #[.slice A1 D c1, .slice A2 ls.length c2, .slice A3 L.length c3], .int .i64 (k : Int), .int .u32 f] u fun e w' => e = .returned (stepV st) ∧ Below u.heap.size u w') := Lib.hid fun u hu => by
            rw [hst]; exact fstep_any ps ls L (k : Int) f u (HN.out.belows (HB8.out.trans (hu.mono HB8.out.size)))
          have HV : Hid (labP st = tellQ ls L k j) := Lib.hid (by rw [hst, HF.out]; rfl)
          have SZ : Hid (∀ u, Below w8.heap.size w8 u → u.cell? ⟨G, k, none⟩ = some (.slice (some ⟨gk, 0, none⟩) N N) ∧ u.cell? ⟨w.heap.size, 0, none⟩ = some (.slice A1 D c1) ∧ u.cell? ⟨w.heap.size, 1, none⟩ = some (.slice A2 ls.length c2) ∧ u.cell? ⟨w.heap.size, 2, none⟩ = some (.slice A3 L.length c3) ∧ u.cell? ⟨AB, 0, none⟩ = some (.int .u32 f)) := Lib.hid fun u hu =>
            ⟨((HJ8.out.belows hu).cells hjt).1, ((HNB.out.belows (HB8.out.trans (hu.mono HB8.out.size))).cell 0).trans rfl, ((HNB.out.belows (HB8.out.trans (hu.mono HB8.out.size))).cell 1).trans rfl, ((HNB.out.belows (HB8.out.trans (hu.mono HB8.out.size))).cell 2).trans rfl, ((HA8.out.belows hu).cell 0).trans rfl⟩
          have hne : G ≠ gk ∧ w.heap.size ≠ gk ∧ AB ≠ gk := by
            have h1 := HJ8.out.2.1
            have h2 := HGK.out
            have h3 := HS1.out
            refine ⟨by omega, by omega, fun e => ?_⟩
            have h4 := HJ8.out.2.2.1
            rw [← e] at h4
            have e2 := (show w8.heap[AB]? = _ from h4).symm.trans HA8.out
            simp only [Option.some.injEq, Obj.cells.injEq] at e2
            exact absurd e2.2.1 (by decide)
          have SS : Hid (∀ u, Below w8.heap.size w8 u → ∀ v : Value, (u.setCell ⟨gk, j, none⟩ v).cell? ⟨G, k, none⟩ = some (.slice (some ⟨gk, 0, none⟩) N N) ∧ (u.setCell ⟨gk, j, none⟩ v).cell? ⟨w.heap.size, 0, none⟩ = some (.slice A1 D c1) ∧ (u.setCell ⟨gk, j, none⟩ v).cell? ⟨w.heap.size, 1, none⟩ = some (.slice A2 ls.length c2) ∧ (u.setCell ⟨gk, j, none⟩ v).cell? ⟨w.heap.size, 2, none⟩ = some (.slice A3 L.length c3) ∧ (u.setCell ⟨gk, j, none⟩ v).cell? ⟨AB, 0, none⟩ = some (.int .u32 f)) := Lib.hid fun u hu v => by
            obtain ⟨q0, q1, q2, q3, q4⟩ := SZ.out u hu
            obtain ⟨n1, n2, n3⟩ := hne
            have o : ∀ (B i : Nat), B ≠ gk → (u.setCell ⟨gk, j, none⟩ v).cell? ⟨B, i, none⟩ = u.cell? ⟨B, i, none⟩ := fun B i hB => World.cell?_setCell_other _ _ _ _ (by intro e'; injection e' with e1; omega)
            exact ⟨(o _ _ n1).trans q0, (o _ _ n2).trans q1, (o _ _ n2).trans q2, (o _ _ n2).trans q3, (o _ _ n3).trans q4⟩
          clear hne
          obtain ⟨ft, ⟨pd, pp⟩⟩ := st
          rw [show stepV (ft, ⟨pd, pp⟩) = .tuple #[.int .i64 ft, .agg #[.int .i64 pd, .int .i64 pp]] from rfl] at HST
          have HLO : Hid (∀ u : World, Calls Tryz.prog 44 #[.int .i64 ft, .agg #[.int .i64 pd, .int .i64 pp]] u fun e w' => e = .returned (.int .i64 (labP (ft, ⟨pd, pp⟩))) ∧ Below u.heap.size u w') := Lib.hid fun u => labelOf_any ft ⟨pd, pp⟩ u
          generalize labP (ft, ⟨pd, pp⟩) = lv at HV HLO
          clear hst hf32
          go_region_held3 (fun W => W.cell? ⟨G, k, none⟩ = some (.slice (some ⟨gk, 0, none⟩) N N) ∧ W.cell? ⟨w.heap.size, 0, none⟩ = some (.slice A1 D c1) ∧ W.cell? ⟨w.heap.size, 1, none⟩ = some (.slice A2 ls.length c2) ∧ W.cell? ⟨w.heap.size, 2, none⟩ = some (.slice A3 L.length c3) ∧ W.cell? ⟨AB, 0, none⟩ = some (.int .u32 f))
            (first | exact SS.out _ b10 _ | exact SZ.out _ b10 | exact SZ.out _ b9 | exact SZ.out _ (bdrewN (Below.refl _ _) 1))
            (first
              | (go_at_call 45; refine (HST.out _ (bdrewN (Below.refl _ _) 1)).mono ?_; rintro e w9 ⟨rfl, b9x⟩; have b9 : Below w8.heap.size w8 w9 := (bdrewN (Below.refl _ _) 1).trans b9x)
              | (go_at_call 44; refine (HLO.out _).mono ?_; rintro e w10 ⟨rfl, b10x⟩; have b10 : Below w8.heap.size w8 w10 := b9.trans (b10x.mono b9.size); have t0 := ((HJ8.out.belows b10).cells hjt).2.1; have t1 := ((HJ8.out.belows b10).cells hjt).2.2.1))
          have HD := Lib.hid ((HJ8.out.belows b10).step HV.out)
          have HBF : Hid (Below w1.heap.size w1 (w10.setCell ⟨gk, j, none⟩ (.int .i64 lv))) := Lib.hid ((HB8.out.trans (b10.mono HB8.out.size)).setCell (p := ⟨gk, j, none⟩) HGK.out _)
          clear t0 t1 b10x b9x
          go_wp2
          go_roundw
          case rel => exact ⟨j + 1, by go_num, by omega, HD, HBF.out⟩
          case measure => simp [intOf]; omega
        · obtain rfl : j = N := by omega
          have HD := Lib.hid HJ.out.done
          go_wp2
          go_roundw
          case rel => exact ⟨k + 1, by go_num, by omega, HD, HBq.out⟩
          case measure => simp [intOf]; omega
    · obtain rfl : k = D := by omega
      go_wp2
      go_ret
      exact ⟨G, rfl, HK.out, HB1.out.trans (HBr.out.mono HB1.out.size)⟩
end Go.Proofs.YtlhfaildeemngaaGreat
/- Contract of package label: copied. -/
namespace Go.Proofs.YtlhfaildeemngaaGreat
open Go.RowKit Go.Shelf

/-- Lists of one's own that are a network. -/
structure Rows3 (w : World) (base : Nat) (vp vl vr : Value) (ps : List Int) (ls : List Lk) (L : List Ru) : Prop where
  p : w.ownsRow base 3 1 vp ps.length (fcs intA ps)
  l : w.ownsRow base 83 4 vl ls.length (fcs lkA ls)
  r : w.ownsRow base 41 7 vr L.length (fcs ruA L)
theorem Rows3.belows {w w' : World} {base : Nat} {vp vl vr : Value} {ps : List Int} {ls : List Lk} {L : List Ru} (h : Rows3 w base vp vl vr ps ls L) (hb : Below w.heap.size w w') : Rows3 w' base vp vl vr ps ls L := ⟨row_belows h.p hb, row_belows h.l hb, row_belows h.r hb⟩
theorem Rows3.mono {w : World} {base base' : Nat} {vp vl vr : Value} {ps : List Int} {ls : List Lk} {L : List Ru} (h : Rows3 w base vp vl vr ps ls L) (hb : base' ≤ base) : Rows3 w base' vp vl vr ps ls L := ⟨row_mono h.p hb, row_mono h.l hb, row_mono h.r hb⟩
theorem Rows3.isN {w : World} {base : Nat} {vp vl vr : Value} {ps : List Int} {ls : List Lk} {L : List Ru} (h : Rows3 w base vp vl vr ps ls L) : IsN w vp vl vr ps ls L := ⟨⟨isF_of_row intA_size h.p, isF_of_row lkA_size h.l⟩, isF_of_row (f := ruA) ruA_size7 h.r⟩
theorem Rows3.exc {H : Nat → Prop} {w w' : World} {base : Nat} {vp vl vr : Value} {ps : List Int} {ls : List Lk} {L : List Ru} (h : Rows3 w base vp vl vr ps ls L) (hx : Exc H w w') (hn : ∀ b, H b → b < base) : Rows3 w' base vp vl vr ps ls L := ⟨exc_row h.p hx hn, exc_row h.l hx hn, exc_row h.r hx hn⟩
/-- A row that does not lie in a block is kept by what is written there. -/
theorem row_not {w w' : World} {base b : Nat} {e : TypeId} {n : Nat} {v : Value} {k : Nat} {xs : List Value} (h : w.ownsRow base e n v k xs) (hg : w.grownBy w' (some b)) (hb : ∀ g, v.ownBlock = some g → g ≠ b) : w'.ownsRow base e n v k xs := by
  refine h.kept hg ?_
  cases hv : v.ownBlock with
  | none => exact .inl rfl
  | some c => exact .inr fun e => hb c hv (by cases e; rfl)
/-- The copied topology in its box. -/
def TopB (w2 : World) (UB : Nat) (ps : List Int) (ls : List Lk) (wc : World) : Prop := ∃ vp vl, w2.heap.size ≤ UB ∧ At wc UB #[vp, vl] 25 ∧ wc.ownsRow w2.heap.size 3 1 vp ps.length (fcs intA ps) ∧ wc.ownsRow w2.heap.size 83 4 vl ls.length (fcs lkA ls) ∧ Below w2.heap.size w2 wc
theorem topB_set {w2 w4 : World} {UB : Nat} {x y v3 v4 : Value} {ps : List Int} {ls : List Lk} (U : At w4 UB #[x, y] 25) (o3 : w4.ownsRow w2.heap.size 3 1 v3 ps.length (fcs intA ps)) (o4 : w4.ownsRow w2.heap.size 83 4 v4 ls.length (fcs lkA ls))
    (n3 : ∀ g, v3.ownBlock = some g → g ≠ UB) (n4 : ∀ g, v4.ownBlock = some g → g ≠ UB) (b : Below w2.heap.size w2 w4) (h : w2.heap.size ≤ UB) : TopB w2 UB ps ls ((w4.setCell ⟨UB, 0, none⟩ v3).setCell ⟨UB, 1, none⟩ v4) :=
  ⟨v3, v4, h, (U.set0 0 v3).set0 1 v4, row_not (row_not o3 (grownBy_set _ _ _ _) n3) (grownBy_set _ _ _ _) n3, row_not (row_not o4 (grownBy_set _ _ _ _) n4) (grownBy_set _ _ _ _) n4, (b.setCell (p := ⟨UB, 0, none⟩) h _).setCell (p := ⟨UB, 1, none⟩) h _⟩
theorem topB_new {w2 w4 : World} {v3 v4 : Value} {ps : List Int} {ls : List Lk} (o3 : w4.ownsRow w2.heap.size 3 1 v3 ps.length (fcs intA ps)) (o4 : w4.ownsRow w2.heap.size 83 4 v4 ls.length (fcs lkA ls))
    (b : Below w2.heap.size w2 w4) : TopB w2 w4.heap.size ps ls (w4.alloc (.cells #[v3, v4] 25)) :=
  ⟨v3, v4, b.size, At.new w4 _ _, o3.alloc _, o4.alloc _, b.alloc b.size _⟩
set_option maxRecDepth 100000 in
set_option maxHeartbeats 2000000 in
theorem copied_any {vp vl vr : Value} (ps : List Int) (ls : List Lk) (L : List Ru) (w : World) (h : IsN w vp vl vr ps ls L) (h1 : ps.length ≤ 100000) (h2 : ls.length ≤ 100000) (h3 : L.length ≤ 100000) :
    Calls Tryz.prog 16 #[.agg #[vp, vl, vr]] w fun e w' => ∃ vp' vl' vr', e = .returned (.agg #[vp', vl', vr']) ∧ Rows3 w' w.heap.size vp' vl' vr' ps ls L ∧ Below w.heap.size w w' := by
  obtain ⟨w2, hw2⟩ : ∃ w2, w2 = (w.alloc (.cells #[vp, vl, vr] 28)).alloc (.cells #[.slice none 0 0, .slice none 0 0, .slice none 0 0] 28) := ⟨_, rfl⟩
  have b2 : Below w.heap.size w w2 := by rw [hw2]; exact ((Below.refl _ w).alloc (Nat.le_refl _) _).alloc (by simp) _
  have N2 : At w2 w.heap.size #[vp, vl, vr] 28 := by rw [hw2]; exact (At.new w _ _).alloc _
  have R2 : At w2 (w.heap.size + 1) #[.slice none 0 0, .slice none 0 0, .slice none 0 0] 28 := by rw [hw2]; exact At.new1 w _ _ _
  have hn := h.belows b2
  obtain ⟨⟨⟨A1, c1, rfl, _, _, _⟩, ⟨A2, c2, rfl, _, _, _⟩⟩, ⟨A3, c3, rfl, _, _, _⟩⟩ := h
  have KP : Hid (∀ u, Below w2.heap.size w2 u → Calls Tryz.prog 37 #[.slice A1 ps.length c1] u fun e w' => ∃ v', e = .returned v' ∧ w'.ownsRow u.heap.size 3 1 v' ps.length (fcs intA ps) ∧ Below u.heap.size u w') := Lib.hid fun u hu => clone_ints ps u h1 (hn.1.1.belows hu)
  have KL : Hid (∀ u, Below w2.heap.size w2 u → Calls Tryz.prog 38 #[.slice A2 ls.length c2] u fun e w' => ∃ v', e = .returned v' ∧ w'.ownsRow u.heap.size 83 4 v' ls.length (fcs lkA ls) ∧ Below u.heap.size u w') := Lib.hid fun u hu => clone_links ls u h2 (hn.1.2.belows hu)
  have KR : Hid (∀ u, Below w2.heap.size w2 u → Calls Tryz.prog 39 #[.slice A3 L.length c3] u fun e w' => ∃ v', e = .returned v' ∧ w'.ownsRow u.heap.size 41 7 v' L.length (fcs ruA L) ∧ Below u.heap.size u w') := Lib.hid fun u hu => clone_rules L u h3 (hn.2.belows hu)
  have SZ : Hid (∀ u, Below w2.heap.size w2 u → u.cell? ⟨w.heap.size, 0, none⟩ = some (.slice A1 ps.length c1) ∧ u.cell? ⟨w.heap.size, 1, none⟩ = some (.slice A2 ls.length c2) ∧ u.cell? ⟨w.heap.size, 2, none⟩ = some (.slice A3 L.length c3)) := Lib.hid fun u hu => ⟨((N2.belows hu).cell 0).trans rfl, ((N2.belows hu).cell 1).trans rfl, ((N2.belows hu).cell 2).trans rfl⟩
  have HR2 := Lib.hid R2
  have HB2 := Lib.hid b2
  obtain ⟨c0, c1', c2'⟩ := SZ.out w2 (Below.refl _ _)
  clear hn N2 R2 b2 h1 h2 h3
  go_enter Tryz.func16, Tryz.ntmps16
  go_upto_region 1 with (fail)
  rw [← hw2]
  clear hw2
  go_cut [3] (fun p wc => ∃ UB : Nat, p = .pointer (some ⟨UB, 0, none⟩) ∧ Hid (TopB w2 UB ps ls wc))
  case first =>
    go_region_held3 (fun W => W.cell? ⟨w.heap.size, 0, none⟩ = some (.slice A1 ps.length c1) ∧ W.cell? ⟨w.heap.size, 1, none⟩ = some (.slice A2 ls.length c2) ∧ W.cell? ⟨w.heap.size, 2, none⟩ = some (.slice A3 L.length c3))
      (first | exact SZ.out _ b4w | exact SZ.out _ ((b4w.setCell (p := ⟨w3.heap.size, 0, none⟩) b3w.size _).setCell (p := ⟨w3.heap.size, 1, none⟩) b3w.size _) | exact SZ.out _ ((b4w.setCell (p := ⟨w2.heap.size, 0, none⟩) (Nat.le_refl _) _).setCell (p := ⟨w2.heap.size, 1, none⟩) (Nat.le_refl _) _) | exact SZ.out _ (b4w.alloc b4w.size _) | exact SZ.out _ b3w | exact SZ.out _ (b3w.alloc b3w.size _) | exact SZ.out _ ((Below.refl _ w2).alloc (Nat.le_refl _) _).drew | exact SZ.out _ (bdrewN (Below.refl _ _) 1))
      (first
        | (go_at_call 37; refine (KP.out _ (by first | exact bdrewN (Below.refl _ _) 1 | exact ((Below.refl _ w2).alloc (Nat.le_refl _) _).drew)).mono ?_; rintro e w3 ⟨v3, rfl, o3, b3⟩; have b3w : Below w2.heap.size w2 w3 := (by first | exact (bdrewN (Below.refl _ _) 1).trans b3 | exact Below.trans (((Below.refl _ w2).alloc (Nat.le_refl _) _).drew) (b3.mono (by simp))); obtain ⟨B3, d3, rfl, _, _⟩ := row_slice o3)
        | (go_at_call 38; refine (KL.out _ (by first | exact b3w | exact b3w.alloc b3w.size _)).mono ?_; rintro e w4 ⟨v4, rfl, o4, b4⟩; have b4w : Below w2.heap.size w2 w4 := (by first | exact b3w.trans (b4.mono b3w.size) | exact (b3w.alloc b3w.size _).trans (b4.mono (by simp; have := b3w.size; omega))); obtain ⟨B4, d4, rfl, _, _⟩ := row_slice o4; have b4m : Below w3.heap.size w3 w4 := (by first | exact b4 | exact Below.trans ((Below.refl _ w3).alloc (Nat.le_refl _) _) (b4.mono (by simp)));
            first
              | (have U4 : At w4 w2.heap.size #[.slice none 0 0, .slice none 0 0] 25 := ((show At (w2.alloc (.cells #[.slice none 0 0, .slice none 0 0] 25)).drew w2.heap.size #[.slice none 0 0, .slice none 0 0] 25 from At.new w2 _ _).belows b3).belows b4; have y0 := (U4.cell 0).trans rfl; have y1 := (U4.cell 1).trans rfl; have f0 := U4.frozen 0; have f1 := U4.frozen 1)
              | (have U4 : At w4 w3.heap.size #[.slice none 0 0, .slice none 0 0] 25 := (At.new w3 _ _).belows b4; have y0 := (U4.cell 0).trans rfl; have y1 := (U4.cell 1).trans rfl; have f0 := U4.frozen 0; have f1 := U4.frozen 1)
              | skip))
    all_goals (go_wp2_with fail; go_meet; refine ⟨_, rfl, Lib.hid ?_⟩)
    all_goals
      have q3 := row_mono (row_belows o3 b4m) (base' := w2.heap.size) (by simp)
      have q4 := row_mono o4 (base' := w2.heap.size) (by first | exact b3w.size | (simp; have := b3w.size; omega))
      have l3 := o3.lt
      have l4 := o4.lt
      first
        | exact topB_new q3 q4 b4w
        | exact topB_set U4 q3 q4 (fun g h => by have := l3 g h; (try simp at this); omega) (fun g h => by have e1 := l4 g h; (try simp at e1); have e2 := b3w.size; have e3 := b3.size; (try simp at e3); omega) b4w (by first | exact Nat.le_refl _ | exact b3w.size)
  case rest =>
    obtain ⟨UB, rfl, HU⟩ := hcut
    obtain ⟨vp, vl, hUB, U, o3, o4, b5⟩ := HU.out
    clear HU KP KL
    have HU := Lib.hid U
    have HO3 := Lib.hid o3
    have HO4 := Lib.hid o4
    have HB5 := Lib.hid b5
    obtain ⟨B3, d3, rfl, _, _⟩ := row_slice o3
    obtain ⟨B4, d4, rfl, _, _⟩ := row_slice o4
    have SZ2 : Hid (∀ u, Below wc.heap.size wc u → u.cell? ⟨UB, 0, none⟩ = some (.slice B3 ps.length d3) ∧ u.cell? ⟨UB, 1, none⟩ = some (.slice B4 ls.length d4) ∧ u.cell? ⟨w.heap.size, 2, none⟩ = some (.slice A3 L.length c3)) := Lib.hid fun u hu => ⟨((HU.out.belows hu).cell 0).trans rfl, ((HU.out.belows hu).cell 1).trans rfl, (SZ.out u (HB5.out.trans (hu.mono HB5.out.size))).2.2⟩
    have HR5 := Lib.hid (HR2.out.belows HB5.out)
    have hRB : w.heap.size + 1 < w2.heap.size := HR2.out.lt
    have SS : Hid (∀ u, Below wc.heap.size wc u → ∀ a b c : Value, (((u.setCell ⟨w.heap.size + 1, 0, none⟩ a).setCell ⟨w.heap.size + 1, 1, none⟩ b).setCell ⟨w.heap.size + 1, 2, none⟩ c).cell? ⟨UB, 0, none⟩ = some (.slice B3 ps.length d3) ∧ (((u.setCell ⟨w.heap.size + 1, 0, none⟩ a).setCell ⟨w.heap.size + 1, 1, none⟩ b).setCell ⟨w.heap.size + 1, 2, none⟩ c).cell? ⟨UB, 1, none⟩ = some (.slice B4 ls.length d4) ∧ (((u.setCell ⟨w.heap.size + 1, 0, none⟩ a).setCell ⟨w.heap.size + 1, 1, none⟩ b).setCell ⟨w.heap.size + 1, 2, none⟩ c).cell? ⟨w.heap.size, 2, none⟩ = some (.slice A3 L.length c3)) := Lib.hid fun u hu a b c => by
      obtain ⟨q0, q1, q2⟩ := SZ2.out u hu
      have o : ∀ (U : World) (B i j : Nat) (v : Value), B ≠ w.heap.size + 1 → (U.setCell ⟨w.heap.size + 1, j, none⟩ v).cell? ⟨B, i, none⟩ = U.cell? ⟨B, i, none⟩ := fun U B i j v hB => World.cell?_setCell_other _ _ _ _ (by intro e'; injection e' with e1; omega)
      refine ⟨?_, ?_, ?_⟩
      · rw [o _ _ _ _ _ (by omega), o _ _ _ _ _ (by omega), o _ _ _ _ _ (by omega)]; exact q0
      · rw [o _ _ _ _ _ (by omega), o _ _ _ _ _ (by omega), o _ _ _ _ _ (by omega)]; exact q1
      · rw [o _ _ _ _ _ (by omega), o _ _ _ _ _ (by omega), o _ _ _ _ _ (by omega)]; exact q2
    clear U o3 o4 b5
    go_wp2_with fail
    go_region_held3 (fun W => W.cell? ⟨UB, 0, none⟩ = some (.slice B3 ps.length d3) ∧ W.cell? ⟨UB, 1, none⟩ = some (.slice B4 ls.length d4) ∧ W.cell? ⟨w.heap.size, 2, none⟩ = some (.slice A3 L.length c3))
      (first | exact SS.out _ b6w _ _ _ | exact SZ2.out _ b6w | exact SZ2.out _ (bdrewN (Below.refl _ _) 1))
      (first
        | (go_at_call 39; refine (KR.out _ (bdrewN HB5.out 1)).mono ?_; rintro e w6 ⟨v6, rfl, o6, b6⟩; have b6w : Below wc.heap.size wc w6 := (bdrewN (Below.refl _ _) 1).trans b6; obtain ⟨B6, d6, rfl, _, _⟩ := row_slice o6; have R6 := HR5.out.belows b6w; have y0 := (R6.cell 0).trans rfl; have y1 := (R6.cell 1).trans rfl; have y2 := (R6.cell 2).trans rfl; have f0 := R6.frozen 0; have f1 := R6.frozen 1; have f2 := R6.frozen 2))
    have A9 := ((R6.set0 0 (.slice B3 ps.length d3)).set0 1 (.slice B4 ls.length d4)).set0 2 (.slice B6 L.length d6)
    have hRB : w.heap.size + 1 < w2.heap.size := HR2.out.lt
    have h1 : w2.heap.size ≤ (wc.drewN 1).heap.size := HB5.out.size
    have far : ∀ {U : World} {e : TypeId} {n : Nat} {v : Value} {k : Nat} {xs : List Value} (a b c : Value), U.ownsRow w2.heap.size e n v k xs → (((U.setCell ⟨w.heap.size + 1, 0, none⟩ a).setCell ⟨w.heap.size + 1, 1, none⟩ b).setCell ⟨w.heap.size + 1, 2, none⟩ c).ownsRow w2.heap.size e n v k xs := fun a b c h => row_far (row_far (row_far h (grownBy_set _ _ _ _) hRB) (grownBy_set _ _ _ _) hRB) (grownBy_set _ _ _ _) hRB
    have r3 := far (.slice B3 ps.length d3) (.slice B4 ls.length d4) (.slice B6 L.length d6) (row_belows HO3.out b6w)
    have r4 := far (.slice B3 ps.length d3) (.slice B4 ls.length d4) (.slice B6 L.length d6) (row_belows HO4.out b6w)
    have r6 := far (.slice B3 ps.length d3) (.slice B4 ls.length d4) (.slice B6 L.length d6) (row_mono o6 h1)
    have HF : Hid (Below w.heap.size w (((w6.setCell ⟨w.heap.size + 1, 0, none⟩ (.slice B3 ps.length d3)).setCell ⟨w.heap.size + 1, 1, none⟩ (.slice B4 ls.length d4)).setCell ⟨w.heap.size + 1, 2, none⟩ (.slice B6 L.length d6))) := Lib.hid (by
      have hb := HB2.out.trans ((HB5.out.trans (b6w.mono HB5.out.size)).mono HB2.out.size)
      exact ((hb.setCell (p := ⟨w.heap.size + 1, 0, none⟩) (by show w.heap.size ≤ w.heap.size + 1; omega) _).setCell (p := ⟨w.heap.size + 1, 1, none⟩) (by show w.heap.size ≤ w.heap.size + 1; omega) _).setCell (p := ⟨w.heap.size + 1, 2, none⟩) (by show w.heap.size ≤ w.heap.size + 1; omega) _)
    have HQ : Hid (w.heap.size ≤ w2.heap.size) := Lib.hid HB2.out.size
    clear y0 y1 y2 f0 f1 f2 R6
    go_wp2
    refine bodyPost_ret (v := .agg #[.slice B3 ps.length d3, .slice B4 ls.length d4, .slice B6 L.length d6]) (by simp [results, Tryz.results16, go_sem, A9.cell 0, A9.cell 1, A9.cell 2]) rfl ⟨_, _, _, rfl, ⟨row_mono r3 HQ.out, row_mono r4 HQ.out, row_mono r6 HQ.out⟩, HF.out⟩
end Go.Proofs.YtlhfaildeemngaaGreat
/- Contract of package label: Of. Labels in memory. -/
namespace Go.Proofs.YtlhfaildeemngaaGreat
open Go.RowKit Go.Shelf

/-- Labels in memory. -/
def LbM (W : World) (v : Value) (ps : List Int) (ls : List Lk) (L : List Ru) : Prop := ∃ (B : Nat) (vp vl vr vt : Value) (g : Nat), v = .pointer (some ⟨B, 0, none⟩) ∧ At W B #[vp, vl, vr, vt, .slice (some ⟨g, 0, none⟩) ps.length ps.length] 60 ∧
  IsN W vp vl vr ps ls L ∧ Tr.IsTab W vt (rgL L) ∧ TB W g (Tr.bnds (rgL L)).length ps.length ps.length (tellQ ls L)
/-- .. whatever is written into the blocks of H. -/
def Lb10 (H : Nat → Prop) (W : World) (v : Value) (ps : List Int) (ls : List Lk) (L : List Ru) : Prop := ∀ W', Exc H W W' → LbM W' v ps ls L
theorem Lb10.now {H : Nat → Prop} {W : World} {v : Value} {ps : List Int} {ls : List Lk} {L : List Ru} (h : Lb10 H W v ps ls L) : LbM W v ps ls L := h W (exc_of (Below.refl _ _) H)
theorem RN.short {ps : List Int} {ls : List Lk} {L : List Ru} (h : RN ps ls L) : ps.length ≤ 8 ∧ ls.length ≤ 16 ∧ L.length ≤ 40 := ⟨h.topo.n8, h.topo.l16, ((allB_pw L).1 h.rules).1⟩
set_option maxRecDepth 100000 in
set_option maxHeartbeats 2000000 in
theorem of10_any {vp vl vr : Value} (H : Nat → Prop) (ps : List Int) (ls : List Lk) (L : List Ru) (w : World) (hH : ∀ b, H b → ∃ cs, At w b cs 28) (hW : NW ps ls L) (h : IsN w vp vl vr ps ls L) : Calls Tryz.prog 6 #[.agg #[vp, vl, vr]] w fun e w' =>
    ((RN ps ls L ∧ ∃ p, e = .returned (.tuple #[p, .int .i64 0]) ∧ Lb10 H w' p ps ls L) ∨ (¬ RN ps ls L ∧ e = .returned (.tuple #[.pointer none, .int .i64 71]))) ∧ Below w.heap.size w w' := by
  have HH := Lib.hid hH
  have HN := Lib.hid h
  obtain ⟨w1, hw1⟩ : ∃ w1, w1 = w.alloc (.cells #[vp, vl, vr] 28) := ⟨_, rfl⟩
  have b1 : Below w.heap.size w w1 := by rw [hw1]; exact (Below.refl _ w).alloc (Nat.le_refl _) _
  have N1 : At w1 w.heap.size #[vp, vl, vr] 28 := by rw [hw1]; exact At.new w _ _
  have HN1 := Lib.hid (h.belows b1)
  have KF := fright_any ps ls L w1 hW HN1.out
  obtain ⟨⟨⟨A1, c1, rfl, _, _, _⟩, ⟨A2, c2, rfl, _, _, _⟩⟩, ⟨A3, c3, rfl, _, _, _⟩⟩ := h
  have c0 := (N1.cell 0).trans rfl
  have c1' := (N1.cell 1).trans rfl
  have c2' := (N1.cell 2).trans rfl
  have NBx := Lib.hid N1
  have HB1 := Lib.hid b1
  have HW := Lib.hid hW
  clear hH N1 b1 hW
  cases hq : rightN ps ls L with
  | false =>
    have hno : ¬ RN ps ls L := fun h => by rw [← rightN_iff, hq] at h; cases h
    rw [hq] at KF
    clear hq
    go_enter Tryz.func6, Tryz.ntmps6
    go_upto_region 1 with (fail)
    rw [← hw1]
    clear hw1
    go_wp2_with (go_at_call 15; refine KF.mono ?_; rintro e w2 ⟨rfl, b2⟩)
    go_ret2
    exact ⟨.inr ⟨hno, rfl⟩, HB1.out.trans (b2.mono HB1.out.size)⟩
  | true =>
    have hyes : RN ps ls L := (rightN_iff _ _ _).1 hq
    have HR := Lib.hid hyes
    rw [hq] at KF
    clear hq hyes
    go_enter Tryz.func6, Tryz.ntmps6
    go_upto_region 1 with (fail)
    rw [← hw1]
    clear hw1
    go_upto_region 3 with (go_at_call 15; refine KF.mono ?_; rintro e w2 ⟨rfl, b2⟩)
    have N2 := NBx.out.belows b2
    have d0 := (N2.cell 0).trans rfl
    have d1 := (N2.cell 1).trans rfl
    have d2 := (N2.cell 2).trans rfl
    have KC := copied_any ps ls L w2 (HN1.out.belows b2) (by have := HR.out.short; omega) (by have := HR.out.short; omega) (by have := HR.out.short; omega)
    have HB2 := Lib.hid (HB1.out.trans (b2.mono HB1.out.size))
    have HN2 := Lib.hid N2
    clear b2 KF c0 c1' c2' N2
    go_upto_region 4 with (go_at_call 16; refine KC.mono ?_; rintro e w3 ⟨vp', vl', vr', rfl, o3, b3⟩; obtain ⟨B1, e1, rfl, _, _⟩ := row_slice o3.p; obtain ⟨B2, e2, rfl, _, _⟩ := row_slice o3.l; obtain ⟨B3, e3, rfl, _, _⟩ := row_slice o3.r; have N3 := HN2.out.belows b3; have y0 := (N3.cell 0).trans rfl; have y1 := (N3.cell 1).trans rfl; have y2 := (N3.cell 2).trans rfl; have f0 := N3.frozen 0; have f1 := N3.frozen 1; have f2 := N3.frozen 2)
    obtain ⟨w4, hw4⟩ : ∃ w4, w4 = ((w3.setCell ⟨w.heap.size, 0, none⟩ (.slice B1 ps.length e1)).setCell ⟨w.heap.size, 1, none⟩ (.slice B2 ls.length e2)).setCell ⟨w.heap.size, 2, none⟩ (.slice B3 L.length e3) := ⟨_, rfl⟩
    have hlt : w.heap.size < w2.heap.size := HN2.out.lt
    have N4 : At w4 w.heap.size #[.slice B1 ps.length e1, .slice B2 ls.length e2, .slice B3 L.length e3] 28 := by rw [hw4]; exact ((N3.set0 0 _).set0 1 _).set0 2 _
    have far : ∀ {U : World} {e : TypeId} {n : Nat} {v : Value} {k : Nat} {xs : List Value} (a b c : Value), U.ownsRow w2.heap.size e n v k xs → (((U.setCell ⟨w.heap.size, 0, none⟩ a).setCell ⟨w.heap.size, 1, none⟩ b).setCell ⟨w.heap.size, 2, none⟩ c).ownsRow w2.heap.size e n v k xs := fun a b c h => row_far (row_far (row_far h (grownBy_set _ _ _ _) hlt) (grownBy_set _ _ _ _) hlt) (grownBy_set _ _ _ _) hlt
    have O4 : Rows3 w4 w2.heap.size (.slice B1 ps.length e1) (.slice B2 ls.length e2) (.slice B3 L.length e3) ps ls L := by rw [hw4]; exact ⟨far _ _ _ o3.p, far _ _ _ o3.l, far _ _ _ o3.r⟩
    have b4 : Below w.heap.size w w4 := by
      rw [hw4]
      exact (((HB2.out.trans (b3.mono HB2.out.size)).setCell (p := ⟨w.heap.size, 0, none⟩) (Nat.le_refl _) _).setCell (p := ⟨w.heap.size, 1, none⟩) (Nat.le_refl _) _).setCell (p := ⟨w.heap.size, 2, none⟩) (Nat.le_refl _) _
    have HB4 := Lib.hid b4
    have HO4 := Lib.hid O4
    have HN4 := Lib.hid N4
    have HLT := Lib.hid hlt
    have KT := tableOf_any L w4 (rgL_RL HR.out.rules HW.out.rules) (by have := HR.out.short; omega) O4.isN.2
    have y2' := (N4.cell 2).trans rfl
    rw [← hw4]
    clear hw4 N3 y0 y1 y2 f0 f1 f2 o3 b3 d0 d1 d2 KC far hlt N4 O4 b4
    go_upto_region 5 with (go_at_call 17; refine KT.mono ?_; rintro e w5 ⟨vt, rfl, ht, b5⟩; obtain ⟨Bt, rfl⟩ := ht.ptr)
    have HT5 := Lib.hid ht
    have N5 := HN4.out.belows b5
    have HB5 := Lib.hid (HB4.out.trans (b5.mono HB4.out.size))
    have HO5 := Lib.hid (HO4.out.belows b5)
    have KE : Hid (∀ u, Below w5.heap.size w5 u → Calls Tryz.prog 18 #[.agg #[.slice B1 ps.length e1, .slice B2 ls.length e2, .slice B3 L.length e3], .pointer (some ⟨Bt, 0, none⟩)] u (TellOut u ps ls L)) := Lib.hid fun u hu => tell_any ps ls L u (HO5.out.isN.belows hu) (HT5.out.belows hu) (by have := HR.out.short; omega)
    have SZ : Hid (∀ u, Below w5.heap.size w5 u → u.cell? ⟨w.heap.size, 0, none⟩ = some (.slice B1 ps.length e1) ∧ u.cell? ⟨w.heap.size, 1, none⟩ = some (.slice B2 ls.length e2) ∧ u.cell? ⟨w.heap.size, 2, none⟩ = some (.slice B3 L.length e3)) := Lib.hid fun u hu => ⟨((N5.belows hu).cell 0).trans rfl, ((N5.belows hu).cell 1).trans rfl, ((N5.belows hu).cell 2).trans rfl⟩
    clear ht b5 KT N5 y2'
    go_region_held3 (fun W => W.cell? ⟨w.heap.size, 0, none⟩ = some (.slice B1 ps.length e1) ∧ W.cell? ⟨w.heap.size, 1, none⟩ = some (.slice B2 ls.length e2) ∧ W.cell? ⟨w.heap.size, 2, none⟩ = some (.slice B3 L.length e3))
      (first | exact SZ.out _ (b6w.alloc b6w.size _) | exact SZ.out _ b6w | exact SZ.out _ (bdrewN (Below.refl _ _) 1))
      (first | (go_at_call 18; refine (KE.out _ (bdrewN (Below.refl _ _) 1)).mono ?_; rintro e w6 ⟨g, rfl, tb, b6⟩; have b6w : Below w5.heap.size w5 w6 := (bdrewN (Below.refl _ _) 1).trans b6))
    go_wp2
    go_ret2
    obtain ⟨w7, hw7⟩ : ∃ w7, w7 = w6.alloc (.cells #[.slice B1 ps.length e1, .slice B2 ls.length e2, .slice B3 L.length e3, .pointer (some ⟨Bt, 0, none⟩), .slice (some ⟨g, 0, none⟩) ps.length ps.length] 60) := ⟨_, rfl⟩
    have A7 : At w7 w6.heap.size #[.slice B1 ps.length e1, .slice B2 ls.length e2, .slice B3 L.length e3, .pointer (some ⟨Bt, 0, none⟩), .slice (some ⟨g, 0, none⟩) ps.length ps.length] 60 := by rw [hw7]; exact At.new w6 _ _
    have b7 : Below w5.heap.size w5 w7 := by rw [hw7]; exact b6w.alloc b6w.size _
    have b67 : Below w6.heap.size w6 w7 := by rw [hw7]; exact (Below.refl _ _).alloc (Nat.le_refl _) _
    have hb7 : Below w.heap.size w w7 := HB5.out.trans (b7.mono HB5.out.size)
    rw [← hw7]
    refine ⟨.inl ⟨HR.out, _, rfl, fun W' hx => ?_⟩, hb7⟩
    have hn : Nets H w7 := Nets.belows (W := w) HH.out hb7
    have hlow : ∀ b, H b → b < w.heap.size := fun b hb => by
      obtain ⟨cs, hc⟩ := HH.out b hb
      exact hc.lt
    exact ⟨w6.heap.size, _, _, _, _, g, rfl, A7.exc hx hn (by decide), ((HO5.out.belows b7).exc hx (fun b hb => by have := hlow b hb; have := HLT.out; omega)).isN, exc_is_tab hx hn (HT5.out.belows b7), exc_tb hx hn (tb.belows b67)⟩
end Go.Proofs.YtlhfaildeemngaaGreat
/- Contracts of package label: Network, Atoms, Atom, At. -/
namespace Go.Proofs.YtlhfaildeemngaaGreat
open Go.RowKit Go.Shelf

set_option maxRecDepth 100000 in
set_option maxHeartbeats 1000000 in
theorem network10_any {v : Value} (ps : List Int) (ls : List Lk) (L : List Ru) (w : World) (hR : RN ps ls L) (h : LbM w v ps ls L) : Calls Tryz.prog 23 #[v] w fun e w' => ∃ vp vl vr, e = .returned (.agg #[vp, vl, vr]) ∧ Rows3 w' w.heap.size vp vl vr ps ls L ∧ Below w.heap.size w w' := by
  obtain ⟨B, vp, vl, vr, vt, g, rfl, hA, hN, ht, htb⟩ := h
  obtain ⟨w1, hw1⟩ : ∃ w1, w1 = w.alloc (.cells #[.slice none 0 0, .slice none 0 0, .slice none 0 0] 28) := ⟨_, rfl⟩
  have b1 : Below w.heap.size w w1 := by rw [hw1]; exact (Below.refl _ w).alloc (Nat.le_refl _) _
  have R1 : At w1 w.heap.size #[.slice none 0 0, .slice none 0 0, .slice none 0 0] 28 := by rw [hw1]; exact At.new w _ _
  have A1 := hA.belows b1
  have KC := copied_any ps ls L w1 (hN.belows b1) (by have := hR.short; omega) (by have := hR.short; omega) (by have := hR.short; omega)
  obtain ⟨⟨⟨A1', c1, rfl, _, _, _⟩, ⟨A2, c2, rfl, _, _, _⟩⟩, ⟨A3, c3, rfl, _, _, _⟩⟩ := hN
  have c0 := (A1.cell 0).trans rfl
  have c1' := (A1.cell 1).trans rfl
  have c2' := (A1.cell 2).trans rfl
  have HB1 := Lib.hid b1
  have HR1 := Lib.hid R1
  have hs : w1.heap.size = w.heap.size + 1 := by rw [hw1]; simp
  have HS := Lib.hid hs
  clear hA ht htb A1 R1 b1 hs
  go_enter Tryz.func23, Tryz.ntmps23
  go_upto_region 1 with (fail)
  rw [← hw1]
  clear hw1
  go_wp2_with (go_at_call 16; refine KC.mono ?_; rintro e w2 ⟨vp', vl', vr', rfl, o2, b2⟩; obtain ⟨B1, e1, rfl, _, _⟩ := row_slice o2.p; obtain ⟨B2, e2, rfl, _, _⟩ := row_slice o2.l; obtain ⟨B3, e3, rfl, _, _⟩ := row_slice o2.r; have R2 := HR1.out.belows b2; have y0 := (R2.cell 0).trans rfl; have y1 := (R2.cell 1).trans rfl; have y2 := (R2.cell 2).trans rfl; have f0 := R2.frozen 0; have f1 := R2.frozen 1; have f2 := R2.frozen 2)
  have A9 := ((R2.set0 0 (.slice B1 ps.length e1)).set0 1 (.slice B2 ls.length e2)).set0 2 (.slice B3 L.length e3)
  have hlt : w.heap.size < w1.heap.size := by rw [HS.out]; omega
  have far : ∀ {U : World} {e : TypeId} {n : Nat} {v : Value} {k : Nat} {xs : List Value} (a b c : Value), U.ownsRow w1.heap.size e n v k xs → (((U.setCell ⟨w.heap.size, 0, none⟩ a).setCell ⟨w.heap.size, 1, none⟩ b).setCell ⟨w.heap.size, 2, none⟩ c).ownsRow w.heap.size e n v k xs := fun a b c h => row_mono (row_far (row_far (row_far h (grownBy_set _ _ _ _) hlt) (grownBy_set _ _ _ _) hlt) (grownBy_set _ _ _ _) hlt) (by omega)
  have r3 := far (.slice B1 ps.length e1) (.slice B2 ls.length e2) (.slice B3 L.length e3) o2.p
  have r4 := far (.slice B1 ps.length e1) (.slice B2 ls.length e2) (.slice B3 L.length e3) o2.l
  have r6 := far (.slice B1 ps.length e1) (.slice B2 ls.length e2) (.slice B3 L.length e3) o2.r
  have HF := (((HB1.out.trans (b2.mono HB1.out.size)).setCell (p := ⟨w.heap.size, 0, none⟩) (Nat.le_refl _) (.slice B1 ps.length e1)).setCell (p := ⟨w.heap.size, 1, none⟩) (Nat.le_refl _) (.slice B2 ls.length e2)).setCell (p := ⟨w.heap.size, 2, none⟩) (Nat.le_refl _) (.slice B3 L.length e3)
  refine bodyPost_ret (v := .agg #[.slice B1 ps.length e1, .slice B2 ls.length e2, .slice B3 L.length e3]) (by simp [results, Tryz.results23, go_sem, A9.cell 0, A9.cell 1, A9.cell 2]) rfl ⟨_, _, _, rfl, ⟨r3, r4, r6⟩, HF⟩
set_option maxRecDepth 100000 in
theorem networkNil_any (w : World) : Calls Tryz.prog 23 #[.pointer none] w fun e w' => (∃ vp vl vr, e = .returned (.agg #[vp, vl, vr]) ∧ IsN w' vp vl vr [] [] []) ∧ Below w.heap.size w w' := by
  have A0 := At.new w #[.slice none 0 0, .slice none 0 0, .slice none 0 0] 28
  have A9 := ((A0.set0 0 (.slice none 0 0)).set0 1 (.slice none 0 0)).set0 2 (.slice none 0 0)
  have b1 : Below w.heap.size w (w.alloc (.cells #[.slice none 0 0, .slice none 0 0, .slice none 0 0] 28)) := (Below.refl _ w).alloc (Nat.le_refl _) _
  have b9 := ((b1.setCell (p := ⟨w.heap.size, 0, none⟩) (Nat.le_refl _) (.slice none 0 0)).setCell (p := ⟨w.heap.size, 1, none⟩) (Nat.le_refl _) (.slice none 0 0)).setCell (p := ⟨w.heap.size, 2, none⟩) (Nat.le_refl _) (.slice none 0 0)
  have y0 := (A0.cell 0).trans rfl; have y1 := (A0.cell 1).trans rfl; have y2 := (A0.cell 2).trans rfl; have f0 := A0.frozen 0; have f1 := A0.frozen 1; have f2 := A0.frozen 2
  have hn : ∀ W : World, IsN W (.slice none 0 0) (.slice none 0 0) (.slice none 0 0) [] [] [] := fun W => ⟨⟨⟨none, 0, rfl, Nat.le_refl _, Nat.zero_le _, Fs.nil _ _⟩, ⟨none, 0, rfl, Nat.le_refl _, Nat.zero_le _, Fs.nil _ _⟩⟩, ⟨none, 0, rfl, Nat.le_refl _, Nat.zero_le _, Rs.nil _ _⟩⟩
  go_enter Tryz.func23, Tryz.ntmps23
  go_wp2
  first
    | refine bodyPost_ret (v := .agg #[.slice none 0 0, .slice none 0 0, .slice none 0 0]) (by simp [results, Tryz.results23, go_sem, A9.cell 0, A9.cell 1, A9.cell 2]) rfl ⟨⟨_, _, _, rfl, hn _⟩, b9⟩
    | refine bodyPost_ret (v := .agg #[.slice none 0 0, .slice none 0 0, .slice none 0 0]) (by simp [results, Tryz.results23, go_sem, A0.cell 0, A0.cell 1, A0.cell 2]) rfl ⟨⟨_, _, _, rfl, hn _⟩, b1⟩
theorem atm_len (L : List Ru) : (atmL L).length = (Tr.bnds (rgL L)).length := Tr.atomsL_len _
set_option maxRecDepth 100000 in
theorem atoms10_any {v : Value} (ps : List Int) (ls : List Lk) (L : List Ru) (w : World) (h : LbM w v ps ls L) : Calls Tryz.prog 22 #[v] w fun e w' => e = .returned (.int .i64 (atmL L).length) ∧ Below w.heap.size w w' := by
  obtain ⟨B, vp, vl, vr, vt, g, rfl, hA, hN, ht, htb⟩ := h
  have K := Tr.len5_any _ w ht.any
  rw [← atm_len] at K
  obtain ⟨Bt, rfl⟩ := ht.ptr
  have c3 := (hA.cell 3).trans rfl
  generalize (atmL L).length = N at *
  clear hA hN ht htb
  go_enter Tryz.func22, Tryz.ntmps22
  go_wp2_with (go_at_call 42; refine K.mono ?_; rintro e w1 ⟨rfl, b1⟩)
  go_ret
  exact ⟨rfl, b1⟩
theorem atomsNil_any (w : World) : Calls Tryz.prog 22 #[.pointer none] w fun e w' => e = .returned (.int .i64 0) ∧ Below w.heap.size w w' := by
  go_enter Tryz.func22, Tryz.ntmps22
  go_wp2
  go_ret
  exact ⟨rfl, Below.refl _ _⟩
set_option maxRecDepth 100000 in
set_option maxHeartbeats 1000000 in
theorem atom10_any {v : Value} (ps : List Int) (ls : List Lk) (L : List Ru) (i : Int) (w : World) (h : LbM w v ps ls L) : Calls Tryz.prog 21 #[v, .int .i64 i] w fun e w' => atomV L i e ∧ Below w.heap.size w w' := by
  obtain ⟨B, vp, vl, vr, vt, g, rfl, hA, hN, ht, htb⟩ := h
  obtain ⟨w1, hw1⟩ : ∃ w1, w1 = w.alloc (.cells #[.int .u32 0, .int .u32 0] 39) := ⟨_, rfl⟩
  have b1 : Below w.heap.size w w1 := by rw [hw1]; exact (Below.refl _ w).alloc (Nat.le_refl _) _
  have R1 : At w1 w.heap.size #[.int .u32 0, .int .u32 0] 39 := by rw [hw1]; exact At.new w _ _
  have A1 := hA.belows b1
  have K : ∃ (f t : Nat) (b : Bool), atomV L i (.returned (.tuple #[.agg #[.int .u32 f, .int .u32 t], .bool b])) ∧ Calls Tryz.prog 43 #[vt, .int .i64 i] w1 fun e w' => e = .returned (.tuple #[.agg #[.int .u32 f, .int .u32 t], .bool b]) ∧ Below w1.heap.size w1 w' := by
    by_cases hi : 0 ≤ i ∧ i < (Tr.bnds (rgL L)).length
    · obtain ⟨k, rfl⟩ := Int.eq_ofNat_of_zero_le hi.1
      have hk : k < (Tr.bnds (rgL L)).length := by omega
      refine ⟨_, _, true, .inl ⟨hi.1, by simpa [atm_len] using hk, ?_⟩, Tr.atom_ok (rgL L) k w1 (ht.belows b1).any hk⟩
      simp [atmL, Tr.atomsL_at]
    · refine ⟨0, 0, false, .inr ⟨fun h => hi ⟨h.1, by have := h.2; rw [atm_len] at this; omega⟩, 0, 0, rfl⟩, ?_⟩
      exact Tr.atom_no (rgL L) i w1 (ht.belows b1).any hi
  obtain ⟨f, t, b, hv, K⟩ := K
  obtain ⟨Bt, rfl⟩ := ht.ptr
  have c3 := (A1.cell 3).trans rfl
  have HB1 := Lib.hid b1
  have HR1 := Lib.hid R1
  have HV := Lib.hid hv
  clear hA hN ht htb A1 R1 b1 hv
  go_enter Tryz.func21, Tryz.ntmps21
  go_upto_region 1 with (fail)
  rw [← hw1]
  clear hw1
  go_wp2_with (go_at_call 43; refine K.mono ?_; rintro e w2 ⟨rfl, b2⟩; have R2 := HR1.out.belows b2; have y0 := (R2.cell 0).trans rfl; have y1 := (R2.cell 1).trans rfl; have f0 := R2.frozen 0; have f1 := R2.frozen 1)
  have A9 := (R2.set0 0 (.int .u32 f)).set0 1 (.int .u32 t)
  have HF := ((HB1.out.trans (b2.mono HB1.out.size)).setCell (p := ⟨w.heap.size, 0, none⟩) (Nat.le_refl _) (.int .u32 f)).setCell (p := ⟨w.heap.size, 1, none⟩) (Nat.le_refl _) (.int .u32 t)
  refine bodyPost_ret (v := .tuple #[.agg #[.int .u32 f, .int .u32 t], .bool b]) (by simp [results, Tryz.results21, go_sem, A9.cell 0, A9.cell 1]) rfl ⟨HV.out, HF⟩
set_option maxRecDepth 100000 in
theorem atomNil_any (i : Int) (w : World) : Calls Tryz.prog 21 #[.pointer none, .int .i64 i] w fun e w' => (∃ x y : Nat, e = .returned (.tuple #[.agg #[.int .u32 x, .int .u32 y], .bool false])) ∧ Below w.heap.size w w' := by
  have A0 := At.new w #[.int .u32 0, .int .u32 0] 39
  have A9 := (A0.set0 0 (.int .u32 0)).set0 1 (.int .u32 0)
  have b1 : Below w.heap.size w (w.alloc (.cells #[.int .u32 0, .int .u32 0] 39)) := (Below.refl _ w).alloc (Nat.le_refl _) _
  have b9 := (b1.setCell (p := ⟨w.heap.size, 0, none⟩) (Nat.le_refl _) (.int .u32 0)).setCell (p := ⟨w.heap.size, 1, none⟩) (Nat.le_refl _) (.int .u32 0)
  have y0 := (A0.cell 0).trans rfl; have y1 := (A0.cell 1).trans rfl; have f0 := A0.frozen 0; have f1 := A0.frozen 1
  go_enter Tryz.func21, Tryz.ntmps21
  go_wp2
  first
    | refine bodyPost_ret (v := .tuple #[.agg #[.int .u32 (0 : Nat), .int .u32 (0 : Nat)], .bool false]) (by simp [results, Tryz.results21, go_sem, A9.cell 0, A9.cell 1]) rfl ⟨⟨0, 0, rfl⟩, b9⟩
    | refine bodyPost_ret (v := .tuple #[.agg #[.int .u32 (0 : Nat), .int .u32 (0 : Nat)], .bool false]) (by simp [results, Tryz.results21, go_sem, A0.cell 0, A0.cell 1]) rfl ⟨⟨0, 0, rfl⟩, b1⟩
set_option maxRecDepth 100000 in
theorem at10_in {v : Value} (ps : List Int) (ls : List Lk) (L : List Ru) (d i : Nat) (w : World) (hd : d < ps.length) (hi : i < (Tr.bnds (rgL L)).length) (hs : ps.length ≤ 8) (hb : (Tr.bnds (rgL L)).length ≤ 4000) (h : LbM w v ps ls L) : Calls Tryz.prog 20 #[v, .int .i64 (d : Int), .int .i64 (i : Int)] w fun e w' => e = .returned (.tuple #[.int .i64 (tellQ ls L d i), .bool true]) ∧ Below w.heap.size w w' := by
  obtain ⟨B, vp, vl, vr, vt, g, rfl, hA, hN, ht, htb⟩ := h
  obtain ⟨gd, r0, r1⟩ := htb.row hd
  have r2 := r1 i hi
  generalize tellQ ls L d i = lv at *
  have c4 := (hA.cell 4).trans rfl
  generalize (Tr.bnds (rgL L)).length = N at *
  generalize ps.length = D at *
  have e1 : decide ((d : Int) < 0) = false := decide_eq_false (by omega)
  have e2 : decide ((D : Int) ≤ (d : Int)) = false := decide_eq_false (by omega)
  have e3 : decide ((i : Int) < 0) = false := decide_eq_false (by omega)
  have e4 : decide ((N : Int) ≤ (i : Int)) = false := decide_eq_false (by omega)
  have e2' : decide (D ≤ d) = false := decide_eq_false (by omega)
  have e4' : decide (N ≤ i) = false := decide_eq_false (by omega)
  have i0 : (0 : Int) ≤ (d : Int) := by omega
  have i1 : (d : Int) < (D : Int) := by omega
  have i2 : (0 : Int) ≤ (i : Int) := by omega
  have i3 : (i : Int) < (N : Int) := by omega
  have n1 : D ≤ 9223372036854775807 := by omega
  have n2 : N ≤ 9223372036854775807 := by omega
  clear hA hN ht htb r1
  go_enter Tryz.func20, Tryz.ntmps20
  go_wp2
  go_ret2
  exact ⟨rfl, Below.refl _ _⟩
set_option maxRecDepth 100000 in
theorem at10_out {v : Value} (ps : List Int) (ls : List Lk) (L : List Ru) (d i : Int) (w : World) (hs : ps.length ≤ 8) (hb : (Tr.bnds (rgL L)).length ≤ 4000) (hd : isI d) (_hi : isI i) (hno : ¬ ((0 ≤ d ∧ d < ps.length) ∧ 0 ≤ i ∧ i < (Tr.bnds (rgL L)).length)) (h : LbM w v ps ls L) : Calls Tryz.prog 20 #[v, .int .i64 d, .int .i64 i] w fun e w' => e = .returned (.tuple #[.int .i64 0, .bool false]) ∧ Below w.heap.size w w' := by
  obtain ⟨B, vp, vl, vr, vt, g, rfl, hA, hN, ht, htb⟩ := h
  have c4 := (hA.cell 4).trans rfl
  by_cases h1 : 0 ≤ d ∧ d < ps.length
  · obtain ⟨d, rfl⟩ := Int.eq_ofNat_of_zero_le h1.1
    have h2 : ¬ (0 ≤ i ∧ i < (Tr.bnds (rgL L)).length) := fun h => hno ⟨h1, h⟩
    obtain ⟨gd, r0, _⟩ := htb.row (d := d) (by omega)
    generalize (Tr.bnds (rgL L)).length = N at *
    generalize ps.length = D at *
    have e1 : decide ((d : Int) < 0) = false := decide_eq_false (by omega)
    have e2 : decide ((D : Int) ≤ (d : Int)) = false := decide_eq_false (by omega)
    have e2' : decide (D ≤ d) = false := decide_eq_false (by omega)
    have i0 : (0 : Int) ≤ (d : Int) := by omega
    have i1 : (d : Int) < (D : Int) := by omega
    have n1 : D ≤ 9223372036854775807 := by omega
    have n2 : N ≤ 9223372036854775807 := by omega
    by_cases h3 : i < 0
    · have e3 : decide (i < 0) = true := decide_eq_true h3
      clear hA hN ht htb hno h1 h2
      go_enter Tryz.func20, Tryz.ntmps20
      go_wp2
      go_ret2
      exact ⟨rfl, Below.refl _ _⟩
    · have e3 : decide (i < 0) = false := decide_eq_false h3
      have e4 : decide ((N : Int) ≤ i) = true := decide_eq_true (by omega)
      clear hA hN ht htb hno h1 h2
      go_enter Tryz.func20, Tryz.ntmps20
      go_wp2
      go_ret2
      exact ⟨rfl, Below.refl _ _⟩
  · generalize ps.length = D at *
    by_cases h3 : d < 0
    · have e3 : decide (d < 0) = true := decide_eq_true h3
      clear hA hN ht htb hno h1
      go_enter Tryz.func20, Tryz.ntmps20
      go_wp2
      go_ret2
      exact ⟨rfl, Below.refl _ _⟩
    · have e3 : decide (d < 0) = false := decide_eq_false h3
      have e4 : decide ((D : Int) ≤ d) = true := decide_eq_true (by omega)
      clear hA hN ht htb hno h1
      go_enter Tryz.func20, Tryz.ntmps20
      go_wp2
      go_ret2
      exact ⟨rfl, Below.refl _ _⟩
theorem atNil_any (d i : Int) (w : World) : Calls Tryz.prog 20 #[.pointer none, .int .i64 d, .int .i64 i] w fun e w' => (∃ x : Int, e = .returned (.tuple #[.int .i64 x, .bool false])) ∧ Below w.heap.size w w' := by
  go_enter Tryz.func20, Tryz.ntmps20
  go_wp2
  go_ret2
  exact ⟨⟨0, rfl⟩, Below.refl _ _⟩
end Go.Proofs.YtlhfaildeemngaaGreat
