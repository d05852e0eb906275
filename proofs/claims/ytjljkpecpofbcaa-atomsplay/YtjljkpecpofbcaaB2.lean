/- Contracts: a thing stands once more, or once less. -/
import Derived.Test.YtjljkpecpofbcaaB1
namespace Go.Proofs.Ytjljkpecpofbcaa
open Go.RowKit Go.Shelf

/-- A new tree that tells how often. -/
def RecOut (w : World) (f : Int → Nat) (e : Ending) (w' : World) : Prop := ∃ v' P', e = .returned v' ∧ IsTree1 w' v' P' ∧ Tal P' f ∧ Below w.heap.size w w'
set_option maxRecDepth 100000 in
set_option maxHeartbeats 1000000 in
theorem recountC_more {v : Value} (P : List (Int × Int)) (g : Int → Nat) (c : Int) (w : World) (h0 : 0 ≤ c) (h1 : c < 4294967296) (h : IsTree w v P) (hT : Tal P g) (hl : P.length < 1024) (hn : g c ≤ 1000) : Calls Try.prog 48 #[v, .int .u32 c, .int .i64 1] w (RecOut w (fun j => g j + if j = c then 1 else 0)) := by
  have HH := Lib.hid h
  have HT := Lib.hid hT
  have HG := Lib.hid (hT.more c (n := ((g c : Nat) : Int) + 1) rfl)
  have hgn : getL P c ≠ none ∨ P.length < 1024 := .inr hl
  have HN := Lib.hid hgn
  obtain ⟨p, rfl⟩ := h.ptr
  clear h hT hgn
  go_enter Try.func48, Try.ntmps48
  go_wp2_with fail
  refine (oftenC_any P g c _ h0 h1 HH.out HT.out).mono ?_
  rintro e w1 ⟨rfl, b1⟩
  have dz : (((g c : Nat) : Int) + 1 == 0) = false := by rw [beq_eq_false_iff_ne]; omega
  generalize g c = n at *
  go_wp2_with fail
  refine (keyC_any c _ h0 h1).mono ?_
  rintro e w2 ⟨rfl, rfl⟩
  go_wp2_with fail
  refine (put_ok P c ((n : Int) + 1) _ (HH.out.belows b1) HN.out).mono ?_
  rintro e w3 ⟨v3, rfl, t3, b3⟩
  obtain ⟨B3, rfl⟩ := t3.ptr
  go_wp2
  go_ret
  exact ⟨_, _, rfl, t3, HG.out, b1.trans (b3.mono b1.size)⟩
set_option maxRecDepth 100000 in
set_option maxHeartbeats 1000000 in
theorem recountC_less {v : Value} (P : List (Int × Int)) (g : Int → Nat) (c : Int) (w : World) (h0 : 0 ≤ c) (h1 : c < 4294967296) (h : IsTree w v P) (hT : Tal P g) (hl : P.length ≤ 1024) (hn : g c ≤ 1000) (h2 : 1 < g c) (q : Int → Nat) (hq : ∀ j, g j = q j + if j = c then 1 else 0) : Calls Try.prog 48 #[v, .int .u32 c, .int .i64 (-1)] w (RecOut w q) := by
  have HH := Lib.hid h
  have HT := Lib.hid hT
  have HG := Lib.hid (hT.less c (n := ((g c : Nat) : Int) - 1) rfl h2 hq)
  have hgn : getL P c ≠ none ∨ P.length < 1024 := .inl (by rw [hT.2, if_neg (by omega)]; simp)
  have HN := Lib.hid hgn
  obtain ⟨p, rfl⟩ := h.ptr
  clear h hT hgn
  go_enter Try.func48, Try.ntmps48
  go_wp2_with fail
  refine (oftenC_any P g c _ h0 h1 HH.out HT.out).mono ?_
  rintro e w1 ⟨rfl, b1⟩
  have dz : (((g c : Nat) : Int) + -1 == 0) = false := by rw [beq_eq_false_iff_ne]; omega
  have e0 : ((g c : Nat) : Int) + -1 = ((g c : Nat) : Int) - 1 := rfl
  generalize g c = n at *
  go_wp2_with fail
  refine (keyC_any c _ h0 h1).mono ?_
  rintro e w2 ⟨rfl, rfl⟩
  go_wp2_with fail
  refine (put_ok P c ((n : Int) - 1) _ (HH.out.belows b1) HN.out).mono ?_
  rintro e w3 ⟨v3, rfl, t3, b3⟩
  obtain ⟨B3, rfl⟩ := t3.ptr
  go_wp2
  go_ret
  exact ⟨_, _, rfl, t3, HG.out, b1.trans (b3.mono b1.size)⟩
set_option maxRecDepth 100000 in
set_option maxHeartbeats 1000000 in
theorem recountC_gone {v : Value} (P : List (Int × Int)) (g : Int → Nat) (c : Int) (w : World) (h0 : 0 ≤ c) (h1 : c < 4294967296) (h : IsTree w v P) (hT : Tal P g) (h2 : g c = 1) (q : Int → Nat) (hq : ∀ j, g j = q j + if j = c then 1 else 0) : Calls Try.prog 48 #[v, .int .u32 c, .int .i64 (-1)] w (RecOut w q) := by
  have HH := Lib.hid h
  have HT := Lib.hid hT
  have HG := Lib.hid (hT.gone c h2 hq)
  have hgn : getL P c ≠ none := by rw [hT.2, if_neg (by omega)]; simp
  have HN := Lib.hid hgn
  obtain ⟨p, rfl⟩ := h.ptr
  clear h hT hgn
  go_enter Try.func48, Try.ntmps48
  go_wp2_with fail
  refine (oftenC_any P g c _ h0 h1 HH.out HT.out).mono ?_
  rintro e w1 ⟨rfl, b1⟩
  rw [h2]
  go_wp2_with fail
  refine (keyC_any c _ h0 h1).mono ?_
  rintro e w2 ⟨rfl, rfl⟩
  go_wp2_with fail
  refine (drop_ok P c _ (HH.out.belows b1) HN.out).mono ?_
  rintro e w3 ⟨v3, rfl, t3, b3⟩
  obtain ⟨B3, rfl⟩ := t3.ptr
  go_wp2
  go_ret
  exact ⟨_, _, rfl, t3, HG.out, b1.trans (b3.mono b1.size)⟩
set_option maxRecDepth 100000 in
set_option maxHeartbeats 1000000 in
theorem recountS_more {v : Value} (P : List (Int × Int)) (L : List (Nat × Nat)) (f t : Nat) (w : World) (hf : f < 4294967296) (ht : t < 4294967296) (h : IsTree w v P) (hT : Tal P (nR L)) (hl : P.length < 1024) (hn : (nR L) (keyI (f, t)) ≤ 1000) : Calls Try.prog 49 #[v, .agg #[.int .u32 f, .int .u32 t], .int .i64 1] w (RecOut w (fun j => (nR L) j + if j = (keyI (f, t)) then 1 else 0)) := by
  have HH := Lib.hid h
  have HT := Lib.hid hT
  have HG := Lib.hid (hT.more (keyI (f, t)) (n := (((nR L) (keyI (f, t)) : Nat) : Int) + 1) rfl)
  have hgn : getL P (keyI (f, t)) ≠ none ∨ P.length < 1024 := .inr hl
  have HN := Lib.hid hgn
  obtain ⟨p, rfl⟩ := h.ptr
  clear h hT hgn
  go_enter Try.func49, Try.ntmps49
  go_wp2_with fail
  refine (oftenS_any P L f t _ hf ht (HH.out.belows ((Below.refl _ w).alloc (Nat.le_refl _) _)) HT.out).mono ?_
  rintro e w1 ⟨rfl, b1⟩
  have A1 := (At.new w #[.int .u32 f, .int .u32 t] 63).belows b1
  have k0 := (A1.cell 0).trans rfl
  have k1 := (A1.cell 1).trans rfl
  clear A1
  have b1 : Below w.heap.size w w1 := ((Below.refl _ w).alloc (Nat.le_refl _) _).trans (b1.mono (by simp))
  have dz : ((((nR L) (keyI (f, t)) : Nat) : Int) + 1 == 0) = false := by rw [beq_eq_false_iff_ne]; omega
  generalize (nR L) (keyI (f, t)) = n at *
  go_wp2_with fail
  refine (keyS_any f t _ hf ht).mono ?_
  rintro e w2 ⟨rfl, b2⟩
  have b2' : Below w.heap.size w w2 := b1.trans (b2.mono b1.size)
  go_wp2_with fail
  refine (put_ok P (keyI (f, t)) ((n : Int) + 1) _ (HH.out.belows b2') HN.out).mono ?_
  rintro e w3 ⟨v3, rfl, t3, b3⟩
  obtain ⟨B3, rfl⟩ := t3.ptr
  go_wp2
  go_ret
  exact ⟨_, _, rfl, t3, HG.out, b2'.trans (b3.mono b2'.size)⟩
set_option maxRecDepth 100000 in
set_option maxHeartbeats 1000000 in
theorem recountS_less {v : Value} (P : List (Int × Int)) (L : List (Nat × Nat)) (f t : Nat) (w : World) (hf : f < 4294967296) (ht : t < 4294967296) (h : IsTree w v P) (hT : Tal P (nR L)) (hl : P.length ≤ 1024) (hn : (nR L) (keyI (f, t)) ≤ 1000) (h2 : 1 < (nR L) (keyI (f, t))) (q : Int → Nat) (hq : ∀ j, (nR L) j = q j + if j = (keyI (f, t)) then 1 else 0) : Calls Try.prog 49 #[v, .agg #[.int .u32 f, .int .u32 t], .int .i64 (-1)] w (RecOut w q) := by
  have HH := Lib.hid h
  have HT := Lib.hid hT
  have HG := Lib.hid (hT.less (keyI (f, t)) (n := (((nR L) (keyI (f, t)) : Nat) : Int) - 1) rfl h2 hq)
  have hgn : getL P (keyI (f, t)) ≠ none ∨ P.length < 1024 := .inl (by rw [hT.2, if_neg (by omega)]; simp)
  have HN := Lib.hid hgn
  obtain ⟨p, rfl⟩ := h.ptr
  clear h hT hgn
  go_enter Try.func49, Try.ntmps49
  go_wp2_with fail
  refine (oftenS_any P L f t _ hf ht (HH.out.belows ((Below.refl _ w).alloc (Nat.le_refl _) _)) HT.out).mono ?_
  rintro e w1 ⟨rfl, b1⟩
  have A1 := (At.new w #[.int .u32 f, .int .u32 t] 63).belows b1
  have k0 := (A1.cell 0).trans rfl
  have k1 := (A1.cell 1).trans rfl
  clear A1
  have b1 : Below w.heap.size w w1 := ((Below.refl _ w).alloc (Nat.le_refl _) _).trans (b1.mono (by simp))
  have dz : ((((nR L) (keyI (f, t)) : Nat) : Int) + -1 == 0) = false := by rw [beq_eq_false_iff_ne]; omega
  have e0 : (((nR L) (keyI (f, t)) : Nat) : Int) + -1 = (((nR L) (keyI (f, t)) : Nat) : Int) - 1 := rfl
  generalize (nR L) (keyI (f, t)) = n at *
  go_wp2_with fail
  refine (keyS_any f t _ hf ht).mono ?_
  rintro e w2 ⟨rfl, b2⟩
  have b2' : Below w.heap.size w w2 := b1.trans (b2.mono b1.size)
  go_wp2_with fail
  refine (put_ok P (keyI (f, t)) ((n : Int) - 1) _ (HH.out.belows b2') HN.out).mono ?_
  rintro e w3 ⟨v3, rfl, t3, b3⟩
  obtain ⟨B3, rfl⟩ := t3.ptr
  go_wp2
  go_ret
  exact ⟨_, _, rfl, t3, HG.out, b2'.trans (b3.mono b2'.size)⟩
set_option maxRecDepth 100000 in
set_option maxHeartbeats 1000000 in
theorem recountS_gone {v : Value} (P : List (Int × Int)) (L : List (Nat × Nat)) (f t : Nat) (w : World) (hf : f < 4294967296) (ht : t < 4294967296) (h : IsTree w v P) (hT : Tal P (nR L)) (h2 : (nR L) (keyI (f, t)) = 1) (q : Int → Nat) (hq : ∀ j, (nR L) j = q j + if j = (keyI (f, t)) then 1 else 0) : Calls Try.prog 49 #[v, .agg #[.int .u32 f, .int .u32 t], .int .i64 (-1)] w (RecOut w q) := by
  have HH := Lib.hid h
  have HT := Lib.hid hT
  have HG := Lib.hid (hT.gone (keyI (f, t)) h2 hq)
  have hgn : getL P (keyI (f, t)) ≠ none := by rw [hT.2, if_neg (by omega)]; simp
  have HN := Lib.hid hgn
  obtain ⟨p, rfl⟩ := h.ptr
  clear h hT hgn
  go_enter Try.func49, Try.ntmps49
  go_wp2_with fail
  refine (oftenS_any P L f t _ hf ht (HH.out.belows ((Below.refl _ w).alloc (Nat.le_refl _) _)) HT.out).mono ?_
  rintro e w1 ⟨rfl, b1⟩
  have A1 := (At.new w #[.int .u32 f, .int .u32 t] 63).belows b1
  have k0 := (A1.cell 0).trans rfl
  have k1 := (A1.cell 1).trans rfl
  clear A1
  have b1 : Below w.heap.size w w1 := ((Below.refl _ w).alloc (Nat.le_refl _) _).trans (b1.mono (by simp))
  rw [h2]
  go_wp2_with fail
  refine (keyS_any f t _ hf ht).mono ?_
  rintro e w2 ⟨rfl, b2⟩
  have b2' : Below w.heap.size w w2 := b1.trans (b2.mono b1.size)
  go_wp2_with fail
  refine (drop_ok P (keyI (f, t)) _ (HH.out.belows b2') HN.out).mono ?_
  rintro e w3 ⟨v3, rfl, t3, b3⟩
  obtain ⟨B3, rfl⟩ := t3.ptr
  go_wp2
  go_ret
  exact ⟨_, _, rfl, t3, HG.out, b2'.trans (b3.mono b2'.size)⟩
end Go.Proofs.Ytjljkpecpofbcaa
