/- Contract: Atom, way 3. -/
import Derived.Test.YtjljkpecpofbcaaB6
namespace Go.Proofs.Ytjljkpecpofbcaa
open Go.RowKit Go.Shelf

set_option maxRecDepth 100000 in
set_option maxHeartbeats 4000000 in
theorem atom_ok3 {v : Value} (L : List (Nat × Nat)) (i0 : Nat) (w : World) (h : IsTab0 w v L) (hi : i0 < (bnds L).length) (h0 : i0 ≠ 0) (h9 : i0 + 1 = (bnds L).length) : Calls Try.prog 22 #[v, .int .i64 (i0 : Int)] w fun e w' => e = .returned (.tuple #[.agg #[.int .u32 (frm (bnds L) i0 : Nat), .int .u32 (too (bnds L) i0 : Nat)], .bool true]) ∧ Below w.heap.size w w' := by
  have hlast := h9
  obtain ⟨i, rfl⟩ : ∃ i, i0 = i + 1 := ⟨i0 - 1, by omega⟩
  clear h9
  have HLAST0 := Lib.hid hlast
  clear hlast
  have A0 := At.new w #[.int .u32 0, .int .u32 0] 32
  have b0 : Below w.heap.size w (w.alloc (.cells #[.int .u32 0, .int .u32 0] 32)) := (Below.refl _ w).alloc (Nat.le_refl _) _
  have hs := some_any L _ (h.belows b0)
  obtain ⟨p, rfl⟩ := h.ptr
  go_enter Try.func22, Try.ntmps22
  go_wp2_with fail
  refine hs.mono ?_
  rintro e w1 ⟨v1, rfl, t1, b1⟩
  have hlen := len5_any L w1 t1.any
  obtain ⟨hL, B, vr, vc, R, C, rfl, hB, ir, ic, tr, tc⟩ := t1
  obtain ⟨pc, rfl⟩ := ic.ptr
  have A1 := A0.belows b1
  have bb1 := b0.trans (b1.mono b0.size)
  have hbl := bnds_len hL tc
  have hcl := ic.up.2
  have hat := at_of hL tc
  have hbd := bd_of L
  have hfr := hbd.frm_le hi
  have HX : Hid ((∀ j, j + 1 < (bnds L).length → frm (bnds L) (j + 1) = too (bnds L) j + 1) ∧ (i + 1 + 1 = (bnds L).length → too (bnds L) (i + 1) = 4294967295) ∧ True) := Lib.hid ⟨fun j hj => hbd.next hj, fun hj => hbd.last hj, trivial⟩
  have HAT := Lib.hid hat
  have hs0 : w.heap.size < w1.heap.size := A1.lt
  clear hs A0 b0 b1 ir tr tc hL hbd hat
  obtain ⟨n, hn⟩ : ∃ n, (bnds L).length = n := ⟨_, rfl⟩
  rw [hn] at hlen hi hbl HX HLAST0
  go_wp2_with fail
  refine hlen.mono ?_
  rintro e w2 ⟨rfl, b2⟩
  have A2 := A1.belows b2
  have hB2 := hB.belows b2
  have ic2 := ic.belows b2
  have bb2 := bb1.trans (b2.mono bb1.size)
  have c1 := (hB2.cell 1).trans rfl
  have hs2 : w.heap.size < w2.heap.size := A2.lt
  have hsB : B < w2.heap.size := hB2.lt
  clear hlen A1 hB ic bb1 b2 hs0
  have D2 := At.new w2 #[.int .u32 0, .int .u32 4294967295] 32
  have b2' : Below w2.heap.size w2 (w2.alloc (.cells #[.int .u32 0, .int .u32 4294967295] 32)) := (Below.refl _ w2).alloc (Nat.le_refl _) _
  have HLAST := HLAST0
  clear HLAST0 hn
  go_wp2_with fail
  obtain ⟨W2, hW2⟩ : ∃ W2, w2.alloc (.cells #[.int .u32 0, .int .u32 4294967295] 32) = W2 := ⟨_, rfl⟩
  rw [hW2] at D2 b2' ⊢
  clear hW2
  obtain ⟨n1, e1, _⟩ := HAT.out i (by omega)
  have ho : atL C (i : Int) = some (((frm (bnds L) (i + 1) : Nat) : Int), n1) := by unfold atL; rw [if_pos (by omega)]; simp [show i < C.length by omega, e1]
  have hc1 := At_any C (i : Int) W2 (ic2.belows b2') (by omega) (by omega)
  rw [ho] at hc1
  simp only [toldV] at hc1
  clear ho e1
  refine hc1.mono ?_
  rintro e w3 ⟨rfl, b3⟩
  have b3' := (b2'.trans (b3.mono b2'.size)).alloc (b2'.trans (b3.mono b2'.size)).size (.cells #[.int .u64 ((frm (bnds L) (i + 1) : Nat) : Int), .int .i64 n1] 68)
  have D3 := (D2.belows b3).alloc (.cells #[.int .u64 ((frm (bnds L) (i + 1) : Nat) : Int), .int .i64 n1] 68)
  have O3 := At.new w3 #[.int .u64 ((frm (bnds L) (i + 1) : Nat) : Int), .int .i64 n1] 68
  have x0 := (O3.cell 0).trans rfl
  have g0 := D3.frozen 0
  have y0 := (D3.cell 0).trans rfl
  have b3' := b3'.setCell (p := ⟨w2.heap.size, 0, none⟩) (Nat.le_refl _) (.int .u32 ((frm (bnds L) (i + 1) : Nat) : Int))
  have D3 := D3.set0 0 (.int .u32 ((frm (bnds L) (i + 1) : Nat) : Int))
  have j3 : IntKind.u32.wrap ((frm (bnds L) (i + 1) : Nat) : Int) = ((frm (bnds L) (i + 1) : Nat) : Int) := IntWalk.u32_in _ (by omega)
  have c3 := ((hB2.belows b3').cell 1).trans rfl
  clear hc1 b3 D2 b2' c1
  go_wp2_with fail
  obtain ⟨W3, hW3⟩ : ∃ W3, ((w3.alloc (.cells #[.int .u64 ((frm (bnds L) (i + 1) : Nat) : Int), .int .i64 n1] 68)).setCell ⟨w2.heap.size, 0, none⟩ (.int .u32 ((frm (bnds L) (i + 1) : Nat) : Int))) = W3 := ⟨_, rfl⟩
  rw [hW3] at b3' D3 c3 ⊢
  clear hW3
  clear x0 g0 y0 O3
  have h5 : C.length ≤ i + 1 := by have := HLAST.out; omega
  have ho : atL C ((i + 1 : Nat) : Int) = none := by unfold atL; rw [if_pos (by omega), Int.toNat_natCast]; exact List.getElem?_eq_none h5
  clear h5
  have htoo : too (bnds L) (i + 1) = 4294967295 := HX.out.2.1 HLAST.out
  have hc2 := At_any C ((i + 1 : Nat) : Int) W3 (ic2.belows b3') (by omega) (by omega)
  rw [ho] at hc2
  simp only [toldV] at hc2
  clear ho
  refine hc2.mono ?_
  rintro e w4 ⟨rfl, b4⟩
  have b4 : Below W3.heap.size W3 w4 := b4
  have b4' := (b3'.trans (b4.mono b3'.size)).alloc (b3'.trans (b4.mono b3'.size)).size (.cells #[.int .u64 0, .int .i64 0] 68)
  have D4 := (D3.belows b4).alloc (.cells #[.int .u64 0, .int .i64 0] 68)
  have z0 := (D4.cell 0).trans rfl
  have z1 := (D4.cell 1).trans rfl
  have A4 := A2.belows b4'
  have q0 := (A4.cell 0).trans rfl
  have q1 := (A4.cell 1).trans rfl
  have p0 := A4.frozen 0
  have p1 := A4.frozen 1
  have A5 := (A4.set0 0 (.int .u32 ((frm (bnds L) (i + 1) : Nat) : Int))).set0 1 (.int .u32 4294967295)
  have bw := bb2.trans (b4'.mono bb2.size)
  clear hc2 b4 D3 b3' c3
  go_wp2
  refine bodyPost_ret (v := .tuple #[.agg #[.int .u32 ((frm (bnds L) (i + 1) : Nat) : Int), .int .u32 4294967295], .bool true]) (by simp [results, Try.results22, go_sem, A5.cell 0, A5.cell 1]) rfl ⟨?_, ?_⟩
  · rw [htoo]; rfl
  · exact (bw.setCell (p := ⟨w.heap.size, 0, none⟩) (Nat.le_refl _) _).setCell (p := ⟨w.heap.size, 1, none⟩) (Nat.le_refl _) _
end Go.Proofs.Ytjljkpecpofbcaa
