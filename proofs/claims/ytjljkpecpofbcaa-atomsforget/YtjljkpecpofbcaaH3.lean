/- Contracts: any act; same. -/
import Derived.Test.YtjljkpecpofbcaaH2a
import Derived.Test.YtjljkpecpofbcaaH2b
import Derived.Test.YtjljkpecpofbcaaH2c
import Derived.Test.YtjljkpecpofbcaaH2d
namespace Go.Proofs.Ytjljkpecpofbcaa
open Go.RowKit Go.Shelf

theorem do_any (Bh : Nat) (d : Bool) (f t : Nat) (L : List (Nat × Nat)) (w : World) (hf : f < 4294967296) (ht : t < 4294967296) (h : Hd w Bh L) : Calls Try.prog 10 #[.pointer (some ⟨Bh, 0, none⟩), .agg #[.bool d, .int .u32 f, .int .u32 t]] w (Did w Bh (actL L d (f, t))) := by
  obtain ⟨ea, a1, a2, a3, a4⟩ := add_both L f t ht h.rl
  cases d with
  | false =>
    by_cases he : ea = 0
    · subst he
      exact do_add_ok Bh f t L w h ⟨a3, a4⟩ (a1 rfl)
    · exact do_add_no Bh f t L w h ea ⟨a3, a4⟩ he (a2 he)
  | true =>
    obtain ⟨ed, d1, d2, d3, d4⟩ := drop_both L f t hf ht h.rl
    by_cases he : ed = 0
    · subst he
      exact do_drop_ok Bh f t L w h ea ⟨a3, a4⟩ ⟨d3, d4⟩
    · exact do_drop_no Bh f t L w h ea ⟨a3, a4⟩ ed ⟨d3, d4⟩ he (d1 he)
set_option maxRecDepth 100000 in
set_option maxHeartbeats 2000000 in
theorem same5_any {tv lv : Value} (M L : List (Nat × Nat)) (w : World) (hb : bnds M = bnds L) (hL : RL L) (ht : IsTab0 w tv M) (hz : IsZ w lv L) : Calls Try.prog 11 #[tv, lv] w fun e w' => e = .returned (.bool true) ∧ Below w.heap.size w w' := by
  have hat := ratoms_any L w hL hz
  have hlenM := fun W (hW : Below w.heap.size w W) => len5_any M W (ht.belows hW)
  have hatom := fun (k : Nat) (hk : k < (bnds M).length) W (hW : Below w.heap.size w W) => atom_ok M k W (ht.belows hW) hk
  unfold AtOut at hat
  rw [hb] at hlenM hatom
  have hbd := bd_of L
  have hlen : (bnds L).length ≤ 4294967296 := by
    rcases rising_len (bnds_rise L) with h | h
    · omega
    · rw [h]; simp
  have hal := atomsL_len (bnds L)
  have haa := fun i h => atomsL_at (bnds L) i h
  generalize bnds L = C at *
  have HLEN := Lib.hid hlenM
  have HAT := Lib.hid hatom
  obtain ⟨p, rfl⟩ := ht.ptr
  obtain ⟨A, c, rfl, n1, m1, _⟩ := hz
  clear hlenM hatom hb
  go_enter Try.func11, Try.ntmps11
  go_wp2_with fail
  refine hat.mono ?_
  rintro e w1 ⟨v1, rfl, ⟨A1, c1, rfl, n2, m2, z1⟩, b1⟩
  rw [hal] at n2
  have HZ : Hid (∀ W, Below w1.heap.size w1 W → Zs W A1 (atomsL C)) := Lib.hid fun W hW => z1.belows hW
  rw [hal]
  have HAL := Lib.hid (And.intro hal haa)
  have HB1 := Lib.hid b1
  clear z1 hat hal haa b1
  go_wp2_with fail
  refine (HLEN.out w1 HB1.out).mono ?_
  rintro e w2 ⟨rfl, b2⟩
  go_wp2_with fail
  go_loopw [6] (fun i wr => ∃ k : Nat, i = .int .i64 k ∧ k ≤ C.length ∧ Hid (Below w1.heap.size w1 wr)) (fun i _ => C.length - (intOf i).toNat)
  case atStart => exact ⟨0, rfl, by omega, Lib.hid b2⟩
  case round =>
    obtain ⟨k, rfl, hk, HB⟩ := hrel
    by_cases hlt : k < C.length
    · have hlt' : k < (atomsL C).length := by have := HAL.out.1; omega
      obtain ⟨g, o, rfl, hg, hc⟩ := HZ.out w1 (Below.refl _ _) (by omega)
      have hcell : ∀ W, Below w1.heap.size w1 W → W.cell? ⟨g, o + k * 2, none⟩ = some (.int .u32 (frm C k : Nat)) ∧ W.cell? ⟨g, o + k * 2 + 1, none⟩ = some (.int .u32 (too C k : Nat)) := fun W hW => by
        have h1 := hc k hlt'
        rw [HAL.out.2 k hlt'] at h1
        exact ⟨(hW.cell (p := ⟨g, _, none⟩) hg).trans h1.1, (hW.cell (p := ⟨g, _, none⟩) hg).trans h1.2⟩
      have HCE := Lib.hid hcell
      have hat := HAT.out k hlt wr (HB1.out.trans (HB.out.mono HB1.out.size))
      clear hc hcell hlt'
      generalize frm C k = x at hat HCE
      generalize too C k = y at hat HCE
      have i0 : (0 : Int) ≤ (k : Int) := by omega
      have i1 : (k : Int) < (C.length : Int) := by omega
      go_wp2_with fail
      refine hat.mono ?_
      rintro e w3 ⟨rfl, b3⟩
      have bb3 := HB.out.trans (b3.mono HB.out.size)
      have bb4 := bb3.alloc bb3.size (.cells #[.int .u32 x, .int .u32 y] 32)
      have A3 := At.new w3 #[.int .u32 x, .int .u32 y] 32
      obtain ⟨q0, q1⟩ := HCE.out _ bb4
      have q2 := (A3.cell 0).trans rfl
      have q3 := (A3.cell 1).trans rfl
      have d1 : ((x : Int) != (x : Int)) = false := by simp
      have d2 : ((y : Int) != (y : Int)) = false := by simp
      clear hat b3 bb3 A3
      go_wp2_with fail
      go_quiet (fail)
      go_wp2
      go_roundw
      case rel => exact ⟨k + 1, by go_num, by omega, Lib.hid (bdrewN bb4 _)⟩
      case measure => simp [intOf]; omega
    · obtain rfl : k = C.length := by omega
      go_wp2
      go_ret
      exact ⟨rfl, HB1.out.trans (HB.out.mono HB1.out.size)⟩
end Go.Proofs.Ytjljkpecpofbcaa
