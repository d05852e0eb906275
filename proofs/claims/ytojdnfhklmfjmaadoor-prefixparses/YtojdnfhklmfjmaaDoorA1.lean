/- Contract: the law's 'alive'. -/
import Derived.Test.YtojdnfhklmfjmaaDoorP7
import Derived.Test.YtojdnfhklmfjmaaDoorT7
namespace Go.Proofs.YtojdnfhklmfjmaaDoor
open Go.RowKit

theorem al_pref : prefOf [49, 48, 46, 48, 46, 48, 46, 48, 47, 56] = some (167772160, 8) := by decide +kernel
theorem al_split : splitL 1 6 = [(1, 32), (2, 31), (4, 31), (6, 32)] := by
  have p1 : pl 1 6 = 32 := by decide +kernel
  have p2 : pl 2 6 = 31 := by decide +kernel
  have p3 : pl 4 6 = 31 := by decide +kernel
  have p4 : pl 6 6 = 32 := by decide +kernel
  have s1 : sz 32 = 1 := rfl
  have s2 : sz 31 = 2 := rfl
  rw [splitL_cons (by decide), p1, s1, splitL_cons (by decide), p2, s2, splitL_cons (by decide), p3, s2, splitL_cons (by decide), p4, s1, splitL_nil (by decide)]
theorem al_addr : addrT 258 = [48, 46, 48, 46, 49, 46, 50] := by
  have d0 : Lib.decDigits 0 = [48] := by rw [Lib.decDigits_one (by omega)]; rfl
  have d1 : Lib.decDigits 1 = [49] := by rw [Lib.decDigits_one (by omega)]; rfl
  have d2 : Lib.decDigits 2 = [50] := by rw [Lib.decDigits_one (by omega)]; rfl
  have e : addrT 258 = Lib.decDigits 0 ++ 46 :: (Lib.decDigits 0 ++ 46 :: (Lib.decDigits 1 ++ 46 :: Lib.decDigits 2)) := rfl
  rw [e, d0, d1, d2]; rfl

set_option maxRecDepth 100000 in
set_option maxHeartbeats 2000000 in
/-- alive. -/
theorem alive_any (w : World) (hT : Tb w) : Calls Tryd.prog 16 #[] w fun e w' => e = .returned (.bool true) ∧ Below w.heap.size w w' := by
  have HT := Lib.hid hT
  have hP : ∀ u : World, Calls Tryd.prog 26 #[.string ⟨#[49, 48, 46, 48, 46, 48, 46, 48, 47, 56]⟩] u fun e w' => e = .returned (.tuple #[.agg #[.int .u32 167772160, .int .i64 8], .int .i64 0]) ∧ Below u.heap.size u w' := fun u => by
    have := parse_any ⟨#[49, 48, 46, 48, 46, 48, 46, 48, 47, 56]⟩ u (by decide)
    rw [ppV_some al_pref] at this
    exact this
  have hR : ∀ u : World, Calls Tryd.prog 9 #[.agg #[.int .u32 167772160, .int .i64 8]] u fun e w' => e = .returned (.tuple #[.agg #[.int .u32 167772160, .int .u32 184549375], .int .i64 0]) ∧ Below u.heap.size u w' := fun u =>
    range_yes 167772160 8 u (by decide) (by decide) (by decide)
  have hS : ∀ u : World, Tb u → Calls Tryd.prog 11 #[.agg #[.int .u32 1, .int .u32 6]] u (SplitOut 1 6 u) := fun u hu => split_any 1 6 u (by decide) hu.tz
  have hA : ∀ u : World, Tb u → Calls Tryd.prog 18 #[.int .u32 258] u fun e w' => e = .returned (.string ⟨#[48, 46, 48, 46, 49, 46, 50]⟩) ∧ Below u.heap.size u w' := fun u hu => by
    have := addr_any 258 u (by decide) hu
    rw [al_addr] at this
    exact this
  clear hT
  go_enter Tryd.func16, Tryd.ntmps16
  go_wp2_with fail
  refine (hP _).mono ?_
  rintro e w1 ⟨rfl, b1⟩
  go_wp2_with fail
  refine (hR _).mono ?_
  rintro e w2 ⟨rfl, b2⟩
  have hB2 : Below w.heap.size w w2 := (b1.alloc b1.size _).trans (b2.mono (by have := b1.size; simp; omega))
  clear b1 b2
  go_wp2_with fail
  have hB3 : Below w.heap.size w (w2.alloc (.cells #[.int .u32 167772160, .int .u32 184549375] 26)) := hB2.alloc hB2.size _
  refine (hS _ (HT.out.below hB3)).mono ?_
  rintro e w3 ⟨v, rfl, hrow, b3⟩
  rw [al_split] at hrow
  rcases prow hrow with ⟨_, h0⟩ | ⟨g, cap, rfl, hn, _, hg, hcell⟩
  · cases h0
  obtain ⟨c0, c1⟩ := hcell 1 (by decide)
  have q0 : w3.cell? ⟨g, 2, none⟩ = some (.int .u32 2) := c0
  have q1 : w3.cell? ⟨g, 3, none⟩ = some (.int .i64 31) := c1
  have r3 := (At.new w2 #[.int .u32 167772160, .int .u32 184549375] 26).belows b3
  have k0 : w3.cell? ⟨w2.heap.size, 0, none⟩ = some (.int .u32 167772160) := (r3.cell 0).trans rfl
  have k1 : w3.cell? ⟨w2.heap.size, 1, none⟩ = some (.int .u32 184549375) := (r3.cell 1).trans rfl
  have hB4 : Below w.heap.size w w3 := hB3.trans (b3.mono (by simp; have := hB2.size; omega))
  have HT3 : Hid (Tb w3) := HT.out.below hB4
  have hn4 : 4 ≤ cap := hn
  clear hrow hcell c0 c1 r3 b3 hn
  go_wp2_with (go_at_call 18; refine (hA _ HT3.out).mono ?_; rintro e w4 ⟨rfl, b4⟩)
  go_ret
  exact ⟨rfl, hB4.trans (b4.mono hB4.size)⟩
end Go.Proofs.YtojdnfhklmfjmaaDoor
