/- Words: what the walks ask of the program's own variables: the library's table of tens, its two errors, its longest length, and the kinds' words. -/
import Derived.Test.YtmpgfmedldnhjaaGreatDoorC0
namespace Go.Proofs.YtmpgfmedldnhjaaGreatDoor
open Go.RowKit

theorem var_below {P : Program} {w w' : World} {name : String} {cs : Array Value} (h : w.var? P name = some cs) (hb : Below w.heap.size w w') : w'.var? P name = some cs := by
  unfold World.var? at *
  cases hg : P.globalNamed name with
  | none => simp [hg] at h
  | some g =>
    simp only [hg, Option.bind_some] at h ⊢
    have hl : g < w.heap.size := by
      apply Nat.lt_of_not_le; intro hle
      rw [Array.getElem?_eq_none hle] at h; cases h
    rw [hb.block g hl]; exact h
/-- The kinds' words. -/
def wordsL : List (List UInt8) := [[102, 111, 114, 119, 97, 114, 100], [100, 114, 111, 112], [112, 101, 114, 109, 105, 116], [100, 101, 110, 121]]
def wordsV : Array Value := #[.string ⟨#[102, 111, 114, 119, 97, 114, 100]⟩, .string ⟨#[100, 114, 111, 112]⟩, .string ⟨#[112, 101, 114, 109, 105, 116]⟩, .string ⟨#[100, 101, 110, 121]⟩]
/-- The variables are as the program's text lays them. -/
structure Tb (w : World) : Prop where
  p10 : Lib.TabIs Tryz.prog w "internal/strconv.uint64pow10" .u64 Lib.pow10Tab
  ml : ∃ m, w.cell? ⟨2, 0, none⟩ = some (.int .i64 m)
  es : ∃ tp p, w.var? Tryz.prog "strconv.ErrSyntax" = some #[.iface tp p]
  er : ∃ tp p, w.var? Tryz.prog "strconv.ErrRange" = some #[.iface tp p]
  wd : w.var? Tryz.prog "waystone/rule.words" = some wordsV
theorem Tb.below {w w' : World} (h : Tb w) (hb : Below w.heap.size w w') : Tb w' := by
  obtain ⟨p, ⟨m, hm⟩, ⟨a, b, hs⟩, ⟨c, d, hr⟩, hw⟩ := h
  refine ⟨var_below p hb, ⟨m, ?_⟩, ⟨a, b, var_below hs hb⟩, ⟨c, d, var_below hr hb⟩, var_below hw hb⟩
  rw [hb.cell (p := ⟨2, 0, none⟩) ?_]; exact hm
  apply Nat.lt_of_not_le; intro hle
  have : w.cell? ⟨2, 0, none⟩ = none := by unfold World.cell?; rw [Array.getElem?_eq_none hle]
  rw [this] at hm; cases hm
theorem Tb.alloc {w : World} (h : Tb w) (o : Obj) : Tb (w.alloc o) := h.below ((Below.refl _ _).alloc (Nat.le_refl _) _)
theorem Tb.drewN {w : World} (h : Tb w) (k : Nat) : Tb (w.drewN k) := h.below (bdrewN (Below.refl _ _) k)
theorem gwords : Tryz.prog.globalNamed "waystone/rule.words" = some 0 := by kernel_rfl
theorem Tb.word {w : World} (h : Tb w) (j : Nat) : w.cell? ⟨0, j, none⟩ = wordsV[j]? := World.var?_cell gwords h.wd j

/-- strconv.Itoa of a number that is not below 0. -/
theorem itoa_any (x : Int) (w : World) (h0 : 0 ≤ x) (h1 : x ≤ 9223372036854775807) (hT : Tb w) : Calls Tryz.prog 27 #[.int .i64 x] w fun e w' => e = .returned (.string ⟨(Lib.decDigits x.toNat).toArray⟩) ∧ Below w.heap.size w w' := by
  refine (itoa_lib x (by omega) (by omega) w hT.p10).mono ?_
  rintro e w' ⟨rfl, k, os, rfl⟩
  obtain ⟨n, rfl⟩ := Int.eq_ofNat_of_zero_le h0
  refine ⟨?_, Lib.below_grow _ w (Nat.le_refl _) k os⟩
  rw [Lib.itoa_nonneg]; rfl
end Go.Proofs.YtmpgfmedldnhjaaGreatDoor
