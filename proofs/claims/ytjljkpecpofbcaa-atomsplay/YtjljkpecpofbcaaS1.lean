/- Words: a slice that reads as acts; a new held table. -/
import Derived.Test.YtjljkpecpofbcaaA1
import Derived.Test.YtjljkpecpofbcaaCls
namespace Go.Proofs.Ytjljkpecpofbcaa
open Go.RowKit Go.Shelf

/-- An act: whether it drops, and the range. -/
abbrev ActT := Bool × Nat × Nat
/-- A value that is a slice of these acts. -/
def Ss (w : World) (A : Option Addr) (S : List ActT) : Prop := 0 < S.length → ∃ g o, A = some ⟨g, o, none⟩ ∧ g < w.heap.size ∧
  ∀ k (hk : k < S.length), (w.cell? ⟨g, o + k * 3, none⟩ = some (.bool S[k].1) ∧ w.cell? ⟨g, o + k * 3 + 1, none⟩ = some (.int .u32 S[k].2.1) ∧ w.cell? ⟨g, o + k * 3 + 2, none⟩ = some (.int .u32 S[k].2.2)) ∧ S[k].2.1 < 4294967296 ∧ S[k].2.2 < 4294967296
def IsS (w : World) (v : Value) (S : List ActT) : Prop := ∃ A c, v = .slice A S.length c ∧ S.length ≤ c ∧ c ≤ maxLen ∧ Ss w A S
theorem Ss.belows {w w' : World} {A : Option Addr} {S : List ActT} (h : Ss w A S) (hb : Below w.heap.size w w') : Ss w' A S := fun hn => by
  obtain ⟨g, o, e, hg, hc⟩ := h hn
  refine ⟨g, o, e, Nat.lt_of_lt_of_le hg hb.size, fun k hk => ?_⟩
  obtain ⟨⟨h0, h1, h2⟩, h3⟩ := hc k hk
  exact ⟨⟨(hb.cell (p := ⟨g, _, none⟩) hg).trans h0, (hb.cell (p := ⟨g, _, none⟩) hg).trans h1, (hb.cell (p := ⟨g, _, none⟩) hg).trans h2⟩, h3⟩
theorem below_grown {w W W' : World} {Bh : Nat} (hb : Below w.heap.size w W) (hg : W.grownBy W' (some Bh)) (hB : w.heap.size ≤ Bh) : Below w.heap.size w W' := hb.grown hg hb.size fun k e => by cases e; exact hB
/-- A new held table. -/
theorem hd_new {W : World} {B : Nat} (h : IsTab W (.pointer (some ⟨B, 0, none⟩)) []) : Hd (W.alloc (.cells #[.pointer (some ⟨B, 0, none⟩), .slice none 0 0] 28)) W.heap.size [] := by
  have b : Below W.heap.size W (W.alloc (.cells #[.pointer (some ⟨B, 0, none⟩), .slice none 0 0] 28)) := (Below.refl _ W).alloc (Nat.le_refl _) _
  exact ⟨B, none, 0, 0, At.new W _ _, h.belows b, ⟨none, 0, rfl, Nat.le_refl _, by simp [maxLen], Zs.nil _ _⟩, Ty.nil _⟩
theorem IsZ.len {w : World} {A : Option Addr} {n c : Nat} {L : List (Nat × Nat)} (h : IsZ w (.slice A n c) L) : n = L.length := by
  obtain ⟨A', c', e, _⟩ := h
  injection e
end Go.Proofs.Ytjljkpecpofbcaa
