/- Pieces of slices. Over any program. -/
import Derived.Test.YtmndgbpfophniaaVec
namespace Go.Proofs.Ytmndgbpfophniaa
open Go.RowKit Go.Shelf

section
variable {α : Type} {f : α → Array Value} {P : Program} {T e : TypeId}
theorem run_from {w : World} (ht : P.underlying T = some (.slice e)) (hz : (sizeOf e).run P w = .ok 1 w) (g o n c k : Nat) (hk : k < c) (hn : k ≤ n) :
    (Instr.slice T (.slice (some ⟨g, o, none⟩) n c) (some (.int .i64 (k : Int))) none none).run P w = .ok (.slice (some ⟨g, o + k, none⟩) (n - k) (c - k)) w := by
  have h1 : ¬ c = k := by omega
  have h2 : (k : Int) ≤ (n : Int) := by omega
  have ha : (⟨g, o, none⟩ : Addr).add k = ⟨g, o + k, none⟩ := addr_off g o k
  simp [Instr.slice, Instr.sliceBounds, run_underlying ht, go_sem, hz, h1, h2]
theorem run_to {w : World} (ht : P.underlying T = some (.slice e)) (hz : (sizeOf e).run P w = .ok 1 w) (A : Option Addr) (n c k : Nat) (hk : k ≤ c) (hA : ∀ a, A = some a → ∃ g o, a = ⟨g, o, none⟩) :
    (Instr.slice T (.slice A n c) none (some (.int .i64 (k : Int))) none).run P w = .ok (.slice A k c) w := by
  have h2 : (k : Int) ≤ (c : Int) := by omega
  have hm : (if c = 0 then A else A.map (·.add 0)) = A := by
    split
    · rfl
    · cases A with
      | none => rfl
      | some a =>
        obtain ⟨g, o, rfl⟩ := hA a rfl
        simp [addr_off]
  simp [Instr.slice, Instr.sliceBounds, run_underlying ht, go_sem, hz, h2]
theorem Fs.drop {w : World} {g o k : Nat} {L : List α} (h : Fs 1 f w (some ⟨g, o, none⟩) L) : Fs 1 f w (some ⟨g, o + k, none⟩) (L.drop k) := fun hn => by
  simp at hn
  obtain ⟨g', o', e, hg, hc⟩ := h (by omega)
  cases e
  refine ⟨g, o + k, rfl, hg, fun i hi j hj => ?_⟩
  simp at hi
  have := hc (k + i) (by omega) j hj
  rw [List.getElem_drop]
  rw [← this]
  congr 2
  omega
theorem Fs.take {w : World} {A : Option Addr} {k : Nat} {L : List α} (h : Fs 1 f w A L) : Fs 1 f w A (L.take k) := fun hn => by
  simp at hn
  obtain ⟨g, o, e, hg, hc⟩ := h (by omega)
  refine ⟨g, o, e, hg, fun i hi j hj => ?_⟩
  simp at hi
  rw [List.getElem_take]
  exact hc i (by omega) j hj
end
end Go.Proofs.Ytmndgbpfophniaa
