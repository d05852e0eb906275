/- Ports as keys of maps. -/
import Derived.Test.YtmndgbpfophniaaK1
import Derived.Test.YtmndgbpfophniaaW0
namespace Go.Proofs.Ytmndgbpfophniaa
open Go.RowKit Go.Maps

theorem laidOutK : laidOutB Try.prog = true := by kernel_rfl
theorem rowPt : decide (34 < Try.prog.types.size) = true := by kernel_rfl
theorem row3 : decide (3 < Try.prog.types.size) = true := by kernel_rfl
theorem keyedPt : Keyed Try.prog 34 := Keyed.of_law (deep_law_laid laidOutK (m := 3) (by decide) (of_decide_eq_true rowPt) (by kernel_rfl) (by kernel_rfl))
theorem keyPt (p : Pt) (h : isPt p) : ∃ kl, keyOf Try.prog 34 (.agg (ptA p)) = some kl := by
  have hk : Try.prog.keyType 34 = true := by kernel_rfl
  have hc : Try.prog.cellsOf 34 = 2 := by kernel_rfl
  have hc3 : Try.prog.cellsOf 3 = 1 := by kernel_rfl
  have h0 : 3 < Try.prog.types.size := of_decide_eq_true row3
  obtain ⟨m, hm⟩ : ∃ m, Try.prog.types.size = m + 1 := ⟨Try.prog.types.size - 1, by omega⟩
  obtain ⟨⟨h1, h2⟩, ⟨h3, h4⟩⟩ := h
  have w1 : (Lit.int .i64 p.d).wf = true := by simp [Lit.wf, IntKind.min, IntKind.max, IntKind.signed, IntKind.bits]; omega
  have w2 : (Lit.int .i64 p.p).wf = true := by simp [Lit.wf, IntKind.min, IntKind.max, IntKind.signed, IntKind.bits]; omega
  unfold keyOf
  rw [Try.underlying34]
  simp only [hk, Value.formed, Try.underlying34, hc, hm]
  simp [Program.keyLits, Try.underlying34, hc, hc3, Try.underlying3, Value.cells, ptA, w1, w2]
theorem pt_inj (p q : Pt) (h : Value.agg (ptA p) = Value.agg (ptA q)) : p = q := by
  obtain ⟨a, b⟩ := p
  obtain ⟨c, d⟩ := q
  injection h with h
  simp only [ptA, Array.mk.injEq, List.cons.injEq, Value.int.injEq] at h
  obtain ⟨⟨_, rfl⟩, ⟨_, rfl⟩, _⟩ := h
  rfl
end Go.Proofs.Ytmndgbpfophniaa
