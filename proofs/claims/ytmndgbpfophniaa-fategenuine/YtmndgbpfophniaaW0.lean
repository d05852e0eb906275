/- Words: topologies whose numbers are of 64 bits. -/
import Derived.Test.YtmndgbpfophniaaT1
namespace Go.Proofs.Ytmndgbpfophniaa
open Go.RowKit Go.Shelf

/-- Numbers of 64 bits. -/
def isPt (p : Pt) : Prop := isI p.d ∧ isI p.p
structure TW (ps : List Int) (ls : List Lk) : Prop where
  nums : ∀ x ∈ ps, isI x
  links : ∀ l ∈ ls, isPt l.a ∧ isPt l.b
theorem TW.pt {ps : List Int} {ls : List Lk} (h : TW ps ls) {q : Pt} (hq : q ∈ ends ls) : isPt q := by
  obtain ⟨l, hl, rfl | rfl⟩ := mem_ends.1 hq
  · exact (h.links l hl).1
  · exact (h.links l hl).2
end Go.Proofs.Ytmndgbpfophniaa
