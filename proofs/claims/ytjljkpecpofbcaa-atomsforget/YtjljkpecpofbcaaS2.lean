/- An act makes at most one range more. -/
import Derived.Test.YtjljkpecpofbcaaS1
import Derived.Deep.CutBlock
namespace Go.Proofs.Ytjljkpecpofbcaa
open Go.RowKit Go.Shelf
theorem actL_len (L : List (Nat × Nat)) (d : Bool) (r : Nat × Nat) : (actL L d r).length ≤ L.length + 1 := by
  unfold actL
  split
  · have := List.length_erase_le (a := r) (l := L); omega
  · split <;> simp
end Go.Proofs.Ytjljkpecpofbcaa
