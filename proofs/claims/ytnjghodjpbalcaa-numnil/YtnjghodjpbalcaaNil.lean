/- NumNil's walk. -/
import Derived.Test.YtnjghodjpbalcaaW6
namespace Go.Proofs.Ytnjghodjpbalcaa
open Go.RowKit

set_option maxHeartbeats 400000 in
theorem nil_walk (n : Int) (w : World) : Calls Try.prog 8 #[.int .u64 n] w fun e w' => e = .returned (.bool true) ∧ Below w.heap.size w w' := by
  go_enter Try.func8, Try.ntmps8
  go_wp2_with (first
    | (go_at_call 13; refine (alive_any _).mono ?_; rintro e w1 ⟨rfl, hb⟩)
    | go_in)
  go_ret
  exact ⟨rfl, hb⟩
end Go.Proofs.Ytnjghodjpbalcaa
