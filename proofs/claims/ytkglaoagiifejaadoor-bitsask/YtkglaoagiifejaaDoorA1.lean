/- Contracts: same; alive. -/
import Derived.Test.YtkglaoagiifejaaDoorR2
namespace Go.Proofs.YtkglaoagiifejaaDoor
open Go.RowKit Go.Shelf

set_option maxRecDepth 100000 in
set_option maxHeartbeats 1000000 in
/-- same, of a set and the document's. -/
theorem same_any {v m : Value} (n : Nat) (p : Nat → Bool) (w : World) (h : IsSet w v n p) (hm : IsV w m (bl p n)) (hT : Tb w) : Calls Tryd.prog 13 #[v, m] w fun e w' => e = .returned (.bool true) ∧ Below w.heap.size w w' := by
  have hn := h.2.1
  have hr := rlist_any n p w hn hm
  have HS : Hid (∀ u, Below w.heap.size w u → IsSet u v n p) := Lib.hid fun u hu => h.belows hu
  have HT : Hid (∀ u, Below w.heap.size w u → Tb u) := Lib.hid fun u hu => hT.belows hu
  have hcl := lst_len p n
  obtain ⟨A, rfl⟩ := h.ptr
  obtain ⟨A', c, rfl, h1, h2, h3⟩ := hm
  clear h hT h3
  rw [bl_len] at *
  go_enter Tryd.func13, Tryd.ntmps13
  go_wp2_with fail
  refine hr.mono ?_
  rintro e w1 ⟨v1, rfl, hv1, b1⟩
  have HV : Hid (∀ u, Below w1.heap.size w1 u → IsV u v1 (nats (lst p n))) := Lib.hid fun u hu => hv1.belows hu
  obtain ⟨A1, c1, rfl, _, _, _⟩ := hv1
  rw [nats_len, hcl] at *
  have z1 := size_any n p w1 (HS.out _ b1)
  have l1 := len_any n p w1 (HS.out _ b1)
  have ll := list_any n p w1 (HS.out _ b1) (HT.out _ b1)
  generalize cnt p n = N at *
  go_wp2_with (first | (go_at_call 25; refine z1.mono ?_; rintro e w2 ⟨rfl, rfl⟩) | (go_at_call 24; refine l1.mono ?_; rintro e w2 ⟨rfl, rfl⟩) | (go_at_call 23; refine ll.mono ?_; rintro e w3 ⟨v3, rfl, hv3, b3⟩; have hi := rints_any (lst p n) w3 hv3 (HV.out _ b3)) | (go_at_call 22; refine hi.mono ?_; rintro e w4 ⟨rfl, b4⟩))
  go_ret
  refine ⟨rfl, ?_⟩
  have b13 := b1.trans (b3.mono b1.size)
  exact b13.trans (b4.mono b13.size)
end Go.Proofs.YtkglaoagiifejaaDoor
