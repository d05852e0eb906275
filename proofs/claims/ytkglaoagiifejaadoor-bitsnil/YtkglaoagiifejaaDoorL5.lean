/- BitsNil, walked. -/
import Derived.Test.YtkglaoagiifejaaDoorA2
namespace Go.Proofs.YtkglaoagiifejaaDoor
open Go.RowKit Go.Shelf

theorem next_nil {i x : Int} {b : Bool} (h : NextIs (fun _ => false) i x b) : b = false := by
  rcases h with ⟨_, k, _, hp, _⟩ | ⟨h, _⟩
  · cases hp
  · exact h
set_option maxRecDepth 100000 in
set_option maxHeartbeats 1000000 in
theorem nil_walk (i : Int) (w : World) (hi : -9223372036854775808 ≤ i) (hi2 : i ≤ 9223372036854775807) (hT : Tb w) : Calls Tryd.prog 7 #[.int .i64 i] w fun e w' => e = .returned (.bool true) ∧ Below w.heap.size w w' := by
  have HT : Hid (∀ u, Below w.heap.size w u → Tb u) := Lib.hid fun u hu => hT.belows hu
  have hx := next_any 0 _ i w hi hi2 (isSet_nil w) hT
  clear hT
  go_enter Tryd.func7, Tryd.ntmps7
  go_wp2_with fail
  refine hx.mono ?_
  rintro e w1 ⟨x, b, rfl, hnx, b1⟩
  obtain rfl := next_nil hnx
  have hw := with_ok 0 _ 0 0 w1 (isSet_nil w1) (by decide) (by decide) (by decide)
  clear hnx hx
  go_wp2_with fail
  refine hw.mono ?_
  rintro e w2 ⟨v2, rfl, hf2, b2⟩
  have s2 := hf2.isSet (addW_sup (isSet_nil w1).1 (by decide)) (by decide)
  have bb2 := b1.trans (b2.mono b1.size)
  have hw2 := with_not 0 _ 0 1 w2 (isSet_nil w2) (by decide)
  have HS2 : Hid (∀ u, Below w2.heap.size w2 u → IsSet u v2 0 (addW (fun _ => false) 0 0)) := Lib.hid fun u hu => s2.belows hu
  obtain ⟨A2, rfl⟩ := s2.ptr
  clear hw hf2 s2
  go_wp2_with fail
  refine hw2.mono ?_
  rintro e w3 ⟨rfl, b3⟩
  have bb3 := bb2.trans (b3.mono bb2.size)
  have hor := or_any 0 0 _ _ w3 (isSet_nil w3) (HS2.out _ b3)
  go_wp2_with fail
  refine hor.mono ?_
  rintro e w4 (⟨_, v4, rfl, hf4, b4⟩ | ⟨hne, _⟩)
  · have s4 := hf4.isSet (fun j _ => by simp [addW, blw]) (by decide)
    have bb4 := bb3.trans (b4.mono bb3.size)
    have HS4 : Hid (∀ u, Below w4.heap.size w4 u → IsSet u v4 0 _) := Lib.hid fun u hu => s4.belows hu
    obtain ⟨A4, rfl⟩ := s4.ptr
    have hal := alive_any w4 (HT.out _ bb4)
    clear hf4 s4 hor hw2
    go_wp2_with fail
    refine hal.mono ?_
    rintro e w5 ⟨rfl, b5⟩
    have bb5 := bb4.trans (b5.mono bb4.size)
    have z5 := size_any 0 _ w5 (isSet_nil w5)
    have h5 := has_any 0 _ i w5 hi hi2 (isSet_nil w5) (HT.out _ bb5)
    have hh : hasP (fun _ => false) i = false := by simp [hasP]
    rw [hh] at h5
    go_wp2_with fail
    refine z5.mono ?_
    rintro e w6 ⟨rfl, rfl⟩
    go_wp2_with fail
    refine h5.mono ?_
    rintro e w6 ⟨rfl, b6⟩
    have bb6 := bb5.trans (b6.mono bb5.size)
    have l6 := len_any 0 _ w6 (isSet_nil w6)
    rw [show cnt (fun _ => false) 0 = 0 from rfl] at l6
    have ls6 := list_any 0 _ w6 (isSet_nil w6) (HT.out _ bb6)
    rw [show nats (lst (fun _ => false) 0) = [] from rfl] at ls6
    go_wp2_with fail
    refine l6.mono ?_
    rintro e w7 ⟨rfl, rfl⟩
    go_wp2_with fail
    refine ls6.mono ?_
    rintro e w7 ⟨v7, rfl, hv7, b7⟩
    obtain ⟨A7, c7, rfl, _, _, _⟩ := hv7
    have bb7 := bb6.trans (b7.mono bb6.size)
    have b47 := b5.trans ((b6.trans (b7.mono b6.size)).mono b5.size)
    have z7 := size_any 0 _ w7 (HS4.out _ b47)
    have hn7 := not_any 0 _ w7 (isSet_nil w7)
    go_wp2_with fail
    refine z7.mono ?_
    rintro e w8 ⟨rfl, rfl⟩
    go_wp2_with fail
    refine hn7.mono ?_
    rintro e w8 ⟨v8, rfl, hf8, b8⟩
    have z8 := size_any 0 _ w8 (hf8.isSet (notP_sup _ _) (by decide))
    obtain ⟨B8, C8, rfl, _⟩ := hf8
    go_wp2_with fail
    refine z8.mono ?_
    rintro e w9 ⟨rfl, rfl⟩
    go_wp2
    go_ret
    exact ⟨rfl, bb7.trans (b8.mono bb7.size)⟩
  · exact absurd rfl hne
end Go.Proofs.YtkglaoagiifejaaDoor
