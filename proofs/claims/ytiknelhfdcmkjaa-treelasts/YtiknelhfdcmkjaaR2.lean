/- Contracts of the document: Get, Floor, Ceil, Put, Drop. -/
import Derived.Test.YtiknelhfdcmkjaaR1
import Derived.Test.YtiknelhfdcmkjaaP1
namespace Go.Proofs.Ytiknelhfdcmkjaa
open Go.RowKit

def floorI (L : List (Int × Int)) (k : Int) : Int := if isK L k then (posL L k : Int) else (posL L k : Int) - 1
def ceilI (L : List (Int × Int)) (k : Int) : Int := if posL L k = L.length then -1 else (posL L k : Int)
theorem isK_some {L : List (Int × Int)} {k : Int} {x : Int × Int} (h : getL L k = some x) : isK L k = true := by unfold isK; rw [h]; rfl
theorem isK_none {L : List (Int × Int)} {k : Int} (h : getL L k = none) : isK L k = false := by unfold isK; rw [h]; rfl
set_option maxRecDepth 100000 in
set_option maxHeartbeats 1000000 in
theorem rget_any {v : Value} (L : List (Int × Int)) (k : Int) (w : World) (hu : Up L) (hz : IsP w v L) : Calls Try.prog 16 #[v, .int .u64 k] w fun e w' => e = .returned (getV (getL L k)) ∧ Below w.heap.size w w' := by
  have hf := rfind_any L k w hu hz
  have HZ := Lib.hid hz
  obtain ⟨A, c, rfl, n1, m1, z1⟩ := hz
  simp only [maxLen] at m1
  have hpl := pos_le (k := k) hu
  clear z1
  rcases pos_is (k := k) hu with ⟨u, hl, e1, e2, _⟩ | ⟨e2, _, _⟩
  · rw [e2]
    rw [isK_some e2] at hf
    have HE := Lib.hid e1
    clear e1 e2
    go_enter Try.func16, Try.ntmps16
    go_wp2_with fail
    refine hf.mono ?_
    rintro e w1 ⟨rfl, b1⟩
    clear hf
    obtain ⟨A', c', e, _, _, z⟩ := HZ.out.belows b1
    obtain ⟨g, o, e', hg, hc⟩ := z (by omega)
    injection e with e1 e2 e3
    subst e1 e' e3
    have c1 := (hc _ hl).2
    rw [HE.out] at c1
    clear hc z
    have i1 : (posL L k : Int) < (L.length : Int) := by omega
    go_wp2
    go_ret2
    exact ⟨rfl, b1⟩
  · rw [e2]
    rw [isK_none e2] at hf
    clear e2
    go_enter Try.func16, Try.ntmps16
    go_wp2_with fail
    refine hf.mono ?_
    rintro e w1 ⟨rfl, b1⟩
    clear hf
    go_wp2
    go_ret2
    exact ⟨rfl, b1⟩
set_option maxRecDepth 100000 in
theorem rfloor_any {v : Value} (L : List (Int × Int)) (k : Int) (w : World) (hu : Up L) (hz : IsP w v L) : Calls Try.prog 20 #[v, .int .u64 k] w fun e w' => e = .returned (.int .i64 (floorI L k)) ∧ Below w.heap.size w w' := by
  have hf := rfind_any L k w hu hz
  obtain ⟨A, c, rfl, n1, m1, _⟩ := hz
  simp only [maxLen] at m1
  have hpl := pos_le (k := k) hu
  unfold floorI
  generalize posL L k = p at hpl hf ⊢
  generalize isK L k = b at hf ⊢
  cases b with
  | true =>
    rw [if_pos rfl]
    go_enter Try.func20, Try.ntmps20
    go_wp2_with fail
    refine hf.mono ?_
    rintro e w1 ⟨rfl, b1⟩
    clear hf
    go_wp2
    go_ret
    exact ⟨rfl, b1⟩
  | false =>
    rw [if_neg (by simp)]
    go_enter Try.func20, Try.ntmps20
    go_wp2_with fail
    refine hf.mono ?_
    rintro e w1 ⟨rfl, b1⟩
    clear hf
    go_wp2
    go_ret
    exact ⟨rfl, b1⟩
set_option maxRecDepth 100000 in
theorem rceil_any {v : Value} (L : List (Int × Int)) (k : Int) (w : World) (hu : Up L) (hz : IsP w v L) : Calls Try.prog 21 #[v, .int .u64 k] w fun e w' => e = .returned (.int .i64 (ceilI L k)) ∧ Below w.heap.size w w' := by
  have hf := rfind_any L k w hu hz
  obtain ⟨A, c, rfl, n1, m1, _⟩ := hz
  simp only [maxLen] at m1
  have hpl := pos_le (k := k) hu
  unfold ceilI
  generalize posL L k = p at hpl hf ⊢
  generalize isK L k = b at hf
  by_cases h : p = L.length
  · rw [if_pos h]
    have d : ((p : Int) == (L.length : Int)) = true := by simp; omega
    have HP := Lib.hid h
    clear h
    go_enter Try.func21, Try.ntmps21
    go_wp2_with fail
    refine hf.mono ?_
    rintro e w1 ⟨rfl, b1⟩
    clear hf
    go_wp2
    go_ret
    exact ⟨rfl, b1⟩
  · rw [if_neg h]
    have d : ((p : Int) == (L.length : Int)) = false := by simp; omega
    have HP := Lib.hid h
    clear h
    go_enter Try.func21, Try.ntmps21
    go_wp2_with fail
    refine hf.mono ?_
    rintro e w1 ⟨rfl, b1⟩
    clear hf
    go_wp2
    go_ret
    exact ⟨rfl, b1⟩
set_option maxRecDepth 100000 in
theorem rput_full {lv : Value} (L : List (Int × Int)) (k v : Int) (w : World) (hu : Up L) (hz : IsP w lv L) (hg : getL L k = none) (hl : L.length = 1024) : Calls Try.prog 42 #[lv, .int .u64 k, .int .i64 v] w fun e w' => e = .returned (.tuple #[.slice none 0 0, .int .i64 41]) ∧ Below w.heap.size w w' := by
  have hf := rfind_any L k w hu hz
  obtain ⟨A, c, rfl, n1, m1, _⟩ := hz
  rw [isK_none hg] at hf
  rw [hl] at hf ⊢
  clear hg hl n1 m1
  generalize posL L k = p at hf
  go_enter Try.func42, Try.ntmps42
  go_wp2_with fail
  refine hf.mono ?_
  rintro e w1 ⟨rfl, b1⟩
  clear hf
  go_wp2
  go_ret2
  exact ⟨rfl, b1⟩
set_option maxRecDepth 100000 in
theorem rdrop_no {lv : Value} (L : List (Int × Int)) (k : Int) (w : World) (hu : Up L) (hz : IsP w lv L) (hg : getL L k = none) : Calls Try.prog 28 #[lv, .int .u64 k] w fun e w' => e = .returned (.tuple #[.slice none 0 0, .int .i64 42]) ∧ Below w.heap.size w w' := by
  have hf := rfind_any L k w hu hz
  obtain ⟨A, c, rfl, n1, m1, _⟩ := hz
  rw [isK_none hg] at hf
  clear hg n1 m1
  generalize posL L k = p at hf
  go_enter Try.func28, Try.ntmps28
  go_wp2_with fail
  refine hf.mono ?_
  rintro e w1 ⟨rfl, b1⟩
  clear hf
  go_wp2
  go_ret2
  exact ⟨rfl, b1⟩
/-- A new slice with these pairs. -/
def ListOut (w : World) (L : List (Int × Int)) (e : Ending) (w' : World) : Prop := ∃ v', e = .returned (.tuple #[v', .int .i64 0]) ∧ IsP w' v' L ∧ Below w.heap.size w w'
set_option maxRecDepth 100000 in
set_option maxHeartbeats 2000000 in
theorem rdrop_ok {lv : Value} (L : List (Int × Int)) (k : Int) (w : World) (hu : Up L) (hz : IsP w lv L) (hlen : L.length ≤ 1024) (hg : getL L k ≠ none) : Calls Try.prog 28 #[lv, .int .u64 k] w (ListOut w (dropL L k)) := by
  have hf := rfind_any L k w hu hz
  obtain ⟨A, c, rfl, n1, m1, z1⟩ := hz
  have hpl := pos_le (k := k) hu
  rcases pos_is (k := k) hu with ⟨u, hl, e1, e2, e3⟩ | ⟨e2, _, _⟩
  · rw [isK_some e2] at hf
    have HD : Hid (L.take (posL L k) ++ L.drop (posL L k + 1) = dropL L k) := Lib.hid (by rw [pos_take hu, e3]; rfl)
    clear hg e1 e2 e3 hu
    generalize posL L k = p at hpl hf hl HD
    obtain ⟨A2, c2, hs2, n2, m2, z2⟩ := slice_from A c L (p + 1) (by omega) n1 m1
    have hs1 := slice_to A c L p (by omega) n1 m1
    have HZ : Hid (∀ W, Below w.heap.size w W → Ps W A (L.take p) ∧ Ps W A2 (L.drop (p + 1))) := Lib.hid fun W hW => ⟨(z1.belows hW).take p, z2 W (z1.belows hW)⟩
    clear z1 z2
    have hs2' : ∀ u : World, (Instr.slice 26 (.slice A L.length c) (some (.int .i64 ((p : Int) + 1))) none none).run Try.prog u = .ok (.slice A2 (L.length - (p + 1)) c2) u := by
      have e : ((p + 1 : Nat) : Int) = (p : Int) + 1 := by omega
      rw [e] at hs2; exact hs2
    clear hs2
    simp only [maxLen] at m1 m2
    go_enter Try.func28, Try.ntmps28
    go_wp2_with fail
    refine hf.mono ?_
    rintro e w1 ⟨rfl, b1⟩
    clear hf
    have ba : Below w.heap.size w (w1.alloc (.cells #[] 47)) := b1.alloc b1.size _
    have hsz := b1.size
    go_wp2_with (first
      | (at_builtin; refine wpList_app_z rfl (.tmp 17) (.tmp 20) rfl w1.heap.size _ [] rfl (Row.empty w1) _ _ _ (L.take p) rfl (by rw [List.length_take]; omega) (HZ.out _ ba).1 (by simp; omega) (by simp) ?_; intro g1 cap1 w2 hrow1 b2; simp only [List.length_nil, Nat.zero_add, List.nil_append] at hrow1; have bb2 : Below w.heap.size w w2 := ba.trans (b2.mono hsz); have HR1 : Hid (Row w2 w1.heap.size (.slice (some ⟨g1, 0, none⟩) p cap1) (L.take p)) := Lib.hid (by rw [List.length_take, Nat.min_eq_left (by omega)] at hrow1; exact hrow1); clear hrow1)
      | (at_builtin; refine wpList_app_z rfl (.tmp 22) (.tmp 26) rfl w1.heap.size _ (L.take p) rfl HR1.out _ _ _ (L.drop (p + 1)) rfl (by rw [List.length_drop]) (HZ.out _ bb2).2 (by simp; omega) (by have := b2.size; simp at this; omega) ?_; intro g2 cap2 w3 hrow2 b3; have bb3 : Below w.heap.size w w3 := bb2.trans (b3.mono hsz)))
    go_ret2
    exact ⟨_, rfl, by rw [← HD.out]; have := hrow2.isP; rw [List.length_take, List.length_drop, Nat.min_eq_left (by omega)] at this; exact this, bb3⟩
  · exact absurd e2 hg
theorem ps_one (w : World) (x : Int × Int) : Ps (w.alloc (.cells #[.int .u64 x.1, .int .i64 x.2] 47)) (some ⟨w.heap.size, 0, none⟩) [x] := fun _ =>
  ⟨w.heap.size, 0, rfl, ⟨_, 47, At.new w #[.int .u64 x.1, .int .i64 x.2] 47, by decide⟩, fun k hk => by
    have hA := At.new w #[.int .u64 x.1, .int .i64 x.2] 47
    obtain rfl : k = 0 := by simpa using hk
    exact ⟨(hA.cell 0).trans rfl, (hA.cell 1).trans rfl⟩⟩
set_option maxRecDepth 100000 in
set_option maxHeartbeats 2000000 in
theorem rput_ok {lv : Value} (L : List (Int × Int)) (k v : Int) (w : World) (hu : Up L) (hz : IsP w lv L) (hlen : L.length ≤ 1024) (hg : getL L k ≠ none ∨ L.length < 1024) : Calls Try.prog 42 #[lv, .int .u64 k, .int .i64 v] w (ListOut w (putL L k v)) := by
  have hf := rfind_any L k w hu hz
  obtain ⟨A, c, rfl, n1, m1, z1⟩ := hz
  have hpl := pos_le (k := k) hu
  rcases pos_is (k := k) hu with ⟨u, hl, e1, e2, e3⟩ | ⟨e2, e3, _⟩
  · rw [isK_some e2] at hf
    have HD : Hid (L.take (posL L k) ++ [(k, v)] ++ L.drop (posL L k + 1) = putL L k v) := Lib.hid (by rw [pos_take hu, e3]; simp [putL])
    clear hg e1 e2 e3 hu
    generalize posL L k = p at hpl hf hl HD
    obtain ⟨A2, c2, hs2, n2, m2, z2⟩ := slice_from A c L (p + 1) (by omega) n1 m1
    have hs1 := slice_to A c L p (by omega) n1 m1
    have HZ : Hid (∀ W, Below w.heap.size w W → Ps W A (L.take p) ∧ Ps W A2 (L.drop (p + 1))) := Lib.hid fun W hW => ⟨(z1.belows hW).take p, z2 W (z1.belows hW)⟩
    clear z1 z2
    have hs2' : ∀ u : World, (Instr.slice 26 (.slice A L.length c) (some (.int .i64 ((p : Int) + 1))) none none).run Try.prog u = .ok (.slice A2 (L.length - (p + 1)) c2) u := by
      have e : ((p + 1 : Nat) : Int) = (p : Int) + 1 := by omega
      rw [e] at hs2; exact hs2
    clear hs2
    simp only [maxLen] at m1 m2
    go_enter Try.func42, Try.ntmps42
    go_wp2_with fail
    refine hf.mono ?_
    rintro e w1 ⟨rfl, b1⟩
    clear hf
    have ba : Below w.heap.size w (w1.alloc (.cells #[] 47)) := b1.alloc b1.size _
    have hsz := b1.size
    go_wp2_with (first
      | (at_builtin; refine wpList_app_z rfl (.tmp 24) (.tmp 27) rfl w1.heap.size _ [] rfl (Row.empty w1) _ _ _ (L.take p) rfl (by rw [List.length_take]; omega) (HZ.out _ ba).1 (by simp; omega) (by simp) ?_; intro g1 cap1 w2 hrow1 b2; simp only [List.length_nil, Nat.zero_add, List.nil_append] at hrow1; have bb2 : Below w.heap.size w w2 := ba.trans (b2.mono hsz); have hsz2 : w1.heap.size ≤ w2.heap.size := (by have := b2.size; simp at this; omega); have HR1 : Hid (Row w2 w1.heap.size (.slice (some ⟨g1, 0, none⟩) p cap1) (L.take p)) := Lib.hid (by rw [List.length_take, Nat.min_eq_left (by omega)] at hrow1; exact hrow1); clear hrow1)
      | (at_builtin; refine wpList_app_z rfl (.tmp 29) (.tmp 33) rfl w1.heap.size _ (L.take p) rfl (HR1.out.alloc _) _ _ _ [(k, v)] rfl rfl (ps_one w2 (k, v)) (by simp; omega) (by simp; omega) ?_; intro g2 cap2 w3 hrow2 b3; have hsz3 : w1.heap.size ≤ w3.heap.size := (by have := b3.size; simp at this; omega); have bb3 : Below w.heap.size w w3 := (bb2.alloc bb2.size _).trans (b3.mono hsz); have HR2 : Hid (Row w3 w1.heap.size (.slice (some ⟨g2, 0, none⟩) (p + 1) cap2) (L.take p ++ [(k, v)])) := Lib.hid (by rw [List.length_take, Nat.min_eq_left (by omega)] at hrow2; exact hrow2); clear hrow2)
      | (at_builtin; refine wpList_app_z rfl (.tmp 38) (.tmp 41) rfl w1.heap.size _ (L.take p ++ [(k, v)]) rfl HR2.out _ _ _ (L.drop (p + 1)) rfl (by rw [List.length_drop]) (HZ.out _ bb3).2 (by simp; omega) hsz3 ?_; intro g3 cap3 w4 hrow3 b4; have bb4 : Below w.heap.size w w4 := bb3.trans (b4.mono hsz)))
    go_ret2
    exact ⟨_, rfl, by rw [← HD.out]; have := hrow3.isP; rw [List.length_append, List.length_take, List.length_drop, Nat.min_eq_left (by omega)] at this; exact this, bb4⟩
  · rw [isK_none e2] at hf
    have HD : Hid (L.take (posL L k) ++ [(k, v)] ++ L.drop (posL L k) = putL L k v) := Lib.hid (by rw [pos_take hu, e3]; simp [putL])
    have hlt : L.length < 1024 := hg.elim (fun h => absurd e2 h) id
    have d1 : decide (1024 ≤ (L.length : Int)) = false := by simp; omega
    clear hg e2 e3 hu
    generalize posL L k = p at hpl hf HD
    obtain ⟨A2, c2, hs2, n2, m2, z2⟩ := slice_from A c L (p) (by omega) n1 m1
    have hs1 := slice_to A c L p (by omega) n1 m1
    have HZ : Hid (∀ W, Below w.heap.size w W → Ps W A (L.take p) ∧ Ps W A2 (L.drop (p))) := Lib.hid fun W hW => ⟨(z1.belows hW).take p, z2 W (z1.belows hW)⟩
    clear z1 z2
    have hs2' : ∀ u : World, (Instr.slice 26 (.slice A L.length c) (some (.int .i64 ((p : Int)))) none none).run Try.prog u = .ok (.slice A2 (L.length - (p)) c2) u := by
      have e : ((p : Nat) : Int) = (p : Int) := by omega
      rw [e] at hs2; exact hs2
    clear hs2
    simp only [maxLen] at m1 m2
    go_enter Try.func42, Try.ntmps42
    go_wp2_with fail
    refine hf.mono ?_
    rintro e w1 ⟨rfl, b1⟩
    clear hf
    have ba : Below w.heap.size w (w1.alloc (.cells #[] 47)) := b1.alloc b1.size _
    have hsz := b1.size
    go_wp2_with (first
      | (at_builtin; refine wpList_app_z rfl (.tmp 24) (.tmp 27) rfl w1.heap.size _ [] rfl (Row.empty w1) _ _ _ (L.take p) rfl (by rw [List.length_take]; omega) (HZ.out _ ba).1 (by simp; omega) (by simp) ?_; intro g1 cap1 w2 hrow1 b2; simp only [List.length_nil, Nat.zero_add, List.nil_append] at hrow1; have bb2 : Below w.heap.size w w2 := ba.trans (b2.mono hsz); have hsz2 : w1.heap.size ≤ w2.heap.size := (by have := b2.size; simp at this; omega); have HR1 : Hid (Row w2 w1.heap.size (.slice (some ⟨g1, 0, none⟩) p cap1) (L.take p)) := Lib.hid (by rw [List.length_take, Nat.min_eq_left (by omega)] at hrow1; exact hrow1); clear hrow1)
      | (at_builtin; refine wpList_app_z rfl (.tmp 29) (.tmp 33) rfl w1.heap.size _ (L.take p) rfl (HR1.out.alloc _) _ _ _ [(k, v)] rfl rfl (ps_one w2 (k, v)) (by simp; omega) (by simp; omega) ?_; intro g2 cap2 w3 hrow2 b3; have hsz3 : w1.heap.size ≤ w3.heap.size := (by have := b3.size; simp at this; omega); have bb3 : Below w.heap.size w w3 := (bb2.alloc bb2.size _).trans (b3.mono hsz); have HR2 : Hid (Row w3 w1.heap.size (.slice (some ⟨g2, 0, none⟩) (p + 1) cap2) (L.take p ++ [(k, v)])) := Lib.hid (by rw [List.length_take, Nat.min_eq_left (by omega)] at hrow2; exact hrow2); clear hrow2)
      | (at_builtin; refine wpList_app_z rfl (.tmp 38) (.tmp 41) rfl w1.heap.size _ (L.take p ++ [(k, v)]) rfl HR2.out _ _ _ (L.drop (p)) rfl (by rw [List.length_drop]) (HZ.out _ bb3).2 (by simp; omega) hsz3 ?_; intro g3 cap3 w4 hrow3 b4; have bb4 : Below w.heap.size w w4 := bb3.trans (b4.mono hsz)))
    go_ret2
    exact ⟨_, rfl, by rw [← HD.out]; have := hrow3.isP; rw [List.length_append, List.length_take, List.length_drop, Nat.min_eq_left (by omega)] at this; exact this, bb4⟩
end Go.Proofs.Ytiknelhfdcmkjaa
