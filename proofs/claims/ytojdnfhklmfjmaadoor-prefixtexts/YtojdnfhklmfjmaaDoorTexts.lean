/- PrefixTexts' walk. -/
import Derived.Test.YtojdnfhklmfjmaaDoorA1
namespace Go.Proofs.YtojdnfhklmfjmaaDoor
open Go.RowKit

set_option maxRecDepth 100000 in
set_option maxHeartbeats 2000000 in
theorem texts_1 (a f t : Nat) (k : Nat) (hk : k ≤ 32) (hm : a % sz k = 0) (w : World) (hT : Tb w) (ha : a < 4294967296) (hf : f < 4294967296) (ht : t < 4294967296) (hft : f ≤ t) :
    Calls Tryd.prog 4 #[.agg #[.int .u32 a, .int .i64 k], .agg #[.int .u32 f, .int .u32 t]] w fun e w' => e = .returned (.bool true) ∧ Below w.heap.size w w' := by
  have hr0 := rightB_mk hk hm
  have HT := Lib.hid hT
  obtain ⟨A, hA⟩ : ∃ A, A = (⟨(addrT a).toArray⟩ : ByteArray) := ⟨_, rfl⟩
  have k18 : ∀ u : World, Tb u → Calls Tryd.prog 18 #[.int .u32 a] u fun e w' => e = .returned (.string A) ∧ Below u.heap.size u w' := fun u hu => by rw [hA]; exact addr_any a u ha hu
  have k19 : ∀ u : World, Calls Tryd.prog 19 #[.int .u32 a] u fun e w' => e = .returned (.string A) ∧ Below u.heap.size u w' := fun u => by
    rw [hA]; exact (raddr_any a u ha).mono fun _ _ h => ⟨h.1, h.2 ▸ Below.refl _ _⟩
  obtain ⟨B, hB⟩ : ∃ B, B = (⟨(prefT a k).toArray⟩ : ByteArray) := ⟨_, rfl⟩
  have k20 : ∀ u : World, Tb u → Calls Tryd.prog 20 #[.agg #[.int .u32 a, .int .i64 k]] u fun e w' => e = .returned (.string B) ∧ Below u.heap.size u w' := fun u hu => by rw [hB]; exact text_any a k u ha hk hm hu
  have k21 : ∀ u : World, Calls Tryd.prog 21 #[.agg #[.int .u32 a, .int .i64 k]] u fun e w' => e = .returned (.string B) ∧ Below u.heap.size u w' := fun u => by rw [hB]; exact rftext_any a k u ha hk
  obtain ⟨C, hC⟩ : ∃ C, C = (⟨(rngT f t).toArray⟩ : ByteArray) := ⟨_, rfl⟩
  have k22 : ∀ u : World, Tb u → Calls Tryd.prog 22 #[.agg #[.int .u32 f, .int .u32 t]] u fun e w' => e = .returned (.string C) ∧ Below u.heap.size u w' := fun u hu => by rw [hC]; exact rtext_any f t u hft ht hu
  have k23 : ∀ u : World, Calls Tryd.prog 23 #[.agg #[.int .u32 f, .int .u32 t]] u fun e w' => e = .returned (.string C) ∧ Below u.heap.size u w' := fun u => by rw [hC]; exact rfrtext_any f t u hf ht
  have dft : decide (t < f) = false := by simpa using hft
  have dft2 : decide ((t : Int) < (f : Int)) = false := by simpa using hft
  clear hT hA hB hk hm hC
  go_enter Tryd.func4, Tryd.ntmps4
  go_wp2_with fail
  have x0 := (At.new w #[.int .u32 a, .int .i64 k] 24).alloc (.cells #[.int .u32 f, .int .u32 t] 26)
  have y0 := At.new1 w (.cells #[.int .u32 a, .int .i64 k] 24) #[.int .u32 f, .int .u32 t] 26
  have hb0 : Below w.heap.size w ((w.alloc (.cells #[.int .u32 a, .int .i64 k] 24)).alloc (.cells #[.int .u32 f, .int .u32 t] 26)) := ((Below.refl _ w).alloc (Nat.le_refl _) _).alloc (by simp) _
  generalize (w.alloc (.cells #[.int .u32 a, .int .i64 k] 24)).alloc (.cells #[.int .u32 f, .int .u32 t] 26) = w1 at x0 y0 hb0 ⊢
  have c0 : ∀ x : Sub w1, x.u.cell? ⟨w.heap.size, 0, none⟩ = some (.int .u32 a) := fun x => ((x0.belows x.h).cell 0).trans rfl
  refine wp_region_cls (by kernel_rfl) (by kernel_rfl) ?_
  repeat (go_big_quiet_step ((first | (go_at_call 18; exact Calls.cls_of (k18 _ ((HT.out.below hb0).below (Sub.h _)))) | (go_at_call 19; exact Calls.cls_of (k19 _)))))
  refine wpQuiet_nil ?_
  rintro w2 ⟨x, hx⟩
  have b2 := x.h
  rw [← hx] at b2
  clear hx x
  have x1 := x0.belows b2
  have y1 := y0.belows b2
  have hb1 : Below w.heap.size w w2 := hb0.trans (b2.mono hb0.size)
  have d0 : w2.cell? ⟨w.heap.size, 0, none⟩ = some (.int .u32 a) := (x1.cell 0).trans rfl
  have d1 : w2.cell? ⟨w.heap.size, 1, none⟩ = some (.int .i64 k) := (x1.cell 1).trans rfl
  clear c0 x0 y0 b2 hb0
  go_wp2_with fail
  refine (rright_any a (k : Nat) _ ha).mono ?_
  rw [hr0]
  rintro e w3 ⟨rfl, b3⟩
  have x2 := x1.belows b3
  have y2 := y1.belows b3
  have hb2 : Below w.heap.size w w3 := hb1.trans (b3.mono hb1.size)
  have c0 : ∀ x : Sub w3, x.u.cell? ⟨w.heap.size, 0, none⟩ = some (.int .u32 a) := fun x => ((x2.belows x.h).cell 0).trans rfl
  have c1 : ∀ x : Sub w3, x.u.cell? ⟨w.heap.size, 1, none⟩ = some (.int .i64 k) := fun x => ((x2.belows x.h).cell 1).trans rfl
  clear d0 d1 x1 y1 b3 hb1
  go_wp2_with fail
  refine wp_region_cls (by kernel_rfl) (by kernel_rfl) ?_
  repeat (go_big_quiet_step ((first | (go_at_call 20; exact Calls.cls_of (k20 _ ((HT.out.below hb2).below (Sub.h _)))) | (go_at_call 21; exact Calls.cls_of (k21 _)))))
  refine wpQuiet_nil ?_
  rintro w4 ⟨x, hx⟩
  have b4 := x.h
  rw [← hx] at b4
  clear hx x
  have y3 := y2.belows b4
  have hb3 : Below w.heap.size w w4 := hb2.trans (b4.mono hb2.size)
  have e0 : ∀ x : Sub w4, x.u.cell? ⟨w.heap.size + 1, 0, none⟩ = some (.int .u32 f) := fun x => ((y3.belows x.h).cell 0).trans rfl
  have e1 : ∀ x : Sub w4, x.u.cell? ⟨w.heap.size + 1, 1, none⟩ = some (.int .u32 t) := fun x => ((y3.belows x.h).cell 1).trans rfl
  clear c0 c1 x2 y2 b4 hb2
  go_wp2_with fail
  refine wp_region_cls (by kernel_rfl) (by kernel_rfl) ?_
  repeat (go_big_quiet_step ((first | (go_at_call 16; exact Calls.cls_of (alive_any _ ((HT.out.below hb3).below (Sub.h _)))) | (go_at_call 22; exact Calls.cls_of (k22 _ ((HT.out.below hb3).below (Sub.h _)))) | (go_at_call 23; exact Calls.cls_of (k23 _)))))
  refine wpQuiet_nil ?_
  rintro w5 ⟨x, hx⟩
  have b5 := x.h
  rw [← hx] at b5
  clear hx x
  go_wp2
  go_ret
  exact ⟨rfl, hb3.trans (b5.mono hb3.size)⟩
set_option maxRecDepth 100000 in
set_option maxHeartbeats 2000000 in
theorem texts_2 (a f t : Nat) (k : Nat) (hk : k ≤ 32) (hm : a % sz k = 0) (w : World) (hT : Tb w) (ha : a < 4294967296) (hf : f < 4294967296) (ht : t < 4294967296) (hft : t < f) :
    Calls Tryd.prog 4 #[.agg #[.int .u32 a, .int .i64 k], .agg #[.int .u32 f, .int .u32 t]] w fun e w' => e = .returned (.bool true) ∧ Below w.heap.size w w' := by
  have hr0 := rightB_mk hk hm
  have HT := Lib.hid hT
  obtain ⟨A, hA⟩ : ∃ A, A = (⟨(addrT a).toArray⟩ : ByteArray) := ⟨_, rfl⟩
  have k18 : ∀ u : World, Tb u → Calls Tryd.prog 18 #[.int .u32 a] u fun e w' => e = .returned (.string A) ∧ Below u.heap.size u w' := fun u hu => by rw [hA]; exact addr_any a u ha hu
  have k19 : ∀ u : World, Calls Tryd.prog 19 #[.int .u32 a] u fun e w' => e = .returned (.string A) ∧ Below u.heap.size u w' := fun u => by
    rw [hA]; exact (raddr_any a u ha).mono fun _ _ h => ⟨h.1, h.2 ▸ Below.refl _ _⟩
  obtain ⟨B, hB⟩ : ∃ B, B = (⟨(prefT a k).toArray⟩ : ByteArray) := ⟨_, rfl⟩
  have k20 : ∀ u : World, Tb u → Calls Tryd.prog 20 #[.agg #[.int .u32 a, .int .i64 k]] u fun e w' => e = .returned (.string B) ∧ Below u.heap.size u w' := fun u hu => by rw [hB]; exact text_any a k u ha hk hm hu
  have k21 : ∀ u : World, Calls Tryd.prog 21 #[.agg #[.int .u32 a, .int .i64 k]] u fun e w' => e = .returned (.string B) ∧ Below u.heap.size u w' := fun u => by rw [hB]; exact rftext_any a k u ha hk
  have dft : decide (t < f) = true := by simpa using hft
  have dft2 : decide ((t : Int) < (f : Int)) = true := by simpa using hft
  clear hT hA hB hk hm
  go_enter Tryd.func4, Tryd.ntmps4
  go_wp2_with fail
  have x0 := (At.new w #[.int .u32 a, .int .i64 k] 24).alloc (.cells #[.int .u32 f, .int .u32 t] 26)
  have y0 := At.new1 w (.cells #[.int .u32 a, .int .i64 k] 24) #[.int .u32 f, .int .u32 t] 26
  have hb0 : Below w.heap.size w ((w.alloc (.cells #[.int .u32 a, .int .i64 k] 24)).alloc (.cells #[.int .u32 f, .int .u32 t] 26)) := ((Below.refl _ w).alloc (Nat.le_refl _) _).alloc (by simp) _
  generalize (w.alloc (.cells #[.int .u32 a, .int .i64 k] 24)).alloc (.cells #[.int .u32 f, .int .u32 t] 26) = w1 at x0 y0 hb0 ⊢
  have c0 : ∀ x : Sub w1, x.u.cell? ⟨w.heap.size, 0, none⟩ = some (.int .u32 a) := fun x => ((x0.belows x.h).cell 0).trans rfl
  refine wp_region_cls (by kernel_rfl) (by kernel_rfl) ?_
  repeat (go_big_quiet_step ((first | (go_at_call 18; exact Calls.cls_of (k18 _ ((HT.out.below hb0).below (Sub.h _)))) | (go_at_call 19; exact Calls.cls_of (k19 _)))))
  refine wpQuiet_nil ?_
  rintro w2 ⟨x, hx⟩
  have b2 := x.h
  rw [← hx] at b2
  clear hx x
  have x1 := x0.belows b2
  have y1 := y0.belows b2
  have hb1 : Below w.heap.size w w2 := hb0.trans (b2.mono hb0.size)
  have d0 : w2.cell? ⟨w.heap.size, 0, none⟩ = some (.int .u32 a) := (x1.cell 0).trans rfl
  have d1 : w2.cell? ⟨w.heap.size, 1, none⟩ = some (.int .i64 k) := (x1.cell 1).trans rfl
  clear c0 x0 y0 b2 hb0
  go_wp2_with fail
  refine (rright_any a (k : Nat) _ ha).mono ?_
  rw [hr0]
  rintro e w3 ⟨rfl, b3⟩
  have x2 := x1.belows b3
  have y2 := y1.belows b3
  have hb2 : Below w.heap.size w w3 := hb1.trans (b3.mono hb1.size)
  have c0 : ∀ x : Sub w3, x.u.cell? ⟨w.heap.size, 0, none⟩ = some (.int .u32 a) := fun x => ((x2.belows x.h).cell 0).trans rfl
  have c1 : ∀ x : Sub w3, x.u.cell? ⟨w.heap.size, 1, none⟩ = some (.int .i64 k) := fun x => ((x2.belows x.h).cell 1).trans rfl
  clear d0 d1 x1 y1 b3 hb1
  go_wp2_with fail
  refine wp_region_cls (by kernel_rfl) (by kernel_rfl) ?_
  repeat (go_big_quiet_step ((first | (go_at_call 20; exact Calls.cls_of (k20 _ ((HT.out.below hb2).below (Sub.h _)))) | (go_at_call 21; exact Calls.cls_of (k21 _)))))
  refine wpQuiet_nil ?_
  rintro w4 ⟨x, hx⟩
  have b4 := x.h
  rw [← hx] at b4
  clear hx x
  have y3 := y2.belows b4
  have hb3 : Below w.heap.size w w4 := hb2.trans (b4.mono hb2.size)
  have e0 : ∀ x : Sub w4, x.u.cell? ⟨w.heap.size + 1, 0, none⟩ = some (.int .u32 f) := fun x => ((y3.belows x.h).cell 0).trans rfl
  have e1 : ∀ x : Sub w4, x.u.cell? ⟨w.heap.size + 1, 1, none⟩ = some (.int .u32 t) := fun x => ((y3.belows x.h).cell 1).trans rfl
  clear c0 c1 x2 y2 b4 hb2
  go_wp2_with fail
  refine wp_region_cls (by kernel_rfl) (by kernel_rfl) ?_
  repeat (go_big_quiet_step ((go_at_call 16; exact Calls.cls_of (alive_any _ ((HT.out.below hb3).below (Sub.h _))))))
  refine wpQuiet_nil ?_
  rintro w5 ⟨x, hx⟩
  have b5 := x.h
  rw [← hx] at b5
  clear hx x
  go_wp2
  go_ret
  exact ⟨rfl, hb3.trans (b5.mono hb3.size)⟩
set_option maxRecDepth 100000 in
set_option maxHeartbeats 2000000 in
theorem texts_3 (a f t : Nat) (n : Int) (hr0 : rightB a n = false) (w : World) (hT : Tb w) (ha : a < 4294967296) (hf : f < 4294967296) (ht : t < 4294967296) (hft : f ≤ t) :
    Calls Tryd.prog 4 #[.agg #[.int .u32 a, .int .i64 n], .agg #[.int .u32 f, .int .u32 t]] w fun e w' => e = .returned (.bool true) ∧ Below w.heap.size w w' := by
  have HT := Lib.hid hT
  obtain ⟨A, hA⟩ : ∃ A, A = (⟨(addrT a).toArray⟩ : ByteArray) := ⟨_, rfl⟩
  have k18 : ∀ u : World, Tb u → Calls Tryd.prog 18 #[.int .u32 a] u fun e w' => e = .returned (.string A) ∧ Below u.heap.size u w' := fun u hu => by rw [hA]; exact addr_any a u ha hu
  have k19 : ∀ u : World, Calls Tryd.prog 19 #[.int .u32 a] u fun e w' => e = .returned (.string A) ∧ Below u.heap.size u w' := fun u => by
    rw [hA]; exact (raddr_any a u ha).mono fun _ _ h => ⟨h.1, h.2 ▸ Below.refl _ _⟩
  obtain ⟨C, hC⟩ : ∃ C, C = (⟨(rngT f t).toArray⟩ : ByteArray) := ⟨_, rfl⟩
  have k22 : ∀ u : World, Tb u → Calls Tryd.prog 22 #[.agg #[.int .u32 f, .int .u32 t]] u fun e w' => e = .returned (.string C) ∧ Below u.heap.size u w' := fun u hu => by rw [hC]; exact rtext_any f t u hft ht hu
  have k23 : ∀ u : World, Calls Tryd.prog 23 #[.agg #[.int .u32 f, .int .u32 t]] u fun e w' => e = .returned (.string C) ∧ Below u.heap.size u w' := fun u => by rw [hC]; exact rfrtext_any f t u hf ht
  have dft : decide (t < f) = false := by simpa using hft
  have dft2 : decide ((t : Int) < (f : Int)) = false := by simpa using hft
  clear hT hA hC
  go_enter Tryd.func4, Tryd.ntmps4
  go_wp2_with fail
  have x0 := (At.new w #[.int .u32 a, .int .i64 n] 24).alloc (.cells #[.int .u32 f, .int .u32 t] 26)
  have y0 := At.new1 w (.cells #[.int .u32 a, .int .i64 n] 24) #[.int .u32 f, .int .u32 t] 26
  have hb0 : Below w.heap.size w ((w.alloc (.cells #[.int .u32 a, .int .i64 n] 24)).alloc (.cells #[.int .u32 f, .int .u32 t] 26)) := ((Below.refl _ w).alloc (Nat.le_refl _) _).alloc (by simp) _
  generalize (w.alloc (.cells #[.int .u32 a, .int .i64 n] 24)).alloc (.cells #[.int .u32 f, .int .u32 t] 26) = w1 at x0 y0 hb0 ⊢
  have c0 : ∀ x : Sub w1, x.u.cell? ⟨w.heap.size, 0, none⟩ = some (.int .u32 a) := fun x => ((x0.belows x.h).cell 0).trans rfl
  refine wp_region_cls (by kernel_rfl) (by kernel_rfl) ?_
  repeat (go_big_quiet_step ((first | (go_at_call 18; exact Calls.cls_of (k18 _ ((HT.out.below hb0).below (Sub.h _)))) | (go_at_call 19; exact Calls.cls_of (k19 _)))))
  refine wpQuiet_nil ?_
  rintro w2 ⟨x, hx⟩
  have b2 := x.h
  rw [← hx] at b2
  clear hx x
  have x1 := x0.belows b2
  have y1 := y0.belows b2
  have hb1 : Below w.heap.size w w2 := hb0.trans (b2.mono hb0.size)
  have d0 : w2.cell? ⟨w.heap.size, 0, none⟩ = some (.int .u32 a) := (x1.cell 0).trans rfl
  have d1 : w2.cell? ⟨w.heap.size, 1, none⟩ = some (.int .i64 n) := (x1.cell 1).trans rfl
  clear c0 x0 y0 b2 hb0
  go_wp2_with fail
  refine (rright_any a n _ ha).mono ?_
  rw [hr0]
  rintro e w3 ⟨rfl, b3⟩
  have x2 := x1.belows b3
  have y2 := y1.belows b3
  have hb2 : Below w.heap.size w w3 := hb1.trans (b3.mono hb1.size)
  have c0 : ∀ x : Sub w3, x.u.cell? ⟨w.heap.size, 0, none⟩ = some (.int .u32 a) := fun x => ((x2.belows x.h).cell 0).trans rfl
  have c1 : ∀ x : Sub w3, x.u.cell? ⟨w.heap.size, 1, none⟩ = some (.int .i64 n) := fun x => ((x2.belows x.h).cell 1).trans rfl
  clear d0 d1 x1 y1 b3 hb1
  go_wp2_with fail
  refine wp_region_cls (by kernel_rfl) (by kernel_rfl) ?_
  repeat (go_big_quiet_step (fail))
  refine wpQuiet_nil ?_
  rintro w4 ⟨x, hx⟩
  have b4 := x.h
  rw [← hx] at b4
  clear hx x
  have y3 := y2.belows b4
  have hb3 : Below w.heap.size w w4 := hb2.trans (b4.mono hb2.size)
  have e0 : ∀ x : Sub w4, x.u.cell? ⟨w.heap.size + 1, 0, none⟩ = some (.int .u32 f) := fun x => ((y3.belows x.h).cell 0).trans rfl
  have e1 : ∀ x : Sub w4, x.u.cell? ⟨w.heap.size + 1, 1, none⟩ = some (.int .u32 t) := fun x => ((y3.belows x.h).cell 1).trans rfl
  clear c0 c1 x2 y2 b4 hb2
  go_wp2_with fail
  refine wp_region_cls (by kernel_rfl) (by kernel_rfl) ?_
  repeat (go_big_quiet_step ((first | (go_at_call 16; exact Calls.cls_of (alive_any _ ((HT.out.below hb3).below (Sub.h _)))) | (go_at_call 22; exact Calls.cls_of (k22 _ ((HT.out.below hb3).below (Sub.h _)))) | (go_at_call 23; exact Calls.cls_of (k23 _)))))
  refine wpQuiet_nil ?_
  rintro w5 ⟨x, hx⟩
  have b5 := x.h
  rw [← hx] at b5
  clear hx x
  go_wp2
  go_ret
  exact ⟨rfl, hb3.trans (b5.mono hb3.size)⟩
set_option maxRecDepth 100000 in
set_option maxHeartbeats 2000000 in
theorem texts_4 (a f t : Nat) (n : Int) (hr0 : rightB a n = false) (w : World) (hT : Tb w) (ha : a < 4294967296) (hf : f < 4294967296) (ht : t < 4294967296) (hft : t < f) :
    Calls Tryd.prog 4 #[.agg #[.int .u32 a, .int .i64 n], .agg #[.int .u32 f, .int .u32 t]] w fun e w' => e = .returned (.bool true) ∧ Below w.heap.size w w' := by
  have HT := Lib.hid hT
  obtain ⟨A, hA⟩ : ∃ A, A = (⟨(addrT a).toArray⟩ : ByteArray) := ⟨_, rfl⟩
  have k18 : ∀ u : World, Tb u → Calls Tryd.prog 18 #[.int .u32 a] u fun e w' => e = .returned (.string A) ∧ Below u.heap.size u w' := fun u hu => by rw [hA]; exact addr_any a u ha hu
  have k19 : ∀ u : World, Calls Tryd.prog 19 #[.int .u32 a] u fun e w' => e = .returned (.string A) ∧ Below u.heap.size u w' := fun u => by
    rw [hA]; exact (raddr_any a u ha).mono fun _ _ h => ⟨h.1, h.2 ▸ Below.refl _ _⟩
  have dft : decide (t < f) = true := by simpa using hft
  have dft2 : decide ((t : Int) < (f : Int)) = true := by simpa using hft
  clear hT hA
  go_enter Tryd.func4, Tryd.ntmps4
  go_wp2_with fail
  have x0 := (At.new w #[.int .u32 a, .int .i64 n] 24).alloc (.cells #[.int .u32 f, .int .u32 t] 26)
  have y0 := At.new1 w (.cells #[.int .u32 a, .int .i64 n] 24) #[.int .u32 f, .int .u32 t] 26
  have hb0 : Below w.heap.size w ((w.alloc (.cells #[.int .u32 a, .int .i64 n] 24)).alloc (.cells #[.int .u32 f, .int .u32 t] 26)) := ((Below.refl _ w).alloc (Nat.le_refl _) _).alloc (by simp) _
  generalize (w.alloc (.cells #[.int .u32 a, .int .i64 n] 24)).alloc (.cells #[.int .u32 f, .int .u32 t] 26) = w1 at x0 y0 hb0 ⊢
  have c0 : ∀ x : Sub w1, x.u.cell? ⟨w.heap.size, 0, none⟩ = some (.int .u32 a) := fun x => ((x0.belows x.h).cell 0).trans rfl
  refine wp_region_cls (by kernel_rfl) (by kernel_rfl) ?_
  repeat (go_big_quiet_step ((first | (go_at_call 18; exact Calls.cls_of (k18 _ ((HT.out.below hb0).below (Sub.h _)))) | (go_at_call 19; exact Calls.cls_of (k19 _)))))
  refine wpQuiet_nil ?_
  rintro w2 ⟨x, hx⟩
  have b2 := x.h
  rw [← hx] at b2
  clear hx x
  have x1 := x0.belows b2
  have y1 := y0.belows b2
  have hb1 : Below w.heap.size w w2 := hb0.trans (b2.mono hb0.size)
  have d0 : w2.cell? ⟨w.heap.size, 0, none⟩ = some (.int .u32 a) := (x1.cell 0).trans rfl
  have d1 : w2.cell? ⟨w.heap.size, 1, none⟩ = some (.int .i64 n) := (x1.cell 1).trans rfl
  clear c0 x0 y0 b2 hb0
  go_wp2_with fail
  refine (rright_any a n _ ha).mono ?_
  rw [hr0]
  rintro e w3 ⟨rfl, b3⟩
  have x2 := x1.belows b3
  have y2 := y1.belows b3
  have hb2 : Below w.heap.size w w3 := hb1.trans (b3.mono hb1.size)
  have c0 : ∀ x : Sub w3, x.u.cell? ⟨w.heap.size, 0, none⟩ = some (.int .u32 a) := fun x => ((x2.belows x.h).cell 0).trans rfl
  have c1 : ∀ x : Sub w3, x.u.cell? ⟨w.heap.size, 1, none⟩ = some (.int .i64 n) := fun x => ((x2.belows x.h).cell 1).trans rfl
  clear d0 d1 x1 y1 b3 hb1
  go_wp2_with fail
  refine wp_region_cls (by kernel_rfl) (by kernel_rfl) ?_
  repeat (go_big_quiet_step (fail))
  refine wpQuiet_nil ?_
  rintro w4 ⟨x, hx⟩
  have b4 := x.h
  rw [← hx] at b4
  clear hx x
  have y3 := y2.belows b4
  have hb3 : Below w.heap.size w w4 := hb2.trans (b4.mono hb2.size)
  have e0 : ∀ x : Sub w4, x.u.cell? ⟨w.heap.size + 1, 0, none⟩ = some (.int .u32 f) := fun x => ((y3.belows x.h).cell 0).trans rfl
  have e1 : ∀ x : Sub w4, x.u.cell? ⟨w.heap.size + 1, 1, none⟩ = some (.int .u32 t) := fun x => ((y3.belows x.h).cell 1).trans rfl
  clear c0 c1 x2 y2 b4 hb2
  go_wp2_with fail
  refine wp_region_cls (by kernel_rfl) (by kernel_rfl) ?_
  repeat (go_big_quiet_step ((go_at_call 16; exact Calls.cls_of (alive_any _ ((HT.out.below hb3).below (Sub.h _))))))
  refine wpQuiet_nil ?_
  rintro w5 ⟨x, hx⟩
  have b5 := x.h
  rw [← hx] at b5
  clear hx x
  go_wp2
  go_ret
  exact ⟨rfl, hb3.trans (b5.mono hb3.size)⟩
theorem texts_walk (a f t : Nat) (n : Int) (w : World) (hT : Tb w) (ha : a < 4294967296) (hf : f < 4294967296) (ht : t < 4294967296) :
    Calls Tryd.prog 4 #[.agg #[.int .u32 a, .int .i64 n], .agg #[.int .u32 f, .int .u32 t]] w fun e w' => e = .returned (.bool true) ∧ Below w.heap.size w w' := by
  by_cases hr : rightB a n = true
  · obtain ⟨k, rfl, hk, hm⟩ := rightB_yes hr
    by_cases h : f ≤ t
    · exact texts_1 a f t k hk hm w hT ha hf ht h
    · exact texts_2 a f t k hk hm w hT ha hf ht (by omega)
  · by_cases h : f ≤ t
    · exact texts_3 a f t n (by simpa using hr) w hT ha hf ht h
    · exact texts_4 a f t n (by simpa using hr) w hT ha hf ht (by omega)
end Go.Proofs.YtojdnfhklmfjmaaDoor
