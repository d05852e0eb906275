/- PrefixTells' walk. -/
import Derived.Test.YtojdnfhklmfjmaaDoorA1
namespace Go.Proofs.YtojdnfhklmfjmaaDoor
open Go.RowKit

theorem ownsRow_below {w w' : World} {base : Nat} {e : TypeId} {size : Nat} {v : Value} {k : Nat} {xs : List Value} (h : w.ownsRow base e size v k xs) (hb : Below w.heap.size w w') : w'.ownsRow base e size v k xs := by
  refine ⟨h.1, ?_⟩
  rcases h.2 with h0 | ⟨g, cap, cur, hv, hg0, hg, r⟩
  · exact .inl h0
  · exact .inr ⟨g, cap, cur, hv, hg0, by rw [hb.block g (Array.getElem?_eq_some_iff.1 hg).1]; exact hg, r⟩
theorem row_form {w : World} {base : Nat} {e : TypeId} {size : Nat} {v : Value} {k : Nat} {xs : List Value} (h : w.ownsRow base e size v k xs) : ∃ A c, v = .slice A k c := by
  rcases h.2 with ⟨rfl, h0⟩ | ⟨g, cap, cur, rfl, _⟩
  · exact ⟨none, 0, by rw [h0]⟩
  · exact ⟨_, cap, rfl⟩

/-- What the law's calls answer. -/
structure TellsIn (a f t : Nat) (n : Int) (x0 x1 : Nat) (er : Int) (b : Bool) (er2 : Int) (L : List (Nat × Nat)) (is : Bool) (qa ql : Nat) : Prop where
  r1 : ∀ u : World, Calls Tryd.prog 9 #[.agg #[.int .u32 a, .int .i64 n]] u fun e w' => e = .returned (.tuple #[.agg #[.int .u32 x0, .int .u32 x1], .int .i64 er]) ∧ Below u.heap.size u w'
  r2 : ∀ u : World, Calls Tryd.prog 10 #[.agg #[.int .u32 a, .int .i64 n]] u fun e w' => e = .returned (.tuple #[.agg #[.int .u32 x0, .int .u32 x1], .int .i64 er]) ∧ Below u.heap.size u w'
  s1 : ∀ u : World, Tb u → Calls Tryd.prog 11 #[.agg #[.int .u32 f, .int .u32 t]] u fun e w' => ∃ v, e = .returned (.tuple #[v, .int .i64 er2]) ∧ w'.ownsRow u.heap.size 24 2 v L.length (pcells L) ∧ Below u.heap.size u w'
  s2 : ∀ u : World, Calls Tryd.prog 12 #[.agg #[.int .u32 f, .int .u32 t]] u fun e w' => ∃ v, e = .returned (.tuple #[v, .int .i64 er2]) ∧ w'.ownsRow u.heap.size 24 2 v L.length (pcells L) ∧ Below u.heap.size u w'
  o : ∀ u : World, Calls Tryd.prog 13 #[.agg #[.int .u32 f, .int .u32 t]] u fun e w' => e = .returned (.tuple #[.agg #[.int .u32 qa, .int .i64 ql], .bool is]) ∧ Below u.heap.size u w'
  k1 : ∀ u : World, Calls Tryd.prog 14 #[.agg #[.int .u32 a, .int .i64 n]] u fun e w' => e = .returned (.bool b) ∧ Below u.heap.size u w'
  k2 : ∀ u : World, Calls Tryd.prog 15 #[.agg #[.int .u32 a, .int .i64 n]] u fun e w' => e = .returned (.bool b) ∧ Below u.heap.size u w'
  len : L.length ≤ 62

set_option maxRecDepth 100000 in
set_option maxHeartbeats 4000000 in
theorem tells_yes (a f t : Nat) (n : Int) (x0 x1 : Nat) (er : Int) (b : Bool) (er2 : Int) (qa ql : Nat) (w : World) (hT : Tb w) (I : TellsIn a f t n x0 x1 er b er2 [(qa, ql)] true qa ql) :
    Calls Tryd.prog 3 #[.agg #[.int .u32 a, .int .i64 n], .agg #[.int .u32 f, .int .u32 t]] w fun e w' => e = .returned (.bool true) ∧ Below w.heap.size w w' := by
  have HT := Lib.hid hT
  obtain ⟨r1, r2, s1, s2, o, k1, k2, len⟩ := I
  clear hT
  go_enter Tryd.func3, Tryd.ntmps3
  go_wp2_with fail
  refine (r1 _).mono ?_
  rintro e w1 ⟨rfl, b1⟩
  have P1 := ((At.new w #[.int .u32 a, .int .i64 n] 24).alloc (.cells #[.int .u32 f, .int .u32 t] 26)).belows b1
  have R1 := (At.new1 w (.cells #[.int .u32 a, .int .i64 n] 24) #[.int .u32 f, .int .u32 t] 26).belows b1
  have B1 : Below w.heap.size w w1 := (((Below.refl _ w).alloc (Nat.le_refl _) _).alloc (by simp) _).trans (b1.mono (by simp; omega))
  have z1 : w.heap.size < w1.heap.size := P1.lt
  have z1' : w.heap.size + 1 < w1.heap.size := R1.lt
  have c0 : w1.cell? ⟨w.heap.size, 0, none⟩ = some (.int .u32 a) := (P1.cell 0).trans rfl
  have c1 : w1.cell? ⟨w.heap.size, 1, none⟩ = some (.int .i64 n) := (P1.cell 1).trans rfl
  clear b1
  go_wp2_with fail
  refine (r2 _).mono ?_
  rintro e w2 ⟨rfl, b2⟩
  have P2 := (P1.alloc (.cells #[.int .u32 x0, .int .u32 x1] 26)).belows b2
  have R2 := (R1.alloc (.cells #[.int .u32 x0, .int .u32 x1] 26)).belows b2
  have X2 := (At.new w1 #[.int .u32 x0, .int .u32 x1] 26).belows b2
  have B2 : Below w.heap.size w w2 := (B1.alloc B1.size _).trans (b2.mono (by simp; omega))
  have z2 : w.heap.size + 1 < w2.heap.size := R2.lt
  have c2 : w2.cell? ⟨w.heap.size + 1, 0, none⟩ = some (.int .u32 f) := (R2.cell 0).trans rfl
  have c3 : w2.cell? ⟨w.heap.size + 1, 1, none⟩ = some (.int .u32 t) := (R2.cell 1).trans rfl
  clear b2 P1 R1 c0 c1
  go_wp2_with fail
  refine (s1 _ (HT.out.below (B2.alloc B2.size _))).mono ?_
  rintro e w3 ⟨v1, rfl, row1, b3⟩
  have P3 := (P2.alloc (.cells #[.int .u32 x0, .int .u32 x1] 26)).belows b3
  have R3 := (R2.alloc (.cells #[.int .u32 x0, .int .u32 x1] 26)).belows b3
  have X3 := (X2.alloc (.cells #[.int .u32 x0, .int .u32 x1] 26)).belows b3
  have Y3 := (At.new w2 #[.int .u32 x0, .int .u32 x1] 26).belows b3
  have B3 : Below w.heap.size w w3 := (B2.alloc B2.size _).trans (b3.mono (by simp; omega))
  have c4 : w3.cell? ⟨w.heap.size + 1, 0, none⟩ = some (.int .u32 f) := (R3.cell 0).trans rfl
  have c5 : w3.cell? ⟨w.heap.size + 1, 1, none⟩ = some (.int .u32 t) := (R3.cell 1).trans rfl
  clear b3 P2 R2 X2 c2 c3
  obtain ⟨A1, cap1, rfl⟩ := row_form row1
  go_wp2_with fail
  refine (s2 _).mono ?_
  rintro e w4 ⟨v2, rfl, row2, b4⟩
  have row1' := ownsRow_below row1 b4
  have P4 := P3.belows b4
  have R4 := R3.belows b4
  have X4 := X3.belows b4
  have Y4 := Y3.belows b4
  have B4 : Below w.heap.size w w4 := B3.trans (b4.mono B3.size)
  have c6 : w4.cell? ⟨w.heap.size + 1, 0, none⟩ = some (.int .u32 f) := (R4.cell 0).trans rfl
  have c7 : w4.cell? ⟨w.heap.size + 1, 1, none⟩ = some (.int .u32 t) := (R4.cell 1).trans rfl
  clear b4 P3 R3 X3 Y3 c4 c5 row1
  rcases prow row2 with ⟨_, h0⟩ | ⟨g, cap, rfl, hn, _, hg, hcell⟩
  · cases h0
  clear hcell hn
  go_wp2_with fail
  refine (o _).mono ?_
  rintro e w5 ⟨rfl, b5⟩
  have row1 := (ownsRow_below row1' b5).alloc (.cells #[.int .u32 qa, .int .i64 ql] 24)
  have row2' := (ownsRow_below row2 b5).alloc (.cells #[.int .u32 qa, .int .i64 ql] 24)
  have P5 := (P4.belows b5).alloc (.cells #[.int .u32 qa, .int .i64 ql] 24)
  have X5 := (X4.belows b5).alloc (.cells #[.int .u32 qa, .int .i64 ql] 24)
  have Y5 := (Y4.belows b5).alloc (.cells #[.int .u32 qa, .int .i64 ql] 24)
  have Q5 := At.new w5 #[.int .u32 qa, .int .i64 ql] 24
  have B5' : Below w.heap.size w w5 := B4.trans (b5.mono B4.size)
  have B5 := B5'.alloc B5'.size (.cells #[.int .u32 qa, .int .i64 ql] 24)
  clear b5 P4 R4 X4 Y4 c6 c7 row1' row2 B5'
  go_wp2_with fail
  generalize w5.alloc (.cells #[.int .u32 qa, .int .i64 ql] 24) = w6 at row1 row2' P5 X5 Y5 Q5 B5 ⊢
  have p0 : ∀ x : Sub w6, x.u.cell? ⟨w.heap.size, 0, none⟩ = some (.int .u32 a) := fun x => ((P5.belows x.h).cell 0).trans rfl
  have p1 : ∀ x : Sub w6, x.u.cell? ⟨w.heap.size, 1, none⟩ = some (.int .i64 n) := fun x => ((P5.belows x.h).cell 1).trans rfl
  have q0 : ∀ x : Sub w6, x.u.cell? ⟨w5.heap.size, 0, none⟩ = some (.int .u32 qa) := fun x => ((Q5.belows x.h).cell 0).trans rfl
  have q1 : ∀ x : Sub w6, x.u.cell? ⟨w5.heap.size, 1, none⟩ = some (.int .i64 ql) := fun x => ((Q5.belows x.h).cell 1).trans rfl
  have e0 : ∀ x : Sub w6, x.u.cell? ⟨w1.heap.size, 0, none⟩ = some (.int .u32 x0) := fun x => ((X5.belows x.h).cell 0).trans rfl
  have e1 : ∀ x : Sub w6, x.u.cell? ⟨w1.heap.size, 1, none⟩ = some (.int .u32 x1) := fun x => ((X5.belows x.h).cell 1).trans rfl
  have e2 : ∀ x : Sub w6, x.u.cell? ⟨w2.heap.size, 0, none⟩ = some (.int .u32 x0) := fun x => ((Y5.belows x.h).cell 0).trans rfl
  have e3 : ∀ x : Sub w6, x.u.cell? ⟨w2.heap.size, 1, none⟩ = some (.int .u32 x1) := fun x => ((Y5.belows x.h).cell 1).trans rfl
  have m0 : ∀ x : Sub w6, x.u.cell? ⟨g, 0, none⟩ = some (.int .u32 qa) := fun x => by
    rcases prow (ownsRow_below row2' x.h) with ⟨h, _⟩ | ⟨g', cap', h, _, _, _, hc⟩
    · cases h
    · cases h; exact (hc 0 (by simp)).1
  have m1 : ∀ x : Sub w6, x.u.cell? ⟨g, 1, none⟩ = some (.int .i64 ql) := fun x => by
    rcases prow (ownsRow_below row2' x.h) with ⟨h, _⟩ | ⟨g', cap', h, _, _, _, hc⟩
    · cases h
    · cases h; exact (hc 0 (by simp)).2
  have HQ := Lib.hid Q5
  have HR1 := Lib.hid row1
  have HR2 := Lib.hid row2'
  clear P5 X5 Y5 Q5 row1 row2'
  refine wp_region_cls (by kernel_rfl) (by kernel_rfl) ?_
  repeat (go_big_quiet_step ((first | (go_at_call 14; exact Calls.cls_of (k1 _)) | (go_at_call 15; exact Calls.cls_of (k2 _)))))
  refine wpQuiet_nil ?_
  rintro w7 ⟨x, hx⟩
  have b7 := x.h
  rw [← hx] at b7
  clear hx x
  have B7 : Below w.heap.size w w7 := B5.trans (b7.mono B5.size)
  have HR1' := Lib.hid (ownsRow_below HR1.out b7)
  have HR2' := Lib.hid (ownsRow_below HR2.out b7)
  clear p0 p1 q0 q1 e0 e1 e2 e3 m0 m1
  go_wp2_with fail
  refine (alive_any _ (HT.out.below B7)).mono ?_
  rintro e w8 ⟨rfl, b8⟩
  have B8 : Below w.heap.size w w8 := B7.trans (b8.mono B7.size)
  go_wp2_with fail
  refine (same_any [(qa, ql)] _ len (ownsRow_below HR1'.out b8) (ownsRow_below HR2'.out b8)).mono ?_
  rintro e w9 ⟨rfl, b9⟩
  have Q9 := ((HQ.out.belows b7).belows b8).belows b9
  have g0 : w9.cell? ⟨w5.heap.size, 0, none⟩ = some (.int .u32 qa) := (Q9.cell 0).trans rfl
  have g1 : w9.cell? ⟨w5.heap.size, 1, none⟩ = some (.int .i64 ql) := (Q9.cell 1).trans rfl
  clear Q9
  go_wp2
  go_ret
  exact ⟨rfl, B8.trans (b9.mono B8.size)⟩
set_option maxRecDepth 100000 in
set_option maxHeartbeats 4000000 in
theorem tells_no (a f t : Nat) (n : Int) (x0 x1 : Nat) (er : Int) (b : Bool) (er2 : Int) (L : List (Nat × Nat)) (w : World) (hT : Tb w) (hL : L.length ≠ 1) (I : TellsIn a f t n x0 x1 er b er2 L false 0 0) :
    Calls Tryd.prog 3 #[.agg #[.int .u32 a, .int .i64 n], .agg #[.int .u32 f, .int .u32 t]] w fun e w' => e = .returned (.bool true) ∧ Below w.heap.size w w' := by
  have HT := Lib.hid hT
  obtain ⟨r1, r2, s1, s2, o, k1, k2, len⟩ := I
  have l1 : ((L.length : Int) == 1) = false := by rw [beq_eq_false_iff_ne]; omega
  have l2 : (L.length == 1) = false := by rw [beq_eq_false_iff_ne]; exact hL
  clear hT
  go_enter Tryd.func3, Tryd.ntmps3
  go_wp2_with fail
  refine (r1 _).mono ?_
  rintro e w1 ⟨rfl, b1⟩
  have P1 := ((At.new w #[.int .u32 a, .int .i64 n] 24).alloc (.cells #[.int .u32 f, .int .u32 t] 26)).belows b1
  have R1 := (At.new1 w (.cells #[.int .u32 a, .int .i64 n] 24) #[.int .u32 f, .int .u32 t] 26).belows b1
  have B1 : Below w.heap.size w w1 := (((Below.refl _ w).alloc (Nat.le_refl _) _).alloc (by simp) _).trans (b1.mono (by simp; omega))
  have z1 : w.heap.size < w1.heap.size := P1.lt
  have z1' : w.heap.size + 1 < w1.heap.size := R1.lt
  have c0 : w1.cell? ⟨w.heap.size, 0, none⟩ = some (.int .u32 a) := (P1.cell 0).trans rfl
  have c1 : w1.cell? ⟨w.heap.size, 1, none⟩ = some (.int .i64 n) := (P1.cell 1).trans rfl
  clear b1
  go_wp2_with fail
  refine (r2 _).mono ?_
  rintro e w2 ⟨rfl, b2⟩
  have P2 := (P1.alloc (.cells #[.int .u32 x0, .int .u32 x1] 26)).belows b2
  have R2 := (R1.alloc (.cells #[.int .u32 x0, .int .u32 x1] 26)).belows b2
  have X2 := (At.new w1 #[.int .u32 x0, .int .u32 x1] 26).belows b2
  have B2 : Below w.heap.size w w2 := (B1.alloc B1.size _).trans (b2.mono (by simp; omega))
  have z2 : w.heap.size + 1 < w2.heap.size := R2.lt
  have c2 : w2.cell? ⟨w.heap.size + 1, 0, none⟩ = some (.int .u32 f) := (R2.cell 0).trans rfl
  have c3 : w2.cell? ⟨w.heap.size + 1, 1, none⟩ = some (.int .u32 t) := (R2.cell 1).trans rfl
  clear b2 P1 R1 c0 c1
  go_wp2_with fail
  refine (s1 _ (HT.out.below (B2.alloc B2.size _))).mono ?_
  rintro e w3 ⟨v1, rfl, row1, b3⟩
  have P3 := (P2.alloc (.cells #[.int .u32 x0, .int .u32 x1] 26)).belows b3
  have R3 := (R2.alloc (.cells #[.int .u32 x0, .int .u32 x1] 26)).belows b3
  have X3 := (X2.alloc (.cells #[.int .u32 x0, .int .u32 x1] 26)).belows b3
  have Y3 := (At.new w2 #[.int .u32 x0, .int .u32 x1] 26).belows b3
  have B3 : Below w.heap.size w w3 := (B2.alloc B2.size _).trans (b3.mono (by simp; omega))
  have c4 : w3.cell? ⟨w.heap.size + 1, 0, none⟩ = some (.int .u32 f) := (R3.cell 0).trans rfl
  have c5 : w3.cell? ⟨w.heap.size + 1, 1, none⟩ = some (.int .u32 t) := (R3.cell 1).trans rfl
  clear b3 P2 R2 X2 c2 c3
  obtain ⟨A1, cap1, rfl⟩ := row_form row1
  go_wp2_with fail
  refine (s2 _).mono ?_
  rintro e w4 ⟨v2, rfl, row2, b4⟩
  have row1' := ownsRow_below row1 b4
  have P4 := P3.belows b4
  have R4 := R3.belows b4
  have X4 := X3.belows b4
  have Y4 := Y3.belows b4
  have B4 : Below w.heap.size w w4 := B3.trans (b4.mono B3.size)
  have c6 : w4.cell? ⟨w.heap.size + 1, 0, none⟩ = some (.int .u32 f) := (R4.cell 0).trans rfl
  have c7 : w4.cell? ⟨w.heap.size + 1, 1, none⟩ = some (.int .u32 t) := (R4.cell 1).trans rfl
  clear b4 P3 R3 X3 Y3 c4 c5 row1
  obtain ⟨A2, cap2, rfl⟩ := row_form row2
  go_wp2_with fail
  refine (o _).mono ?_
  rintro e w5 ⟨rfl, b5⟩
  have row1 := (ownsRow_below row1' b5).alloc (.cells #[.int .u32 0, .int .i64 0] 24)
  have row2' := (ownsRow_below row2 b5).alloc (.cells #[.int .u32 0, .int .i64 0] 24)
  have P5 := (P4.belows b5).alloc (.cells #[.int .u32 0, .int .i64 0] 24)
  have X5 := (X4.belows b5).alloc (.cells #[.int .u32 0, .int .i64 0] 24)
  have Y5 := (Y4.belows b5).alloc (.cells #[.int .u32 0, .int .i64 0] 24)
  have Q5 := At.new w5 #[.int .u32 0, .int .i64 0] 24
  have B5' : Below w.heap.size w w5 := B4.trans (b5.mono B4.size)
  have B5 := B5'.alloc B5'.size (.cells #[.int .u32 0, .int .i64 0] 24)
  clear b5 P4 R4 X4 Y4 c6 c7 row1' row2 B5'
  go_wp2_with fail
  generalize w5.alloc (.cells #[.int .u32 0, .int .i64 0] 24) = w6 at row1 row2' P5 X5 Y5 Q5 B5 ⊢
  have p0 : ∀ x : Sub w6, x.u.cell? ⟨w.heap.size, 0, none⟩ = some (.int .u32 a) := fun x => ((P5.belows x.h).cell 0).trans rfl
  have p1 : ∀ x : Sub w6, x.u.cell? ⟨w.heap.size, 1, none⟩ = some (.int .i64 n) := fun x => ((P5.belows x.h).cell 1).trans rfl
  have q0 : ∀ x : Sub w6, x.u.cell? ⟨w5.heap.size, 0, none⟩ = some (.int .u32 0) := fun x => ((Q5.belows x.h).cell 0).trans rfl
  have q1 : ∀ x : Sub w6, x.u.cell? ⟨w5.heap.size, 1, none⟩ = some (.int .i64 0) := fun x => ((Q5.belows x.h).cell 1).trans rfl
  have e0 : ∀ x : Sub w6, x.u.cell? ⟨w1.heap.size, 0, none⟩ = some (.int .u32 x0) := fun x => ((X5.belows x.h).cell 0).trans rfl
  have e1 : ∀ x : Sub w6, x.u.cell? ⟨w1.heap.size, 1, none⟩ = some (.int .u32 x1) := fun x => ((X5.belows x.h).cell 1).trans rfl
  have e2 : ∀ x : Sub w6, x.u.cell? ⟨w2.heap.size, 0, none⟩ = some (.int .u32 x0) := fun x => ((Y5.belows x.h).cell 0).trans rfl
  have e3 : ∀ x : Sub w6, x.u.cell? ⟨w2.heap.size, 1, none⟩ = some (.int .u32 x1) := fun x => ((Y5.belows x.h).cell 1).trans rfl
  have HQ := Lib.hid Q5
  have HR1 := Lib.hid row1
  have HR2 := Lib.hid row2'
  clear P5 X5 Y5 Q5 row1 row2'
  refine wp_region_cls (by kernel_rfl) (by kernel_rfl) ?_
  repeat (go_big_quiet_step ((first | (go_at_call 14; exact Calls.cls_of (k1 _)) | (go_at_call 15; exact Calls.cls_of (k2 _)))))
  refine wpQuiet_nil ?_
  rintro w7 ⟨x, hx⟩
  have b7 := x.h
  rw [← hx] at b7
  clear hx x
  have B7 : Below w.heap.size w w7 := B5.trans (b7.mono B5.size)
  have HR1' := Lib.hid (ownsRow_below HR1.out b7)
  have HR2' := Lib.hid (ownsRow_below HR2.out b7)
  clear p0 p1 q0 q1 e0 e1 e2 e3
  go_wp2_with fail
  refine (alive_any _ (HT.out.below B7)).mono ?_
  rintro e w8 ⟨rfl, b8⟩
  have B8 : Below w.heap.size w w8 := B7.trans (b8.mono B7.size)
  go_wp2_with fail
  refine (same_any L _ len (ownsRow_below HR1'.out b8) (ownsRow_below HR2'.out b8)).mono ?_
  rintro e w9 ⟨rfl, b9⟩
  have Q9 := ((HQ.out.belows b7).belows b8).belows b9
  have g0 : w9.cell? ⟨w5.heap.size, 0, none⟩ = some (.int .u32 0) := (Q9.cell 0).trans rfl
  have g1 : w9.cell? ⟨w5.heap.size, 1, none⟩ = some (.int .i64 0) := (Q9.cell 1).trans rfl
  clear Q9
  go_wp2
  go_ret
  exact ⟨rfl, B8.trans (b9.mono B8.size)⟩
theorem tells_walk (a f t : Nat) (n : Int) (w : World) (hT : Tb w) (ha : a < 4294967296) (hf : f < 4294967296) (ht : t < 4294967296) :
    Calls Tryd.prog 3 #[.agg #[.int .u32 a, .int .i64 n], .agg #[.int .u32 f, .int .u32 t]] w fun e w' => e = .returned (.bool true) ∧ Below w.heap.size w w' := by
  obtain ⟨x0, x1, er, hv⟩ : ∃ (x0 x1 : Nat) (er : Int), rngV a n = .tuple #[.agg #[.int .u32 x0, .int .u32 x1], .int .i64 er] := by
    unfold rngV
    by_cases h : rightB a n = true
    · rw [if_pos h]; exact ⟨_, _, _, rfl⟩
    · rw [if_neg h]; exact ⟨0, 0, 21, rfl⟩
  have r1 := fun u => range_any a n u ha
  have r2 := fun u => rrange_any a n u ha
  rw [hv] at r1 r2
  have k1 := fun u => right_any a n u ha
  have k2 := fun u => rright_any a n u ha
  have hl : (splitL f t).length ≤ 62 := by
    by_cases h : f ≤ t
    · exact len_62 h ht
    · rw [splitL_nil (by omega)]; simp
  have s1 : ∀ u : World, Tb u → Calls Tryd.prog 11 #[.agg #[.int .u32 f, .int .u32 t]] u (SplitOut f t u) := fun u hu => split_any f t u ht hu.tz
  have s2 : ∀ u : World, Calls Tryd.prog 12 #[.agg #[.int .u32 f, .int .u32 t]] u (SplitOut f t u) := fun u => rsplit_any f t u ht
  by_cases h1 : ∃ m, isP f t m
  · obtain ⟨m, hm⟩ := h1
    have e := isP_one hm
    refine tells_yes a f t n x0 x1 er (rightB a n) (if f ≤ t then 0 else 21) f m w hT ⟨r1, r2, fun u hu => ?_, fun u => ?_, fun u => of_yes f t m u hf ht hm, k1, k2, by simp⟩
    · rw [← e]; exact s1 u hu
    · rw [← e]; exact s2 u
  · have hno : ∀ m, ¬ isP f t m := fun m hm => h1 ⟨m, hm⟩
    refine tells_no a f t n x0 x1 er (rightB a n) (if f ≤ t then 0 else 21) (splitL f t) w hT (fun e => ?_) ⟨r1, r2, s1, s2, fun u => of_no f t u hf ht hno, k1, k2, hl⟩
    by_cases h : f ≤ t
    · exact hno _ (one_isP h e)
    · rw [splitL_nil (by omega)] at e; simp at e
end Go.Proofs.YtojdnfhklmfjmaaDoor
