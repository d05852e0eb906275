/- PrefixParses' walk. -/
import Derived.Test.YtojdnfhklmfjmaaDoorA1
import Derived.Test.YtojdnfhklmfjmaaDoorR4
namespace Go.Proofs.YtojdnfhklmfjmaaDoor
open Go.RowKit

set_option maxRecDepth 100000 in
set_option maxHeartbeats 1000000 in
theorem parses_long (s : ByteArray) (w : World) (hT : Tb w) (hz : 60 < s.size) : Calls Tryd.prog 5 #[.string s] w fun e w' => e = .returned (.bool true) ∧ Below w.heap.size w w' := by
  have d : decide ((60 : Int) < (s.size : Int)) = true := by apply decide_eq_true; omega
  go_enter Tryd.func5, Tryd.ntmps5
  go_wp2_with (go_at_call 16; refine (alive_any _ hT).mono ?_; rintro e w2 ⟨rfl, b2⟩)
  go_ret
  exact ⟨rfl, b2⟩
set_option maxRecDepth 100000 in
set_option maxHeartbeats 4000000 in
theorem parses_core (s : ByteArray) (w : World) (hT : Tb w) (hz : s.size ≤ 60) (a : Nat) (ea : Int) (pa : Nat) (pn : Nat) (ep : Int) (rf rt : Nat) (er : Int)
    (k24 : ∀ u : World, Calls Tryd.prog 24 #[.string s] u fun e w' => e = .returned (.tuple #[.int .u32 a, .int .i64 ea]) ∧ Below u.heap.size u w')
    (k25 : ∀ u : World, Calls Tryd.prog 25 #[.string s] u fun e w' => e = .returned (.tuple #[.int .u32 a, .int .i64 ea]) ∧ Below u.heap.size u w')
    (k26 : ∀ u : World, Calls Tryd.prog 26 #[.string s] u fun e w' => e = .returned (.tuple #[.agg #[.int .u32 pa, .int .i64 pn], .int .i64 ep]) ∧ Below u.heap.size u w')
    (k27 : ∀ u : World, Calls Tryd.prog 27 #[.string s] u fun e w' => e = .returned (.tuple #[.agg #[.int .u32 pa, .int .i64 pn], .int .i64 ep]) ∧ Below u.heap.size u w')
    (k28 : ∀ u : World, Calls Tryd.prog 28 #[.string s] u fun e w' => e = .returned (.tuple #[.agg #[.int .u32 rf, .int .u32 rt], .int .i64 er]) ∧ Below u.heap.size u w')
    (k29 : ∀ u : World, Calls Tryd.prog 29 #[.string s] u fun e w' => e = .returned (.tuple #[.agg #[.int .u32 rf, .int .u32 rt], .int .i64 er]) ∧ Below u.heap.size u w') :
    Calls Tryd.prog 5 #[.string s] w fun e w' => e = .returned (.bool true) ∧ Below w.heap.size w w' := by
  have HT := Lib.hid hT
  have d : decide ((60 : Int) < (s.size : Int)) = false := by apply decide_eq_false; omega
  have d' : ¬ (60 < s.size) := by omega
  clear hT
  go_enter Tryd.func5, Tryd.ntmps5
  go_wp2_with fail
  refine (k24 _).mono ?_
  rintro e w1 ⟨rfl, b1⟩
  go_wp2_with fail
  refine (k25 _).mono ?_
  rintro e w2 ⟨rfl, b2⟩
  have B2 : Below w.heap.size w w2 := b1.trans (b2.mono b1.size)
  clear b1 b2
  go_wp2_with fail
  refine (k26 _).mono ?_
  rintro e w3 ⟨rfl, b3⟩
  have B3 : Below w.heap.size w w3 := B2.trans (b3.mono B2.size)
  clear b3
  go_wp2_with fail
  refine (k27 _).mono ?_
  rintro e w4 ⟨rfl, b4⟩
  have P4 := (At.new w3 #[.int .u32 pa, .int .i64 pn] 24).belows b4
  have B4 : Below w.heap.size w w4 := (B3.alloc B3.size _).trans (b4.mono (by simp; have := B3.size; omega))
  clear b4
  go_wp2_with fail
  refine (k28 _).mono ?_
  rintro e w5 ⟨rfl, b5⟩
  have P5 := (P4.alloc (.cells #[.int .u32 pa, .int .i64 pn] 24)).belows b5
  have Q5 := (At.new w4 #[.int .u32 pa, .int .i64 pn] 24).belows b5
  have B5 : Below w.heap.size w w5 := (B4.alloc B4.size _).trans (b5.mono (by simp; have := B4.size; omega))
  clear b5 P4
  go_wp2_with fail
  refine (k29 _).mono ?_
  rintro e w6 ⟨rfl, b6⟩
  have P6 := ((P5.alloc (.cells #[.int .u32 rf, .int .u32 rt] 26)).belows b6).alloc (.cells #[.int .u32 rf, .int .u32 rt] 26)
  have Q6 := ((Q5.alloc (.cells #[.int .u32 rf, .int .u32 rt] 26)).belows b6).alloc (.cells #[.int .u32 rf, .int .u32 rt] 26)
  have R6 := ((At.new w5 #[.int .u32 rf, .int .u32 rt] 26).belows b6).alloc (.cells #[.int .u32 rf, .int .u32 rt] 26)
  have S6 := At.new w6 #[.int .u32 rf, .int .u32 rt] 26
  have B6' : Below w.heap.size w w6 := (B5.alloc B5.size _).trans (b6.mono (by simp; have := B5.size; omega))
  have B6 := B6'.alloc B6'.size (.cells #[.int .u32 rf, .int .u32 rt] 26)
  clear b6 P5 Q5
  go_wp2_with fail
  refine (alive_any _ (HT.out.below B6)).mono ?_
  rintro e w7 ⟨rfl, b7⟩
  have P := P6.belows b7
  have Q := Q6.belows b7
  have R := R6.belows b7
  have S := S6.belows b7
  have p0 : w7.cell? ⟨w3.heap.size, 0, none⟩ = some (.int .u32 pa) := (P.cell 0).trans rfl
  have p1 : w7.cell? ⟨w3.heap.size, 1, none⟩ = some (.int .i64 pn) := (P.cell 1).trans rfl
  have q0 : w7.cell? ⟨w4.heap.size, 0, none⟩ = some (.int .u32 pa) := (Q.cell 0).trans rfl
  have q1 : w7.cell? ⟨w4.heap.size, 1, none⟩ = some (.int .i64 pn) := (Q.cell 1).trans rfl
  have r0 : w7.cell? ⟨w5.heap.size, 0, none⟩ = some (.int .u32 rf) := (R.cell 0).trans rfl
  have r1 : w7.cell? ⟨w5.heap.size, 1, none⟩ = some (.int .u32 rt) := (R.cell 1).trans rfl
  have s0 : w7.cell? ⟨w6.heap.size, 0, none⟩ = some (.int .u32 rf) := (S.cell 0).trans rfl
  have s1 : w7.cell? ⟨w6.heap.size, 1, none⟩ = some (.int .u32 rt) := (S.cell 1).trans rfl
  clear P Q R S P6 Q6 R6 S6
  go_wp2
  go_ret
  exact ⟨rfl, B6.trans (b7.mono B6.size)⟩
theorem parses_walk (s : ByteArray) (w : World) (hT : Tb w) : Calls Tryd.prog 5 #[.string s] w fun e w' => e = .returned (.bool true) ∧ Below w.heap.size w w' := by
  by_cases hz : s.size ≤ 60
  · obtain ⟨a, ea, h1⟩ : ∃ (a : Nat) (ea : Int), paV s.data.toList = .tuple #[.int .u32 a, .int .i64 ea] := by
      unfold paV; split
      · exact ⟨_, _, rfl⟩
      · exact ⟨0, 21, rfl⟩
    obtain ⟨pa, pn, ep, h2⟩ : ∃ (pa pn : Nat) (ep : Int), ppV s.data.toList = .tuple #[.agg #[.int .u32 pa, .int .i64 pn], .int .i64 ep] := by
      unfold ppV; split
      · exact ⟨_, _, _, rfl⟩
      · exact ⟨0, 0, 21, rfl⟩
    obtain ⟨rf, rt, er, h3⟩ : ∃ (rf rt : Nat) (er : Int), prV s.data.toList = .tuple #[.agg #[.int .u32 rf, .int .u32 rt], .int .i64 er] := by
      unfold prV; split
      · exact ⟨_, _, _, rfl⟩
      · exact ⟨0, 0, 21, rfl⟩
    have k24 := fun u => parseAddr_any s u (by omega)
    have k25 := fun u => rpa_any s u hz
    have k26 := fun u => parse_any s u (by omega)
    have k27 := fun u => rparse_any s u hz
    have k28 := fun u => parseRange_any s u (by omega)
    have k29 := fun u => rparseRange_any s u hz
    rw [h1] at k24 k25
    rw [h2] at k26 k27
    rw [h3] at k28 k29
    exact parses_core s w hT hz a ea pa pn ep rf rt er k24 k25 k26 k27 k28 k29
  · exact parses_long s w hT (by omega)
end Go.Proofs.YtojdnfhklmfjmaaDoor
