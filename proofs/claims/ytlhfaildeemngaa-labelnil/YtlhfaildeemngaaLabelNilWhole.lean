/- LabelNil: for any rule the law returns true, and the arguments read as before. No condition. -/
import Derived.Test.YtlhfaildeemngaaZ2
import Derived.Test.YtlhfaildeemngaaZ4
/- LabelNil, over the program's calls. -/
namespace Go.Proofs.Ytlhfaildeemngaa
open Go.RowKit Go.Shelf

set_option maxRecDepth 100000 in
set_option maxHeartbeats 4000000 in
theorem nil10_walk (O : Own10) (r : Ru) (w : World) (hr : r.wf) : Calls Try.prog 5 #[.agg (ruA r)] w fun e w' => e = .returned (.bool true) ∧ Below w.heap.size w w' := by
  have HR := Lib.hid hr
  have HI : Hid (∀ u, Calls Try.prog 14 #[.pointer none, .agg (ruA r)] u fun e w' => e = .returned (.tuple #[.pointer none, .int .i64 1]) ∧ Below u.heap.size u w') := Lib.hid fun u => O.insertNil r u hr
  have hid : isI r.id := hr.1
  have b0 : Below w.heap.size w (w.alloc (.cells (ruA r) 50)) := (Below.refl _ w).alloc (Nat.le_refl _) _
  have D0 := At.new w (ruA r) 50
  obtain ⟨id, dv, pr, kd, f, t, pt⟩ := r
  rw [ruA_mk] at b0 D0 HI ⊢
  dsimp only at hid
  have HID := Lib.hid hid
  clear hr HR hid
  go_enter Try.func5, Try.ntmps5
  go_upto_region 2 with (fail)
  obtain ⟨w0, hw0⟩ : ∃ w0, w0 = w.alloc (.cells #[.int .i64 id, .int .i64 dv, .int .i64 pr, .int .i64 kd, .int .u32 f, .int .u32 t, .int .i64 pt] 50) := ⟨_, rfl⟩
  rw [← hw0] at b0 D0 ⊢
  clear hw0
  have x0 := (D0.cell 0).trans rfl; have x1 := (D0.cell 1).trans rfl; have x2 := (D0.cell 2).trans rfl; have x3 := (D0.cell 3).trans rfl; have x4 := (D0.cell 4).trans rfl; have x5 := (D0.cell 5).trans rfl; have x6 := (D0.cell 6).trans rfl
  have k1 := HI.out w0
  go_upto_region 3 with (go_at_call 14; refine k1.mono ?_; rintro e w1 ⟨rfl, b1⟩)
  have bw1 := b0.trans (b1.mono b0.size)
  have D1 := D0.belows b1
  clear x0 x1 x2 x3 x4 x5 x6 b1 k1 D0
  have x0 := (D1.cell 0).trans rfl
  have k2 := O.deleteNil id w1 HID.out
  go_upto_region 4 with (go_at_call 15; refine k2.mono ?_; rintro e w2 ⟨rfl, b2⟩)
  have bw2 := bw1.trans (b2.mono bw1.size)
  clear x0 b2 k2 D1 bw1
  have k3 := O.atomNil 0 w2 (by unfold isI; omega)
  go_upto_region 5 with (go_at_call 12; refine k3.mono ?_; rintro e w3 ⟨⟨ax, ay, rfl⟩, b3⟩)
  obtain ⟨w4, hw4⟩ : ∃ w4, w4 = w3.alloc (.cells #[.int .u32 ax, .int .u32 ay] 43) := ⟨_, rfl⟩
  have b4 : Below w2.heap.size w2 w4 := by rw [hw4]; exact b3.alloc b3.size _
  rw [← hw4]
  have bw4 := bw2.trans (b4.mono bw2.size)
  clear hw4 b3 b4 k3 bw2
  have k4 := O.atNil 0 0 w4 (by unfold isI; omega) (by unfold isI; omega)
  go_upto_region 6 with (go_at_call 10; refine k4.mono ?_; rintro e w5 ⟨⟨lx, rfl⟩, b5⟩)
  have bw5 := bw4.trans (b5.mono bw4.size)
  clear b5 k4 bw4
  have k5 := O.networkNil w5
  go_upto_region 7 with (go_at_call 16; refine k5.mono ?_; rintro e w6 ⟨⟨vp, vl, vr, rfl, hN⟩, b6⟩; obtain ⟨⟨⟨B1, d1, rfl, z1⟩, ⟨B2, d2, rfl, z2⟩⟩, ⟨B3, d3, rfl, z3⟩⟩ := hN)
  clear z1 z2 z3
  obtain ⟨w7, hw7⟩ : ∃ w7, w7 = w6.alloc (.cells #[.slice B1 0 d1, .slice B2 0 d2, .slice B3 0 d3] 28) := ⟨_, rfl⟩
  have M7 := At.new w6 #[.slice B1 0 d1, .slice B2 0 d2, .slice B3 0 d3] 28
  have b7 : Below w5.heap.size w5 w7 := by rw [hw7]; exact b6.alloc b6.size _
  rw [← hw7] at M7 ⊢
  have bw7 := bw5.trans (b7.mono bw5.size)
  clear hw7 b6 b7 k5 bw5
  have k7 := alive10_any O w7
  go_wp2_with (first
    | (go_at_call 6; refine k7.mono ?_; rintro e w8 ⟨rfl, b8⟩; have k8 := O.atomsNil w8; have M8 := M7.belows b8; have bw8 := bw7.trans (b8.mono bw7.size))
    | (go_at_call 11; refine k8.mono ?_; rintro e w9 ⟨rfl, b9⟩; have M9 := M8.belows b9; have x0 := (M9.cell 0).trans rfl; have x2 := (M9.cell 2).trans rfl))
  go_ret
  exact ⟨rfl, bw8.trans (b9.mono bw8.size)⟩
end Go.Proofs.Ytlhfaildeemngaa
namespace Go.Proofs.Ytlhfaildeemngaa.labelNil
open Go.ChangeShapes Go.WideShapes Go.ChangeAt Go.RowKit
open Go.ChangeMaps (open_string shut_string)
set_option linter.unusedVariables false

theorem own : ownKnob Try.prog.godebug = none := by kernel_rfl
theorem laidOut : laidOutB Try.prog = true := by kernel_rfl
theorem readable : (Try.f5.params.toList.all fun t => Try.prog.readableRec t && decide (t < Try.prog.types.size)) = true := by kernel_rfl

set_option maxRecDepth 100000 in
theorem lifted (os : Os) (started : os.Started) (H : Type) (enc : TypeId × Value → H) :
    ReturnsInHanded {} Try.checked os 5 .any (Rows.labelNilSpec.pre6 enc Try.prog Try.f5 Rows.labelNilRow.domain false) (Rows.labelNilSpec.post enc Try.prog Try.f5 false true false false) := by
  refine returnsInHanded_of_change (C := Try.checked) own started (by kernel_rfl) Try.func5
    (ChangeSpec.witness6 (enc := enc) (C := Try.checked) false ⟨#[], #[.agg #[.int .i64 0, .int .i64 0, .int .i64 0, .int .i64 0, .int .u32 0, .int .u32 0, .int .i64 0]], []⟩ 8 (by kernel_rfl) (by kernel_rfl) (by kernel_rfl) (by kernel_rfl)) ?_
  intro W base args ds gs before hval0 hW hcnd _
  have hval : ∀ (j : Nat) t v, Try.f5.params[j]? = some t → args[j]? = some v → Value.okWide Try.prog W .any base t v := hval0
  have hW' := hW
  obtain ⟨p, q, hA0, hV, rfl, hfz, hnd⟩ := hW
  have hA : DataW.TrodAll enc Try.prog W 0 (fun _ => true) true Try.f5.params.toList args.toList ds p := hA0
  rw [Try.params5] at hA hval
  obtain ⟨v0, vs0, d0, ds0, p0, q0, hargs, rfl, rfl, h0, r0⟩ := trodAll_cons hA
  obtain ⟨rfl, rfl, rfl⟩ := trodAll_nil r0
  obtain rfl : args = #[v0] := by cases args; simp_all
  obtain ⟨rfl, rfl⟩ := trodVars_none hV
  have fin : ∀ (e : Ending) (W' : World), e = .returned (.bool true) ∧ Below W.heap.size W W' → ∃ v, e = .returned v ∧ Rows.labelNilSpec.post enc Try.prog Try.f5 false true false false W #[v0] v W' := by
    rintro e W' ⟨rfl, bel⟩
    exact ⟨_, rfl, post_law (tb := 4) laidOut readable (by kernel_rfl) Try.underlying4 rfl hW' rfl bel⟩
  clear hW' hA0 hval0 hcnd hfz hnd
  obtain ⟨x0, rfl, wr0⟩ := open_rule (hval 0 50 v0 rfl rfl) h0
  exact (nil10_walk ownCalls10 x0 W wr0).mono fun e W' h => fin e W' h

theorem over : Rows.labelNilRow.holds Try.pinned (OpenSpec.ofChange Rows.labelNilSpec) :=
  OpenClaim.holds_of_wide 5 Try.f5 rfl rfl rfl rfl rfl rfl rfl ⟨rfl, rfl, rfl, rfl, rfl⟩ rfl rfl rfl rfl rfl (by kernel_rfl) Try.func5 (by kernel_rfl)
    (of_decide_eq_true (by kernel_rfl)) (by unfold Func.isWrapper; first | (rw [if_pos (by decide +kernel)]; kernel_rfl) | (rw [if_neg (by decide +kernel)]; exact ⟨rfl, rfl⟩))
    (fun os started H enc _ => lifted os started H enc)

theorem proved : Rows.LabelNilSaid := over
#print axioms proved
end Go.Proofs.Ytlhfaildeemngaa.labelNil
