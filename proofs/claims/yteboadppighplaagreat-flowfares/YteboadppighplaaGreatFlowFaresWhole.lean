/- FlowFares: for any two networks, two devices and address the law returns true, and the arguments read as before. No condition. -/
import Derived.Test.YteboadppighplaaGreatZ8
import Derived.Test.YteboadppighplaaGreatZ9
import Derived.Test.YteboadppighplaaGreatZ10
import Derived.Test.YteboadppighplaaGreatZ11
import Derived.Test.YteboadppighplaaGreatZ12
import Derived.Test.YteboadppighplaaGreatZ6
/- Law: FlowFares (stage 11), over the program's calls: all ways (sel11). -/
namespace Go.Proofs.YteboadppighplaaGreat
open Go.RowKit Go.Shelf

theorem fares11_walk (O : Own11) {vp vl vr up ul ur : Value} (ps : List Int) (ls : List Lk) (L : List Ru) (qs : List Int) (ms : List Lk) (M : List Ru) (a b : Int) (x : Nat) (w : World) (h : IsN w vp vl vr ps ls L) (hW : NW ps ls L) (h2 : IsN w up ul ur qs ms M) (hW2 : NW qs ms M) (ia : isI a) (ib : isI b) (hx : x < 4294967296) :
    Calls Tryz.prog 6 #[.agg #[vp, vl, vr, up, ul, ur], .agg #[.int .i64 a, .int .i64 b], .int .u32 x] w fun e w' => e = .returned (.bool true) ∧ Below w.heap.size w w' := by
  have hs := sel_le (trcN ps ls L x a) b
  match hk : sel11 (trcN ps ls L x a) b, hs with
  | 0, _ => exact fares11_e O ps ls L qs ms M a b x w h hW h2 hW2 ia ib hx hk
  | 1, _ => exact fares11_a O ps ls L qs ms M a b x w h hW h2 hW2 ia ib hx hk
  | 2, _ => exact fares11_b O ps ls L qs ms M a b x w h hW h2 hW2 ia ib hx hk
  | 3, _ => exact fares11_c O ps ls L qs ms M a b x w h hW h2 hW2 ia ib hx hk
  | 4, _ => exact fares11_d O ps ls L qs ms M a b x w h hW h2 hW2 ia ib hx hk
end Go.Proofs.YteboadppighplaaGreat
namespace Go.Proofs.YteboadppighplaaGreat.flowFares
open Go.ChangeShapes Go.WideShapes Go.ChangeAt Go.RowKit
open Go.ChangeMaps (open_string shut_string)
set_option linter.unusedVariables false

theorem own : ownKnob Tryz.prog.godebug = none := by kernel_rfl
theorem laidOut : laidOutB Tryz.prog = true := by kernel_rfl
theorem readable : (Tryz.f6.params.toList.all fun t => Tryz.prog.readableRec t && decide (t < Tryz.prog.types.size)) = true := by kernel_rfl

set_option maxRecDepth 100000 in
theorem lifted (os : Os) (started : os.Started) (H : Type) (enc : TypeId × Value → H) :
    ReturnsInHanded {} Tryz.checked os 6 .any (Rows.flowFaresSpec.pre6 enc Tryz.prog Tryz.f6 Rows.flowFaresRow.domain false) (Rows.flowFaresSpec.post enc Tryz.prog Tryz.f6 false true false false) := by
  refine returnsInHanded_of_change_sized (C := Tryz.checked) own started (by kernel_rfl) Tryz.func6
    (ChangeSpec.witness6 (enc := enc) (C := Tryz.checked) false ⟨#[], #[.agg #[.slice none 0 0, .slice none 0 0, .slice none 0 0, .slice none 0 0, .slice none 0 0, .slice none 0 0], .agg #[.int .i64 0, .int .i64 0], .int .u32 0], []⟩ 8 (by kernel_rfl) (by kernel_rfl) (by kernel_rfl) (by kernel_rfl)) ?_
  intro W base args ds gs before hval0 hW hcnd hsz0 _
  have hsz : (DataW.weightsEach Tryz.prog (Tryz.f6.params.toList ++ Rows.flowFaresSpec.plain.varTypes Tryz.prog) (ds ++ gs)).all (· ≤ reachBytes) = true := hsz0
  have hval : ∀ (j : Nat) t v, Tryz.f6.params[j]? = some t → args[j]? = some v → Value.okWide Tryz.prog W .any base t v := hval0
  have hW' := hW
  obtain ⟨p, q, hA0, hV, rfl, hfz, hnd⟩ := hW
  have hA : DataW.TrodAll enc Tryz.prog W 0 (fun _ => true) true Tryz.f6.params.toList args.toList ds p := hA0
  rw [Tryz.params6] at hA hval hsz
  obtain ⟨v0, vs0, d0, ds0, p0, q0, hargs, rfl, rfl, h0, r0⟩ := trodAll_cons hA
  obtain ⟨v1, vs1, d1, ds1, p1, q1, rfl, rfl, rfl, h1, r1⟩ := trodAll_cons r0
  obtain ⟨v2, vs2, d2, ds2, p2, q2, rfl, rfl, rfl, h2, r2⟩ := trodAll_cons r1
  obtain ⟨rfl, rfl, rfl⟩ := trodAll_nil r2
  obtain rfl : args = #[v0, v1, v2] := by cases args; simp_all
  obtain ⟨rfl, rfl⟩ := trodVars_none hV
  have fin : ∀ (e : Ending) (W' : World), e = .returned (.bool true) ∧ Below W.heap.size W W' → ∃ v, e = .returned v ∧ Rows.flowFaresSpec.post enc Tryz.prog Tryz.f6 false true false false W #[v0, v1, v2] v W' := by
    rintro e W' ⟨rfl, bel⟩
    exact ⟨_, rfl, post_law (tb := 4) laidOut readable (by kernel_rfl) Tryz.underlying4 rfl hW' rfl bel⟩
  clear hW' hA0 hval0 hcnd hfz hnd hsz0
  obtain ⟨va0, vb0, vc0, ua0, ub0, uc0, ps0, ls0, l0, qs0, ms0, m0, rfl, ⟨hh0, ww0⟩, hk0, wk0⟩ := open_nets (hval 0 40 v0 rfl rfl) h0 (nets_room hsz)
  obtain ⟨a1, e1, rfl, wa1, we1⟩ := open_arr2 (hval 1 53 v1 rfl rfl) h1
  obtain ⟨z2, rfl, rfl, rfl, w2⟩ := open_int Tryz.underlying41 (hval 2 41 v2 rfl rfl) h2
  obtain ⟨n2, rfl, la2⟩ := u32_wf w2
  exact (fares11_walk ownCalls11 ps0 ls0 l0 qs0 ms0 m0 a1 e1 n2 W hh0 ww0 hk0 wk0 wa1 we1 la2).mono fun e W' h => fin e W' h

theorem over : Rows.flowFaresRow.holds Tryz.pinned (OpenSpec.ofChange Rows.flowFaresSpec) :=
  OpenClaim.holds_of_wide 6 Tryz.f6 rfl rfl rfl rfl rfl rfl rfl ⟨rfl, rfl, rfl, rfl, rfl⟩ rfl rfl rfl rfl rfl (by kernel_rfl) Tryz.func6 (by kernel_rfl)
    (of_decide_eq_true (by kernel_rfl)) (by unfold Func.isWrapper; first | (rw [if_pos (by decide +kernel)]; kernel_rfl) | (rw [if_neg (by decide +kernel)]; exact ⟨rfl, rfl⟩))
    (fun os started H enc _ => lifted os started H enc)

theorem proved : Rows.FlowFaresSaid := over
#print axioms proved
end Go.Proofs.YteboadppighplaaGreat.flowFares
