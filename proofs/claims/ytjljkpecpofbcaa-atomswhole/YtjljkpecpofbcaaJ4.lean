/- Contracts: cut, joinTwo. -/
import Derived.Test.YtjljkpecpofbcaaJ3
namespace Go.Proofs.Ytjljkpecpofbcaa
open Go.RowKit

/-- What cut answers: the part below, the node at the key, the part above. -/
def CutOut (w : World) (t : Bt) (k : Int) (e : Ending) (w' : World) : Prop := ∃ (vb va vc : Value) (b c : Bt), e = .returned (.tuple #[vb, va, vc]) ∧ (IsT w' vb b ∧ b.even ∧ b.flat = lowL t.flat k) ∧ AtN w' va (getL t.flat k) ∧ (IsT w' vc c ∧ c.even ∧ c.flat = gtL t.flat k) ∧ Below w.heap.size w w'
theorem low_len {l : List (Int × Int)} {k : Int} : (lowL l k).length ≤ l.length := List.length_filter_le _ _
theorem gt_len {l : List (Int × Int)} {k : Int} : (gtL l k).length ≤ l.length := List.length_filter_le _ _
set_option maxRecDepth 100000 in
set_option maxHeartbeats 4000000 in
theorem cut_any (t : Bt) (k : Int) : ∀ (v : Value) (w : World), IsT w v t → t.even → Up t.flat → t.size ≤ 5000 → Calls Try.prog 42 #[v, .int .u64 k] w (CutOut w t k) := by
  induction t with
  | nil =>
    rintro v w rfl _ _ _
    go_enter Try.func42, Try.ntmps42
    go_wp2
    refine bodyPost_ret (v := .tuple #[.pointer none, .pointer none, .pointer none]) (by simp [results, Try.results42, go_sem]) rfl ?_
    exact ⟨_, _, _, .nil, .nil, rfl, ⟨rfl, trivial, rfl⟩, rfl, ⟨rfl, trivial, rfl⟩, Below.refl _ _⟩
  | node l x r ihl ihr =>
    rintro v w ⟨B, vl, vr, rfl, ha, hl, hr⟩ he hu hz
    obtain ⟨pl, rfl⟩ := hl.ptr
    obtain ⟨pr, rfl⟩ := hr.ptr
    have hzz : l.size + 1 + r.size ≤ 5000 := hz
    have hu' : Up (l.flat ++ x :: r.flat) := hu
    have hlen1 := low_len (l := r.flat) (k := k)
    have hlen2 := gt_len (l := l.flat) (k := k)
    rw [Bt.flat_len] at hlen1 hlen2
    have c0 := (ha.cell 0).trans rfl
    have c1 := (ha.cell 1).trans rfl
    have c2 := (ha.cell 2).trans rfl
    have c3 := (ha.cell 3).trans rfl
    have HE := Lib.hid he
    have HU := Lib.hid hu'
    clear he hu hu'
    rcases Int.lt_trichotomy k x.1 with hk | hk | hk
    · clear ihr
      have hcut := ihl (.pointer pl) w hl HE.out.1 HU.out.node.1 (by omega)
      clear ihl
      go_enter Try.func42, Try.ntmps42
      go_wp2_with (go_at_call 42; refine hcut.mono ?_; clear hcut; rintro e W0 ⟨vb, va, vc, b, c, rfl, ib, ia, ic, b0⟩; obtain ⟨pb, rfl⟩ := ib.1.ptr; obtain ⟨pa, rfl⟩ := ia.ptr; obtain ⟨pc, rfl⟩ := ic.1.ptr)
      obtain ⟨ib, eb, fb⟩ := ib
      obtain ⟨ic, ec, fc⟩ := ic
      have zc : c.size ≤ l.size := by rw [← c.flat_len, fc]; omega
      have HF := Lib.hid (And.intro fb fc)
      have ha0 := ha.belows b0
      have hr0 := hr.belows b0
      have HR : Hid (∀ W, Below W0.heap.size W0 W → IsT W (.pointer pr) r) := Lib.hid fun W hW => hr0.belows hW
      have HC : Hid (∀ W, Below W0.heap.size W0 W → IsT W (.pointer pc) c) := Lib.hid fun W hW => ic.belows hW
      have KS : Hid (∀ W, Below W0.heap.size W0 W → W.cell? ⟨B, 0, none⟩ = some (.int .u64 x.1) ∧ W.cell? ⟨B, 1, none⟩ = some (.int .i64 x.2) ∧ W.cell? ⟨B, 3, none⟩ = some (.pointer pr)) := Lib.hid fun W hW => ⟨((ha0.belows hW).cell 0).trans rfl, ((ha0.belows hW).cell 1).trans rfl, ((ha0.belows hW).cell 3).trans rfl⟩
      clear fb fc ha hl hr ha0 hr0 c0 c1 c2 c3
      have hb1 := Below.refl W0.heap.size W0
      obtain ⟨q1, q2, q3⟩ := KS.out W0 hb1
      go_region_held3 (fun W => W.cell? ⟨B, 0, none⟩ = some (.int .u64 x.1) ∧ W.cell? ⟨B, 1, none⟩ = some (.int .i64 x.2) ∧ W.cell? ⟨B, 3, none⟩ = some (.pointer pr)) (first | exact KS.out _ bbD | exact KS.out _ hb1.drew | exact KS.out _ hb1) (first
        | (go_at_call 43; refine (join_any c r x _ (HC.out _ (by first | exact hb1.drew | exact hb1)) (HR.out _ (by first | exact hb1.drew | exact hb1)) ec HE.out.2.1 (by omega)).mono ?_; rintro e wD ⟨vD, tD, rfl, iD, fD, bD⟩; obtain ⟨pD, rfl⟩ := iD.ptr; have bbD : Below W0.heap.size W0 wD := (by first | exact hb1.drew.trans (bD.mono hb1.size))))
      all_goals
        rename_i hHeld
        clear hHeld
        go_wp2
        refine bodyPost_ret (v := .tuple #[.pointer pb, .pointer pa, .pointer pD]) (by simp [results, Try.results42, go_sem]) rfl ?_
        refine ⟨_, _, _, b, tD, rfl, ⟨ib.belows bbD, eb, HF.out.1.trans (low_left HU.out (by omega)).symm⟩, ?_, ⟨iD, fD.2.1, ?_⟩, b0.trans (bbD.mono b0.size)⟩
        · rw [show (Bt.node l x r).flat = l.flat ++ x :: r.flat from rfl, get_left HU.out hk]; exact ia.belows bbD
        · rw [fD.1, HF.out.2]; exact (gt_left HU.out hk).symm
    · subst hk
      clear ihl ihr
      go_enter Try.func42, Try.ntmps42
      go_wp2
      go_quiet (fail)
      go_wp2
      have hb1 : Below w.heap.size w (w.drewN nq) := bdrewN (Below.refl _ _) _
      refine bodyPost_ret (v := .tuple #[.pointer pl, .pointer (some ⟨B, 0, none⟩), .pointer pr]) (by simp [results, Try.results42, go_sem]) rfl ?_
      refine ⟨_, _, _, l, r, rfl, ⟨hl.belows hb1, HE.out.1, (low_at HU.out).symm⟩, ?_, ⟨hr.belows hb1, HE.out.2.1, (gt_at HU.out).symm⟩, hb1⟩
      rw [show (Bt.node l x r).flat = l.flat ++ x :: r.flat from rfl, get_at HU.out]
      exact ⟨B, _, _, _, _, rfl, ha.belows hb1⟩
    · clear ihl
      have hcut := ihr (.pointer pr) w hr HE.out.2.1 HU.out.node.2.1 (by omega)
      clear ihr
      go_enter Try.func42, Try.ntmps42
      go_wp2_with (go_at_call 42; refine hcut.mono ?_; clear hcut; rintro e W0 ⟨vb, va, vc, b, c, rfl, ib, ia, ic, b0⟩; obtain ⟨pb, rfl⟩ := ib.1.ptr; obtain ⟨pa, rfl⟩ := ia.ptr; obtain ⟨pc, rfl⟩ := ic.1.ptr)
      obtain ⟨ib, eb, fb⟩ := ib
      obtain ⟨ic, ec, fc⟩ := ic
      have zb : b.size ≤ r.size := by rw [← b.flat_len, fb]; omega
      have HF := Lib.hid (And.intro fb fc)
      have ha0 := ha.belows b0
      have hl0 := hl.belows b0
      have HL : Hid (∀ W, Below W0.heap.size W0 W → IsT W (.pointer pl) l) := Lib.hid fun W hW => hl0.belows hW
      have HB : Hid (∀ W, Below W0.heap.size W0 W → IsT W (.pointer pb) b) := Lib.hid fun W hW => ib.belows hW
      have KS : Hid (∀ W, Below W0.heap.size W0 W → W.cell? ⟨B, 0, none⟩ = some (.int .u64 x.1) ∧ W.cell? ⟨B, 1, none⟩ = some (.int .i64 x.2) ∧ W.cell? ⟨B, 2, none⟩ = some (.pointer pl)) := Lib.hid fun W hW => ⟨((ha0.belows hW).cell 0).trans rfl, ((ha0.belows hW).cell 1).trans rfl, ((ha0.belows hW).cell 2).trans rfl⟩
      clear fb fc ha hl hr ha0 hl0 c0 c1 c2 c3
      have hb1 := Below.refl W0.heap.size W0
      obtain ⟨q1, q2, q3⟩ := KS.out W0 hb1
      go_region_held3 (fun W => W.cell? ⟨B, 0, none⟩ = some (.int .u64 x.1) ∧ W.cell? ⟨B, 1, none⟩ = some (.int .i64 x.2) ∧ W.cell? ⟨B, 2, none⟩ = some (.pointer pl)) (first | exact KS.out _ bbD | exact KS.out _ hb1.drew | exact KS.out _ hb1) (first
        | (go_at_call 43; refine (join_any l b x _ (HL.out _ (by first | exact hb1.drew | exact hb1)) (HB.out _ (by first | exact hb1.drew | exact hb1)) HE.out.1 eb (by omega)).mono ?_; rintro e wD ⟨vD, tD, rfl, iD, fD, bD⟩; obtain ⟨pD, rfl⟩ := iD.ptr; have bbD : Below W0.heap.size W0 wD := (by first | exact hb1.drew.trans (bD.mono hb1.size))))
      all_goals
        rename_i hHeld
        clear hHeld
        go_wp2
        refine bodyPost_ret (v := .tuple #[.pointer pD, .pointer pa, .pointer pc]) (by simp [results, Try.results42, go_sem]) rfl ?_
        refine ⟨_, _, _, tD, c, rfl, ⟨iD, fD.2.1, ?_⟩, ?_, ⟨ic.belows bbD, ec, HF.out.2.trans (gt_right HU.out (by omega)).symm⟩, b0.trans (bbD.mono b0.size)⟩
        · rw [fD.1, HF.out.1]; exact (low_right HU.out hk).symm
        · rw [show (Bt.node l x r).flat = l.flat ++ x :: r.flat from rfl, get_right HU.out hk]; exact ia.belows bbD

/-- What joinTwo answers. -/
def TwoOut (w : World) (l r : Bt) (e : Ending) (w' : World) : Prop := ∃ (v : Value) (t : Bt), e = .returned v ∧ IsT w' v t ∧ t.even ∧ t.flat = l.flat ++ r.flat ∧ Below w.heap.size w w'
set_option maxRecDepth 100000 in
set_option maxHeartbeats 4000000 in
theorem joinTwo_any {vl vr : Value} (l r : Bt) (w : World) (hl : IsT w vl l) (hr : IsT w vr r) (el : l.even) (er : r.even) (hu : Up r.flat) (hz : l.size + r.size ≤ 4000) : Calls Try.prog 61 #[vl, vr] w (TwoOut w l r) := by
  obtain ⟨pl, rfl⟩ := hl.ptr
  obtain ⟨pr, rfl⟩ := hr.ptr
  have hplace := place_any r 0 w hr (by omega) (by omega) (by omega)
  rw [at_zero] at hplace
  cases hh : r.flat with
  | nil =>
    rw [hh] at hplace
    go_enter Try.func61, Try.ntmps61
    go_wp2_with fail
    refine hplace.mono ?_
    rintro e w1 ⟨v1, rfl, ia, rfl⟩
    clear hplace
    obtain ⟨p1, rfl⟩ := ia.ptr
    go_wp2_with fail
    refine (told_any none w ia).mono ?_
    rintro e w2 ⟨rfl, b2⟩
    simp only [toldV]
    go_wp2
    go_ret
    exact ⟨_, l, rfl, (hl.belows b2).belows ((Below.refl _ _).alloc (Nat.le_refl _) _), el, by rw [hh]; simp, b2.alloc b2.size _⟩
  | cons y L =>
    rw [hh] at hplace hu
    have HH := Lib.hid hh
    have HU := Lib.hid hu
    clear hh hu
    go_enter Try.func61, Try.ntmps61
    go_wp2_with fail
    refine hplace.mono ?_
    rintro e w1 ⟨v1, rfl, ia, rfl⟩
    clear hplace
    obtain ⟨p1, rfl⟩ := ia.ptr
    go_wp2_with fail
    refine (told_any (some y) w ia).mono ?_
    rintro e w2 ⟨rfl, b2⟩
    simp only [toldV]
    have b3 : Below w.heap.size w (w2.alloc (.cells #[.int .u64 y.1, .int .i64 y.2] 68)) := b2.alloc b2.size _
    have A3 := At.new w2 #[.int .u64 y.1, .int .i64 y.2] 68
    have k0 := (A3.cell 0).trans rfl
    go_wp2_with fail
    generalize w2.alloc (.cells #[.int .u64 y.1, .int .i64 y.2] 68) = W3 at b3 A3 k0 ⊢
    refine (cut_any r y.1 _ W3 (hr.belows b3) er (by rw [HH.out]; exact HU.out) (by omega)).mono ?_
    rintro e w4 ⟨vb, va, vc, b, c, rfl, ib, ia4, ic, b4⟩
    obtain ⟨pb, rfl⟩ := ib.1.ptr
    obtain ⟨pa, rfl⟩ := ia4.ptr
    obtain ⟨pc, rfl⟩ := ic.1.ptr
    obtain ⟨ic, ec, fc⟩ := ic
    have fc' : c.flat = L := by rw [fc, HH.out]; exact gt_at (A := []) HU.out
    have zc : c.size ≤ r.size := by rw [← c.flat_len, ← r.flat_len, fc', HH.out]; simp
    have bb4 := b3.trans (b4.mono b3.size)
    have A4 := A3.belows b4
    have q0 := (A4.cell 0).trans rfl
    have q1 := (A4.cell 1).trans rfl
    have HFC := Lib.hid fc'
    clear fc fc' k0 A3
    go_wp2_with (go_at_call 43; refine (join_any l c y _ (hl.belows bb4) ic el ec (by omega)).mono ?_; rintro e w5 ⟨v5, t5, rfl, i5, f5, b5⟩; obtain ⟨p5, rfl⟩ := i5.ptr)
    go_ret
    exact ⟨_, t5, rfl, i5, f5.2.1, by rw [f5.1, HFC.out, HH.out], bb4.trans (b5.mono bb4.size)⟩
end Go.Proofs.Ytjljkpecpofbcaa
