/- Texts of this seat, put together: Pf9, Own11Calls, Open, OpenN, Op11, Lift, FD11, TX11. -/
import Derived.Test.YteboadppighplaaGreatZ5
import Derived.Test.YteboadppighplaaGreatZ3
import Derived.Test.YteboadppighplaaGreatZ1
import Derived.Deep.Slices
import Derived.Deep.Fields
import Derived.ProofKit
import Derived.OpenShut
import Derived.ChangeOld
import Derived.ChangeSame
import Derived.Lib.SmallJoins
import Derived.ShutString
import Derived.Carry
import Derived.Below
import Derived.SizedLaws
/- Contracts of package flow: Fates. -/
namespace Go.Proofs.YteboadppighplaaGreat
open Go.RowKit Go.Shelf

/-- A value that is a slice. -/
def SlW (v : Value) : Prop := ∃ A m c, v = .slice A m c
/-- A zone does not see a store into a block that holds slices. -/
theorem isZ_set {W : World} {R : Nat} {cs : Array Value} {T : TypeId} {v : Value} {L : List (Nat × Nat)} (hA : At W R cs T) (hs : ∀ (j : Nat) (u : Value), cs[j]? = some u → SlW u) (h : Tr.IsZ W v L) (j : Nat) (x : Value) : Tr.IsZ (W.setCell ⟨R, j, none⟩ x) v L := by
  obtain ⟨A, c, e, h1, h2, h3⟩ := h
  refine ⟨A, c, e, h1, h2, fun hn => ?_⟩
  obtain ⟨g, o, e2, hg, hc⟩ := h3 hn
  have hne : R ≠ g := fun e3 => by
    have q0 := (hc 0 hn).1
    rw [← e3, hA.cell] at q0
    obtain ⟨A', m', c', e4⟩ := hs _ _ q0
    cases e4
  exact ⟨g, o, e2, Nat.lt_of_lt_of_le hg (grownBy_set W R j x).size, fun k hk => ⟨(World.cell?_setCell_far W ⟨R, j, none⟩ ⟨g, _, none⟩ x hne).trans (hc k hk).1, (World.cell?_setCell_far W ⟨R, j, none⟩ ⟨g, _, none⟩ x hne).trans (hc k hk).2⟩⟩
theorem slices_five {v0 v1 v2 v3 v4 : Value} (h0 : SlW v0) (h1 : SlW v1) (h2 : SlW v2) (h3 : SlW v3) (h4 : SlW v4) : ∀ (j : Nat) (u : Value), (#[v0, v1, v2, v3, v4] : Array Value)[j]? = some u → SlW u
  | 0, u, h => by simp at h; subst h; exact h0
  | 1, u, h => by simp at h; subst h; exact h1
  | 2, u, h => by simp at h; subst h; exact h2
  | 3, u, h => by simp at h; subst h; exact h3
  | 4, u, h => by simp at h; subst h; exact h4
  | j + 5, u, h => by simp at h
theorem isZ_put5 {W : World} {R : Nat} {T : TypeId} {x0 x1 x2 x3 x4 v0 v1 v2 v3 v4 v : Value} {L : List (Nat × Nat)} (hA : At W R #[x0, x1, x2, x3, x4] T) (hx : SlW x0 ∧ SlW x1 ∧ SlW x2 ∧ SlW x3 ∧ SlW x4) (hv : SlW v0 ∧ SlW v1 ∧ SlW v2 ∧ SlW v3 ∧ SlW v4) (h : Tr.IsZ W v L) : Tr.IsZ (put5 W R v0 v1 v2 v3 v4) v L := by
  obtain ⟨a0, a1, a2, a3, a4⟩ := hx
  obtain ⟨b0, b1, b2, b3, b4⟩ := hv
  have A0 : At _ R #[v0, x1, x2, x3, x4] T := hA.set0 0 v0
  have A1 : At _ R #[v0, v1, x2, x3, x4] T := A0.set0 1 v1
  have A2 : At _ R #[v0, v1, v2, x3, x4] T := A1.set0 2 v2
  have A3 : At _ R #[v0, v1, v2, v3, x4] T := A2.set0 3 v3
  exact isZ_set A3 (slices_five b0 b1 b2 b3 a4) (isZ_set A2 (slices_five b0 b1 b2 a3 a4) (isZ_set A1 (slices_five b0 b1 a2 a3 a4) (isZ_set A0 (slices_five b0 a1 a2 a3 a4) (isZ_set hA (slices_five a0 a1 a2 a3 a4) h 0 v0) 1 v1) 2 v2) 3 v3) 4 v4
/-- Five zones under way. -/
structure FivI (Z : Nat → List (Nat × Nat)) (OB k : Nat) (vs : Nat → Value) (W : World) : Prop where
  blk : At W OB #[vs 0, vs 1, vs 2, vs 3, vs 4] 32
  sl : ∀ i, SlW (vs i)
  zon : ∀ i, i < k → Tr.IsZ W (vs i) (Z i)
theorem FivI.start (Z : Nat → List (Nat × Nat)) (OB : Nat) {W : World} (h : At W OB #[.slice none 0 0, .slice none 0 0, .slice none 0 0, .slice none 0 0, .slice none 0 0] 32) : FivI Z OB 0 (fun _ => .slice none 0 0) W :=
  ⟨h, fun _ => ⟨_, _, _, rfl⟩, fun i hi => by omega⟩
theorem FivI.belows {Z : Nat → List (Nat × Nat)} {OB k : Nat} {vs : Nat → Value} {W W' : World} (h : FivI Z OB k vs W) (hb : Below W.heap.size W W') : FivI Z OB k vs W' :=
  ⟨h.blk.belows hb, h.sl, fun i hi => (h.zon i hi).belows hb⟩
theorem FivI.cell {Z : Nat → List (Nat × Nat)} {OB k : Nat} {vs : Nat → Value} {W : World} (h : FivI Z OB k vs W) {n : Nat} (hn : n < 5) : W.cell? ⟨OB, n, none⟩ = some (vs n) := by
  rw [h.blk.cell]
  match n, hn with
  | 0, _ => rfl
  | 1, _ => rfl
  | 2, _ => rfl
  | 3, _ => rfl
  | 4, _ => rfl
theorem FivI.put {Z : Nat → List (Nat × Nat)} {OB n : Nat} {vs : Nat → Value} {W : World} (h : FivI Z OB n vs W) (hn : n < 5) {v' : Value} (hv : SlW v') (hz : Tr.IsZ W v' (Z n)) : FivI Z OB (n + 1) (fun i => if i = n then v' else vs i) (W.setCell ⟨OB, n, none⟩ v') := by
  have hA := h.blk.set0 n v'
  have hs := slices_five (h.sl 0) (h.sl 1) (h.sl 2) (h.sl 3) (h.sl 4)
  refine ⟨?_, fun i => ?_, fun i hi => ?_⟩
  · match n, hn with
    | 0, _ => exact hA
    | 1, _ => exact hA
    | 2, _ => exact hA
    | 3, _ => exact hA
    | 4, _ => exact hA
  · by_cases e : i = n
    · rw [if_pos e]; exact hv
    · rw [if_neg e]; exact h.sl i
  · by_cases e : i = n
    · rw [if_pos e]; subst e; exact isZ_set h.blk hs hz _ _
    · rw [if_neg e]; exact isZ_set h.blk hs (h.zon i (by omega)) _ _
/-- What Fates answers, of any network. -/
def FtsOut (n : Nt) (d : Int) (w : World) (e : Ending) (w' : World) : Prop :=
  (inD n.ps d ∧ FatOut (fun k => Zo.docOf ((cutA [n]).filter fun r => decide ((trN d r.1 n).ft = (k : Nat)))) 0 w e w') ∨
  (¬ inD n.ps d ∧ FatOut (fun _ => []) 91 w e w')
set_option maxRecDepth 100000 in
set_option maxHeartbeats 4000000 in
theorem fates11_out {vp vl vr : Value} (ps : List Int) (ls : List Lk) (L : List Ru) (d : Int) (w : World) (hW : NW ps ls L) (h : IsN w vp vl vr ps ls L) :
    Calls Tryz.prog 10 #[.agg #[vp, vl, vr], .int .i64 d] w (FtsOut ⟨vp, vl, vr, ps, ls, L⟩ d w) := by
  have HN := Lib.hid h
  have HW := Lib.hid hW
  obtain ⟨⟨⟨A1, c1, rfl, _⟩, ⟨A2, c2, rfl, _⟩⟩, ⟨A3, c3, rfl, _⟩⟩ := h
  obtain ⟨w1, hw1⟩ : ∃ w1, w1 = (w.alloc (.cells #[.slice A1 ps.length c1, .slice A2 ls.length c2, .slice A3 L.length c3] 28)).alloc (.cells #[.slice none 0 0, .slice none 0 0, .slice none 0 0, .slice none 0 0, .slice none 0 0] 32) := ⟨_, rfl⟩
  have D1 : At w1 w.heap.size #[.slice A1 ps.length c1, .slice A2 ls.length c2, .slice A3 L.length c3] 28 := by rw [hw1]; exact (At.new w _ _).alloc _
  have R1 : At w1 (w.heap.size + 1) #[.slice none 0 0, .slice none 0 0, .slice none 0 0, .slice none 0 0, .slice none 0 0] 32 := by rw [hw1]; exact At.new1 w _ _ _
  have b1 : Below w.heap.size w w1 := by rw [hw1]; exact ((Below.refl _ w).alloc (Nat.le_refl _) _).alloc (by simp) _
  have x0 : w1.cell? ⟨w.heap.size, 0, none⟩ = some (.slice A1 ps.length c1) := (D1.cell 0).trans rfl
  have x1 : w1.cell? ⟨w.heap.size, 1, none⟩ = some (.slice A2 ls.length c2) := (D1.cell 1).trans rfl
  have x2 : w1.cell? ⟨w.heap.size, 2, none⟩ = some (.slice A3 L.length c3) := (D1.cell 2).trans rfl
  have HB1 := Lib.hid b1
  have HR1 := Lib.hid R1
  obtain ⟨w2, hw2⟩ : ∃ w2, w2 = w1.alloc (.cells #[.slice A1 ps.length c1, .slice A2 ls.length c2, .slice A3 L.length c3] 28) := ⟨_, rfl⟩
  have N2 : At w2 w1.heap.size #[.slice A1 ps.length c1, .slice A2 ls.length c2, .slice A3 L.length c3] 28 := by rw [hw2]; exact At.new w1 _ _
  have b2 : Below w1.heap.size w1 w2 := by rw [hw2]; exact (Below.refl _ w1).alloc (Nat.le_refl _) _
  have HB2 := Lib.hid (HB1.out.trans (b2.mono HB1.out.size))
  have HB12 := Lib.hid b2
  obtain ⟨n1, hn1⟩ : ∃ n : Nt, n = ⟨.slice A1 ps.length c1, .slice A2 ls.length c2, .slice A3 L.length c3, ps, ls, L⟩ := ⟨_, rfl⟩
  have kT := traced_any [n1] d w2 (by simp) (fun n hn => by simp at hn; subst hn; subst hn1; exact HW.out) (ns_one (n := n1) (B := w1.heap.size) (by subst hn1; exact N2) (by subst hn1; exact HN.out.belows HB2.out))
  have HWF : Hid (∀ n ∈ [n1], ∀ r ∈ n.L, r.wf) := Lib.hid fun n hn => by simp at hn; subst hn; subst hn1; exact HW.out.rules
  rw [← hn1]
  rw [hw2] at kT
  unfold FtsOut
  obtain ⟨Z, hZ⟩ : ∃ Z : Nat → List (Nat × Nat), Z = fun k => Zo.docOf ((cutA [n1]).filter fun r => decide ((trN d r.1 n1).ft = (k : Nat))) := ⟨_, rfl⟩
  rw [← hZ]
  have HZ := Lib.hid hZ
  clear hZ
  unfold FatOut
  clear D1 R1 b1 hW hn1 N2 b2
  by_cases hin : inD n1.ps d
  · have kT' := kT.mono fun e w' h => (h.resolve_right fun h => h.1 ((inAll_one _ _).2 hin)).2
    have HIN := Lib.hid hin
    rw [← hw2] at kT'
    rw [hw2] at kT'
    clear kT hin
    go_enter Tryz.func10, Tryz.ntmps10
    go_upto_region 1 with (fail)
    rw [← hw1]
    clear hw1
    go_upto_region 4 with (go_at_call 30; refine kT'.mono ?_; rw [← hw2]; rintro e w5 ⟨v5, L5, rfl, hps, hmap, hpr, b5⟩)
    have hv5 : ∃ A m c, v5 = .slice A m c := by
      obtain ⟨A, c, e, _⟩ := hps.1
      exact ⟨A, _, c, e⟩
    obtain ⟨A5, m5, c5, rfl⟩ := hv5
    have b25 := HB12.out.trans (b5.mono HB12.out.size)
    have HR5 := Lib.hid (HR1.out.belows b25)
    have HB5 := Lib.hid (HB2.out.trans (b5.mono HB2.out.size))
    have HPS := Lib.hid hps
    have HPR := Lib.hid hpr
    have HRT := Lib.hid (prsRt_of HWF.out hmap)
    have HCUT : Hid (∀ pp : Nat → Bool, pkd (fun q => pp q.f) L5 = (cutA [n1]).filter fun r => pp r.1) := Lib.hid fun pp => pkd_cut hmap pp
    clear hps hmap hpr b5 b25 hw2 x0 x1 x2
    go_upto_region 5 with (fail)
    obtain ⟨w6, hw6⟩ : ∃ w6, w6 = w5.alloc (.cells #[.slice none 0 0, .slice none 0 0, .slice none 0 0, .slice none 0 0, .slice none 0 0] 32) := ⟨_, rfl⟩
    have F6 : At w6 w5.heap.size #[.slice none 0 0, .slice none 0 0, .slice none 0 0, .slice none 0 0, .slice none 0 0] 32 := by rw [hw6]; exact At.new w5 _ _
    have b6 : Below w5.heap.size w5 w6 := by rw [hw6]; exact (Below.refl _ w5).alloc (Nat.le_refl _) _
    have HF0 := Lib.hid (FivI.start Z w5.heap.size F6)
    have HB6 := Lib.hid b6
    rw [← hw6]
    clear hw6 F6 b6
    go_wp2
    go_loopw [21] (fun i wr => ∃ (k : Nat) (vs : Nat → Value), i = .int .i64 k ∧ k ≤ 5 ∧ Hid (FivI Z w5.heap.size k vs wr) ∧ Hid (Below w5.heap.size w5 wr)) (fun i _ => 5 - (intOf i).toNat)
    case atStart => exact ⟨0, _, rfl, by omega, HF0, HB6⟩
    case round =>
      obtain ⟨k, vs, rfl, hk, HF, HBq⟩ := hrel
      by_cases hlt : k < 5
      · obtain ⟨sk, kk, dk, hvk⟩ := HF.out.sl k
        obtain ⟨w7, hw7⟩ : ∃ w7, w7 = wr.alloc (.cells #[.int .i64 (k : Int)] 3) := ⟨_, rfl⟩
        have E7 : At w7 wr.heap.size #[.int .i64 (k : Int)] 3 := by rw [hw7]; exact At.new wr _ _
        have b7 : Below wr.heap.size wr w7 := by rw [hw7]; exact (Below.refl _ wr).alloc (Nat.le_refl _) _
        have HF7 := Lib.hid (HF.out.belows b7)
        have HB7 := Lib.hid (HBq.out.trans (b7.mono HBq.out.size))
        have HE7 := Lib.hid E7
        have KZ : Hid (∀ u, Below w7.heap.size w7 u → Calls Tryz.prog 31 #[.slice A5 m5 c5, .func (.func 32) #[] #[.pointer (some ⟨wr.heap.size, 0, none⟩)]] u fun e w' => ∃ v', e = .returned v' ∧ Tr.IsZ w' v' (Z k) ∧ Below u.heap.size u w') := Lib.hid fun u hu => by
          have hps := HPS.out.belows (HB7.out.trans (hu.mono HB7.out.size))
          have hz := zoneOf_any 32 #[.pointer (some ⟨wr.heap.size, 0, none⟩)] (enters_of Tryz.func32 (by kernel_rfl) rfl) L5 (fun q => decide ((trN d q.f n1).ft = (k : Nat))) u HRT.out (fun q hq W hW => fat1_any (trN d q.f n1) [] wr.heap.size k W (by have := HPR.out q hq; simpa using this) ((HE7.out.belows hu).belows hW) ((hps.2 q hq).belows hW)) hps
          rw [HCUT.out fun a => decide ((trN d a n1).ft = (k : Nat))] at hz
          rw [HZ.out]
          exact hz
        have SX : Hid (∀ u, Below w7.heap.size w7 u → u.cell? ⟨wr.heap.size, 0, none⟩ = some (.int .i64 (k : Int)) ∧ u.cell? ⟨w5.heap.size, k, none⟩ = some (.slice sk kk dk)) := Lib.hid fun u hu => ⟨((HE7.out.belows hu).cell 0).trans rfl, by rw [(HF7.out.belows hu).cell hlt, hvk]⟩
        have i0 : (0 : Int) ≤ (k : Int) := by omega
        have i1 : (k : Int) < 5 := by omega
        have hne : w5.heap.size ≠ wr.heap.size := Nat.ne_of_lt HF.out.blk.lt
        clear E7 b7 hvk
        go_upto_region 8 with (fail)
        rw [← hw7]
        clear hw7
        obtain ⟨X0, X1⟩ := SX.out w7 (Below.refl _ _)
        go_region_held3 (fun u => u.cell? ⟨wr.heap.size, 0, none⟩ = some (.int .i64 (k : Int)))
          (first | exact (SX.out _ b8w).1 | exact (SX.out _ (bdrewN (Below.refl _ _) 1)).1 | exact (SX.out _ (Below.refl _ _)).1 | exact (World.cell?_setCell_far w8 ⟨w5.heap.size, k, none⟩ ⟨wr.heap.size, 0, none⟩ _ hne).trans (SX.out _ b8w).1)
          ((go_at_call 31; refine (KZ.out _ (by first | exact bdrewN (Below.refl _ _) 1 | exact Below.refl _ _)).mono ?_; rintro e w8 ⟨v8, rfl, ⟨A8, c8, rfl, n8, m8, z8⟩, b8⟩; have b8w : Below w7.heap.size w7 w8 := (by first | exact (bdrewN (Below.refl _ _) 1).trans b8 | exact b8); have t0 : w8.cell? ⟨w5.heap.size, k, none⟩ = some (.slice sk kk dk) := (SX.out w8 b8w).2; have t1 : w8.frozen? ⟨w5.heap.size, k, none⟩ = false := (HF7.out.belows b8w).blk.frozen k))
        all_goals
          have F8 := HF7.out.belows b8w
          have HFX := Lib.hid (F8.put hlt ⟨_, _, _, rfl⟩ ⟨A8, c8, rfl, n8, m8, z8⟩)
          have HBX : Hid (Below w5.heap.size w5 (w8.setCell ⟨w5.heap.size, k, none⟩ (.slice A8 (Z k).length c8))) := Lib.hid ((HB7.out.trans (b8w.mono HB7.out.size)).setCell (p := ⟨w5.heap.size, k, none⟩) (Nat.le_refl _) _)
          clear F8 X0 X1 b8 n8 m8 z8
          go_wp2
          go_roundw
          case rel => exact ⟨k + 1, _, by go_num, by omega, HFX, HBX⟩
          case measure => simp [intOf]; omega
      · obtain rfl : k = 5 := by omega
        have R9 := HR5.out.belows HBq.out
        have HF9 := HF.out
        have o0 : wr.cell? ⟨w5.heap.size, 0, none⟩ = some (vs 0) := HF9.cell (n := 0) (by omega)
        have o1 : wr.cell? ⟨w5.heap.size, 1, none⟩ = some (vs 1) := HF9.cell (n := 1) (by omega)
        have o2 : wr.cell? ⟨w5.heap.size, 2, none⟩ = some (vs 2) := HF9.cell (n := 2) (by omega)
        have o3 : wr.cell? ⟨w5.heap.size, 3, none⟩ = some (vs 3) := HF9.cell (n := 3) (by omega)
        have o4 : wr.cell? ⟨w5.heap.size, 4, none⟩ = some (vs 4) := HF9.cell (n := 4) (by omega)
        have r0 : wr.cell? ⟨w.heap.size + 1, 0, none⟩ = some (.slice none 0 0) := (R9.cell 0).trans rfl
        have r1 : wr.cell? ⟨w.heap.size + 1, 1, none⟩ = some (.slice none 0 0) := (R9.cell 1).trans rfl
        have r2 : wr.cell? ⟨w.heap.size + 1, 2, none⟩ = some (.slice none 0 0) := (R9.cell 2).trans rfl
        have r3 : wr.cell? ⟨w.heap.size + 1, 3, none⟩ = some (.slice none 0 0) := (R9.cell 3).trans rfl
        have r4 : wr.cell? ⟨w.heap.size + 1, 4, none⟩ = some (.slice none 0 0) := (R9.cell 4).trans rfl
        have f0 : wr.frozen? ⟨w.heap.size + 1, 0, none⟩ = false := R9.frozen 0
        have f1 : wr.frozen? ⟨w.heap.size + 1, 1, none⟩ = false := R9.frozen 1
        have f2 : wr.frozen? ⟨w.heap.size + 1, 2, none⟩ = false := R9.frozen 2
        have f3 : wr.frozen? ⟨w.heap.size + 1, 3, none⟩ = false := R9.frozen 3
        have f4 : wr.frozen? ⟨w.heap.size + 1, 4, none⟩ = false := R9.frozen 4
        obtain ⟨s0, k0, d0, h0⟩ := HF9.sl 0
        obtain ⟨s1, k1, d1, h1⟩ := HF9.sl 1
        obtain ⟨s2, k2, d2, h2⟩ := HF9.sl 2
        obtain ⟨s3, k3, d3, h3⟩ := HF9.sl 3
        obtain ⟨s4, k4, d4, h4⟩ := HF9.sl 4
        have zz : SlW (.slice none 0 0) := ⟨_, _, _, rfl⟩
        have W0 := isZ_put5 R9 ⟨zz, zz, zz, zz, zz⟩ ⟨HF9.sl 0, HF9.sl 1, HF9.sl 2, HF9.sl 3, HF9.sl 4⟩ (HF9.zon 0 (by omega))
        have W1 := isZ_put5 R9 ⟨zz, zz, zz, zz, zz⟩ ⟨HF9.sl 0, HF9.sl 1, HF9.sl 2, HF9.sl 3, HF9.sl 4⟩ (HF9.zon 1 (by omega))
        have W2 := isZ_put5 R9 ⟨zz, zz, zz, zz, zz⟩ ⟨HF9.sl 0, HF9.sl 1, HF9.sl 2, HF9.sl 3, HF9.sl 4⟩ (HF9.zon 2 (by omega))
        have W3 := isZ_put5 R9 ⟨zz, zz, zz, zz, zz⟩ ⟨HF9.sl 0, HF9.sl 1, HF9.sl 2, HF9.sl 3, HF9.sl 4⟩ (HF9.zon 3 (by omega))
        have W4 := isZ_put5 R9 ⟨zz, zz, zz, zz, zz⟩ ⟨HF9.sl 0, HF9.sl 1, HF9.sl 2, HF9.sl 3, HF9.sl 4⟩ (HF9.zon 4 (by omega))
        rw [h0, h1, h2, h3, h4] at W0 W1 W2 W3 W4
        rw [h0] at o0
        rw [h1] at o1
        rw [h2] at o2
        rw [h3] at o3
        rw [h4] at o4
        have HWW := Lib.hid (And.intro W0 (And.intro W1 (And.intro W2 (And.intro W3 W4))))
        have Y := put5_at (v0 := .slice s0 k0 d0) (v1 := .slice s1 k1 d1) (v2 := .slice s2 k2 d2) (v3 := .slice s3 k3 d3) (v4 := .slice s4 k4 d4) R9
        have HY := Lib.hid Y
        have HBZ := Lib.hid (HB5.out.trans (HBq.out.mono HB5.out.size))
        clear W0 W1 W2 W3 W4 HF9 h0 h1 h2 h3 h4 Y R9 zz HF
        go_wp2
        have Y0 := HY.out.cell 0; have Y1 := HY.out.cell 1; have Y2 := HY.out.cell 2; have Y3 := HY.out.cell 3; have Y4 := HY.out.cell 4
        unfold put5 at Y0 Y1 Y2 Y3 Y4
        simp at Y0 Y1 Y2 Y3 Y4
        refine bodyPost_ret (v := .tuple #[.agg #[.slice s0 k0 d0, .slice s1 k1 d1, .slice s2 k2 d2, .slice s3 k3 d3, .slice s4 k4 d4], .int .i64 0]) ?_ rfl (.inl ⟨HIN.out, _, _, _, _, _, rfl, HWW.out, put5_below HBZ.out (R := w.heap.size + 1) (by omega) _ _ _ _ _⟩)
        simp [results, Tryz.results10, go_sem, Y0, Y1, Y2, Y3, Y4]
  · have kT' := kT.mono fun e w' h => (h.resolve_left fun h => hin ((inAll_one _ _).1 h.1)).2
    have HIN := Lib.hid hin
    rw [← hw2] at kT'
    rw [hw2] at kT'
    clear kT hin
    go_enter Tryz.func10, Tryz.ntmps10
    go_upto_region 1 with (fail)
    rw [← hw1]
    clear hw1
    go_upto_region 3 with (go_at_call 30; refine kT'.mono ?_; rw [← hw2]; rintro e w5 ⟨rfl, b5⟩)
    have R5 := HR1.out.belows (HB12.out.trans (b5.mono HB12.out.size))
    have HB5 := Lib.hid (HB2.out.trans (b5.mono HB2.out.size))
    clear hw2 b5 x0 x1 x2
    have r0 : w5.cell? ⟨w.heap.size + 1, 0, none⟩ = some (.slice none 0 0) := (R5.cell 0).trans rfl
    have r1 : w5.cell? ⟨w.heap.size + 1, 1, none⟩ = some (.slice none 0 0) := (R5.cell 1).trans rfl
    have r2 : w5.cell? ⟨w.heap.size + 1, 2, none⟩ = some (.slice none 0 0) := (R5.cell 2).trans rfl
    have r3 : w5.cell? ⟨w.heap.size + 1, 3, none⟩ = some (.slice none 0 0) := (R5.cell 3).trans rfl
    have r4 : w5.cell? ⟨w.heap.size + 1, 4, none⟩ = some (.slice none 0 0) := (R5.cell 4).trans rfl
    have f0 : w5.frozen? ⟨w.heap.size + 1, 0, none⟩ = false := R5.frozen 0
    have f1 : w5.frozen? ⟨w.heap.size + 1, 1, none⟩ = false := R5.frozen 1
    have f2 : w5.frozen? ⟨w.heap.size + 1, 2, none⟩ = false := R5.frozen 2
    have f3 : w5.frozen? ⟨w.heap.size + 1, 3, none⟩ = false := R5.frozen 3
    have f4 : w5.frozen? ⟨w.heap.size + 1, 4, none⟩ = false := R5.frozen 4
    have Y := put5_at (v0 := .slice none 0 0) (v1 := .slice none 0 0) (v2 := .slice none 0 0) (v3 := .slice none 0 0) (v4 := .slice none 0 0) R5
    have HY := Lib.hid Y
    clear Y R5
    go_wp2
    have Y0 := HY.out.cell 0; have Y1 := HY.out.cell 1; have Y2 := HY.out.cell 2; have Y3 := HY.out.cell 3; have Y4 := HY.out.cell 4
    unfold put5 at Y0 Y1 Y2 Y3 Y4
    simp at Y0 Y1 Y2 Y3 Y4
    have hz : ∀ u, Tr.IsZ u (.slice none 0 0) [] := fun u => ⟨none, 0, rfl, Nat.le_refl _, by decide, Tr.Zs.nil _ _⟩
    refine bodyPost_ret (v := .tuple #[.agg #[.slice none 0 0, .slice none 0 0, .slice none 0 0, .slice none 0 0, .slice none 0 0], .int .i64 91]) ?_ rfl (.inr ⟨HIN.out, _, _, _, _, _, rfl, ⟨hz _, hz _, hz _, hz _, hz _⟩, put5_below HB5.out (R := w.heap.size + 1) (by omega) _ _ _ _ _⟩)
    simp [results, Tryz.results10, go_sem, Y0, Y1, Y2, Y3, Y4]
end Go.Proofs.YteboadppighplaaGreat
/- The program's calls (stage 11). -/
namespace Go.Proofs.YteboadppighplaaGreat
open Go.RowKit Go.Shelf

theorem rgL_ok {L : List Ru} (h : allB L = true) (hw : ∀ r ∈ L, r.wf) : (∀ r ∈ rgL L, r.1 ≤ r.2) ∧ (rgL L).length ≤ 40 := by
  refine ⟨fun r hr => ((rgL_RL h hw).1 r hr).1, ?_⟩
  have := ((allB_pw L).1 h).1
  unfold rgL
  rw [List.length_map]
  exact this
theorem rgN_one (n : Nt) : rgN [n] = rgL n.L := by simp [rgN]
theorem rgN_two (n m : Nt) : rgN [n, m] = rgL n.L ++ rgL m.L := by simp [rgN]
theorem cutA_one {n : Nt} (hR : RN n.ps n.ls n.L) (hW : NW n.ps n.ls n.L) : cutA [n] = cutZ (rgL n.L) 0 4294967295 := by
  obtain ⟨h1, h2⟩ := rgL_ok hR.rules hW.rules
  unfold cutA
  rw [rgN_one]
  exact cut_right (Nat.zero_le _) (by decide) h1 (by omega)
theorem two_ok {n m : Nt} (hR : RN n.ps n.ls n.L) (hW : NW n.ps n.ls n.L) (hR2 : RN m.ps m.ls m.L) (hW2 : NW m.ps m.ls m.L) : (∀ r ∈ rgL n.L ++ rgL m.L, r.1 ≤ r.2) ∧ (rgL n.L ++ rgL m.L).length ≤ 499 := by
  obtain ⟨h1, h2⟩ := rgL_ok hR.rules hW.rules
  obtain ⟨h3, h4⟩ := rgL_ok hR2.rules hW2.rules
  refine ⟨fun r hr => ?_, by rw [List.length_append]; omega⟩
  rcases List.mem_append.1 hr with hr | hr
  · exact h1 r hr
  · exact h3 r hr
theorem cutA_two {n m : Nt} (hR : RN n.ps n.ls n.L) (hW : NW n.ps n.ls n.L) (hR2 : RN m.ps m.ls m.L) (hW2 : NW m.ps m.ls m.L) : cutA [n, m] = cutZ (rgL n.L ++ rgL m.L) 0 4294967295 := by
  obtain ⟨h1, h2⟩ := two_ok hR hW hR2 hW2
  unfold cutA
  rw [rgN_two]
  exact cut_right (Nat.zero_le _) (by decide) h1 h2
/-- What is picked of the parts is the zone of those of whom it holds. -/
theorem doc_pick {p : Nat → Bool} {R : List (Nat × Nat)} (hp : ∀ c a, c ≤ a → Near R c a → p a = p c) : Zo.docOf ((cutZ R 0 4294967295).filter fun r => p r.1) = pickZ p R := by
  obtain ⟨h1, h2⟩ := Zo.docOf_zn ((cutZ R 0 4294967295).filter fun r => p r.1)
  obtain ⟨k1, k2⟩ := pickZ_is hp
  exact zn_eq h1 k1 fun a ha => by rw [h2 a ha, k2 a ha]; exact pick_has hp ha
theorem isZ_sl {w : World} {v : Value} {L : List (Nat × Nat)} (h : Tr.IsZ w v L) : SlV v := slV_of h
theorem BtwOut.any {n : Nt} {a b : Int} {pp : Nat → Bool} {w w' : World} {e : Ending} (h : BtwOut n a b pp w e w') : ZnAny w e w' := by
  rcases h with ⟨_, v, rfl, z, b⟩ | ⟨_, rfl, b⟩
  · exact ⟨_, _, rfl, slV_of z, b⟩
  · exact ⟨_, _, rfl, ⟨_, _, _, rfl⟩, b⟩
theorem isZ_none (w : World) : Tr.IsZ w (.slice none 0 0) [] := ⟨none, 0, rfl, Nat.le_refl _, by decide, Tr.Zs.nil _ _⟩
theorem BtwOut.right {n : Nt} {a b : Int} {pp : Nat → Bool} {w w' : World} {e : Ending} (hR : RN n.ps n.ls n.L) (hW : NW n.ps n.ls n.L) {q : Nat → Bool} (hq : ∀ c x, c ≤ x → Near (rgL n.L) c x → q x = q c) (hpq : inD n.ps a → pp = q) (h : BtwOut n a b pp w e w') : ZnOut (if inD n.ps a ∧ inD n.ps b then pickZ q (rgL n.L) else []) (errIn (inD n.ps a ∧ inD n.ps b)) w e w' := by
  rcases h with ⟨hin, v, rfl, z, bb⟩ | ⟨hin, rfl, bb⟩
  · refine ⟨v, by rw [show errIn (inD n.ps a ∧ inD n.ps b) = 0 from if_pos hin], ?_, bb⟩
    rw [if_pos hin, ← doc_pick hq, ← cutA_one hR hW, ← hpq hin.1]
    exact z
  · refine ⟨_, by rw [show errIn (inD n.ps a ∧ inD n.ps b) = 91 from if_neg hin], ?_, bb⟩
    rw [if_neg hin]
    exact isZ_none _
theorem difP_of {ps : List Int} {ls : List Lk} {L : List Ru} {qs : List Int} {ms : List Lk} {M : List Ru} {d : Int} (hR : RN ps ls L) (hR2 : RN qs ms M) (h1 : inD ps d) (h2 : inD qs d) : (fun f => !decide (trcA ps ls L f d = trcA qs ms M f d)) = difP ps ls L qs ms M d := funext fun f => by
  unfold difP
  rw [trcA_right hR.topo L f h1, trcA_right hR2.topo M f h2]
theorem ownCalls11 : Own11 where
  fates := fun {vp vl vr} ps ls L a w hR hW _ h => (fates11_out ps ls L a w hW h).mono fun e w' k => by
    rcases k with ⟨hin, k⟩ | ⟨hin, k⟩
    · dsimp only at hin
      obtain ⟨v0, v1, v2, v3, v4, rfl, ⟨z0, z1, z2, z3, z4⟩, bb⟩ := k
      have key : ∀ k : Nat, Zo.docOf ((cutA [⟨vp, vl, vr, ps, ls, L⟩]).filter fun r => decide ((trN a r.1 ⟨vp, vl, vr, ps, ls, L⟩).ft = (k : Int))) = fatZ ps ls L a (k : Nat) := fun k => by
        rw [cutA_one (n := ⟨vp, vl, vr, ps, ls, L⟩) hR hW, show (fun r : Nat × Nat => decide ((trN a r.1 ⟨vp, vl, vr, ps, ls, L⟩).ft = (k : Int))) = fun r => fateP ps ls L a (k : Nat) r.1 from funext fun r => by
          unfold fateP
          show decide ((trcA ps ls L r.1 a).ft = (k : Int)) = _
          rw [trcA_right hR.topo L r.1 hin]]
        rw [doc_pick fateP_near]
        unfold fatZ
        rw [if_pos hin]
      refine ⟨v0, v1, v2, v3, v4, by rw [show errIn (inD ps a) = 0 from if_pos hin], ⟨?_, ?_, ?_, ?_, ?_⟩, bb⟩
      · show Tr.IsZ w' v0 (fatZ ps ls L a ((0 : Nat) : Nat)); rw [← key 0]; exact z0
      · show Tr.IsZ w' v1 (fatZ ps ls L a ((1 : Nat) : Nat)); rw [← key 1]; exact z1
      · show Tr.IsZ w' v2 (fatZ ps ls L a ((2 : Nat) : Nat)); rw [← key 2]; exact z2
      · show Tr.IsZ w' v3 (fatZ ps ls L a ((3 : Nat) : Nat)); rw [← key 3]; exact z3
      · show Tr.IsZ w' v4 (fatZ ps ls L a ((4 : Nat) : Nat)); rw [← key 4]; exact z4
    · dsimp only at hin
      obtain ⟨v0, v1, v2, v3, v4, rfl, ⟨z0, z1, z2, z3, z4⟩, bb⟩ := k
      have key : ∀ k : Nat, fatZ ps ls L a (k : Nat) = [] := fun k => by unfold fatZ; rw [if_neg hin]
      refine ⟨v0, v1, v2, v3, v4, by rw [show errIn (inD ps a) = 91 from if_neg hin], ⟨?_, ?_, ?_, ?_, ?_⟩, bb⟩
      · show Tr.IsZ w' v0 (fatZ ps ls L a ((0 : Nat) : Nat)); rw [key 0]; exact z0
      · show Tr.IsZ w' v1 (fatZ ps ls L a ((1 : Nat) : Nat)); rw [key 1]; exact z1
      · show Tr.IsZ w' v2 (fatZ ps ls L a ((2 : Nat) : Nat)); rw [key 2]; exact z2
      · show Tr.IsZ w' v3 (fatZ ps ls L a ((3 : Nat) : Nat)); rw [key 3]; exact z3
      · show Tr.IsZ w' v4 (fatZ ps ls L a ((4 : Nat) : Nat)); rw [key 4]; exact z4
  fatesAny := fun ps ls L a w hW _ h => (fates11_out ps ls L a w hW h).mono fun e w' k => by
    rcases k with ⟨_, v0, v1, v2, v3, v4, rfl, ⟨z0, z1, z2, z3, z4⟩, bb⟩ | ⟨_, v0, v1, v2, v3, v4, rfl, ⟨z0, z1, z2, z3, z4⟩, bb⟩
    · exact ⟨v0, v1, v2, v3, v4, _, rfl, ⟨slV_of z0, slV_of z1, slV_of z2, slV_of z3, slV_of z4⟩, bb⟩
    · exact ⟨v0, v1, v2, v3, v4, _, rfl, ⟨slV_of z0, slV_of z1, slV_of z2, slV_of z3, slV_of z4⟩, bb⟩
  visits := fun {vp vl vr} ps ls L a b w hR hW _ _ h => (visits11_out ps ls L a b w hW h).mono fun e w' k => BtwOut.right (n := ⟨vp, vl, vr, ps, ls, L⟩) hR hW (visP_near (ps := ps) (ls := ls) (d := a) (b := b)) (fun hin => funext fun f => by unfold visP; rw [trcA_right hR.topo L f hin]) k
  visitsAny := fun ps ls L a b w hW _ _ h => (visits11_out ps ls L a b w hW h).mono fun e w' k => k.any
  delivers := fun {vp vl vr} ps ls L a b w hR hW _ _ h => (delivers11_out ps ls L a b w hW h).mono fun e w' k => BtwOut.right (n := ⟨vp, vl, vr, ps, ls, L⟩) hR hW (delP_near (ps := ps) (ls := ls) (d := a) (b := b)) (fun hin => funext fun f => by unfold delP; rw [trcA_right hR.topo L f hin]) k
  deliversAny := fun ps ls L a b w hW _ _ h => (delivers11_out ps ls L a b w hW h).mono fun e w' k => k.any
  differs := fun {vp vl vr up ul ur} ps ls L qs ms M d w hR hW hR2 hW2 _ h h2 => (differs11_out ps ls L qs ms M d w hW hW2 h h2).mono fun e w' k => by
    rcases k with ⟨hin, v, rfl, z, bb⟩ | ⟨hin, rfl, bb⟩
    · dsimp only at hin
      refine ⟨v, by rw [show errIn (inD ps d ∧ inD qs d) = 0 from if_pos hin], ?_, bb⟩
      unfold difZ
      rw [if_pos hin, ← doc_pick difP_near, ← cutA_two (n := ⟨vp, vl, vr, ps, ls, L⟩) (m := ⟨up, ul, ur, qs, ms, M⟩) hR hW hR2 hW2, ← difP_of hR hR2 hin.1 hin.2]
      exact z
    · dsimp only at hin
      refine ⟨_, by rw [show errIn (inD ps d ∧ inD qs d) = 91 from if_neg hin], ?_, bb⟩
      unfold difZ
      rw [if_neg hin]
      exact isZ_none _
  cut := fun n m f t w hR hW hR2 hW2 hf ht h => (cut11_any [n, m] f t w hf ht (by simp) (fun k hk => by
      rcases List.mem_cons.1 hk with e | hk
      · subst e; exact hW.rules
      · simp at hk; subst hk; exact hW2.rules) h).mono fun e w' k => by
    obtain ⟨v, rfl, z, bb⟩ := k
    refine ⟨v, rfl, ?_, bb⟩
    by_cases hft : f ≤ t
    · rw [if_pos hft] at z ⊢
      obtain ⟨h1, h2⟩ := two_ok hR hW hR2 hW2
      rw [rgN_two] at z ⊢
      rwa [cut_right hft ht h1 h2] at z
    · rw [if_neg hft] at z ⊢
      exact z
  cutAny := fun n m f t w hW hW2 hf ht h => (cut11_any [n, m] f t w hf ht (by simp) (fun k hk => by
      rcases List.mem_cons.1 hk with e | hk
      · subst e; exact hW.rules
      · simp at hk; subst hk; exact hW2.rules) h).mono fun e w' k => by
    obtain ⟨v, rfl, z, bb⟩ := k
    exact ⟨v, _, rfl, slV_of z, bb⟩
end Go.Proofs.YteboadppighplaaGreat
/- Arguments: a topology, a port, rules, arrays of two and three: what lies in memory, element by element. -/
namespace Go.Proofs.YteboadppighplaaGreat
open Go.ChangeShapes Go.WideShapes Go.ChangeAt Go.RowKit

theorem addr_block (a : Addr) (n : Nat) : (a.add n).block = a.block := by unfold Addr.add; split <;> rfl
theorem addr_add (a : Addr) (i j : Nat) : (a.add i).add j = a.add (i + j) := by
  unfold Addr.add
  by_cases hi : i = 0 <;> by_cases hj : j = 0 <;> simp [hi, hj, Nat.add_assoc]
theorem list_of_fun {α : Type} [Inhabited α] (n : Nat) (p : Nat → α → Prop) (h : ∀ i, i < n → ∃ x, p i x) : ∃ l : List α, l.length = n ∧ ∀ i x, l[i]? = some x → p i x := by
  induction n with
  | zero => exact ⟨[], rfl, by simp⟩
  | succ n ih =>
    obtain ⟨l, hl, hp⟩ := ih (fun i hi => h i (by omega))
    obtain ⟨x, hx⟩ := h n (by omega)
    refine ⟨l ++ [x], by simp [hl], fun i y hy => ?_⟩
    rw [List.getElem?_append] at hy
    split at hy
    · exact hp i y hy
    · rename_i hge
      have : i = n := by
        rcases Nat.lt_or_ge (i - l.length) 1 with h1 | h1
        · omega
        · rw [List.getElem?_eq_none (by simpa using h1)] at hy; cases hy
      subst this
      rw [hl] at hy
      simp at hy
      subst hy
      exact hx
theorem u32_wf {a : Int} (h : (Lit.int .u32 a).wf = true) : ∃ n : Nat, a = n ∧ n < 4294967296 := by
  simp [Lit.wf, IntKind.min, IntKind.max, IntKind.signed, IntKind.bits] at h
  exact ⟨a.toNat, by omega, by omega⟩
theorem i64_wf {a : Int} (h : (Lit.int .i64 a).wf = true) : isI a := by
  simp [Lit.wf, IntKind.min, IntKind.max, IntKind.signed, IntKind.bits] at h
  unfold isI; omega
section
variable {H : Type} {enc : TypeId × Value → H} {P : Program} {w : World}
/-- Of a slice: each element's cells and its own reading. -/
theorem slice_elems {t e : TypeId} {C : Nat} {v : Value} {d : DataW H} {p : List MemPlace} (ht : P.underlying t = some (.slice e)) (hC : P.cellsOf e = C) (_ : 0 < C) (h : DataW.Trod enc P w 0 (fun _ => true) true t v d p) (hv : ∃ A n c, v = .slice A n c) :
    ∃ A n c, v = .slice A n c ∧ n ≤ c ∧ c ≤ maxLen ∧ (n = 0 ∨ ∃ a : Addr, A = some a ∧ ∀ i, i < n → ∃ (cs : List Value) (m : Nat) (y : DataW H × List MemPlace), cs.length = C ∧ (∀ j, j < C → w.cell? (a.add (i * C + j)) = cs[j]?) ∧ DataW.trod enc P w 0 (fun _ => true) true m e cs = some y) := by
  obtain ⟨A, n, c, rfl⟩ := hv
  obtain ⟨fuel, hf⟩ := h
  rcases Deep.open_slice ht hf with ⟨hcs, _⟩ | ⟨a, len, cap, m, k, D, Pl, hcs, _, hl, hm, hmm, hx, hi⟩
  · simp [Value.cells] at hcs
    obtain ⟨rfl, rfl, rfl⟩ := hcs
    exact ⟨none, 0, 0, rfl, Nat.le_refl _, by simp, .inl rfl⟩
  · simp [Value.cells] at hcs
    obtain ⟨rfl, rfl, rfl⟩ := hcs
    simp at hmm
    subst hmm
    refine ⟨_, n, m, rfl, hl, hm, .inr ⟨a, rfl, fun i hin => ?_⟩⟩
    obtain ⟨cs, hc, ht'⟩ := hi i (by omega)
    rw [hC] at hc
    obtain ⟨_, hcl, hat⟩ := World.cells?_some hc
    exact ⟨cs, _, _, by omega, fun j hj => by rw [← addr_add]; exact hat j hj, ht'⟩
end
section
variable {H : Type} {enc : TypeId × Value → H} {P : Program} {w : World} {α : Type} [Inhabited α] {f : α → Array Value}
/-- Of a slice that is a field: each element's cells and its own reading. -/
theorem slice_elems1 {t e : TypeId} {C m : Nat} {v : Value} {y : DataW H × List MemPlace} (ht : P.underlying t = some (.slice e)) (hC : P.cellsOf e = C) (h : DataW.trod enc P w 0 (fun _ => true) true m t [v] = some y) :
    ∃ A n c, v = .slice A n c ∧ n ≤ c ∧ c ≤ maxLen ∧ (n = 0 ∨ ∃ a : Addr, A = some a ∧ ∀ i, i < n → ∃ (cs : List Value) (m : Nat) (y : DataW H × List MemPlace), cs.length = C ∧ (∀ j, j < C → w.cell? (a.add (i * C + j)) = cs[j]?) ∧ DataW.trod enc P w 0 (fun _ => true) true m e cs = some y) := by
  rcases Deep.open_slice ht h with ⟨hcs, _⟩ | ⟨a, len, cap, m, k, D, Pl, hcs, _, hl, hm, hmm, hx, hi⟩
  · injection hcs with hcs
    subst hcs
    exact ⟨none, 0, 0, rfl, Nat.le_refl _, by simp, .inl rfl⟩
  · injection hcs with hcs
    subst hcs
    simp at hmm
    subst hmm
    refine ⟨_, len, _, rfl, hl, hm, .inr ⟨a, rfl, fun i hin => ?_⟩⟩
    obtain ⟨cs, hc, ht'⟩ := hi i (by omega)
    rw [hC] at hc
    obtain ⟨_, hcl, hat⟩ := World.cells?_some hc
    exact ⟨cs, _, _, by omega, fun j hj => by rw [← addr_add]; exact hat j hj, ht'⟩
/-- Such a slice reads as a list. -/
theorem open_vec {Q : α → Prop} {t e : TypeId} {n m : Nat} {v : Value} {y : DataW H × List MemPlace} (hf : ∀ x, (f x).size = n) (hn : 0 < n) (ht : P.underlying t = some (.slice e)) (hC : P.cellsOf e = n)
    (hr : ∀ (m : Nat) (cs : List Value) (y : DataW H × List MemPlace), DataW.trod enc P w 0 (fun _ => true) true m e cs = some y → cs.length = n → ∃ x, Q x ∧ cs = (f x).toList)
    (h : DataW.trod enc P w 0 (fun _ => true) true m t [v] = some y) : ∃ L : List α, IsF n f w v L ∧ ∀ x ∈ L, Q x := by
  obtain ⟨A, k, c, rfl, hnc, hcm, hh⟩ := slice_elems1 ht hC h
  rcases hh with rfl | ⟨a, rfl, hc⟩
  · exact ⟨[], ⟨A, c, rfl, hnc, hcm, fun h => absurd h (by simp)⟩, by simp⟩
  · obtain ⟨l, hl, hp⟩ := list_of_fun k (fun i (x : α) => Q x ∧ ∀ j, j < n → w.cell? (a.add (i * n + j)) = (f x)[j]?) (fun i hi => by
      obtain ⟨cs, m, y, hlen, hat, hy⟩ := hc i hi
      obtain ⟨r, hq, rfl⟩ := hr m cs y hy hlen
      exact ⟨r, hq, fun j hj => by rw [hat j hj]; simp⟩)
    subst hl
    refine ⟨l, ⟨_, c, rfl, hnc, hcm, fun h0 => ?_⟩, fun x hx => by obtain ⟨k, hk, rfl⟩ := List.getElem_of_mem hx; exact (hp k _ (List.getElem?_eq_getElem hk)).1⟩
    have f0 := (hp 0 _ (List.getElem?_eq_getElem h0)).2 0 hn
    have hs : 0 < (f l[0]).size := by rw [hf]; exact hn
    rw [Array.getElem?_eq_getElem hs] at f0
    have hB := World.block_lt_of_cell? w _ f0
    rw [addr_block] at hB
    have hsp : a.spot = none := by
      cases hs : a.spot with
      | none => rfl
      | some s =>
        rw [show a.add (0 * n + 0) = a by simp [Addr.add]] at f0
        unfold World.cell? at f0
        rw [hs] at f0
        split at f0 <;> simp at f0
    obtain ⟨b, o, sp⟩ := a
    obtain rfl : sp = none := hsp
    refine ⟨b, o, rfl, hB, fun k hk j hj => ?_⟩
    have f1 := (hp k _ (List.getElem?_eq_getElem hk)).2 j hj
    rw [addr_off, ← Nat.add_assoc] at f1
    exact f1
end
theorem cells3 : Tryz.prog.cellsOf 3 = 1 := by kernel_rfl
theorem cellsKind : Tryz.prog.cellsOf 103 = 1 := by kernel_rfl
theorem cellsU32 : Tryz.prog.cellsOf 41 = 1 := by kernel_rfl
theorem cellsRange : Tryz.prog.cellsOf 43 = 2 := by kernel_rfl
theorem cellsRule : Tryz.prog.cellsOf 105 = 7 := by kernel_rfl
theorem cellsPort : Tryz.prog.cellsOf 55 = 2 := by kernel_rfl
theorem cellsLink : Tryz.prog.cellsOf 102 = 4 := by kernel_rfl
theorem cellsTwo : Tryz.prog.cellsOf 53 = 2 := by kernel_rfl
instance : Inhabited Pt := ⟨⟨0, 0⟩⟩
instance : Inhabited Lk := ⟨⟨⟨0, 0⟩, ⟨0, 0⟩⟩⟩
section
variable {H : Type} {enc : TypeId × Value → H} {W : World} {base : Nat} {spare : Nat → Bool} {held : Bool}
set_option maxRecDepth 100000 in
/-- A rule, by its cells. -/
theorem trod_rule {m : Nat} {cs : List Value} {y : DataW H × List MemPlace} (h : DataW.trod enc Tryz.prog W base spare held m 105 cs = some y) : ∃ r : Ru, r.wf ∧ cs = (ruA r).toList := by
  obtain ⟨xs, n, _, _, hl, hxl, hf⟩ := DataW.trod_struct Tryz.underlying105 h
  rw [cellsRule] at hl
  have g : ∀ i, i < 6 → ∃ x, xs[i]? = some x := fun i hi => ⟨xs[i]'(by rw [hxl]; exact hi), List.getElem?_eq_getElem _⟩
  obtain ⟨x0, g0⟩ := g 0 (by decide)
  obtain ⟨x1, g1⟩ := g 1 (by decide)
  obtain ⟨x2, g2⟩ := g 2 (by decide)
  obtain ⟨x3, g3⟩ := g 3 (by decide)
  obtain ⟨x4, g4⟩ := g 4 (by decide)
  obtain ⟨x5, g5⟩ := g 5 (by decide)
  have h0 : DataW.trod enc Tryz.prog W base spare held n 3 ((cs.drop 0).take (Tryz.prog.cellsOf 3)) = some x0 := (hf 0 _ rfl).trans g0
  have h1 : DataW.trod enc Tryz.prog W base spare held n 3 ((cs.drop 1).take (Tryz.prog.cellsOf 3)) = some x1 := (hf 1 _ rfl).trans g1
  have h2 : DataW.trod enc Tryz.prog W base spare held n 3 ((cs.drop 2).take (Tryz.prog.cellsOf 3)) = some x2 := (hf 2 _ rfl).trans g2
  have h3 : DataW.trod enc Tryz.prog W base spare held n 103 ((cs.drop 3).take (Tryz.prog.cellsOf 103)) = some x3 := (hf 3 _ rfl).trans g3
  have h4 : DataW.trod enc Tryz.prog W base spare held n 43 ((cs.drop 4).take (Tryz.prog.cellsOf 43)) = some x4 := (hf 4 _ rfl).trans g4
  have h5 : DataW.trod enc Tryz.prog W base spare held n 3 ((cs.drop 6).take (Tryz.prog.cellsOf 3)) = some x5 := (hf 5 _ rfl).trans g5
  match cs, hl with
  | [c0, c1, c2, c3, c4, c5, c6], _ =>
    simp only [cells3, cellsKind, cellsRange, List.drop_zero, List.take_succ_cons, List.take_zero, List.drop_succ_cons] at h0 h1 h2 h3 h4 h5
    obtain ⟨y2, y3, m2, _, _, h6, h7⟩ := trod_struct2 Tryz.underlying43 h4
    simp only [cellsU32, List.drop_zero, List.take_succ_cons, List.take_zero, List.drop_succ_cons] at h6 h7
    obtain ⟨z0, q0, _, w0⟩ := DataW.trod_int Tryz.underlying3 h0
    obtain ⟨z1, q1, _, w1⟩ := DataW.trod_int Tryz.underlying3 h1
    obtain ⟨z2, q2, _, w2⟩ := DataW.trod_int Tryz.underlying3 h2
    obtain ⟨z3, q3, _, w3⟩ := DataW.trod_int Tryz.underlying103 h3
    obtain ⟨z4, q4, _, w4⟩ := DataW.trod_int Tryz.underlying41 h6
    obtain ⟨z5, q5, _, w5⟩ := DataW.trod_int Tryz.underlying41 h7
    obtain ⟨z6, q6, _, w6⟩ := DataW.trod_int Tryz.underlying3 h5
    injection q0 with q0; injection q1 with q1; injection q2 with q2; injection q3 with q3; injection q4 with q4; injection q5 with q5; injection q6 with q6
    subst q0 q1 q2 q3 q4 q5 q6
    obtain ⟨n4, rfl, b4⟩ := u32_wf w4
    obtain ⟨n5, rfl, b5⟩ := u32_wf w5
    exact ⟨⟨z0, z1, z2, z3, n4, n5, z6⟩, ⟨i64_wf w0, i64_wf w1, i64_wf w2, i64_wf w3, b4, b5, i64_wf w6⟩, rfl⟩
set_option maxRecDepth 100000 in
/-- An argument that is a rule. -/
theorem open_rule {r : Reach} {b0 : Nat} {v : Value} {d : DataW H} {p : List MemPlace} (hv : Value.okWide Tryz.prog W r b0 105 v) (h : DataW.Trod enc Tryz.prog W base spare held 105 v d p) : ∃ x : Ru, v = .agg (ruA x) ∧ x.wf := by
  obtain ⟨cs, rfl, hsz⟩ := okWide_struct Tryz.underlying105 hv
  obtain ⟨fuel, hf⟩ := h
  obtain ⟨x, hw, e⟩ := trod_rule hf
  refine ⟨x, ?_, hw⟩
  have e' : cs.toList = (ruA x).toList := by simpa [Value.cells] using e
  rw [Array.toList_inj.1 e']
set_option maxRecDepth 100000 in
/-- An argument that is a slice of rules. -/
theorem open_rules {v : Value} {d : DataW H} {p : List MemPlace} (h : DataW.Trod enc Tryz.prog W 0 (fun _ => true) true 26 v d p) (hv : ∃ A n c, v = .slice A n c) :
    ∃ L : List Ru, IsR W v L ∧ ∀ r ∈ L, r.wf := by
  obtain ⟨A, n, c, rfl, hnc, hcm, hr⟩ := slice_elems Tryz.underlying26 cellsRule (by decide) h hv
  rcases hr with rfl | ⟨a, rfl, hc⟩
  · exact ⟨[], ⟨A, c, rfl, hnc, hcm, Rs.nil _ _⟩, fun r hr => by simp at hr⟩
  · obtain ⟨l, hl, hp⟩ := list_of_fun n (fun i (x : Ru) => (∀ j, j < 7 → W.cell? (a.add (i * 7 + j)) = (ruA x)[j]?) ∧ x.wf) (fun i hi => by
      obtain ⟨cs, m, y, hlen, hat, hy⟩ := hc i hi
      obtain ⟨r, hw, rfl⟩ := trod_rule hy
      exact ⟨r, fun j hj => by rw [hat j hj]; simp, hw⟩)
    subst hl
    refine ⟨l, ⟨_, c, rfl, hnc, hcm, fun h0 => ?_⟩, fun r hr => ?_⟩
    · have f0 := (hp 0 _ (List.getElem?_eq_getElem h0)).1 0 (by decide)
      have f0' : W.cell? (a.add (0 * 7 + 0)) = some (.int .i64 l[0].id) := f0
      have hB := World.block_lt_of_cell? W _ f0'
      rw [addr_block] at hB
      have hsp : a.spot = none := by
        cases hs : a.spot with
        | none => rfl
        | some s =>
          rw [show a.add (0 * 7 + 0) = a by simp [Addr.add]] at f0'
          unfold World.cell? at f0'
          rw [hs] at f0'
          split at f0' <;> simp at f0'
      obtain ⟨b, o, sp⟩ := a
      obtain rfl : sp = none := hsp
      refine ⟨b, o, rfl, hB, fun k hk j hj => ?_⟩
      have f1 := (hp k _ (List.getElem?_eq_getElem hk)).1 j hj
      rw [addr_off, ← Nat.add_assoc] at f1
      exact f1
    · obtain ⟨k, hk, rfl⟩ := List.getElem_of_mem hr
      exact (hp k _ (List.getElem?_eq_getElem hk)).2
/-- A number, by its cell. -/
theorem trod_num {m : Nat} {cs : List Value} {y : DataW H × List MemPlace} (h : DataW.trod enc Tryz.prog W base spare held m 3 cs = some y) (hl : cs.length = 1) : ∃ x : Int, isI x ∧ cs = (intA x).toList := by
  match cs, hl with
  | [c0], _ =>
    obtain ⟨z0, q0, _, w0⟩ := DataW.trod_int Tryz.underlying3 h
    injection q0 with q0
    subst q0
    exact ⟨z0, i64_wf w0, rfl⟩
set_option maxRecDepth 100000 in
/-- A port, by its cells. -/
theorem trod_port {m : Nat} {cs : List Value} {y : DataW H × List MemPlace} (h : DataW.trod enc Tryz.prog W base spare held m 55 cs = some y) (hl : cs.length = 2) : ∃ p : Pt, isPt p ∧ cs = (ptA p).toList := by
  match cs, hl with
  | [c0, c1], _ =>
    obtain ⟨y2, y3, m2, _, _, h6, h7⟩ := trod_struct2 Tryz.underlying55 h
    simp only [cells3, List.drop_zero, List.take_succ_cons, List.take_zero, List.drop_succ_cons] at h6 h7
    obtain ⟨z0, q0, _, w0⟩ := DataW.trod_int Tryz.underlying3 h6
    obtain ⟨z1, q1, _, w1⟩ := DataW.trod_int Tryz.underlying3 h7
    injection q0 with q0; injection q1 with q1
    subst q0 q1
    exact ⟨⟨z0, z1⟩, ⟨i64_wf w0, i64_wf w1⟩, rfl⟩
set_option maxRecDepth 100000 in
/-- A link, by its cells. -/
theorem trod_link {m : Nat} {cs : List Value} {y : DataW H × List MemPlace} (h : DataW.trod enc Tryz.prog W base spare held m 102 cs = some y) (hl : cs.length = 4) : ∃ l : Lk, (isPt l.a ∧ isPt l.b) ∧ cs = (lkA l).toList := by
  match cs, hl with
  | [c0, c1, c2, c3], _ =>
    obtain ⟨y2, y3, m2, _, _, h6, h7⟩ := trod_struct2 Tryz.underlying102 h
    simp only [cellsPort, List.drop_zero, List.take_succ_cons, List.take_zero, List.drop_succ_cons] at h6 h7
    obtain ⟨p, hp, e0⟩ := trod_port h6 rfl
    obtain ⟨q, hq, e1⟩ := trod_port h7 rfl
    injection e0 with e0 e2
    injection e2 with e2
    injection e1 with e1 e3
    injection e3 with e3
    subst e0 e1 e2 e3
    exact ⟨⟨p, q⟩, ⟨hp, hq⟩, rfl⟩
set_option maxRecDepth 100000 in
/-- An argument that is a port. -/
theorem open_port {r : Reach} {b0 : Nat} {v : Value} {d : DataW H} {p : List MemPlace} (hv : Value.okWide Tryz.prog W r b0 55 v) (h : DataW.Trod enc Tryz.prog W base spare held 55 v d p) : ∃ x : Pt, v = .agg (ptA x) ∧ isPt x := by
  obtain ⟨cs, rfl, hsz⟩ := okWide_struct Tryz.underlying55 hv
  rw [cellsPort] at hsz
  obtain ⟨fuel, hf⟩ := h
  obtain ⟨x, hx, e⟩ := trod_port hf (by simpa [Value.cells] using hsz)
  refine ⟨x, ?_, hx⟩
  have e' : cs.toList = (ptA x).toList := by simpa [Value.cells] using e
  rw [Array.toList_inj.1 e']
set_option maxRecDepth 100000 in
/-- An argument that is a topology. -/
theorem open_topo {r : Reach} {b0 : Nat} {v : Value} {d : DataW H} {p : List MemPlace} (hv : Value.okWide Tryz.prog W r b0 25 v) (h : DataW.Trod enc Tryz.prog W 0 (fun _ => true) true 25 v d p) : ∃ (v0 v1 : Value) (ps : List Int) (ls : List Lk), v = .agg #[v0, v1] ∧ IsT W v0 v1 ps ls ∧ TW ps ls := by
  obtain ⟨v0, v1, y0, y1, n, rfl, _, _, h0, h1⟩ := Joins.open_agg2 Tryz.underlying25 (by kernel_rfl) (by kernel_rfl) hv h
  obtain ⟨L, hL, qL⟩ := open_vec intA_size (by decide) Tryz.underlying22 cells3 (fun m cs y hy hl => trod_num hy hl) h0
  obtain ⟨M, hM, qM⟩ := open_vec lkA_size (by decide) Tryz.underlying23 cellsLink (fun m cs y hy hl => trod_link hy hl) h1
  exact ⟨v0, v1, L, M, rfl, ⟨hL, hM⟩, qL, qM⟩
set_option maxRecDepth 100000 in
/-- An array of two numbers. -/
theorem open_arr2 {r : Reach} {b0 : Nat} {v : Value} {d : DataW H} {p : List MemPlace} (hv : Value.okWide Tryz.prog W r b0 53 v) (h : DataW.Trod enc Tryz.prog W 0 (fun _ => true) true 53 v d p) : ∃ (a b : Int), v = .agg #[.int .i64 a, .int .i64 b] ∧ isI a ∧ isI b := by
  simp only [Value.okWide, Tryz.underlying53] at hv
  obtain ⟨cs, rfl, hsz, _⟩ := hv
  rw [cellsTwo] at hsz
  obtain ⟨fuel, hf⟩ := h
  obtain ⟨xs, m, _, _, hcl, hxl, hi⟩ := DataW.trod_array Tryz.underlying53 hf
  obtain ⟨c0, c1, rfl⟩ : ∃ c0 c1, cs = #[c0, c1] := Joins.array2 hsz
  have h0 := hi 0 (by decide)
  have h1 := hi 1 (by decide)
  rw [List.getElem?_eq_getElem (by omega)] at h0 h1
  simp only [cells3, Value.cells, Nat.zero_mul, Nat.one_mul, List.drop_zero, List.take_succ_cons, List.take_zero, List.drop_succ_cons] at h0 h1
  obtain ⟨z0, q0, _, w0⟩ := DataW.trod_int Tryz.underlying3 h0
  obtain ⟨z1, q1, _, w1⟩ := DataW.trod_int Tryz.underlying3 h1
  injection q0 with q0
  injection q1 with q1
  subst q0 q1
  exact ⟨z0, z1, rfl, i64_wf w0, i64_wf w1⟩
theorem array3 {α : Type} {cs : Array α} (h : cs.size = 3) : ∃ a b c, cs = #[a, b, c] := by
  obtain ⟨l⟩ := cs
  match l, h with
  | [a, b, c], _ => exact ⟨a, b, c, rfl⟩
set_option maxRecDepth 100000 in
end
end Go.Proofs.YteboadppighplaaGreat
/- Arguments: a network. -/
namespace Go.Proofs.YteboadppighplaaGreat
open Go.RowKit Go.Shelf Go.ChangeShapes Go.WideShapes Go.ChangeAt
open Go.ChangeMaps (open_string)

theorem cellsNet : Tryz.prog.cellsOf 28 = 3 := by kernel_rfl
theorem cellsTopo : Tryz.prog.cellsOf 25 = 2 := by kernel_rfl
theorem cellsInts : Tryz.prog.cellsOf 22 = 1 := by kernel_rfl
theorem cellsLinks : Tryz.prog.cellsOf 23 = 1 := by kernel_rfl
theorem cellsRules : Tryz.prog.cellsOf 26 = 1 := by kernel_rfl
section
variable {H : Type} {enc : TypeId × Value → H} {W : World}
theorem net_room {d : DataW H} {ts : List TypeId} {ds : List (DataW H)} (h : (DataW.weightsEach Tryz.prog (28 :: ts) (d :: ds)).all (· ≤ reachBytes) = true) : (d.weights Tryz.prog 28).all (· ≤ reachBytes) = true := by
  rw [DataW.weightsEach, List.all_append, Bool.and_eq_true] at h
  exact h.1
theorem bytesRule : Tryz.prog.bytesOf 105 = 48 := by kernel_rfl
set_option maxRecDepth 100000 in
theorem open_net {r : Reach} {b0 : Nat} {v : Value} {d : DataW H} {p : List MemPlace} (hv : Value.okWide Tryz.prog W r b0 28 v) (h : DataW.Trod enc Tryz.prog W 0 (fun _ => true) true 28 v d p) (hz : (d.weights Tryz.prog 28).all (· ≤ reachBytes) = true) :
    ∃ (v0 v1 v2 : Value) (ps : List Int) (ls : List Lk) (L : List Ru), v = .agg #[v0, v1, v2] ∧ IsN W v0 v1 v2 ps ls L ∧ NW ps ls L := by
  obtain ⟨cs, rfl, hsz⟩ := okWide_struct Tryz.underlying28 hv
  rw [cellsNet] at hsz
  obtain ⟨c0, c1, c2, rfl⟩ := array3 hsz
  obtain ⟨fuel, hf⟩ := h
  obtain ⟨y0, y1, n, hd, _, h6, h7⟩ := trod_struct2 Tryz.underlying28 hf
  simp only [Value.cells, cellsTopo, cellsRules, List.drop_zero, List.take_succ_cons, List.take_zero, List.drop_succ_cons] at h6 h7
  obtain ⟨z0, z1, n2, _, _, h8, h9⟩ := trod_struct2 Tryz.underlying25 h6
  simp only [cellsInts, cellsLinks, List.drop_zero, List.take_succ_cons, List.take_zero, List.drop_succ_cons] at h8 h9
  obtain ⟨ps, hP, qP⟩ := open_vec intA_size (by decide) Tryz.underlying22 cells3 (fun m cs y hy hl => trod_num hy hl) h8
  obtain ⟨ls, hM, qM⟩ := open_vec lkA_size (by decide) Tryz.underlying23 cellsLink (fun m cs y hy hl => trod_link hy hl) h9
  obtain ⟨A, k, c, e, _⟩ := slice_elems1 Tryz.underlying26 cellsRule h7
  subst e
  obtain ⟨L, hL, qL⟩ := open_rules (enc := enc) (W := W) (v := .slice A k c) (d := y1.1) (p := y1.2) ⟨n, h7⟩ ⟨_, _, _, rfl⟩
  have hk : L.length = k := by obtain ⟨_, _, e', _⟩ := hL; injection e' with _ h _; exact h.symm
  have hroom : L.length ≤ 4000000000000 := by
    obtain ⟨rfl, _⟩ := Prod.mk.inj hd
    rw [hk]
    rcases Deep.open_slice Tryz.underlying26 h7 with ⟨hcs, _⟩ | ⟨a, len, cap, m, _, D, Pl, hcs, _, _, _, _, hx, _⟩
    · simp only [List.cons.injEq, and_true] at hcs
      injection hcs with _ h _
      omega
    · simp only [List.cons.injEq, and_true] at hcs
      injection hcs with _ h _
      subst hx
      simp only [DataW.weights, Tryz.underlying28, Tryz.underlying26, DataW.weightsEach, List.all_append, List.all_cons, List.map_cons, List.length_map, List.length_range, Bool.and_eq_true, bytesRule, reachBytes] at hz
      have hh := of_decide_eq_true hz.2.1.1
      omega
  exact ⟨c0, c1, _, ps, ls, L, rfl, ⟨⟨hP, hM⟩, hL⟩, ⟨⟨qP, qM⟩, qL, hroom⟩⟩
end
end Go.Proofs.YteboadppighplaaGreat
/- Arguments: two networks, a range (stage 11). -/
namespace Go.Proofs.YteboadppighplaaGreat
open Go.RowKit Go.Shelf Go.ChangeShapes Go.WideShapes Go.ChangeAt
open Go.ChangeMaps (open_string)

theorem cellsNets : Tryz.prog.cellsOf 40 = 6 := by kernel_rfl
section
variable {H : Type} {enc : TypeId × Value → H} {W : World}
theorem nets_room {d : DataW H} {ts : List TypeId} {ds : List (DataW H)} (h : (DataW.weightsEach Tryz.prog (40 :: ts) (d :: ds)).all (· ≤ reachBytes) = true) : (d.weights Tryz.prog 40).all (· ≤ reachBytes) = true := by
  rw [DataW.weightsEach, List.all_append, Bool.and_eq_true] at h
  exact h.1
set_option maxRecDepth 100000 in
/-- A network, by its cells. -/
theorem trod_net {fuel : Nat} {c0 c1 c2 : Value} {d : DataW H} {p : List MemPlace} (hf : DataW.trod enc Tryz.prog W 0 (fun _ => true) true fuel 28 [c0, c1, c2] = some (d, p)) (hz : (d.weights Tryz.prog 28).all (· ≤ reachBytes) = true) :
    ∃ (ps : List Int) (ls : List Lk) (L : List Ru), IsN W c0 c1 c2 ps ls L ∧ NW ps ls L := by
  obtain ⟨y0, y1, n, hd, _, h6, h7⟩ := trod_struct2 Tryz.underlying28 hf
  simp only [cellsTopo, cellsRules, List.drop_zero, List.take_succ_cons, List.take_zero, List.drop_succ_cons] at h6 h7
  obtain ⟨z0, z1, n2, _, _, h8, h9⟩ := trod_struct2 Tryz.underlying25 h6
  simp only [cellsInts, cellsLinks, List.drop_zero, List.take_succ_cons, List.take_zero, List.drop_succ_cons] at h8 h9
  obtain ⟨ps, hP, qP⟩ := open_vec intA_size (by decide) Tryz.underlying22 cells3 (fun m cs y hy hl => trod_num hy hl) h8
  obtain ⟨ls, hM, qM⟩ := open_vec lkA_size (by decide) Tryz.underlying23 cellsLink (fun m cs y hy hl => trod_link hy hl) h9
  obtain ⟨A, k, c, e, _⟩ := slice_elems1 Tryz.underlying26 cellsRule h7
  subst e
  obtain ⟨L, hL, qL⟩ := open_rules (enc := enc) (W := W) (v := .slice A k c) (d := y1.1) (p := y1.2) ⟨n, h7⟩ ⟨_, _, _, rfl⟩
  have hk : L.length = k := by obtain ⟨_, _, e', _⟩ := hL; injection e' with _ h _; exact h.symm
  have hroom : L.length ≤ 4000000000000 := by
    obtain ⟨rfl, _⟩ := Prod.mk.inj hd
    rw [hk]
    rcases Deep.open_slice Tryz.underlying26 h7 with ⟨hcs, _⟩ | ⟨a, len, cap, m, _, D, Pl, hcs, _, _, _, _, hx, _⟩
    · simp only [List.cons.injEq, and_true] at hcs
      injection hcs with _ h _
      omega
    · simp only [List.cons.injEq, and_true] at hcs
      injection hcs with _ h _
      subst hx
      simp only [DataW.weights, Tryz.underlying28, Tryz.underlying26, DataW.weightsEach, List.all_append, List.all_cons, List.map_cons, List.length_map, List.length_range, Bool.and_eq_true, bytesRule, reachBytes] at hz
      have hh := of_decide_eq_true hz.2.1.1
      omega
  exact ⟨ps, ls, L, ⟨⟨hP, hM⟩, hL⟩, ⟨⟨qP, qM⟩, qL, hroom⟩⟩
theorem array6 {α : Type} {cs : Array α} (h : cs.size = 6) : ∃ a b c d e f, cs = #[a, b, c, d, e, f] := by
  obtain ⟨l⟩ := cs
  match l, h with
  | [a, b, c, d, e, f], _ => exact ⟨a, b, c, d, e, f, rfl⟩
set_option maxRecDepth 100000 in
/-- An array of two networks. -/
theorem open_nets {r : Reach} {b0 : Nat} {v : Value} {d : DataW H} {p : List MemPlace} (hv : Value.okWide Tryz.prog W r b0 40 v) (h : DataW.Trod enc Tryz.prog W 0 (fun _ => true) true 40 v d p) (hz : (d.weights Tryz.prog 40).all (· ≤ reachBytes) = true) :
    ∃ (v0 v1 v2 u0 u1 u2 : Value) (ps : List Int) (ls : List Lk) (L : List Ru) (qs : List Int) (ms : List Lk) (M : List Ru), v = .agg #[v0, v1, v2, u0, u1, u2] ∧ (IsN W v0 v1 v2 ps ls L ∧ NW ps ls L) ∧ IsN W u0 u1 u2 qs ms M ∧ NW qs ms M := by
  simp only [Value.okWide, Tryz.underlying40] at hv
  obtain ⟨cs, rfl, hsz, _⟩ := hv
  rw [cellsNets] at hsz
  obtain ⟨fuel, hf⟩ := h
  obtain ⟨xs, m, _, hd, hcl, hxl, hi⟩ := DataW.trod_array Tryz.underlying40 hf
  obtain ⟨c0, c1, c2, c3, c4, c5, rfl⟩ := array6 hsz
  have h0 := hi 0 (by decide)
  have h1 := hi 1 (by decide)
  obtain ⟨x0, x1, rfl⟩ : ∃ x0 x1, xs = [x0, x1] := by
    match xs, hxl with
    | [a, b], _ => exact ⟨a, b, rfl⟩
  simp only [cellsNet, Value.cells, Nat.zero_mul, Nat.one_mul, List.drop_zero, List.take_succ_cons, List.take_zero, List.drop_succ_cons, List.getElem?_cons_zero, List.getElem?_cons_succ] at h0 h1
  obtain ⟨d0, p0⟩ := x0
  obtain ⟨d1, p1⟩ := x1
  obtain ⟨rfl, _⟩ := Prod.mk.inj hd
  simp only [List.map_cons, List.map_nil, DataW.weights, Tryz.underlying40, DataW.weightsAll, List.all_append, Bool.and_eq_true] at hz
  obtain ⟨ps, ls, L, k1, k2⟩ := trod_net h0 hz.1
  obtain ⟨qs, ms, M, k3, k4⟩ := trod_net h1 hz.2.1
  exact ⟨c0, c1, c2, c3, c4, c5, ps, ls, L, qs, ms, M, rfl, ⟨k1, k2⟩, k3, k4⟩
set_option maxRecDepth 100000 in
/-- A range. -/
theorem open_rng {r : Reach} {b0 : Nat} {v : Value} {d : DataW H} {p : List MemPlace} (hv : Value.okWide Tryz.prog W r b0 43 v) (h : DataW.Trod enc Tryz.prog W 0 (fun _ => true) true 43 v d p) :
    ∃ f t : Nat, v = .agg #[.int .u32 f, .int .u32 t] ∧ f < 4294967296 ∧ t < 4294967296 := by
  obtain ⟨cs, rfl, hsz⟩ := okWide_struct Tryz.underlying43 hv
  rw [cellsRange] at hsz
  obtain ⟨c0, c1, rfl⟩ : ∃ c0 c1, cs = #[c0, c1] := Joins.array2 hsz
  obtain ⟨fuel, hf⟩ := h
  obtain ⟨y0, y1, n, _, _, h6, h7⟩ := trod_struct2 Tryz.underlying43 hf
  simp only [Value.cells, cellsU32, List.drop_zero, List.take_succ_cons, List.take_zero, List.drop_succ_cons] at h6 h7
  obtain ⟨z0, q0, _, w0⟩ := DataW.trod_int Tryz.underlying41 h6
  obtain ⟨z1, q1, _, w1⟩ := DataW.trod_int Tryz.underlying41 h7
  injection q0 with q0
  injection q1 with q1
  subst q0 q1
  obtain ⟨f, rfl, hf'⟩ := u32_wf w0
  obtain ⟨t, rfl, ht'⟩ := u32_wf w1
  exact ⟨f, t, rfl, hf', ht'⟩
end
end Go.Proofs.YteboadppighplaaGreat
/- From a law's walk to the row: the arguments read as before where nothing below the first world's heap has turned. Over any program. -/
namespace Go.Proofs.YteboadppighplaaGreat
open Go.ChangeShapes Go.WideShapes Go.ChangeAt Go.RowKit

section
variable {H : Type} {enc : TypeId × Value → H} {P : Program}
theorem trodAll_below (hl : laidOutB P = true) {W W' : World} (bel : Below W.heap.size W W') : ∀ (ts : List TypeId) (vs : List Value) (ds : List (DataW H)) (ps : List MemPlace),
    (ts.all fun t => P.readableRec t && decide (t < P.types.size)) = true → DataW.TrodAll enc P W 0 (fun _ => true) true ts vs ds ps → DataW.TrodAll enc P W' 0 (fun b => decide (b < W.heap.size)) true ts vs ds ps := by
  intro ts
  induction ts with
  | nil =>
    intro vs ds ps _ h
    obtain ⟨rfl, rfl, rfl⟩ := trodAll_nil h
    exact trodAll_mk0
  | cons t ts ih =>
    intro vs ds ps hts h
    obtain ⟨v, vs', d, ds', p, q, rfl, rfl, rfl, h1, h2⟩ := trodAll_cons h
    simp only [List.all_cons, Bool.and_eq_true, decide_eq_true_eq] at hts
    have lt : ∀ x ∈ p, x.block < W.heap.size := by obtain ⟨m, hm⟩ := h1; exact DataW.trod_lt m _ _ _ hm
    exact trodAll_cons_mk (Below.trod hl hts.1.1 hts.1.2 h1 bel lt) (ih _ _ _ hts.2 h2)

theorem post_law {f : Func} {s : ChangeSpec} {tb : TypeId} (hl : laidOutB P = true) (hts : (f.params.toList.all fun t => P.readableRec t && decide (t < P.types.size)) = true)
    (hres : f.resultTypes = #[tb]) (htb : P.underlying tb = some .bool) (hvars : s.vars = []) {W W' : World} {args : Array Value} {ds gs : List (DataW H)} {before : List MemPlace}
    (hW : DataW.Whole enc P f.params.toList s.vars false W args.toList ds gs before) (hspec : s.fn H (ds ++ gs) = { results := [.lit (.bool true)], args := ds }) (bel : Below W.heap.size W W') :
    s.post enc P f false true false false W args (.bool true) W' := by
  have hW' := hW
  obtain ⟨p, q, hA, hV, _, _, _⟩ := hW
  refine ⟨ds, gs, before, [], p, [], hW', ?_, ?_, ?_, bel.frame _, fun h => by cases h⟩
  · rw [hspec, hres]
    exact trodAll_mk1 (shut_bool htb true)
  · rw [hspec]
    exact trodAll_below hl bel _ _ _ _ hts hA
  · rw [hspec, hvars]
    rfl
end
end Go.Proofs.YteboadppighplaaGreat
/- Law: FlowDiffers (stage 11), over the program's calls. -/
namespace Go.Proofs.YteboadppighplaaGreat
open Go.RowKit Go.Shelf

theorem ns_two' {w : World} {B : Nat} {n m : Nt} {T : TypeId} (hA : At w B #[n.vp, n.vl, n.vr, m.vp, m.vl, m.vr] T) (hn : IsN w n.vp n.vl n.vr n.ps n.ls n.L) (hm : IsN w m.vp m.vl m.vr m.ps m.ls m.L) : Ns w (.slice (some ⟨B, 0, none⟩) 2 2) [n, m] :=
  ⟨isF_of_at ntA_size (L := [n, m]) (c := 2) hA rfl (by simp) (by simp [maxLen]), fun x hx => by
    simp at hx
    rcases hx with rfl | rfl
    · exact hn
    · exact hm⟩
/-- What Cut answers, the slice by name. -/
theorem cutOut_slices {R : List (Nat × Nat)} {f t : Nat} {w : World} {e : Ending} {w' : World} (h : CutOut R f t w e w') : ∃ y n d, e = .returned (.tuple #[.slice y n d, .int .i64 (if f ≤ t then 0 else 31)]) ∧ Hid (Tr.IsZ w' (.slice y n d) (if f ≤ t then cutZ R f t else [])) ∧ Below w.heap.size w w' := by
  obtain ⟨v, rfl, z, b⟩ := h
  have z' := z
  obtain ⟨y, d, rfl, _⟩ := z
  exact ⟨_, _, _, rfl, Lib.hid z', b⟩
set_option maxRecDepth 100000 in
set_option maxHeartbeats 4000000 in
theorem differs11_walk (O : Own11) {vp vl vr up ul ur : Value} (ps : List Int) (ls : List Lk) (L : List Ru) (qs : List Int) (ms : List Lk) (M : List Ru) (a : Int) (f t : Nat) (w : World) (h : IsN w vp vl vr ps ls L) (hW : NW ps ls L) (h2 : IsN w up ul ur qs ms M) (hW2 : NW qs ms M) (ia : isI a) (hf : f < 4294967296) (ht : t < 4294967296) :
    Calls Tryz.prog 4 #[.agg #[vp, vl, vr, up, ul, ur], .int .i64 a, .agg #[.int .u32 f, .int .u32 t]] w fun e w' => e = .returned (.bool true) ∧ Below w.heap.size w w' := by
  have HO := Lib.hid O
  have KA : Hid (∀ u : World, Calls Tryz.prog 9 #[] u fun e w' => e = .returned (.bool true) ∧ Below u.heap.size u w') := Lib.hid fun u => alive11_any O u
  have KS : Hid (∀ (v1 v2 : Value) (L : List (Nat × Nat)) (u : World), Tr.IsZ u v1 L → Tr.IsZ u v2 L → Calls Tryz.prog 12 #[v1, v2] u fun e w' => e = .returned (.bool true) ∧ Below u.heap.size u w') := Lib.hid fun v1 v2 L u h1 h2 => Zo.same_any L u h1 h2
  obtain ⟨w1, hw1⟩ : ∃ w1, w1 = (w.alloc (.cells #[vp, vl, vr, up, ul, ur] 40)).alloc (.cells #[.int .u32 f, .int .u32 t] 43) := ⟨_, rfl⟩
  have b1 : Below w.heap.size w w1 := by rw [hw1]; exact ((Below.refl _ w).alloc (Nat.le_refl _) _).alloc (by simp) _
  have N1 : At w1 w.heap.size #[vp, vl, vr, up, ul, ur] 40 := by rw [hw1]; exact (At.new w _ _).alloc _
  have R1 : At w1 (w.heap.size + 1) #[.int .u32 f, .int .u32 t] 43 := by rw [hw1]; exact At.new1 w _ _ _
  have HN1 := Lib.hid (h.belows b1)
  have HM1 := Lib.hid (h2.belows b1)
  have HNB := Lib.hid N1
  have HRB := Lib.hid R1
  have HB1 := Lib.hid b1
  have HW := Lib.hid hW
  have HW2 := Lib.hid hW2
  have HIA := Lib.hid ia
  have HNS : Hid (∀ u, Below w1.heap.size w1 u → Ns u (.slice (some ⟨w.heap.size, 0, none⟩) 2 2) [⟨vp, vl, vr, ps, ls, L⟩, ⟨up, ul, ur, qs, ms, M⟩]) := Lib.hid fun u hu => ns_two' (n := ⟨vp, vl, vr, ps, ls, L⟩) (m := ⟨up, ul, ur, qs, ms, M⟩) (HNB.out.belows hu) (HN1.out.belows hu) (HM1.out.belows hu)
  have KF := lfits9_any ps ls L w1 hW HN1.out
  have KG : Hid (∀ u, Below w1.heap.size w1 u → Calls Tryz.prog 8 #[.agg #[up, ul, ur]] u fun e w' => e = .returned (.bool (rightN qs ms M)) ∧ Below u.heap.size u w') := Lib.hid fun u hu => lfits9_any qs ms M u HW2.out (HM1.out.belows hu)
  obtain ⟨⟨⟨A1, c1, rfl, _, _, _⟩, ⟨A2, c2, rfl, _, _, _⟩⟩, ⟨A3, c3, rfl, _, _, _⟩⟩ := h
  obtain ⟨⟨⟨B1, e1, rfl, _, _, _⟩, ⟨B2, e2, rfl, _, _, _⟩⟩, ⟨B3, e3, rfl, _, _, _⟩⟩ := h2
  have SX : Hid (∀ u, Below w1.heap.size w1 u → (u.cell? ⟨w.heap.size, 0, none⟩ = some (.slice A1 ps.length c1) ∧ u.cell? ⟨w.heap.size, 1, none⟩ = some (.slice A2 ls.length c2) ∧ u.cell? ⟨w.heap.size, 2, none⟩ = some (.slice A3 L.length c3)) ∧ (u.cell? ⟨w.heap.size, 3, none⟩ = some (.slice B1 qs.length e1) ∧ u.cell? ⟨w.heap.size, 4, none⟩ = some (.slice B2 ms.length e2) ∧ u.cell? ⟨w.heap.size, 5, none⟩ = some (.slice B3 M.length e3)) ∧ u.cell? ⟨w.heap.size + 1, 0, none⟩ = some (.int .u32 f) ∧ u.cell? ⟨w.heap.size + 1, 1, none⟩ = some (.int .u32 t)) := Lib.hid fun u hu => ⟨⟨((HNB.out.belows hu).cell 0).trans rfl, ((HNB.out.belows hu).cell 1).trans rfl, ((HNB.out.belows hu).cell 2).trans rfl⟩, ⟨((HNB.out.belows hu).cell 3).trans rfl, ((HNB.out.belows hu).cell 4).trans rfl, ((HNB.out.belows hu).cell 5).trans rfl⟩, ((HRB.out.belows hu).cell 0).trans rfl, ((HRB.out.belows hu).cell 1).trans rfl⟩
  obtain ⟨⟨x0, x1, x2⟩, ⟨x3, x4, x5⟩, _⟩ := SX.out w1 (Below.refl _ _)
  clear N1 R1 b1 hW hW2 ia O
  obtain ⟨p, hp⟩ : ∃ p, p = rightN ps ls L := ⟨_, rfl⟩
  obtain ⟨q, hq⟩ : ∃ q, q = rightN qs ms M := ⟨_, rfl⟩
  rw [← hp] at KF
  rw [← hq] at KG
  have HPP := Lib.hid hp
  have HQQ := Lib.hid hq
  clear hp hq
  go_enter Tryz.func4, Tryz.ntmps4
  go_upto_region 1 with (fail)
  rw [← hw1]
  clear hw1
  go_upto_region 2 with (go_at_call 8; refine KF.mono ?_; rintro e w2 ⟨rfl, b2⟩)
  obtain ⟨⟨x0, x1, x2⟩, ⟨x3, x4, x5⟩, _⟩ := SX.out w2 b2
  have KG2 := KG.out w2 b2
  go_upto_region 3 with (go_at_call 8; refine KG2.mono ?_; rintro e w3 ⟨rfl, b3⟩)
  have HB3 := Lib.hid (b2.trans (b3.mono b2.size))
  clear KF KG KG2 b2 b3
  by_cases hpq : p = true ∧ q = true
  case neg =>
    cases p <;> cases q
    case true.true => exact absurd ⟨rfl, rfl⟩ hpq
    all_goals
      clear hpq
      go_wp2_with (go_at_call 9; refine (KA.out _).mono ?_; rintro e w4 ⟨rfl, b4⟩)
      go_ret
      exact ⟨rfl, HB1.out.trans ((HB3.out.trans (b4.mono HB3.out.size)).mono HB1.out.size)⟩
  case pos =>
    obtain ⟨rfl, rfl⟩ := hpq
    have HR := Lib.hid ((rightN_iff _ _ _).1 HPP.out.symm)
    have HR2 := Lib.hid ((rightN_iff _ _ _).1 HQQ.out.symm)
    obtain ⟨er, her⟩ : ∃ er, er = errIn (inD ps a ∧ inD qs a) := ⟨_, rfl⟩
    obtain ⟨Z, hZ⟩ : ∃ Z, Z = difZ ps ls L qs ms M a := ⟨_, rfl⟩
    obtain ⟨ec, hec⟩ : ∃ ec : Int, ec = if f ≤ t then 0 else 31 := ⟨_, rfl⟩
    obtain ⟨C, hC⟩ : ∃ C, C = if f ≤ t then cutZ (rgN [⟨.slice A1 ps.length c1, .slice A2 ls.length c2, .slice A3 L.length c3, ps, ls, L⟩, ⟨.slice B1 qs.length e1, .slice B2 ms.length e2, .slice B3 M.length e3, qs, ms, M⟩]) f t else [] := ⟨_, rfl⟩
    have K1 : Hid (∀ u, Below w1.heap.size w1 u → Calls Tryz.prog 17 #[.agg #[.slice A1 ps.length c1, .slice A2 ls.length c2, .slice A3 L.length c3], .agg #[.slice B1 qs.length e1, .slice B2 ms.length e2, .slice B3 M.length e3], .int .i64 a] u (ZnOut (difZ ps ls L qs ms M a) (errIn (inD ps a ∧ inD qs a)) u)) := Lib.hid fun u hu => HO.out.differs ps ls L qs ms M a u HR.out HW.out HR2.out HW2.out HIA.out (HN1.out.belows hu) (HM1.out.belows hu)
    have K2 : Hid (∀ u, Below w1.heap.size w1 u → Calls Tryz.prog 18 #[.agg #[.slice A1 ps.length c1, .slice A2 ls.length c2, .slice A3 L.length c3], .agg #[.slice B1 qs.length e1, .slice B2 ms.length e2, .slice B3 M.length e3], .int .i64 a] u (ZnOut (difZ ps ls L qs ms M a) (errIn (inD ps a ∧ inD qs a)) u)) := Lib.hid fun u hu => rdiffers_any ps ls L qs ms M a u HR.out HW.out HR2.out HW2.out (HN1.out.belows hu) (HM1.out.belows hu)
    have K3 : Hid (∀ u, Below w1.heap.size w1 u → Calls Tryz.prog 19 #[.slice (some ⟨w.heap.size, 0, none⟩) 2 2, .agg #[.int .u32 f, .int .u32 t]] u fun e w' => ∃ y n d, e = .returned (.tuple #[.slice y n d, .int .i64 ec]) ∧ Hid (Tr.IsZ w' (.slice y n d) C) ∧ Below u.heap.size u w') := Lib.hid fun u hu => by
      rw [hec, hC]
      exact (HO.out.cut ⟨.slice A1 ps.length c1, .slice A2 ls.length c2, .slice A3 L.length c3, ps, ls, L⟩ ⟨.slice B1 qs.length e1, .slice B2 ms.length e2, .slice B3 M.length e3, qs, ms, M⟩ f t u HR.out HW.out HR2.out HW2.out hf ht (HNS.out u hu)).mono fun e w' h => cutOut_slices h
    have K4 : Hid (∀ u, Below w1.heap.size w1 u → Calls Tryz.prog 20 #[.slice (some ⟨w.heap.size, 0, none⟩) 2 2, .agg #[.int .u32 f, .int .u32 t]] u fun e w' => ∃ y n d, e = .returned (.tuple #[.slice y n d, .int .i64 ec]) ∧ Hid (Tr.IsZ w' (.slice y n d) C) ∧ Below u.heap.size u w') := Lib.hid fun u hu => by
      rw [hec, hC]
      refine (rcut_any [⟨.slice A1 ps.length c1, .slice A2 ls.length c2, .slice A3 L.length c3, ps, ls, L⟩, ⟨.slice B1 qs.length e1, .slice B2 ms.length e2, .slice B3 M.length e3, qs, ms, M⟩] f t u hf ht (by simp) (fun n hn => ?_) (HNS.out u hu)).mono fun e w' h => cutOut_slices h
      simp at hn
      rcases hn with rfl | rfl
      · exact ⟨by have := ((allB_pw L).1 HR.out.rules).1; show L.length ≤ 1000; omega, HW.out.rules⟩
      · exact ⟨by have := ((allB_pw M).1 HR2.out.rules).1; show M.length ≤ 1000; omega, HW2.out.rules⟩
    rw [← her, ← hZ] at K1 K2
    clear her hZ hec hC HPP HQQ
    obtain ⟨⟨x0, x1, x2⟩, ⟨x3, x4, x5⟩, _⟩ := SX.out w3 HB3.out
    have k1 := K1.out w3 HB3.out
    go_upto_region 6 with (go_at_call 17; refine k1.mono ?_; rintro e w4 h4; obtain ⟨z1, m1, k1', rfl, zv1, b4⟩ := znOut_slices h4; clear h4)
    have B4 := Lib.hid (HB3.out.trans (b4.mono HB3.out.size))
    obtain ⟨⟨x0, x1, x2⟩, ⟨x3, x4, x5⟩, _⟩ := SX.out w4 B4.out
    have k2 := K2.out w4 B4.out
    clear k1 b4
    go_upto_region 7 with (go_at_call 18; refine k2.mono ?_; rintro e w5 h5; obtain ⟨z2, m2, k2', rfl, zv2, b5⟩ := znOut_slices h5; clear h5)
    have B5 := Lib.hid (B4.out.trans (b5.mono B4.out.size))
    have ZV1 := Lib.hid (zv1.out.belows b5)
    have SR : Hid (∀ u, Below w1.heap.size w1 u → u.cell? ⟨w.heap.size + 1, 0, none⟩ = some (.int .u32 f) ∧ u.cell? ⟨w.heap.size + 1, 1, none⟩ = some (.int .u32 t)) := Lib.hid fun u hu => (SX.out u hu).2.2
    obtain ⟨r0, r1⟩ := SR.out w5 B5.out
    clear k2 b5 zv1
    go_cut [13, 14] (fun v er' wc => er' = .int .i64 ec ∧ ∃ y n d, v = .slice y n d ∧ Hid (Tr.IsZ wc (.slice y n d) C) ∧ Hid (Below w5.heap.size w5 wc))
    case first =>
      go_region_held3 (fun W => W.cell? ⟨w.heap.size + 1, 0, none⟩ = some (.int .u32 f) ∧ W.cell? ⟨w.heap.size + 1, 1, none⟩ = some (.int .u32 t))
        (first | exact SR.out _ (B5.out.trans (b6.mono B5.out.size)) | exact SR.out _ (bdrewN B5.out 1))
        (first | (go_at_call 19; refine (K3.out _ (bdrewN B5.out 1)).mono ?_; rintro e w6 ⟨y, n, d, rfl, zc, b6x⟩; have b6 : Below w5.heap.size w5 w6 := (bdrewN (Below.refl _ _) 1).trans b6x))
      all_goals (go_wp2_with fail; go_meet; exact ⟨rfl, y, n, d, rfl, zc, Lib.hid b6⟩)
    case rest =>
      obtain ⟨rfl, z3, m3, k3, rfl, zv3, hb6⟩ := hcut
      obtain ⟨w6, rfl⟩ : ∃ w6, w6 = wc := ⟨_, rfl⟩
      have b6 := hb6.out
      have B6 := Lib.hid (B5.out.trans (b6.mono B5.out.size))
      have ZV1' := Lib.hid (ZV1.out.belows b6)
      have ZV2' := Lib.hid (zv2.out.belows b6)
      obtain ⟨r0, r1⟩ := SR.out w6 B6.out
      clear b6 hb6
      go_wp2_with fail
      go_cut [15, 16] (fun v er' wc => er' = .int .i64 ec ∧ ∃ y n d, v = .slice y n d ∧ Hid (Tr.IsZ wc (.slice y n d) C) ∧ Hid (Below w6.heap.size w6 wc))
      case first =>
        go_region_held3 (fun W => W.cell? ⟨w.heap.size + 1, 0, none⟩ = some (.int .u32 f) ∧ W.cell? ⟨w.heap.size + 1, 1, none⟩ = some (.int .u32 t))
          (first | exact SR.out _ (B6.out.trans (b7.mono B6.out.size)) | exact SR.out _ (bdrewN B6.out 1))
          (first | (go_at_call 20; refine (K4.out _ (bdrewN B6.out 1)).mono ?_; rintro e w7 ⟨y, n, d, rfl, zc, b7x⟩; have b7 : Below w6.heap.size w6 w7 := (bdrewN (Below.refl _ _) 1).trans b7x))
        all_goals (go_wp2_with fail; go_meet; exact ⟨rfl, y, n, d, rfl, zc, Lib.hid b7⟩)
      case rest =>
        obtain ⟨rfl, z4, m4, k4, rfl, zv4, hb7⟩ := hcut
        obtain ⟨w7, rfl⟩ : ∃ w7, w7 = wc := ⟨_, rfl⟩
        have b7 := hb7.out
        have B7 := Lib.hid (B6.out.trans (b7.mono B6.out.size))
        have k5 := KS.out _ _ Z w7 (ZV1'.out.belows b7) (ZV2'.out.belows b7)
        have ZV3 := Lib.hid (zv3.out.belows b7)
        clear b7 hb7
        go_upto_region 10 with (go_at_call 12; refine k5.mono ?_; rintro e w8 ⟨rfl, b8⟩)
        have B8 := Lib.hid (B7.out.trans (b8.mono B7.out.size))
        have k6 := KS.out _ _ C w8 (ZV3.out.belows b8) (zv4.out.belows b8)
        clear k5 b8
        go_wp2_with (first | (go_at_call 12; refine k6.mono ?_; rintro e w9 ⟨rfl, b9⟩) | (go_at_call 9; refine (KA.out _).mono ?_; rintro e wa ⟨rfl, ba⟩))
        go_ret
        exact ⟨rfl, HB1.out.trans ((B8.out.trans ((b9.trans (ba.mono b9.size)).mono B8.out.size)).mono HB1.out.size)⟩
end Go.Proofs.YteboadppighplaaGreat
/- The program's Trace of any device of a right network, and its Same (stage 11's laws). -/
namespace Go.Proofs.YteboadppighplaaGreat
open Go.RowKit Go.Shelf

/-- A trace, or none. -/
def trQ (ps : List Int) (ls : List Lk) (L : List Ru) (d : Int) (a : Nat) : Tc := if inD ps d then trcN ps ls L a d else ⟨[], 0, ⟨0, 0⟩⟩
def erQ (ps : List Int) (d : Int) : Int := if inD ps d then 0 else 91
/-- What Trace answers. -/
def TrQ (x : Tc) (er : Int) (w : World) (e : Ending) (w' : World) : Prop := ∃ A c, e = .returned (.tuple #[.agg #[.slice A x.ds.length c, .int .i64 x.ft, .int .i64 x.out.d, .int .i64 x.out.p], .int .i64 er]) ∧ Hid (IsF 1 intA w' (.slice A x.ds.length c) x.ds) ∧ Hid (0 < x.ds.length → ∀ g o, A = some ⟨g, o, none⟩ → w.heap.size ≤ g) ∧ Below w.heap.size w w'
theorem ftraceX {vp vl vr : Value} (ps : List Int) (ls : List Lk) (L : List Ru) (d : Int) (a : Nat) (w : World) (hR : RN ps ls L) (hW : NW ps ls L) (h : IsN w vp vl vr ps ls L) :
    Calls Tryz.prog 25 #[.agg #[vp, vl, vr], .int .i64 d, .int .u32 a] w (TrQ (trQ ps ls L d a) (erQ ps d) w) := (ftrace_right ps ls L d a w hR hW h).mono fun e w' h => by
  rcases h with ⟨hin, v, rfl, hf, hfr, hb⟩ | ⟨hno, A, c, hc, rfl, hb⟩
  · have hf' := hf
    obtain ⟨A, c, rfl, h1, h2, h3⟩ := hf
    unfold trQ erQ
    rw [if_pos hin, if_pos hin]
    exact ⟨A, c, rfl, Lib.hid hf', Lib.hid fun _ g o e => hfr g o _ _ (by rw [e]), hb⟩
  · unfold trQ erQ
    rw [if_neg hno, if_neg hno]
    exact ⟨A, c, rfl, Lib.hid ⟨A, c, rfl, Nat.zero_le _, hc, Fs.nil _ _⟩, Lib.hid fun h => absurd h (by simp), hb⟩
/-- A trace in its box. -/
def BoxT (x : Tc) (w : World) (UB : Nat) : Prop := ∃ A c, At w UB #[.slice A x.ds.length c, .int .i64 x.ft, .int .i64 x.out.d, .int .i64 x.out.p] 57 ∧ IsF 1 intA w (.slice A x.ds.length c) x.ds
theorem BoxT.belows {x : Tc} {w w' : World} {UB : Nat} (h : BoxT x w UB) (hb : Below w.heap.size w w') : BoxT x w' UB := by
  obtain ⟨A, c, hA, hf⟩ := h
  exact ⟨A, c, hA.belows hb, hf.belows hb⟩
theorem boxT_new {x : Tc} {w : World} {A : Option Addr} {c : Nat} (h : IsF 1 intA w (.slice A x.ds.length c) x.ds) : BoxT x (w.alloc (.cells #[.slice A x.ds.length c, .int .i64 x.ft, .int .i64 x.out.d, .int .i64 x.out.p] 57)) w.heap.size :=
  ⟨A, c, At.new w _ _, h.belows ((Below.refl _ _).alloc (Nat.le_refl _) _)⟩
theorem boxT_set {x : Tc} {w : World} {A : Option Addr} {c UB : Nat} {x0 x1 x2 x3 : Value} (hU : At w UB #[x0, x1, x2, x3] 57) (h : IsF 1 intA w (.slice A x.ds.length c) x.ds) (hf : 0 < x.ds.length → ∀ g o, A = some ⟨g, o, none⟩ → UB < g) :
    BoxT x ((((w.setCell ⟨UB, 0, none⟩ (.slice A x.ds.length c)).setCell ⟨UB, 1, none⟩ (.int .i64 x.ft)).setCell ⟨UB, 2, none⟩ (.int .i64 x.out.d)).setCell ⟨UB, 3, none⟩ (.int .i64 x.out.p)) UB := by
  obtain ⟨A', c', e, h1, h2, h3⟩ := h
  cases e
  refine ⟨A, c, (((hU.set0 0 _).set0 1 _).set0 2 _).set0 3 _, A, c, rfl, h1, h2, ?_⟩
  have far : ∀ (W : World) j v, Fs 1 intA W A x.ds → Fs 1 intA (W.setCell ⟨UB, j, none⟩ v) A x.ds := fun W j v hF hn => by
    obtain ⟨g', o', e, hg', hc'⟩ := hF hn
    have hge2 := hf hn g' o' e
    exact ⟨g', o', e, Nat.lt_of_lt_of_le hg' (grownBy_set W _ _ _).size, fun i hi j' hj' => by
      rw [World.cell?_setCell_other _ _ _ _ (by intro e'; injection e' with e1; omega)]
      exact hc' i hi j' hj'⟩
  exact far _ _ _ (far _ _ _ (far _ _ _ (far _ _ _ h3)))
theorem BoxT.cells {x : Tc} {w : World} {UB : Nat} (h : BoxT x w UB) : ∃ A c, w.cell? ⟨UB, 0, none⟩ = some (.slice A x.ds.length c) ∧ w.cell? ⟨UB, 1, none⟩ = some (.int .i64 x.ft) ∧ w.cell? ⟨UB, 2, none⟩ = some (.int .i64 x.out.d) ∧ w.cell? ⟨UB, 3, none⟩ = some (.int .i64 x.out.p) ∧ Hid (IsF 1 intA w (.slice A x.ds.length c) x.ds) := by
  obtain ⟨A, c, hA, hf⟩ := h
  exact ⟨A, c, (hA.cell 0).trans rfl, (hA.cell 1).trans rfl, (hA.cell 2).trans rfl, (hA.cell 3).trans rfl, Lib.hid hf⟩
theorem fsameX {A B : Option Addr} {c d : Nat} (x y : Tc) (w : World) (h1 : IsF 1 intA w (.slice A x.ds.length c) x.ds) (h2 : IsF 1 intA w (.slice B y.ds.length d) y.ds) : Calls Tryz.prog 27 #[.agg #[.slice A x.ds.length c, .int .i64 x.ft, .int .i64 x.out.d, .int .i64 x.out.p], .agg #[.slice B y.ds.length d, .int .i64 y.ft, .int .i64 y.out.d, .int .i64 y.out.p]] w fun e w' => e = .returned (.bool (decide (x = y))) ∧ Below w.heap.size w w' := fsame_any x y w h1 h2
end Go.Proofs.YteboadppighplaaGreat
