/- Contracts: the program's Reaches. -/
import Derived.Test.YtpdadcjmpjnnhaaM4
namespace Go.Proofs.Ytpdadcjmpjnnhaa
open Go.RowKit Go.Shelf Go.Maps

theorem run_store_fn {P : Program} {w : World} {a : Addr} {m : Mode} (fn : Fn) (first captured : Array Value) : (store a (.func fn first captured) m).run P w = stored P w a (.func fn first captured) m := run_store P w a _ m rfl
attribute [local go_sem] run_store_fn
theorem reachT_in {ps : List Int} {ls : List Lk} {a b : Nat} (ha : a < ps.length) (hb : b < ps.length) : reachT ps ls a b = rnds ls (oneS a) ps.length b := by
  simp [reachT, ha, hb]
set_option maxRecDepth 100000 in
set_option maxHeartbeats 4000000 in
/-- Reaches, of a right topology. -/
theorem reaches_any {vp vl : Value} (ps : List Int) (ls : List Lk) (a b : Int) (w : World) (hR : RT ps ls) (hT : TW ps ls) (h : IsT w vp vl ps ls) : Calls Try.prog 21 #[.agg #[vp, vl], .int .i64 a, .int .i64 b] w fun e w' => e = .returned (.bool (reachT ps ls a b)) ∧ Below w.heap.size w w' := by
  have KR : Hid (∀ u, Below w.heap.size w u → Calls Try.prog 10 #[.agg #[vp, vl]] u fun e w' => e = .returned (.bool true) ∧ Below u.heap.size u w') := Lib.hid fun u hu => by
    have := right_any ps ls u hT (h.belows hu)
    rw [(rightT_iff ps ls).2 hR] at this
    exact this
  have KJ : Hid (∀ u, Below w.heap.size w u → Calls Try.prog 26 #[.agg #[vp, vl]] u (JOut ls u)) := Lib.hid fun u hu => joined_any ps ls u hT hR.l16 (h.belows hu)
  have KD : Hid (∀ (d : Int) u, Below w.heap.size w u → Calls Try.prog 29 #[.agg #[vp, vl], .int .i64 d] u fun e w' => e = .returned (.bool (devT ps d)) ∧ Below u.heap.size u w') := Lib.hid fun d u hu => hasDevice_any ps ls d u (h.belows hu)
  obtain ⟨⟨A1, c1, rfl, n1, m1, z1⟩, ⟨A2, c2, rfl, n2, m2, z2⟩⟩ := h
  have hM : ps.length ≤ 9223372036854775807 := Nat.le_trans n1 m1
  have D0 := At.new w #[.slice A1 ps.length c1, .slice A2 ls.length c2] 25
  have b0 : Below w.heap.size w (w.alloc (.cells #[.slice A1 ps.length c1, .slice A2 ls.length c2] 25)) := (Below.refl _ w).alloc (Nat.le_refl _) _
  obtain ⟨V, hV⟩ : ∃ V, V = reachT ps ls a b := ⟨_, rfl⟩
  rw [← hV]
  have HV := Lib.hid hV
  have HR := Lib.hid hR
  have HZ := Lib.hid z1
  clear z1 z2 hR hT hV
  have kr := KR.out _ b0
  go_enter Try.func21, Try.ntmps21
  go_upto_region 1 with (fail)
  obtain ⟨w0, hw0⟩ : ∃ w0, w0 = w.alloc (.cells #[.slice A1 ps.length c1, .slice A2 ls.length c2] 25) := ⟨_, rfl⟩
  rw [← hw0] at D0 b0 kr ⊢
  clear hw0
  have x0 := (D0.cell 0).trans rfl
  have x1 := (D0.cell 1).trans rfl
  go_wp2_with fail
  refine kr.mono ?_
  rintro e w1 ⟨rfl, b1⟩
  have bw1 := b0.trans (b1.mono b0.size)
  have D1 := D0.belows b1
  have ka := KD.out a w1 bw1
  clear x0 x1 kr
  have x0 := (D1.cell 0).trans rfl
  have x1 := (D1.cell 1).trans rfl
  cases hda : devT ps a with
  | false =>
    rw [hda] at ka
    have hf : Hid (V = false) := Lib.hid (by
      rw [HV.out]
      unfold reachT
      unfold devT at hda
      rw [← Bool.and_assoc, hda]; rfl)
    clear hda
    go_wp2_with fail
    refine ka.mono ?_
    rintro e w2 ⟨rfl, b2⟩
    go_wp2
    go_ret
    exact ⟨by rw [hf.out]; rfl, bw1.trans (b2.mono bw1.size)⟩
  | true =>
    rw [hda] at ka
    go_wp2_with fail
    refine ka.mono ?_
    rintro e w2 ⟨rfl, b2⟩
    have bw2 := bw1.trans (b2.mono bw1.size)
    have D2 := D1.belows b2
    have kb := KD.out b w2 bw2
    clear x0 x1 ka
    have x0 := (D2.cell 0).trans rfl
    have x1 := (D2.cell 1).trans rfl
    cases hdb : devT ps b with
    | false =>
      rw [hdb] at kb
      have hf : Hid (V = false) := Lib.hid (by
        rw [HV.out]
        cases hr : reachT ps ls a b with
        | false => rfl
        | true =>
          simp only [reachT, Bool.and_eq_true] at hr
          unfold devT at hdb
          rw [hr.2.2.1, hr.2.2.2.1] at hdb
          cases hdb)
      clear hda hdb
      go_wp2_with fail
      refine kb.mono ?_
      rintro e w3 ⟨rfl, b3⟩
      go_wp2
      go_ret
      exact ⟨by rw [hf.out]; rfl, bw2.trans (b3.mono bw2.size)⟩
    | true =>
      rw [hdb] at kb
      simp only [devT, Bool.and_eq_true, decide_eq_true_eq] at hda hdb
      obtain ⟨an, rfl⟩ := Int.eq_ofNat_of_zero_le hda.1
      obtain ⟨bn, rfl⟩ := Int.eq_ofNat_of_zero_le hdb.1
      have ha : an < ps.length := by omega
      have hb : bn < ps.length := by omega
      have HV2 := Lib.hid (HV.out.trans (reachT_in ha hb))
      have hp8 := HR.out.n8
      clear hda hdb HV
      go_wp2_with fail
      refine kb.mono ?_
      rintro e w3 ⟨rfl, b3⟩
      have bw3 := bw2.trans (b3.mono bw2.size)
      have D3 := D2.belows b3
      have kj := KJ.out w3 bw3
      clear x0 x1 kb
      have x0 := (D3.cell 0).trans rfl
      have x1 := (D3.cell 1).trans rfl
      go_wp2_with fail
      refine kj.mono ?_
      rintro e w4 ⟨bj, rfl, hbj, J4, b4⟩
      have bw4 := bw3.trans (b4.mono bw3.size)
      have D4 := D3.belows b4
      clear x0 x1 kj
      have x0 := (D4.cell 0).trans rfl
      have x1 := (D4.cell 1).trans rfl
      have V0 := At.new2 w4 (.cells #[.map (some bj)] 49) (.cells #[.bool false, .bool false, .bool false, .bool false, .bool false, .bool false, .bool false, .bool false] 62) #[Value.nilFunc] 63
      have vc := (V0.cell 0).trans rfl
      have vf := V0.frozen 0
      go_upto_region 7 with (fail)
      obtain ⟨w6, hw6⟩ : ∃ w6, w6 = (((w4.alloc (.cells #[.map (some bj)] 49)).alloc (.cells #[.bool false, .bool false, .bool false, .bool false, .bool false, .bool false, .bool false, .bool false] 62)).alloc (.cells #[.func (.func 32) #[] #[.pointer (some ⟨w4.heap.size + 1, 0, none⟩), .pointer (some ⟨w.heap.size, 0, none⟩), .pointer (some ⟨w4.heap.size, 0, none⟩), .pointer (some ⟨w4.heap.size + 1 + 1, 0, none⟩)]] 63)) := ⟨_, rfl⟩
      rw [← hw6]
      have b6 : Below w4.heap.size w4 w6 := by rw [hw6]; exact (((Below.refl _ w4).alloc (Nat.le_refl _) _).alloc (by simp) _).alloc (by simp; omega) _
      have A6 : At w6 (w4.heap.size + 1) (blA 8 (fun _ => false)) 62 := by rw [hw6]; exact (At.new1 w4 _ _ _).alloc _
      have N6 : At w6 w4.heap.size #[.map (some bj)] 49 := by rw [hw6]; exact ((At.new w4 _ _).alloc _).alloc _
      have V6 : At w6 (w4.heap.size + 1 + 1) #[.func (.func 32) #[] #[.pointer (some ⟨w4.heap.size + 1, 0, none⟩), .pointer (some ⟨w.heap.size, 0, none⟩), .pointer (some ⟨w4.heap.size, 0, none⟩), .pointer (some ⟨w4.heap.size + 1 + 1, 0, none⟩)]] 63 := by rw [hw6]; exact At.new2 w4 _ _ _ _
      have hs4 := bw4.size
      have lt4 := J4.lt
      have hVW : VW ps ls (w4.heap.size + 1) w.heap.size w4.heap.size (w4.heap.size + 1 + 1) bj (2 * ls.length) (cntL ls) A1 c1 (.slice A2 ls.length c2) w6 := by
        refine ⟨D4.belows b6, fun k hk => ?_, N6, V6, J4.belows b6, by omega, by omega, by omega, by omega⟩
        obtain ⟨g, o, e, hg, hc⟩ := HZ.out.at k hk
        have bw6 := bw4.trans (b6.mono hs4)
        refine ⟨g, o, e, Nat.lt_of_lt_of_le hg bw6.size, by omega, (bw6.cell (p := ⟨g, o + k, none⟩) hg).trans ?_⟩
        have := hc 0 (by decide)
        simpa [intA] using this
      have hcall := visit_any HR.out 8 an (fun _ => false) w6 (Nat.sub_le _ _) ha rfl hVW A6
      have HB6 := Lib.hid (bw4.trans (b6.mono hs4))
      have hs6 : w4.heap.size + 1 < w6.heap.size := A6.lt
      have v6 := (V6.cell 0).trans rfl
      have HVF : Hid (∀ U, Vis ls (fun _ => false) (an : Int) U → V = U bn) := Lib.hid fun U hU => by
        rw [HV2.out, Bool.eq_iff_iff, rnds_reach HR.out.inN ⟨by omega, by omega⟩, hU.all]
      clear vc vf V0 x0 x1 hw6 b6 A6 N6 V6 hVW J4 b4 bw3 bw2 bw1 b1 b2 b3 b0 HV2
      have hb8 : bn < 8 := by omega
      have j0 : (0 : Int) ≤ (bn : Int) := by omega
      have j1 : (bn : Int) < 8 := by omega
      have HC : Hid (∀ e w7, ((∃ v, e = Ending.returned v) ∧ ∃ U, Vis ls (fun _ => false) (an : Int) U ∧ At w7 (w4.heap.size + 1) (blA 8 U) 62 ∧ w6.grownBy w7 (some (w4.heap.size + 1))) → ∃ v, e = Ending.returned v ∧ w7.cell? ⟨w4.heap.size + 1, bn, none⟩ = some (.bool V) ∧ Below w.heap.size w w7) := Lib.hid (by
        rintro e w7 ⟨⟨v, rfl⟩, U, hU, hAU, gU⟩
        refine ⟨v, rfl, ?_, HB6.out.grown gU HB6.out.size (fun j hj => by cases hj; omega)⟩
        rw [HVF.out U hU]
        exact (hAU.cell bn).trans (blA_at 8 U bn hb8))
      go_wp2_with (go_at_call 32; refine hcall.mono ?_; intro e w7 he; obtain ⟨v, rfl, cb, b7⟩ := HC.out e w7 he; clear he)
      go_ret
      exact ⟨rfl, b7⟩
end Go.Proofs.Ytpdadcjmpjnnhaa
