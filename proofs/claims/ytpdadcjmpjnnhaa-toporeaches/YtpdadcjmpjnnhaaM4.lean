/- Contracts: the closure that visits a device, and those that are joined to it. -/
import Derived.Test.YtpdadcjmpjnnhaaM3
import Derived.Test.YtpdadcjmpjnnhaaJ2
import Derived.Test.YtpdadcjmpjnnhaaT6
namespace Go.Proofs.Ytpdadcjmpjnnhaa
open Go.RowKit Go.Shelf Go.Maps

theorem grownBy_set (W : World) (b j : Nat) (v : Value) : W.grownBy (W.setCell ⟨b, j, none⟩ v) (some b) :=
  ⟨rfl, rfl, rfl, by simp, fun k _ hk => Below.heap_setCell W ⟨b, j, none⟩ v k fun e => hk (by rw [e])⟩
/-- What a visit finds in memory, beside the marks in R. -/
structure VW (ps : List Int) (ls : List Lk) (R T N V bj n s : Nat) (A1 : Option Addr) (c1 : Nat) (vl : Value) (W : World) : Prop where
  topo : At W T #[.slice A1 ps.length c1, vl] 25
  ports : ∀ k (hk : k < ps.length), ∃ g o, A1 = some ⟨g, o, none⟩ ∧ g < W.heap.size ∧ g ≠ R ∧ W.cell? ⟨g, o + k, none⟩ = some (.int .i64 ps[k])
  next : At W N #[.map (some bj)] 49
  visit : At W V #[.func (.func 32) #[] #[.pointer (some ⟨R, 0, none⟩), .pointer (some ⟨T, 0, none⟩), .pointer (some ⟨N, 0, none⟩), .pointer (some ⟨V, 0, none⟩)]] 63
  map : JMap W bj n s (mapL ls)
  neT : T ≠ R
  neN : N ≠ R
  neV : V ≠ R
  neB : bj ≠ R
theorem VW.kept {ps : List Int} {ls : List Lk} {R T N V bj n s : Nat} {A1 : Option Addr} {c1 : Nat} {vl : Value} {W W' : World} (h : VW ps ls R T N V bj n s A1 c1 vl W) (hg : W.grownBy W' (some R)) : VW ps ls R T N V bj n s A1 c1 vl W' :=
  have ne : ∀ {x : Nat}, x ≠ R → some x ≠ some R := fun h e => h (Option.some.inj e)
  ⟨h.topo.kept hg (ne h.neT), fun k hk => by
    obtain ⟨g, o, e, hlt, hne, hc⟩ := h.ports k hk
    exact ⟨g, o, e, Nat.lt_of_lt_of_le hlt hg.size, hne, hg.cell hc (ne hne)⟩,
   h.next.kept hg (ne h.neN), h.visit.kept hg (ne h.neV), MapAt.heap h.map (hg.block bj h.map.lt (ne h.neB)), h.neT, h.neN, h.neV, h.neB⟩

set_option maxRecDepth 100000 in
set_option maxHeartbeats 4000000 in
/-- A visit. -/
theorem visit_any {ps : List Int} {ls : List Lk} (hR : RT ps ls) {R T N V bj n s : Nat} {A1 : Option Addr} {c1 : Nat} {vl : Value} : ∀ (m d : Nat) (S : Int → Bool) (W : World), 8 - cntS 8 S ≤ m → d < ps.length → S d = false → VW ps ls R T N V bj n s A1 c1 vl W → At W R (blA 8 S) 62 →
    Calls Try.prog 32 #[.int .i64 d, .pointer (some ⟨R, 0, none⟩), .pointer (some ⟨T, 0, none⟩), .pointer (some ⟨N, 0, none⟩), .pointer (some ⟨V, 0, none⟩)] W fun e W' =>
      (∃ v, e = .returned v) ∧ ∃ U, Vis ls S d U ∧ At W' R (blA 8 U) 62 ∧ W.grownBy W' (some R) := by
  intro m
  induction m with
  | zero =>
    intro d S W hm hd hS _ _
    have := cnt_room (by have := hR.n8; omega) hS
    omega
  | succ m ih =>
    intro d S W hm hd hS hW hA
    have hd8 : d < 8 := by have := hR.n8; omega
    have ca := (hA.cell d).trans (blA_at 8 S d hd8)
    have fa := hA.frozen d
    have A1' : At (W.setCell ⟨R, d, none⟩ (.bool true)) R (blA 8 (setS S d)) 62 := by
      have := hA.set0 d (.bool true)
      rwa [blA_set] at this
    have g1 := grownBy_set W R d (.bool true)
    have W1 := hW.kept g1
    have i0 : (0 : Int) ≤ (d : Int) := by omega
    have i1 : (d : Int) < 8 := by omega
    have i2 : (d : Int) < (ps.length : Int) := by omega
    have HIH := Lib.hid ih
    have HRT := Lib.hid hR
    have HS := Lib.hid hS
    have HM := Lib.hid hm
    have HD := Lib.hid hd
    clear ih hm hW hA
    obtain ⟨g, o, e, hg, hgR, cp⟩ := W1.ports d hd
    subst e
    have hx := hR.ports ps[d] (List.getElem_mem hd)
    have HX : Hid (ps[d] ≤ ps[d]) := Lib.hid (by omega)
    generalize hxx : ps[d] = x at cp hx HX
    have HXX := Lib.hid hxx
    clear hxx hS hR
    have hL : ps.length ≤ 8 := HRT.out.n8
    go_enter Try.func32, Try.ntmps32
    go_upto_region 1 with (fail)
    obtain ⟨w1, hw1⟩ : ∃ w1, w1 = W.setCell ⟨R, d, none⟩ (.bool true) := ⟨_, rfl⟩
    rw [← hw1] at A1' g1 W1 cp hg ⊢
    clear hw1 ca fa
    have x0 := (W1.topo.cell 0).trans rfl
    have HW1 := Lib.hid W1
    have HG1 := Lib.hid g1
    have HA1 := Lib.hid A1'
    clear W1 g1 A1'
    go_wp2_with fail
    go_loopw [16] (fun i wr => ∃ k : Nat, i = .int .i64 k ∧ (k : Int) ≤ x ∧ Hid (∃ Q, VI ls S d Q k ∧ At wr R (blA 8 Q) 62 ∧ w1.grownBy wr (some R))) (fun i _ => x.toNat - (intOf i).toNat)
    case atStart => exact ⟨0, rfl, by omega, Lib.hid ⟨_, VI.zero ls, HA1.out, World.grownBy.refl _ _⟩⟩
    case round =>
      obtain ⟨k, rfl, hk, HQ⟩ := hrel
      obtain ⟨Q, hQ, hAQ, hgQ⟩ := HQ.out
      clear HQ
      have hWr := HW1.out.kept hgQ
      by_cases hkx : (k : Int) < x
      · have hpt : isPt ⟨d, k⟩ := by refine ⟨⟨?_, ?_⟩, ?_, ?_⟩ <;> dsimp only <;> omega
        obtain ⟨kl, hkl⟩ := keyPt ⟨d, k⟩ hpt
        have hnx := mapL_next HRT.out.nodup ⟨d, k⟩
        have hrw : ptA ⟨d, k⟩ = #[.int .i64 d, .int .i64 k] := rfl
        rw [hrw] at hkl
        have HMP := Lib.hid hWr.map
        have HPT := Lib.hid hpt
        have HKL := Lib.hid hkl
        have cN := (hWr.next.cell 0).trans rfl
        have cV := (hWr.visit.cell 0).trans rfl
        have ltN := hWr.next.lt
        have ltV := hWr.visit.lt
        have ltR := hAQ.lt
        have HVI := Lib.hid hQ
        have HAQ := Lib.hid hAQ
        have HGQ := Lib.hid hgQ
        have HWR := Lib.hid hWr
        clear hpt hkl hrw hQ hAQ hgQ hWr
        cases hno : nextT ls ⟨d, k⟩ with
        | none =>
          have HV : Hid ((((mapL ls ⟨d, k⟩).map ptV).getD (ptV ⟨0, 0⟩)) = .agg #[.int .i64 0, .int .i64 0] ∧ ((mapL ls ⟨d, k⟩).map ptV).isSome = false) := Lib.hid (by rw [hnx, hno]; exact ⟨rfl, rfl⟩)
          have HN := Lib.hid (HVI.out.none hno)
          clear hnx hno
          go_wp2_with (at_lookup; refine wpList_map_look_ok rfl _ _ 49 rfl 27 keyedPt Try.underlying49 (zPt _) rfl HMP.out ⟨d, k⟩ HPT.out rfl HKL.out ?_; rw [HV.out.1, HV.out.2])
          exact ⟨⟨k + 1, by go_num, by omega, Lib.hid ⟨Q, HN.out, HAQ.out.alloc _, HGQ.out.trans (World.grownBy_alloc _ _ _)⟩⟩, by simp [intOf]; omega⟩
        | some q =>
          have HV : Hid ((((mapL ls ⟨d, k⟩).map ptV).getD (ptV ⟨0, 0⟩)) = .agg #[.int .i64 q.d, .int .i64 q.p] ∧ ((mapL ls ⟨d, k⟩).map ptV).isSome = true) := Lib.hid (by rw [hnx, hno]; exact ⟨rfl, rfl⟩)
          obtain ⟨qd, hqd, hqlt⟩ := next_dev HRT.out hno
          have HSEEN : Hid (Q qd = true → VI ls S d Q (k + 1)) := Lib.hid fun h => HVI.out.seen hno (by rw [hqd]; exact h)
          have HWENT : Hid (∀ U, Vis ls Q qd U → VI ls S d U (k + 1)) := Lib.hid fun U h => HVI.out.went hno (by rw [hqd]; exact h)
          obtain ⟨q1, q2⟩ := q
          dsimp only at hqd HV
          subst hqd
          clear hnx hno
          have hq8 : qd < 8 := by omega
          have cq := (HAQ.out.cell qd).trans (blA_at 8 Q qd hq8)
          have j0 : (0 : Int) ≤ (qd : Int) := by omega
          have j1 : (qd : Int) < 8 := by omega
          cases hQq : Q qd with
          | true =>
            rw [hQq] at cq
            have HN := Lib.hid (HSEEN.out hQq)
            clear HSEEN HWENT hQq
            go_wp2_with (at_lookup; refine wpList_map_look_ok rfl _ _ 49 rfl 27 keyedPt Try.underlying49 (zPt _) rfl HMP.out ⟨d, k⟩ HPT.out rfl HKL.out ?_; rw [HV.out.1, HV.out.2])
            exact ⟨⟨k + 1, by go_num, by omega, Lib.hid ⟨Q, HN.out, HAQ.out.alloc _, HGQ.out.trans (World.grownBy_alloc _ _ _)⟩⟩, by simp [intOf]; omega⟩
          | false =>
            rw [hQq] at cq
            have hcall := HIH.out qd Q (wr.alloc (.cells #[.int .i64 qd, .int .i64 q2] 27)) (by have := HVI.out.less (by omega) HS.out; have := cnt_room hd8 HS.out; have := HM.out; omega) hqlt hQq (HWR.out.kept (World.grownBy_alloc _ _ _)) (HAQ.out.alloc _)
            clear HSEEN hQq
            go_wp2_with (first
              | (at_lookup; refine wpList_map_look_ok rfl _ _ 49 rfl 27 keyedPt Try.underlying49 (zPt _) rfl HMP.out ⟨d, k⟩ HPT.out rfl HKL.out ?_; rw [HV.out.1, HV.out.2])
              | (go_at_call 32; refine hcall.mono ?_; rintro e w3 ⟨⟨v, rfl⟩, U, hU, hAU, gU⟩))
            exact ⟨⟨k + 1, by go_num, by omega, Lib.hid ⟨U, HWENT.out U hU, hAU, (HGQ.out.trans (World.grownBy_alloc _ _ _)).trans gU⟩⟩, by simp [intOf]; omega⟩
      · have hfin : Hid (Vis ls S d Q) := Lib.hid (hQ.fin HRT.out HD.out (by have := HXX.out; omega))
        have HAQ := Lib.hid hAQ
        have HGQ := Lib.hid hgQ
        clear hQ hAQ hgQ hWr
        go_wp2_with fail
        go_end0
        exact ⟨⟨_, rfl⟩, Q, hfin.out, HAQ.out, HG1.out.trans HGQ.out⟩
end Go.Proofs.Ytpdadcjmpjnnhaa
