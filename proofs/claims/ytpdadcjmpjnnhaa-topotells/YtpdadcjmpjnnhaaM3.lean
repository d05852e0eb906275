/- Contracts: the program's Edges. -/
import Derived.Test.YtpdadcjmpjnnhaaM2
namespace Go.Proofs.Ytpdadcjmpjnnhaa
open Go.RowKit Go.Shelf Go.Maps

theorem zPt (w : World) : (zeroValue 27).run Try.prog w = .ok (ptV ⟨0, 0⟩) w := by kernel_rfl
set_option maxRecDepth 100000 in
set_option maxHeartbeats 4000000 in
/-- Edges, of a right topology. -/
theorem edges_any {vp vl : Value} (ps : List Int) (ls : List Lk) (w : World) (hR : RT ps ls) (hT : TW ps ls) (h : IsT w vp vl ps ls) : Calls Try.prog 18 #[.agg #[vp, vl]] w (EdgOut (edgesT ps ls) w) := by
  have KR : Hid (∀ u, Below w.heap.size w u → Calls Try.prog 10 #[.agg #[vp, vl]] u fun e w' => e = .returned (.bool true) ∧ Below u.heap.size u w') := Lib.hid fun u hu => by
    have := right_any ps ls u hT (h.belows hu)
    rw [(rightT_iff ps ls).2 hR] at this
    exact this
  have KJ : Hid (∀ u, Below w.heap.size w u → Calls Try.prog 26 #[.agg #[vp, vl]] u (JOut ls u)) := Lib.hid fun u hu => joined_any ps ls u hT hR.l16 (h.belows hu)
  obtain ⟨⟨A1, c1, rfl, n1, m1, z1⟩, ⟨A2, c2, rfl, n2, m2, z2⟩⟩ := h
  have hM : ps.length ≤ 9223372036854775807 := Nat.le_trans n1 m1
  have D0 := At.new w #[.slice A1 ps.length c1, .slice A2 ls.length c2] 25
  have b0 : Below w.heap.size w (w.alloc (.cells #[.slice A1 ps.length c1, .slice A2 ls.length c2] 25)) := (Below.refl _ w).alloc (Nat.le_refl _) _
  have HP := Lib.hid hR.ports
  have HN := Lib.hid hR.nodup
  have hn8 := hR.n8
  have HZ := Lib.hid z1
  clear z1 z2 hR hT
  have kr := KR.out _ b0
  go_enter Try.func18, Try.ntmps18
  obtain ⟨w0, hw0⟩ : ∃ w0, w0 = w.alloc (.cells #[.slice A1 ps.length c1, .slice A2 ls.length c2] 25) := ⟨_, rfl⟩
  rw [← hw0] at D0 b0 kr
  go_upto_region 1 with (fail)
  rw [← hw0]
  clear hw0
  have x0 := (D0.cell 0).trans rfl
  have x1 := (D0.cell 1).trans rfl
  go_wp2_with fail
  refine kr.mono ?_
  rintro e w1 ⟨rfl, b1⟩
  have bw1 := b0.trans (b1.mono b0.size)
  have D1 := D0.belows b1
  have kj := KJ.out _ bw1
  clear x0 x1 kr
  have x0 := (D1.cell 0).trans rfl
  have x1 := (D1.cell 1).trans rfl
  go_wp2_with fail
  refine kj.mono ?_
  rintro e w2 ⟨bj, rfl, hbj, J2, b2⟩
  have bw2 := bw1.trans (b2.mono bw1.size)
  have D2 := D1.belows b2
  have HJ := Lib.hid J2
  have HB2 := Lib.hid bw2
  clear x0 x1 kj J2 hbj D0 D1 b0 b1 b2 bw1
  have x0 := (D2.cell 0).trans rfl
  have hsz2 := D2.lt
  go_wp2_with fail
  go_loopw [3, 19] (fun out i wr => ∃ ik : Nat, i = .int .i64 ik ∧ ik ≤ ps.length ∧ Hid (EdI ps ls w w2 ik 0 out wr)) (fun _ i => fun _ => ps.length - (intOf i).toNat)
  case atStart => exact ⟨0, rfl, by omega, Lib.hid ⟨⟨by simp [edgK_zero, fcs], .inl ⟨rfl, by simp [edgK_zero]⟩⟩, Below.refl _ _⟩⟩
  case round =>
    obtain ⟨ik, rfl, hik, HI⟩ := hrel
    obtain ⟨hrow, hb⟩ := HI.out
    by_cases hlt : ik < ps.length
    · have i0 : (0 : Int) ≤ (ik : Int) := by omega
      have i1 : (ik : Int) < (ps.length : Int) := by omega
      have hx := HP.out ps[ik] (List.getElem_mem hlt)
      have HX : Hid (ps[ik]?.getD 0 = ps[ik]) := Lib.hid (by simp [hlt])
      obtain ⟨g, o, e, hg, hc⟩ := HZ.out.at ik hlt
      subst e
      have r0 : wr.cell? ⟨g, o + ik, none⟩ = some (.int .i64 ps[ik]) := ((HB2.out.trans (hb.mono HB2.out.size)).cell (p := ⟨g, o + ik, none⟩) hg).trans (by have := hc 0 (by decide); simpa [intA] using this)
      clear hc
      generalize ps[ik] = x at r0 HX hx
      clear HI
      obtain ⟨wo, rfl⟩ : ∃ wo, wo = wr := ⟨_, rfl⟩
      have HROW := Lib.hid hrow
      have HBo := Lib.hid hb
      clear hrow hb
      go_wp2_with fail
      go_loopw [3, 25] (fun out k wr => ∃ kk : Nat, k = .int .i64 kk ∧ (kk : Int) ≤ x ∧ Hid (EdI ps ls w w2 ik kk out wr)) (fun _ k => fun _ => x.toNat - (intOf k).toNat)
      case atStart => exact ⟨0, rfl, by omega, Lib.hid ⟨HROW.out, HBo.out⟩⟩
      case round =>
        obtain ⟨kk, rfl, hkk, HJJ⟩ := hrel
        obtain ⟨hrow, hb⟩ := HJJ.out
        clear HJJ
        by_cases hk2 : (kk : Int) < x
        · have hle : (edgK ps ls ik kk).length ≤ 36 := edgK_len ps ls HP.out ik kk (by omega) (by omega)
          have HE := Lib.hid (edgK_port ps ls ik kk)
          have hpt : isPt ⟨ik, kk⟩ := by refine ⟨⟨?_, ?_⟩, ?_, ?_⟩ <;> dsimp only <;> omega
          obtain ⟨kl, hkl⟩ := keyPt ⟨ik, kk⟩ hpt
          have hnx := mapL_next HN.out ⟨ik, kk⟩
          have hrw : ptA ⟨ik, kk⟩ = #[.int .i64 ik, .int .i64 kk] := rfl
          rw [hrw] at hkl
          have bp : Below wr.heap.size wr (wr.alloc (.cells #[.int .i64 ik, .int .i64 kk] 27)) := (Below.refl _ wr).alloc (Nat.le_refl _) _
          have HMP := Lib.hid ((HJ.out.belows hb).belows bp)
          generalize hfl : edgK ps ls ik kk = fl at HE hrow hle
          clear hfl
          have HRW := Lib.hid hrow
          have HBB := Lib.hid hb
          have hs4 : w2.heap.size ≤ wr.heap.size := hb.size
          have HPT := Lib.hid hpt
          have HKL := Lib.hid hkl
          clear hrow hb bp hpt hkl hrw
          cases hno : nextT ls ⟨ik, kk⟩ with
          | some z =>
            have HN : Hid (edgK ps ls ik (kk + 1) = fl) := Lib.hid (by rw [HE.out, hno]; simp)
            have HV : Hid ((((mapL ls ⟨ik, kk⟩).map ptV).getD (ptV ⟨0, 0⟩)) = .agg #[.int .i64 z.d, .int .i64 z.p] ∧ ((mapL ls ⟨ik, kk⟩).map ptV).isSome = true) := Lib.hid (by rw [hnx, hno]; exact ⟨rfl, rfl⟩)
            clear HE hnx hno
            go_wp2_with (at_lookup; refine wpList_map_look_ok rfl _ _ 49 rfl 27 keyedPt Try.underlying49 (zPt _) rfl HMP.out ⟨ik, kk⟩ HPT.out rfl HKL.out ?_; rw [HV.out.1, HV.out.2])
            refine ⟨⟨kk + 1, by go_num, by omega, Lib.hid ⟨by rw [HN.out]; exact World.ownsRow.alloc (World.ownsRow.alloc HRW.out _) _, (HBB.out.alloc hs4 _).alloc (by simp; omega) _⟩⟩, by simp [intOf]; omega⟩
          | none =>
            have HN : Hid (edgK ps ls ik (kk + 1) = fl ++ [⟨ik, kk⟩]) := Lib.hid (by rw [HE.out, hno]; simp)
            have HV : Hid ((((mapL ls ⟨ik, kk⟩).map ptV).getD (ptV ⟨0, 0⟩)) = .agg #[.int .i64 0, .int .i64 0] ∧ ((mapL ls ⟨ik, kk⟩).map ptV).isSome = false) := Lib.hid (by rw [hnx, hno]; exact ⟨rfl, rfl⟩)
            clear HE hnx hno
            go_wp2_with (first
              | (at_lookup; refine wpList_map_look_ok rfl _ _ 49 rfl 27 keyedPt Try.underlying49 (zPt _) rfl HMP.out ⟨ik, kk⟩ HPT.out rfl HKL.out ?_; rw [HV.out.1, HV.out.2])
              | (at_builtin; refine wpList_app_new ptA_size ptA_one Try.underlying35 infoPt rfl (by decide) rfl (.tmp 39) (.tmp 41) rfl w2.heap.size _ fl rfl (World.ownsRow.alloc (World.ownsRow.alloc (World.ownsRow.alloc HRW.out _) _) _) ⟨wr.heap.size + 1 + 1, 0, none⟩ 1 [⟨ik, kk⟩] rfl (by have := f_new ptA_size ((wr.alloc (.cells #[.int .i64 ik, .int .i64 kk] 27)).alloc (.cells #[.int .i64 0, .int .i64 0] 27)) [(⟨ik, kk⟩ : Pt)] #[.int .i64 ik, .int .i64 kk] 27 rfl; simpa using this) (by simp only [maxLen, List.length_singleton]; omega) (by simp only [List.length_singleton]; omega) (by simp; omega) ?_; intro v' w5 hown' b5))
            have c5 : Below w2.heap.size w2 w5 := (((HBB.out.alloc hs4 (.cells #[.int .i64 ik, .int .i64 kk] 27)).alloc (by simp; omega) (.cells #[.int .i64 0, .int .i64 0] 27)).alloc (by simp; omega) (.cells #[.int .i64 ik, .int .i64 kk] 27)).trans b5
            refine ⟨⟨kk + 1, by go_num, by omega, Lib.hid ⟨by rw [HN.out]; exact hown', c5⟩⟩, by simp [intOf]; omega⟩
        · have HV : Hid (edgK ps ls (ik + 1) 0 = edgK ps ls ik kk) := Lib.hid (edgK_dev ps ls ik x HX.out kk (by omega))
          have HRW := Lib.hid hrow
          clear hrow
          go_wp2
          go_roundw
          case rel => exact ⟨ik + 1, by go_num, by omega, Lib.hid ⟨by rw [HV.out]; exact HRW.out, hb⟩⟩
          case measure => simp [intOf]; omega
    · obtain rfl : ik = ps.length := by omega
      rw [edgK_all] at hrow
      have hR := isF_of_row ptA_size hrow
      have HR := Lib.hid hR
      clear hR hrow HI
      go_wp2
      go_ret
      exact ⟨_, rfl, HR.out, HB2.out.trans (hb.mono HB2.out.size)⟩
end Go.Proofs.Ytpdadcjmpjnnhaa
