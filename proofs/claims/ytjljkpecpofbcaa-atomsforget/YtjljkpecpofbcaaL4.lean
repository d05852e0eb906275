/- AtomsForget, walked. -/
import Derived.Test.YtjljkpecpofbcaaS2
namespace Go.Proofs.Ytjljkpecpofbcaa
open Go.RowKit Go.Shelf

theorem drop_perm {L D : List (Nat × Nat)} {i : Nat} (hi : i < D.length) : ((L ++ D.drop i).erase D[i]).Perm (L ++ D.drop (i + 1)) := by
  have h1 : (L ++ D.drop i).Perm (D[i] :: (L ++ D.drop (i + 1))) := by
    rw [List.drop_eq_getElem_cons hi]; exact List.perm_middle
  have h2 := h1.erase D[i]
  rwa [List.erase_cons_head] at h2
theorem mem_drop {L D : List (Nat × Nat)} {i : Nat} (hi : i < D.length) : D[i] ∈ L ++ D.drop i := by
  rw [List.drop_eq_getElem_cons hi]; exact List.mem_append_right _ List.mem_cons_self
/-- A row of ranges that grows leaves all blocks of other types alone. -/
theorem At.row {W W' : World} {base n B : Nat} {v : Value} {xs : List Value} {cs : Array Value} {t : TypeId} (h : At W B cs t) (ht : t ≠ 32) (hr : W.ownsRow base 32 2 v n xs) (hg : W.grownBy W' v.ownBlock) : At W' B cs t :=
  h.kept hg fun e => by
    rcases hr.2 with ⟨rfl, _⟩ | ⟨g, cap, cur, rfl, _, hgc, _⟩
    · cases e
    · have e2 : B = g := by injection e
      subst e2
      have := (show W.heap[B]? = _ from h).symm.trans hgc
      injection this with this
      injection this with _ this
      exact ht this
theorem IsT.row {W W' : World} {base n : Nat} {rv : Value} {xs : List Value} (hr : W.ownsRow base 32 2 rv n xs) (hg : W.grownBy W' rv.ownBlock) : ∀ {v : Value} {t : Bt}, IsT W v t → IsT W' v t
  | _, .nil, h => h
  | _, .node _ _ _, ⟨B, vl, vr, e, ha, hl, hr'⟩ => ⟨B, vl, vr, e, ha.row (by decide) hr hg, IsT.row hr hg hl, IsT.row hr hg hr'⟩
theorem IsTree.row {W W' : World} {base n : Nat} {rv : Value} {xs : List Value} (hr : W.ownsRow base 32 2 rv n xs) (hg : W.grownBy W' rv.ownBlock) {v : Value} {L : List (Int × Int)} (h : IsTree W v L) : IsTree W' v L := by
  rcases h with h | ⟨h1, h2, B, vn, t, e, ha, hi, he, hf⟩
  · exact .inl h
  · exact .inr ⟨h1, h2, B, vn, t, e, ha.row (by decide) hr hg, hi.row hr hg, he, hf⟩
theorem IsTab.row {W W' : World} {base n : Nat} {rv : Value} {xs : List Value} (hr : W.ownsRow base 32 2 rv n xs) (hg : W.grownBy W' rv.ownBlock) {v : Value} {L : List (Nat × Nat)} (h : IsTab W v L) : IsTab W' v L := by
  obtain ⟨h1, B, vr, vc, R, C, e, ha, hr', hc, tr, tc⟩ := h
  exact ⟨h1, B, vr, vc, R, C, e, ha.row (by decide) hr hg, hr'.row hr hg, hc.row hr hg, tr, tc⟩
/-- Where the adding stands: the table, the ranges that were added. -/
def FI (w2 : World) (L : List (Nat × Nat)) (j : Nat) (tv dv : Value) (W : World) : Prop := ∃ D : List (Nat × Nat), D.length ≤ j ∧ IsTab W tv (L ++ D) ∧ W.ownsRow w2.heap.size 32 2 dv D.length (zcells D) ∧ Below w2.heap.size w2 W
set_option maxRecDepth 100000 in
set_option maxHeartbeats 4000000 in
theorem atomsForget_walk {v lv : Value} (S : List ActT) (l : List (Nat × Nat)) (w : World) (hu : U32 l) (hs : IsS w v S) (hlz : IsZ w lv l) : Calls Try.prog 6 #[v, lv] w fun e w' => e = .returned (.bool true) ∧ Below w.heap.size w w' := by
  obtain ⟨i0, hi, hz0, hz1, hz2⟩ := info_parts info32
  obtain ⟨A, c, rfl, n1, m1, z1⟩ := hs
  obtain ⟨Al, cl, rfl, nl, ml, zl⟩ := hlz
  simp only [maxLen] at m1 ml
  have HS : Hid (∀ W, Below w.heap.size w W → Ss W A S) := Lib.hid fun W hW => z1.belows hW
  have HLZ : Hid (∀ W, Below w.heap.size w W → Zs W Al l) := Lib.hid fun W hW => zl.belows hW
  have HU := Lib.hid hu
  clear z1 zl hu
  go_enter Try.func6, Try.ntmps6
  go_wp2_with fail
  refine (new_any w).mono ?_
  rintro e w1 ⟨v1, rfl, t1, b1⟩
  obtain ⟨B1, rfl⟩ := t1.ptr
  have HD0 := Lib.hid (hd_new t1)
  have HB0 := Lib.hid (b1.alloc b1.size (.cells #[.pointer (some ⟨B1, 0, none⟩), .slice none 0 0] 28))
  have hbs := b1.size
  clear t1 b1
  go_upto_block 0 with (fail)
  go_cut [6] (fun _ wc => Hid (∃ L, L.length ≤ 60 ∧ Hd wc w1.heap.size L ∧ Below w.heap.size w wc))
  case first =>
    go_wp2_with fail
    go_loopw [6] (fun i wr => ∃ j : Nat, i = .int .i64 j ∧ j ≤ S.length ∧ j ≤ 60 ∧ Hid (∃ L, L.length ≤ j ∧ Hd wr w1.heap.size L ∧ Below w.heap.size w wr)) (fun i _ => 60 - (intOf i).toNat)
    case atStart => exact ⟨0, rfl, by omega, by omega, Lib.hid ⟨[], by simp, HD0.out, HB0.out⟩⟩
    case round =>
      obtain ⟨j, rfl, hj, hj2, HI⟩ := hrel
      obtain ⟨L, hLj, hd, hb⟩ := HI.out
      have HB := Lib.hid hb
      clear HI HD0 HB0
      by_cases hlt : j < S.length ∧ j < 60
      · obtain ⟨hl, h60⟩ := hlt
        obtain ⟨g, o, eA, hg, hc⟩ := HS.out _ HB.out (by omega)
        subst eA
        obtain ⟨⟨q0, q1, q2⟩, hu1, hu2⟩ := hc j hl
        clear hc hg hb
        generalize S[j] = a at q0 q1 q2 hu1 hu2
        obtain ⟨d, f, t⟩ := a
        simp only at q0 q1 q2 hu1 hu2
        have i1 : (j : Int) < (S.length : Int) := by omega
        go_wp2_with fail
        refine (do_any w1.heap.size d f t L wr hu1 hu2 hd).mono ?_
        rintro e w2 ⟨rfl, h2, g2⟩
        have HB2 := Lib.hid (below_grown HB.out g2 hbs)
        have hL2 := actL_len L d (f, t)
        have HH2 := Lib.hid h2
        clear q0 q1 q2 hd g2 HB h2
        go_wp2
        go_roundw
        case rel => exact ⟨j + 1, by go_num, by omega, by omega, Lib.hid ⟨_, by omega, HH2.out, HB2.out⟩⟩
        case measure => simp [intOf]; omega
      · have hways : (decide ((j : Int) < (S.length : Int)) = true ∧ decide (j < S.length) = true ∧ decide ((j : Int) < 60) = false) ∨ (decide ((j : Int) < (S.length : Int)) = false ∧ decide (j < S.length) = false ∧ decide ((j : Int) < 60) = decide ((j : Int) < 60)) := by
          by_cases hl : j < S.length
          · left; have : ¬ j < 60 := fun e => hlt ⟨hl, e⟩; simp; omega
          · right; simp; omega
        have HF := Lib.hid (And.intro hd hb)
        clear hlt hb hd
        rcases hways with ⟨dl, dl', d60⟩ | ⟨dl, dl', d60⟩
        all_goals (
          go_wp2_with fail
          go_meet
          exact Lib.hid ⟨L, by omega, HF.out.1, HF.out.2⟩)
  case rest =>
    obtain ⟨L, hL60, hd, hb⟩ := hcut.out
    have HB := Lib.hid hb
    clear hcut HD0 HB0 hb
    have hRL := hd.rl
    obtain ⟨B2, A2, n2, c2, hA2, ht2, hz2, hy2⟩ := hd
    obtain ⟨w2, ew⟩ : ∃ w2, wc = w2 := ⟨_, rfl⟩
    rw [ew] at HB hA2 ht2 hz2 hy2 ⊢
    clear ew
    have HT : Hid (∀ W, Below w2.heap.size w2 W → IsTab W (.pointer (some ⟨B2, 0, none⟩)) L) := Lib.hid fun W hW => ht2.belows hW
    have HP : Hid (∀ W, Below w2.heap.size w2 W → IsZ W (.slice A2 n2 c2) L) := Lib.hid fun W hW => hz2.belows hW
    have KS : Hid (∀ W, Below w2.heap.size w2 W → W.cell? ⟨w1.heap.size, 0, none⟩ = some (.pointer (some ⟨B2, 0, none⟩)) ∧ W.cell? ⟨w1.heap.size, 1, none⟩ = some (.slice A2 n2 c2)) := Lib.hid fun W hW => ⟨((hA2.belows hW).cell 0).trans rfl, ((hA2.belows hW).cell 1).trans rfl⟩
    have HRL := Lib.hid hRL
    clear hA2 ht2 hz2 hy2 hRL
    obtain ⟨q0, _⟩ := KS.out w2 (Below.refl _ _)
    have hsw2 : w.heap.size ≤ w2.heap.size := HB.out.size
    go_upto_block 2 with (fail)
    go_cut [7, 8, 9] (fun tv dv _ wc => Hid (FI w2 L 40 tv dv wc))
    case first =>
      go_wp2_with fail
      go_loopw [7, 8, 9] (fun tv dv k wr => ∃ j : Nat, k = .int .i64 j ∧ j ≤ l.length ∧ j ≤ 40 ∧ Hid (FI w2 L j tv dv wr)) (fun _ _ k _ => 40 - (intOf k).toNat)
      case atStart => exact ⟨0, rfl, by omega, by omega, Lib.hid ⟨[], by simp, by rw [List.append_nil]; exact HT.out w2 (Below.refl _ _), World.ownsRow_nil _ _ _ _, Below.refl _ _⟩⟩
      case round =>
        obtain ⟨j, rfl, hj, hj2, HI⟩ := hrel
        obtain ⟨D, hDj, htab, hrow, hb⟩ := HI.out
        by_cases hlt : j < l.length ∧ j < 40
        · obtain ⟨hl, h40⟩ := hlt
          obtain ⟨g, o, rfl, hg, hc⟩ := HLZ.out w (Below.refl _ _) (by omega)
          have hbw := HB.out.trans (hb.mono HB.out.size)
          have e0 := (hc j hl).1
          have e1 := (hc j hl).2
          have hul := HU.out.at j hl
          generalize l[j] = r at e0 e1 hul
          obtain ⟨f, t⟩ := r
          simp only at e0 e1 hul
          have HCL : Hid (∀ W, Below w.heap.size w W → W.cell? ⟨g, o + j * 2, none⟩ = some (.int .u32 f) ∧ W.cell? ⟨g, o + j * 2 + 1, none⟩ = some (.int .u32 t)) := Lib.hid fun W hW => ⟨(hW.cell (p := ⟨g, _, none⟩) hg).trans e0, (hW.cell (p := ⟨g, _, none⟩) hg).trans e1⟩
          obtain ⟨p0, p1⟩ := HCL.out wr hbw
          obtain ⟨Bt, rfl⟩ := htab.ptr
          have k0 : (0 : Int) ≤ (j : Int) := by omega
          have k1 : (j : Int) < (l.length : Int) := by omega
          have hDl : (L ++ D).length < 500 := by simp; omega
          have HTAB := Lib.hid htab
          have HROW := Lib.hid hrow
          have HBB := Lib.hid hb
          clear hc e0 e1 htab hrow hb HI q0 hbw
          by_cases hft : f ≤ t
          · go_wp2_with fail
            refine (add_ok (L ++ D) f t wr HTAB.out.any hft hul.2 hDl).mono ?_
            rintro e w3 ⟨v3, rfl, t3, b3⟩
            obtain ⟨B3, rfl⟩ := t3.ptr
            have hb3 := HBB.out.trans (b3.mono HBB.out.size)
            have hR3 := own_belows HROW.out b3
            have HR3 := Lib.hid hR3
            obtain ⟨p0, p1⟩ := HCL.out w3 (HB.out.trans (hb3.mono HB.out.size))
            have hs3 := hb3.size
            have HT3 := Lib.hid t3
            have HB3 := Lib.hid hb3
            clear t3 hR3 hb3 b3
            go_wp2_with (at_builtin; refine wpList_append_own _ rfl _ _ 26 rfl w2.heap.size 32 i0 (.agg #[.int .u32 0, .int .u32 0]) 2 8 Try.underlying26 hi hz0 hz1 hz2 rfl (by decide) _ _ _ rfl (HR3.out.alloc _) ⟨w3.heap.size, 0, none⟩ 1 1 [.int .u32 f, .int .u32 t] rfl rfl (World.news_of_block (cs := #[.int .u32 f, .int .u32 t]) (t := 32) (fr := (0, 0)) (heap_alloc_new w3 _)) (by simp [Value.oneCell']) (by simp only [maxLen]; omega) (by omega) (by simp; omega) ?_; intro v' w4 hown' hgrow _)
            have hg4 : Below w2.heap.size w3 w4 := ((Below.refl w2.heap.size w3).alloc hs3 _).grown hgrow (by simp; omega) (fun k hk => (HR3.out.lt k hk).1)
            have ht4 : IsTab w4 (.pointer (some ⟨B3, 0, none⟩)) (L ++ (D ++ [(f, t)])) := by
              rw [← List.append_assoc]
              exact (HT3.out.belows ((Below.refl _ w3).alloc (Nat.le_refl _) _)).row (HR3.out.alloc _) hgrow
            refine ⟨⟨j + 1, by go_num, by omega, by omega, Lib.hid ⟨D ++ [(f, t)], by simp; omega, ht4, ?_, HB3.out.trans hg4⟩⟩, by simp [intOf]; omega⟩
            rw [zcells_snoc]
            simpa using hown'
          · go_wp2_with fail
            refine (add_wrong (L ++ D) f t wr HTAB.out.any (by omega)).mono ?_
            rintro e w3 ⟨rfl, b3⟩
            have hb3 := HBB.out.trans (b3.mono HBB.out.size)
            have HF3 : Hid (FI w2 L (j + 1) (.pointer (some ⟨Bt, 0, none⟩)) u8 w3) := Lib.hid ⟨D, by omega, HTAB.out.belows b3, own_belows HROW.out b3, hb3⟩
            clear b3 hb3
            go_wp2
            go_roundw
            case rel => exact ⟨j + 1, by go_num, by omega, by omega, HF3⟩
            case measure => simp [intOf]; omega
        · have hways : (decide ((j : Int) < (l.length : Int)) = true ∧ decide (j < l.length) = true ∧ decide ((j : Int) < 40) = false) ∨ (decide ((j : Int) < (l.length : Int)) = false ∧ decide (j < l.length) = false ∧ decide ((j : Int) < 40) = decide ((j : Int) < 40)) := by
            by_cases hl : j < l.length
            · left; have : ¬ j < 40 := fun e => hlt ⟨hl, e⟩; simp; omega
            · right; simp; omega
          have HF3 : Hid (FI w2 L 40 u7 u8 wr) := Lib.hid ⟨D, by omega, htab, hrow, hb⟩
          clear hlt htab hrow hb HI
          rcases hways with ⟨dl, dl', d60⟩ | ⟨dl, dl', d60⟩
          all_goals (
            go_wp2_with fail
            go_meet
            exact HF3)
    case rest =>
      obtain ⟨D, hD40, htab, hrow, hb⟩ := hcut.out
      have hzd := isZ_of_row hrow
      obtain ⟨Bt, rfl⟩ := htab.ptr
      obtain ⟨Ad, cd, rfl, nd, md, zd⟩ := hzd
      obtain ⟨w3, ew⟩ : ∃ w3, wc = w3 := ⟨_, rfl⟩
      rw [ew] at htab hb zd ⊢
      clear ew hrow hcut
      have hmd : cd ≤ 9223372036854775807 := md
      have HZD : Hid (∀ W, Below w3.heap.size w3 W → Zs W Ad D) := Lib.hid fun W hW => zd.belows hW
      have HT0 := Lib.hid htab
      have HB3 := Lib.hid hb
      clear zd htab hb q0
      go_wp2_with fail
      go_loopw [7, 12] (fun tv k wr => ∃ j : Nat, k = .int .i64 j ∧ j ≤ D.length ∧ Hid (IsTab wr tv (L ++ D.drop j) ∧ Below w3.heap.size w3 wr)) (fun _ k _ => D.length - (intOf k).toNat)
      case atStart => exact ⟨0, rfl, by omega, Lib.hid ⟨by rw [List.drop_zero]; exact HT0.out, Below.refl _ _⟩⟩
      case round =>
        obtain ⟨j, rfl, hj, HJ⟩ := hrel
        obtain ⟨htj, hbj⟩ := HJ.out
        by_cases hlt : j < D.length
        · obtain ⟨g, o, eA, hg, hc⟩ := HZD.out wr hbj (by omega)
          subst eA
          obtain ⟨p0, p1⟩ := hc j hlt
          have hmem := mem_drop (L := L) hlt
          have hperm := drop_perm (L := L) hlt
          generalize D[j] = r at p0 p1 hmem hperm
          obtain ⟨f, t⟩ := r
          simp only at p0 p1
          obtain ⟨Bj, rfl⟩ := htj.ptr
          have HTJ := Lib.hid htj
          have HPM := Lib.hid (And.intro hmem hperm)
          have HBJ := Lib.hid hbj
          have k0 : (0 : Int) ≤ (j : Int) := by omega
          have k1 : (j : Int) < (D.length : Int) := by omega
          clear hc hmem hperm htj hbj HJ
          go_wp2_with fail
          refine (drop5_ok _ f t wr HTJ.out.any HPM.out.1).mono ?_
          rintro e w4 ⟨v4, rfl, t4, b4⟩
          obtain ⟨B4, rfl⟩ := t4.ptr
          have HT4 := Lib.hid (t4.perm HPM.out.2)
          have HB4 := Lib.hid (HBJ.out.trans (b4.mono HBJ.out.size))
          clear t4 b4
          go_wp2
          go_roundw
          case rel => exact ⟨j + 1, by go_num, by omega, Lib.hid ⟨HT4.out, HB4.out⟩⟩
          case measure => simp [intOf]; omega
        · obtain rfl : j = D.length := by omega
          rw [List.drop_length, List.append_nil] at htj
          obtain ⟨Bj, rfl⟩ := htj.ptr
          obtain ⟨w4, ew⟩ : ∃ w4, wr = w4 := ⟨_, rfl⟩
          rw [ew] at htj hbj ⊢
          clear ew HJ
          have b24 := HB3.out.trans (hbj.mono HB3.out.size)
          have HTJ : Hid (∀ W, Below w4.heap.size w4 W → IsTab W (.pointer (some ⟨Bj, 0, none⟩)) L) := Lib.hid fun W hW => htj.belows hW
          have HTH : Hid (∀ W, Below w4.heap.size w4 W → IsTab W (.pointer (some ⟨B2, 0, none⟩)) L ∧ IsZ W (.slice A2 n2 c2) L) := Lib.hid fun W hW => ⟨HT.out W (b24.trans (hW.mono b24.size)), HP.out W (b24.trans (hW.mono b24.size))⟩
          have KQ : Hid (∀ W, Below w4.heap.size w4 W → W.cell? ⟨w1.heap.size, 0, none⟩ = some (.pointer (some ⟨B2, 0, none⟩)) ∧ W.cell? ⟨w1.heap.size, 1, none⟩ = some (.slice A2 n2 c2)) := Lib.hid fun W hW => KS.out W (b24.trans (hW.mono b24.size))
          have HRG : Hid (∀ v, (v = .pointer (some ⟨Bj, 0, none⟩) ∨ v = .pointer (some ⟨B2, 0, none⟩)) → ∀ W, Below w4.heap.size w4 W → Calls Try.prog 15 #[v] W (RngOut W L)) := Lib.hid fun v hv W hW => by
            rcases hv with rfl | rfl
            · exact ranges_any L W (HTJ.out W hW).any
            · exact ranges_any L W (HTH.out W hW).1.any
          have HBE := Lib.hid (HB.out.trans (b24.mono HB.out.size))
          clear htj hbj b24
          have hb0 := Below.refl w4.heap.size w4
          obtain ⟨p0, p1⟩ := KQ.out w4 hb0
          go_wp2_with fail
          refine (same5_any L L w4 rfl HRL.out (HTJ.out w4 hb0).any (HTH.out w4 hb0).2).mono ?_
          rintro e w5 ⟨rfl, b5⟩
          clear p0 p1 hb0
          obtain ⟨p0, p1⟩ := KQ.out w5 b5
          go_wp2_with fail
          go_region_held3 (fun W => W.cell? ⟨w1.heap.size, 0, none⟩ = some (.pointer (some ⟨B2, 0, none⟩)) ∧ W.cell? ⟨w1.heap.size, 1, none⟩ = some (.slice A2 n2 c2)) (first | exact KQ.out _ b46 | exact KQ.out _ b5.drew | exact KQ.out _ b5) (first
            | (go_at_call 11; refine (same5_any L L _ rfl HRL.out (HTH.out _ (by first | exact b5.drew | exact b5)).1.any (HTH.out _ (by first | exact b5.drew | exact b5)).2).mono ?_; rintro e w6 ⟨rfl, b6⟩; have b46 : Below w4.heap.size w4 w6 := (by first | exact b5.trans (b6.mono b5.size) | exact b5.drew.trans (b6.mono b5.drew.size))))
          rename_i hHeld
          clear hHeld p0 p1 b6
          obtain ⟨p0, p1⟩ := KQ.out w6 b46
          go_wp2_with fail
          go_region_held3 (fun W => W.cell? ⟨w1.heap.size, 0, none⟩ = some (.pointer (some ⟨B2, 0, none⟩)) ∧ W.cell? ⟨w1.heap.size, 1, none⟩ = some (.slice A2 n2 c2)) (first | exact KQ.out _ b49 | exact KQ.out _ b48 | exact KQ.out _ b48.drew | exact KQ.out _ b47 | exact KQ.out _ b47.drew | exact KQ.out _ b46.drew | exact KQ.out _ b46) (first
            | (go_at_call 15; refine (HRG.out _ (by first | exact .inl rfl | exact .inr rfl) _ (by first | exact b47.drew | exact b47)).mono ?_; rintro e w8 ⟨v8, l8, rfl, r8, z8, b8⟩; have b48 : Below w4.heap.size w4 w8 := (by first | exact b47.trans (b8.mono b47.size) | exact b47.drew.trans (b8.mono b47.size)); obtain rfl := r8.eq HRL.out r7; obtain ⟨A8, c8, rfl, q8⟩ := z8)
            | (go_at_call 15; refine (HRG.out _ (by first | exact .inl rfl | exact .inr rfl) _ (by first | exact b46.drew | exact b46)).mono ?_; rintro e w7 ⟨v7, l7, rfl, r7, z7, b7⟩; have b47 : Below w4.heap.size w4 w7 := (by first | exact b46.trans (b7.mono b46.size) | exact b46.drew.trans (b7.mono b46.size)); obtain ⟨A7, c7, rfl, q7⟩ := z7)
            | (go_at_call 14; refine (rsame_any l8 _ (show IsZ _ (.slice A7 l8.length c7) l8 from (show IsZ w7 _ _ from ⟨A7, c7, rfl, q7⟩).belows (by first | exact b8 | exact (Below.refl _ w7).drew.trans b8)) ⟨A8, c8, rfl, q8⟩).mono ?_; rintro e w9 ⟨rfl, b9⟩; have b49 : Below w4.heap.size w4 w9 := (by first | exact b48.trans (b9.mono b48.size) | exact b48.drew.trans (b9.mono b48.size))))
          rename_i hHeld
          clear hHeld p0 p1
          have HBF := Lib.hid (HBE.out.trans (b49.mono HBE.out.size))
          go_wp2_with (go_at_call 17; refine (alive_any _).mono ?_; rintro e w10 ⟨rfl, b10⟩)
          go_ret
          exact ⟨rfl, HBF.out.trans (b10.mono HBF.out.size)⟩
end Go.Proofs.Ytjljkpecpofbcaa
