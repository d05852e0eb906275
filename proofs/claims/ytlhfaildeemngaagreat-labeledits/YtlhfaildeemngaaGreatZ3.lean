/- Texts of this seat, put together: LI2, LB, LD, LE, RtT1, RtJ1, RtJ2, RtJ3, RtJ4, RtP1, RtP2, RtP3, RtP4, RtB1, RtB2, RtB3, LX, F9, F10, La1, La2p, La2, La2d, La3. -/
import Derived.Test.YtlhfaildeemngaaGreatZ2
import Derived.StillTailTactics
import Derived.RangeFuncNested
import Derived.RangeFuncBound
import Derived.RangeFuncCalls
import Derived.RangeFuncLeaves
import Derived.Shelf.Abstract
import Derived.Shelf.RegionOpen
import Derived.OwnWalkIn
import Derived.TacticsInMore
import Derived.LoopNIn
import Derived.LoopIn
import Derived.Maps.AppendAt
import Derived.Maps.OwnIn
import Derived.Test.YtlhfaildeemngaaGreatZ1
import Derived.Lib.SliceRun
import Derived.Shelf.Spec.SlicesInsert
import Derived.Lib.AppendZerosOnto
/- Contract: the document's Insert: the walk. -/
namespace Go.Proofs.YtlhfaildeemngaaGreat
open Go.RowKit Go.Shelf

set_option maxRecDepth 100000 in
set_option maxHeartbeats 4000000 in
/-- The document's Insert, of a right network. -/
theorem rinsert_any {vp vl vr : Value} (ps : List Int) (ls : List Lk) (L : List Ru) (r : Ru) (w : World) (hR : RN ps ls L) (hW : NW ps ls L) (hr : r.wf) (h : IsN w vp vl vr ps ls L) : Calls Tryz.prog 9 #[.agg #[vp, vl, vr], .agg (ruA r)] w (NewOut (insE ps ls L r) (insL r L) vp vl w) := by
  have HN : Hid (∀ u, Below w.heap.size w u → IsN u vp vl vr ps ls L) := Lib.hid fun u hu => h.belows hu
  have hl := ((allB_pw L).1 hR.rules).1
  have HRR := Lib.hid (rr_of hR.rules)
  have HW2 : Hid (NW ps ls (insL r L)) := Lib.hid (ins_w hW hr (by omega))
  obtain ⟨⟨⟨A1, c1, rfl, _⟩, ⟨A2, c2, rfl, _⟩⟩, ⟨A3, c3, rfl, n3, m3, z3⟩⟩ := h
  have HZ : Hid (∀ u, Below w.heap.size w u → Rs u A3 L) := Lib.hid fun u hu => z3.belows hu
  clear z3
  obtain ⟨ER, hER⟩ : ∃ ER, ER = insE ps ls L r := ⟨_, rfl⟩
  rw [← hER]
  have HE := Lib.hid hER
  obtain ⟨rid, rdv, rpr, rkd, rf, rt, rpt⟩ := r
  rw [ruA_mk]
  clear hER hR hW hr
  have b0 : Below w.heap.size w (((w.alloc (.cells #[.slice A1 ps.length c1, .slice A2 ls.length c2, .slice A3 L.length c3] 28)).alloc (.cells #[.int .i64 rid, .int .i64 rdv, .int .i64 rpr, .int .i64 rkd, .int .u32 rf, .int .u32 rt, .int .i64 rpt] 41)).alloc (.cells #[.slice none 0 0, .slice none 0 0, .slice none 0 0] 28)) := (((Below.refl _ w).alloc (Nat.le_refl _) _).alloc (by simp) _).alloc (by simp; omega) _
  have D0 := ((At.new w #[.slice A1 ps.length c1, .slice A2 ls.length c2, .slice A3 L.length c3] 28).alloc (.cells #[.int .i64 rid, .int .i64 rdv, .int .i64 rpr, .int .i64 rkd, .int .u32 rf, .int .u32 rt, .int .i64 rpt] 41)).alloc (.cells #[.slice none 0 0, .slice none 0 0, .slice none 0 0] 28)
  have Q0 := (At.new1 w (.cells #[.slice A1 ps.length c1, .slice A2 ls.length c2, .slice A3 L.length c3] 28) #[.int .i64 rid, .int .i64 rdv, .int .i64 rpr, .int .i64 rkd, .int .u32 rf, .int .u32 rt, .int .i64 rpt] 41).alloc (.cells #[.slice none 0 0, .slice none 0 0, .slice none 0 0] 28)
  have S0 := At.new2 w (.cells #[.slice A1 ps.length c1, .slice A2 ls.length c2, .slice A3 L.length c3] 28) (.cells #[.int .i64 rid, .int .i64 rdv, .int .i64 rpr, .int .i64 rkd, .int .u32 rf, .int .u32 rt, .int .i64 rpt] 41) #[.slice none 0 0, .slice none 0 0, .slice none 0 0] 28
  go_enter Tryz.func9, Tryz.ntmps9
  go_upto_region 1 with (fail)
  obtain ⟨w0, hw0⟩ : ∃ w0, w0 = (((w.alloc (.cells #[.slice A1 ps.length c1, .slice A2 ls.length c2, .slice A3 L.length c3] 28)).alloc (.cells #[.int .i64 rid, .int .i64 rdv, .int .i64 rpr, .int .i64 rkd, .int .u32 rf, .int .u32 rt, .int .i64 rpt] 41)).alloc (.cells #[.slice none 0 0, .slice none 0 0, .slice none 0 0] 28)) := ⟨_, rfl⟩
  rw [← hw0] at D0 Q0 S0 b0 ⊢
  clear hw0
  have k1 := rfind_any L rid w0 HRR.out (HN.out w0 b0).2
  have hfs := find_some L rid
  generalize firstL (fun r => decide (r.id = rid)) L = fo at k1 hfs
  rw [show firstV fo = .tuple #[.agg (ruA (fo.getD ru0)), .bool fo.isSome] from rfl, hfs] at k1
  generalize fo.getD ru0 = fr at k1
  obtain ⟨fid, fdv, fpr, fkd, ff, ft, fpt⟩ := fr
  rw [ruA_mk] at k1
  clear hfs
  have x2 := (D0.cell 2).trans rfl
  have y0 := (Q0.cell 0).trans rfl
  cases hid : hasId rid L with
  | true =>
    have HER : Hid (ER = 142) := Lib.hid (by rw [HE.out]; unfold insE; rw [show hasId (⟨rid, rdv, rpr, rkd, rf, rt, rpt⟩ : Ru).id L = true from hid]; rfl)
    rw [hid] at k1
    clear hid
    go_upto_region 2 with (go_at_call 13; refine k1.mono ?_; rintro e w1 ⟨rfl, b1⟩)
    obtain ⟨w2, hw2⟩ : ∃ w2, w2 = w1.alloc (.cells #[.int .i64 fid, .int .i64 fdv, .int .i64 fpr, .int .i64 fkd, .int .u32 ff, .int .u32 ft, .int .i64 fpt] 41) := ⟨_, rfl⟩
    have b2 : Below w0.heap.size w0 w2 := by rw [hw2]; exact b1.alloc b1.size _
    have S2 := S0.belows b2
    have bw2 := b0.trans (b2.mono b0.size)
    rw [← hw2]
    clear hw2 b1 x2 y0 k1
    have s0 := (S2.cell 0).trans rfl; have s1 := (S2.cell 1).trans rfl; have s2 := (S2.cell 2).trans rfl
    have f0 := S2.frozen 0; have f1 := S2.frozen 1; have f2 := S2.frozen 2
    go_wp2
    have Z := net_set (a := .slice none 0 0) (b := .slice none 0 0) (c := .slice none 0 0) S2
    have Z0 := Z.cell 0; have Z1 := Z.cell 1; have Z2 := Z.cell 2
    simp at Z0 Z1 Z2
    refine bodyPost_ret (v := .tuple #[netZ, .int .i64 142]) ?_ rfl ⟨.inl ⟨by rw [HER.out]; decide, by rw [HER.out]⟩, ((bw2.setCell (p := ⟨w.heap.size + 1 + 1, 0, none⟩) (by show w.heap.size ≤ w.heap.size + 1 + 1; omega) _).setCell (p := ⟨w.heap.size + 1 + 1, 1, none⟩) (by show w.heap.size ≤ w.heap.size + 1 + 1; omega) _).setCell (p := ⟨w.heap.size + 1 + 1, 2, none⟩) (by show w.heap.size ≤ w.heap.size + 1 + 1; omega) _⟩
    simp [results, Tryz.results9, go_sem, Z0, Z1, Z2, netZ]
  | false =>
    have HER : Hid (ER = if rightN ps ls (insL ⟨rid, rdv, rpr, rkd, rf, rt, rpt⟩ L) then 0 else 71) := Lib.hid (by rw [HE.out]; unfold insE; rw [show hasId (⟨rid, rdv, rpr, rkd, rf, rt, rpt⟩ : Ru).id L = false from hid]; rfl)
    rw [hid] at k1
    clear hid
    go_upto_region 2 with (go_at_call 13; refine k1.mono ?_; rintro e w1 ⟨rfl, b1⟩)
    obtain ⟨w2, hw2⟩ : ∃ w2, w2 = w1.alloc (.cells #[.int .i64 fid, .int .i64 fdv, .int .i64 fpr, .int .i64 fkd, .int .u32 ff, .int .u32 ft, .int .i64 fpt] 41) := ⟨_, rfl⟩
    have b2 : Below w0.heap.size w0 w2 := by rw [hw2]; exact b1.alloc b1.size _
    have S2 := S0.belows b2
    have D2 := D0.belows b2
    have Q2 := Q0.belows b2
    have bw2 := b0.trans (b2.mono b0.size)
    rw [← hw2]
    clear hw2 b1 x2 y0 k1 S0 D0 Q0
    have HS2 := Lib.hid S2
    have HD2 := Lib.hid D2
    have HQ2 := Lib.hid Q2
    have HB2 := Lib.hid bw2
    have hL : L.length ≤ 9223372036854775807 := by omega
    have hsz3 := S2.lt
    have HI0 : Hid (∃ M, InsAt ⟨rid, rdv, rpr, rkd, rf, rt, rpt⟩ L 0 false M ∧ w2.ownsRow w2.heap.size 41 7 (.slice none 0 0) M.length (rcs M)) := Lib.hid ⟨[], InsAt.start _ _, World.ownsRow_nil _ _ _ _⟩
    clear S2 D2 Q2 bw2 b2
    go_wp2
    go_loopw [8, 9, 10] (fun lv dn i wr => ∃ (k : Nat) (d : Bool), i = .int .i64 k ∧ dn = .bool d ∧ k ≤ L.length ∧ Hid (∃ M, InsAt ⟨rid, rdv, rpr, rkd, rf, rt, rpt⟩ L k d M ∧ wr.ownsRow w2.heap.size 41 7 lv M.length (rcs M)) ∧ Below w2.heap.size w2 wr) (fun _ _ i _ => L.length - (intOf i).toNat)
    case atStart => exact ⟨0, false, rfl, rfl, by omega, HI0, Below.refl _ _⟩
    case round =>
      obtain ⟨k, dn, rfl, rfl, hk, HI, hb⟩ := hrel
      clear HI0
      obtain ⟨M, hIA, hrow⟩ := HI.out
      have HIA := Lib.hid hIA
      have HROW := Lib.hid hrow
      have HLEN : Hid (M.length ≤ 41 ∧ k ≤ 40) := Lib.hid ⟨by have := hIA.1; omega, by omega⟩
      have D3 := HD2.out.belows hb
      have Q3 := HQ2.out.belows hb
      have bw3 := HB2.out.trans (hb.mono HB2.out.size)
      have hsz := hb.size
      have HB := Lib.hid hb
      clear hIA hrow HI
      have x2 := (D3.cell 2).trans rfl
      have SY : Hid (∀ u, Below w2.heap.size w2 u → u.cell? ⟨w.heap.size, 2, none⟩ = some (.slice A3 L.length c3) ∧ (u.cell? ⟨w.heap.size + 1, 0, none⟩ = some (.int .i64 rid) ∧ u.cell? ⟨w.heap.size + 1, 1, none⟩ = some (.int .i64 rdv) ∧ u.cell? ⟨w.heap.size + 1, 2, none⟩ = some (.int .i64 rpr) ∧ u.cell? ⟨w.heap.size + 1, 3, none⟩ = some (.int .i64 rkd) ∧ u.cell? ⟨w.heap.size + 1, 4, none⟩ = some (.int .u32 rf) ∧ u.cell? ⟨w.heap.size + 1, 5, none⟩ = some (.int .u32 rt) ∧ u.cell? ⟨w.heap.size + 1, 6, none⟩ = some (.int .i64 rpt))) := Lib.hid fun u hu => ⟨((HD2.out.belows hu).cell 2).trans rfl, ⟨((HQ2.out.belows hu).cell 0).trans rfl, ((HQ2.out.belows hu).cell 1).trans rfl, ((HQ2.out.belows hu).cell 2).trans rfl, ((HQ2.out.belows hu).cell 3).trans rfl, ((HQ2.out.belows hu).cell 4).trans rfl, ((HQ2.out.belows hu).cell 5).trans rfl, ((HQ2.out.belows hu).cell 6).trans rfl⟩⟩
      by_cases hlt : k < L.length
      · obtain ⟨g, o, e, hg, r0, r1, r2, r3, r4, r5, r6⟩ := (HZ.out w2 HB2.out).at k hlt
        subst e
        have i0 : (0 : Int) ≤ (k : Int) := by omega
        have i1 : (k : Int) < (L.length : Int) := by omega
        obtain ⟨x, hx⟩ : ∃ x, x = L[k] := ⟨_, rfl⟩
        rw [← hx] at r0 r1 r2 r3 r4 r5 r6
        have HXX := Lib.hid hx
        clear hx x2
        obtain ⟨id, dv, pr, kd, f, t, pt⟩ := x
        dsimp only at r0 r1 r2 r3 r4 r5 r6
        have SZ : Hid (∀ u, Below w2.heap.size w2 u → u.cell? ⟨w.heap.size, 2, none⟩ = some (.slice (some ⟨g, o, none⟩) L.length c3) ∧ (u.cell? ⟨w.heap.size + 1, 0, none⟩ = some (.int .i64 rid) ∧ u.cell? ⟨w.heap.size + 1, 1, none⟩ = some (.int .i64 rdv) ∧ u.cell? ⟨w.heap.size + 1, 2, none⟩ = some (.int .i64 rpr) ∧ u.cell? ⟨w.heap.size + 1, 3, none⟩ = some (.int .i64 rkd) ∧ u.cell? ⟨w.heap.size + 1, 4, none⟩ = some (.int .u32 rf) ∧ u.cell? ⟨w.heap.size + 1, 5, none⟩ = some (.int .u32 rt) ∧ u.cell? ⟨w.heap.size + 1, 6, none⟩ = some (.int .i64 rpt)) ∧ u.cell? ⟨g, o + k * 7, none⟩ = some (.int .i64 id) ∧ u.cell? ⟨g, o + k * 7 + 1, none⟩ = some (.int .i64 dv) ∧ u.cell? ⟨g, o + k * 7 + 2, none⟩ = some (.int .i64 pr) ∧ u.cell? ⟨g, o + k * 7 + 3, none⟩ = some (.int .i64 kd) ∧ u.cell? ⟨g, o + k * 7 + 4, none⟩ = some (.int .u32 f) ∧ u.cell? ⟨g, o + k * 7 + 5, none⟩ = some (.int .u32 t) ∧ u.cell? ⟨g, o + k * 7 + 6, none⟩ = some (.int .i64 pt)) := Lib.hid fun u hu => ⟨((HD2.out.belows hu).cell 2).trans rfl, ⟨((HQ2.out.belows hu).cell 0).trans rfl, ((HQ2.out.belows hu).cell 1).trans rfl, ((HQ2.out.belows hu).cell 2).trans rfl, ((HQ2.out.belows hu).cell 3).trans rfl, ((HQ2.out.belows hu).cell 4).trans rfl, ((HQ2.out.belows hu).cell 5).trans rfl, ((HQ2.out.belows hu).cell 6).trans rfl⟩, (hu.cell (p := ⟨g, _, none⟩) hg).trans r0, (hu.cell (p := ⟨g, _, none⟩) hg).trans r1, (hu.cell (p := ⟨g, _, none⟩) hg).trans r2, (hu.cell (p := ⟨g, _, none⟩) hg).trans r3, (hu.cell (p := ⟨g, _, none⟩) hg).trans r4, (hu.cell (p := ⟨g, _, none⟩) hg).trans r5, (hu.cell (p := ⟨g, _, none⟩) hg).trans r6⟩
        clear D3 Q3 r0 r1 r2 r3 r4 r5 r6 hb bw3
        obtain ⟨x2, ⟨q0, q1, q2, q3, q4, q5, q6⟩, r0, r1, r2, r3, r4, r5, r6⟩ := SZ.out wr HB.out
        cases dn with
        | true =>
          have HF := Lib.hid (HIA.out.done hlt)
          rw [← HXX.out] at HF
          go_wp2_with fail
          go_quiet (fail)
          have hb3 : Below wr.heap.size wr (wr.drewN nq) := bdrewN (Below.refl _ _) nq
          generalize wr.drewN nq = W3 at hb3 ⊢
          have HROW3 := Lib.hid (row_belows HROW.out hb3)
          have HB3 := Lib.hid (HB.out.trans (hb3.mono hsz))
          have hsz3' := HB3.out.size
          clear hb3 x2 q0 q1 q2 q3 q4 q5 q6 r0 r1 r2 r3 r4 r5 r6
          obtain ⟨x2, ⟨q0, q1, q2, q3, q4, q5, q6⟩, r0, r1, r2, r3, r4, r5, r6⟩ := SZ.out W3 HB3.out
          go_wp2_with (at_builtin; refine wpList_app_new ruA_size7 ruA_one Tryz.underlying26 infoRule rfl (by decide) rfl (.tmp 47) (.tmp 53) rfl w2.heap.size _ (M) rfl (HROW3.out.alloc _) ⟨W3.heap.size, 0, none⟩ 1 [⟨id, dv, pr, kd, f, t, pt⟩] rfl (f_new ruA_size7 W3 [⟨id, dv, pr, kd, f, t, pt⟩] #[.int .i64 id, .int .i64 dv, .int .i64 pr, .int .i64 kd, .int .u32 f, .int .u32 t, .int .i64 pt] 41 rfl) (by simp only [maxLen, List.length_singleton]; have := HLEN.out; omega) (by simp only [List.length_singleton]; have := HLEN.out; omega) (by simp; omega) ?_; intro v5 w5 ho hb5;)
          have HR5 : Hid (∃ M, InsAt ⟨rid, rdv, rpr, rkd, rf, rt, rpt⟩ L (k + 1) true M ∧ w5.ownsRow w2.heap.size 41 7 v5 M.length (rcs M)) := Lib.hid ⟨_, HF.out, ho⟩
          have HB5 := Lib.hid ((HB3.out.alloc HB3.out.size _).trans hb5)
          clear ho hb5
          go_roundw
          case rel => exact ⟨k + 1, true, by go_num, rfl, by omega, HR5, HB5.out⟩
          case measure => simp [intOf]; omega
        | false =>
          by_cases hlt2 : rid < id
          · have d1 : decide (rid < id) = true := decide_eq_true hlt2
            have HF := Lib.hid (HIA.out.ahead hlt (by rw [← HXX.out]; exact hlt2))
            rw [← HXX.out] at HF
            clear hlt2
            go_wp2_with fail
            go_quiet (fail)
            have hb3 : Below wr.heap.size wr (wr.drewN nq) := bdrewN (Below.refl _ _) nq
            generalize wr.drewN nq = W3 at hb3 ⊢
            have HROW3 := Lib.hid (row_belows HROW.out hb3)
            have HB3 := Lib.hid (HB.out.trans (hb3.mono hsz))
            have hsz3' := HB3.out.size
            clear hb3 x2 q0 q1 q2 q3 q4 q5 q6 r0 r1 r2 r3 r4 r5 r6
            obtain ⟨x2, ⟨q0, q1, q2, q3, q4, q5, q6⟩, r0, r1, r2, r3, r4, r5, r6⟩ := SZ.out W3 HB3.out
            go_wp2_with (first
              | (at_builtin; refine wpList_app_new ruA_size7 ruA_one Tryz.underlying26 infoRule rfl (by decide) rfl (.tmp 43) (.tmp 45) rfl w2.heap.size _ (M) rfl (HROW3.out.alloc _) ⟨W3.heap.size, 0, none⟩ 1 [⟨rid, rdv, rpr, rkd, rf, rt, rpt⟩] rfl (f_new ruA_size7 W3 [⟨rid, rdv, rpr, rkd, rf, rt, rpt⟩] #[.int .i64 rid, .int .i64 rdv, .int .i64 rpr, .int .i64 rkd, .int .u32 rf, .int .u32 rt, .int .i64 rpt] 41 rfl) (by simp only [maxLen, List.length_singleton]; have := HLEN.out; omega) (by simp only [List.length_singleton]; have := HLEN.out; omega) (by simp; omega) ?_; intro v4 w4 ho hb5; have HROW4 := Lib.hid ho; have HB4 := Lib.hid ((HB3.out.alloc HB3.out.size _).trans hb5); clear ho hb5; have hsz4 := HB4.out.size; obtain ⟨x2, ⟨q0, q1, q2, q3, q4, q5, q6⟩, r0, r1, r2, r3, r4, r5, r6⟩ := SZ.out w4 HB4.out)
              | (at_builtin; refine wpList_app_new ruA_size7 ruA_one Tryz.underlying26 infoRule rfl (by decide) rfl (.tmp 47) (.tmp 53) rfl w2.heap.size _ (M ++ [⟨rid, rdv, rpr, rkd, rf, rt, rpt⟩]) rfl (HROW4.out.alloc _) ⟨w4.heap.size, 0, none⟩ 1 [⟨id, dv, pr, kd, f, t, pt⟩] rfl (f_new ruA_size7 w4 [⟨id, dv, pr, kd, f, t, pt⟩] #[.int .i64 id, .int .i64 dv, .int .i64 pr, .int .i64 kd, .int .u32 f, .int .u32 t, .int .i64 pt] 41 rfl) (by simp only [maxLen, List.length_append, List.length_singleton]; have := HLEN.out; omega) (by simp only [List.length_append, List.length_singleton]; have := HLEN.out; omega) (by simp; omega) ?_; intro v5 w5 ho hb5;))
            have HR5 : Hid (∃ M, InsAt ⟨rid, rdv, rpr, rkd, rf, rt, rpt⟩ L (k + 1) true M ∧ w5.ownsRow w2.heap.size 41 7 v5 M.length (rcs M)) := Lib.hid ⟨_, HF.out, ho⟩
            have HB5 := Lib.hid ((HB4.out.alloc HB4.out.size _).trans hb5)
            clear ho hb5
            go_roundw
            case rel => exact ⟨k + 1, true, by go_num, rfl, by omega, HR5, HB5.out⟩
            case measure => simp [intOf]; omega
          · have d1 : decide (rid < id) = false := decide_eq_false hlt2
            have HF := Lib.hid (HIA.out.on hlt (by rw [← HXX.out]; exact hlt2))
            rw [← HXX.out] at HF
            clear hlt2
            go_wp2_with fail
            go_quiet (fail)
            have hb3 : Below wr.heap.size wr (wr.drewN nq) := bdrewN (Below.refl _ _) nq
            generalize wr.drewN nq = W3 at hb3 ⊢
            have HROW3 := Lib.hid (row_belows HROW.out hb3)
            have HB3 := Lib.hid (HB.out.trans (hb3.mono hsz))
            have hsz3' := HB3.out.size
            clear hb3 x2 q0 q1 q2 q3 q4 q5 q6 r0 r1 r2 r3 r4 r5 r6
            obtain ⟨x2, ⟨q0, q1, q2, q3, q4, q5, q6⟩, r0, r1, r2, r3, r4, r5, r6⟩ := SZ.out W3 HB3.out
            go_wp2_with (at_builtin; refine wpList_app_new ruA_size7 ruA_one Tryz.underlying26 infoRule rfl (by decide) rfl (.tmp 47) (.tmp 53) rfl w2.heap.size _ (M) rfl (HROW3.out.alloc _) ⟨W3.heap.size, 0, none⟩ 1 [⟨id, dv, pr, kd, f, t, pt⟩] rfl (f_new ruA_size7 W3 [⟨id, dv, pr, kd, f, t, pt⟩] #[.int .i64 id, .int .i64 dv, .int .i64 pr, .int .i64 kd, .int .u32 f, .int .u32 t, .int .i64 pt] 41 rfl) (by simp only [maxLen, List.length_singleton]; have := HLEN.out; omega) (by simp only [List.length_singleton]; have := HLEN.out; omega) (by simp; omega) ?_; intro v5 w5 ho hb5;)
            have HR5 : Hid (∃ M, InsAt ⟨rid, rdv, rpr, rkd, rf, rt, rpt⟩ L (k + 1) false M ∧ w5.ownsRow w2.heap.size 41 7 v5 M.length (rcs M)) := Lib.hid ⟨_, HF.out, ho⟩
            have HB5 := Lib.hid ((HB3.out.alloc HB3.out.size _).trans hb5)
            clear ho hb5
            go_roundw
            case rel => exact ⟨k + 1, false, by go_num, rfl, by omega, HR5, HB5.out⟩
            case measure => simp [intOf]; omega
      · have hki : ¬ (k : Int) < (L.length : Int) := by omega
        have hkl : k = L.length := by omega
        subst hkl
        clear hlt hki hb
        obtain ⟨x2', ⟨q0, q1, q2, q3, q4, q5, q6⟩⟩ := SY.out wr HB.out
        cases dn with
        | true =>
          have HR7 : Hid (wr.ownsRow w2.heap.size 41 7 u8 (insL ⟨rid, rdv, rpr, rkd, rf, rt, rpt⟩ L).length (rcs (insL ⟨rid, rdv, rpr, rkd, rf, rt, rpt⟩ L))) := Lib.hid (by rw [← HIA.out.end1]; exact HROW.out)
          have HB7 := HB
          obtain ⟨W7, hW7⟩ : ∃ W7, W7 = wr := ⟨_, rfl⟩
          obtain ⟨v7, hv7⟩ : ∃ v7, v7 = u8 := ⟨_, rfl⟩
          go_upto_region 15 with (fail)
          rw [← hW7, ← hv7] at HR7
          rw [← hW7] at HB7 ⊢
          rw [← hv7]
          clear hW7 hv7
          clear x2' q0 q1 q2 q3 q4 q5 q6 x2 HROW HIA
          obtain ⟨g7, cap7, hv7, hg7, hl7⟩ := row_some HR7.out (by rw [ins_len]; omega)
          subst hv7
          have HBW7 := Lib.hid (HB2.out.trans (HB7.out.mono HB2.out.size))
          have S7 := HS2.out.belows HB7.out
          have D7 := HD2.out.belows HB7.out
          obtain ⟨NL, hNL⟩ : ∃ NL, NL = (insL ⟨rid, rdv, rpr, rkd, rf, rt, rpt⟩ L).length := ⟨_, rfl⟩
          rw [← hNL] at HR7 ⊢
          have HNL := Lib.hid hNL
          clear hNL
          have x0 := (D7.cell 0).trans rfl; have x1 := (D7.cell 1).trans rfl
          go_upto_region 16 with (fail)
          obtain ⟨W8, hW8⟩ : ∃ W8, W8 = W7.alloc (.cells #[.slice A1 ps.length c1, .slice A2 ls.length c2, .slice (some ⟨g7, 0, none⟩) NL cap7] 28) := ⟨_, rfl⟩
          have N8 := At.new W7 #[.slice A1 ps.length c1, .slice A2 ls.length c2, .slice (some ⟨g7, 0, none⟩) NL cap7] 28
          have b8 : Below W7.heap.size W7 W8 := by rw [hW8]; exact (Below.refl _ _).alloc (Nat.le_refl _) _
          have S8 := S7.belows b8
          have HR8 := Lib.hid (row_belows HR7.out b8)
          have HBW8 := Lib.hid (HBW7.out.trans (b8.mono HBW7.out.size))
          rw [← hW8] at N8 ⊢
          clear hW8 S7 D7 x0 x1 b8
          have k8 := rrightN_any ps ls (insL ⟨rid, rdv, rpr, rkd, rf, rt, rpt⟩ L) W8 HW2.out ⟨(HN.out W8 HBW8.out).1, isR_of_row (base := w2.heap.size) (by rw [← HNL.out]; exact HR8.out)⟩
          have n0 := (N8.cell 0).trans rfl; have n1 := (N8.cell 1).trans rfl; have n2 := (N8.cell 2).trans rfl
          cases hrt : rightN ps ls (insL ⟨rid, rdv, rpr, rkd, rf, rt, rpt⟩ L) with
          | true =>
            have HE0 : Hid (ER = 0) := Lib.hid (by rw [HER.out, hrt]; rfl)
            rw [hrt] at k8
            clear hrt
            go_wp2_with fail
            refine k8.mono ?_
            rintro e w9 ⟨rfl, b9⟩
            have N9 := N8.belows b9
            have S9 := S8.belows b9
            have HR9 := Lib.hid (row_belows HR8.out b9)
            have HBW9 := Lib.hid (HBW8.out.trans (b9.mono HBW8.out.size))
            clear N8 S8 n0 n1 n2 k8 b9
            have n0 := (N9.cell 0).trans rfl; have n1 := (N9.cell 1).trans rfl; have n2 := (N9.cell 2).trans rfl
            have s0 := (S9.cell 0).trans rfl; have s1 := (S9.cell 1).trans rfl; have s2 := (S9.cell 2).trans rfl
            have f0 := S9.frozen 0; have f1 := S9.frozen 1; have f2 := S9.frozen 2
            go_wp2
            have Z := net_set (a := .slice A1 ps.length c1) (b := .slice A2 ls.length c2) (c := .slice (some ⟨g7, 0, none⟩) NL cap7) S9
            have Z0 := Z.cell 0; have Z1 := Z.cell 1; have Z2 := Z.cell 2
            simp at Z0 Z1 Z2
            refine bodyPost_ret (v := .tuple #[.agg #[.slice A1 ps.length c1, .slice A2 ls.length c2, .slice (some ⟨g7, 0, none⟩) NL cap7], .int .i64 0]) ?_ rfl ⟨.inr ⟨HE0.out, _, w2.heap.size, by have := HB2.out.size; omega, rfl, ?_⟩, ((HBW9.out.setCell (p := ⟨w.heap.size + 1 + 1, 0, none⟩) (by show w.heap.size ≤ w.heap.size + 1 + 1; omega) _).setCell (p := ⟨w.heap.size + 1 + 1, 1, none⟩) (by show w.heap.size ≤ w.heap.size + 1 + 1; omega) _).setCell (p := ⟨w.heap.size + 1 + 1, 2, none⟩) (by show w.heap.size ≤ w.heap.size + 1 + 1; omega) _⟩
            · simp [results, Tryz.results9, go_sem, Z0, Z1, Z2]
            · rw [← HNL.out]
              exact row_far (row_far (row_far HR9.out (grownBy_set _ (w.heap.size + 1 + 1) 0 _) (by omega)) (grownBy_set _ (w.heap.size + 1 + 1) 1 _) (by omega)) (grownBy_set _ (w.heap.size + 1 + 1) 2 _) (by omega)
          | false =>
            have HE0 : Hid (ER = 71) := Lib.hid (by rw [HER.out, hrt]; rfl)
            rw [hrt] at k8
            clear hrt
            go_wp2_with fail
            refine k8.mono ?_
            rintro e w9 ⟨rfl, b9⟩
            have S9 := S8.belows b9
            have HBW9 := Lib.hid (HBW8.out.trans (b9.mono HBW8.out.size))
            clear N8 S8 n0 n1 n2 k8 b9
            have s0 := (S9.cell 0).trans rfl; have s1 := (S9.cell 1).trans rfl; have s2 := (S9.cell 2).trans rfl
            have f0 := S9.frozen 0; have f1 := S9.frozen 1; have f2 := S9.frozen 2
            go_wp2
            have Z := net_set (a := .slice none 0 0) (b := .slice none 0 0) (c := .slice none 0 0) S9
            have Z0 := Z.cell 0; have Z1 := Z.cell 1; have Z2 := Z.cell 2
            simp at Z0 Z1 Z2
            refine bodyPost_ret (v := .tuple #[netZ, .int .i64 71]) ?_ rfl ⟨.inl ⟨by rw [HE0.out]; decide, by rw [HE0.out]⟩, ((HBW9.out.setCell (p := ⟨w.heap.size + 1 + 1, 0, none⟩) (by show w.heap.size ≤ w.heap.size + 1 + 1; omega) _).setCell (p := ⟨w.heap.size + 1 + 1, 1, none⟩) (by show w.heap.size ≤ w.heap.size + 1 + 1; omega) _).setCell (p := ⟨w.heap.size + 1 + 1, 2, none⟩) (by show w.heap.size ≤ w.heap.size + 1 + 1; omega) _⟩
            simp [results, Tryz.results9, go_sem, Z0, Z1, Z2, netZ]
        | false =>
          have HF := Lib.hid HIA.out.end0
          go_upto_region 15 with (at_builtin; refine wpList_app_new ruA_size7 ruA_one Tryz.underlying26 infoRule rfl (by decide) rfl (.tmp 57) (.tmp 59) rfl w2.heap.size _ (M) rfl (HROW.out.alloc _) ⟨wr.heap.size, 0, none⟩ 1 [⟨rid, rdv, rpr, rkd, rf, rt, rpt⟩] rfl (f_new ruA_size7 wr [⟨rid, rdv, rpr, rkd, rf, rt, rpt⟩] #[.int .i64 rid, .int .i64 rdv, .int .i64 rpr, .int .i64 rkd, .int .u32 rf, .int .u32 rt, .int .i64 rpt] 41 rfl) (by simp only [maxLen, List.length_singleton]; have := HLEN.out; omega) (by simp only [List.length_singleton]; have := HLEN.out; omega) (by simp; omega) ?_; intro v5 w5 ho hb5;)
          have HR7 : Hid (w5.ownsRow w2.heap.size 41 7 v5 (insL ⟨rid, rdv, rpr, rkd, rf, rt, rpt⟩ L).length (rcs (insL ⟨rid, rdv, rpr, rkd, rf, rt, rpt⟩ L))) := Lib.hid (by rw [← HF.out]; exact ho)
          have HB7 := Lib.hid ((HB.out.alloc (Nat.le_trans (Nat.le_refl _) HB.out.size) _).trans hb5)
          clear ho hb5
          obtain ⟨W7, rfl⟩ : ∃ W7, W7 = w5 := ⟨_, rfl⟩
          obtain ⟨v7, rfl⟩ : ∃ v7, v7 = v5 := ⟨_, rfl⟩
          clear x2' q0 q1 q2 q3 q4 q5 q6 x2 HROW HIA
          obtain ⟨g7, cap7, hv7, hg7, hl7⟩ := row_some HR7.out (by rw [ins_len]; omega)
          subst hv7
          have HBW7 := Lib.hid (HB2.out.trans (HB7.out.mono HB2.out.size))
          have S7 := HS2.out.belows HB7.out
          have D7 := HD2.out.belows HB7.out
          obtain ⟨NL, hNL⟩ : ∃ NL, NL = (insL ⟨rid, rdv, rpr, rkd, rf, rt, rpt⟩ L).length := ⟨_, rfl⟩
          rw [← hNL] at HR7 ⊢
          have HNL := Lib.hid hNL
          clear hNL
          have x0 := (D7.cell 0).trans rfl; have x1 := (D7.cell 1).trans rfl
          go_upto_region 16 with (fail)
          obtain ⟨W8, hW8⟩ : ∃ W8, W8 = W7.alloc (.cells #[.slice A1 ps.length c1, .slice A2 ls.length c2, .slice (some ⟨g7, 0, none⟩) NL cap7] 28) := ⟨_, rfl⟩
          have N8 := At.new W7 #[.slice A1 ps.length c1, .slice A2 ls.length c2, .slice (some ⟨g7, 0, none⟩) NL cap7] 28
          have b8 : Below W7.heap.size W7 W8 := by rw [hW8]; exact (Below.refl _ _).alloc (Nat.le_refl _) _
          have S8 := S7.belows b8
          have HR8 := Lib.hid (row_belows HR7.out b8)
          have HBW8 := Lib.hid (HBW7.out.trans (b8.mono HBW7.out.size))
          rw [← hW8] at N8 ⊢
          clear hW8 S7 D7 x0 x1 b8
          have k8 := rrightN_any ps ls (insL ⟨rid, rdv, rpr, rkd, rf, rt, rpt⟩ L) W8 HW2.out ⟨(HN.out W8 HBW8.out).1, isR_of_row (base := w2.heap.size) (by rw [← HNL.out]; exact HR8.out)⟩
          have n0 := (N8.cell 0).trans rfl; have n1 := (N8.cell 1).trans rfl; have n2 := (N8.cell 2).trans rfl
          cases hrt : rightN ps ls (insL ⟨rid, rdv, rpr, rkd, rf, rt, rpt⟩ L) with
          | true =>
            have HE0 : Hid (ER = 0) := Lib.hid (by rw [HER.out, hrt]; rfl)
            rw [hrt] at k8
            clear hrt
            go_wp2_with fail
            refine k8.mono ?_
            rintro e w9 ⟨rfl, b9⟩
            have N9 := N8.belows b9
            have S9 := S8.belows b9
            have HR9 := Lib.hid (row_belows HR8.out b9)
            have HBW9 := Lib.hid (HBW8.out.trans (b9.mono HBW8.out.size))
            clear N8 S8 n0 n1 n2 k8 b9
            have n0 := (N9.cell 0).trans rfl; have n1 := (N9.cell 1).trans rfl; have n2 := (N9.cell 2).trans rfl
            have s0 := (S9.cell 0).trans rfl; have s1 := (S9.cell 1).trans rfl; have s2 := (S9.cell 2).trans rfl
            have f0 := S9.frozen 0; have f1 := S9.frozen 1; have f2 := S9.frozen 2
            go_wp2
            have Z := net_set (a := .slice A1 ps.length c1) (b := .slice A2 ls.length c2) (c := .slice (some ⟨g7, 0, none⟩) NL cap7) S9
            have Z0 := Z.cell 0; have Z1 := Z.cell 1; have Z2 := Z.cell 2
            simp at Z0 Z1 Z2
            refine bodyPost_ret (v := .tuple #[.agg #[.slice A1 ps.length c1, .slice A2 ls.length c2, .slice (some ⟨g7, 0, none⟩) NL cap7], .int .i64 0]) ?_ rfl ⟨.inr ⟨HE0.out, _, w2.heap.size, by have := HB2.out.size; omega, rfl, ?_⟩, ((HBW9.out.setCell (p := ⟨w.heap.size + 1 + 1, 0, none⟩) (by show w.heap.size ≤ w.heap.size + 1 + 1; omega) _).setCell (p := ⟨w.heap.size + 1 + 1, 1, none⟩) (by show w.heap.size ≤ w.heap.size + 1 + 1; omega) _).setCell (p := ⟨w.heap.size + 1 + 1, 2, none⟩) (by show w.heap.size ≤ w.heap.size + 1 + 1; omega) _⟩
            · simp [results, Tryz.results9, go_sem, Z0, Z1, Z2]
            · rw [← HNL.out]
              exact row_far (row_far (row_far HR9.out (grownBy_set _ (w.heap.size + 1 + 1) 0 _) (by omega)) (grownBy_set _ (w.heap.size + 1 + 1) 1 _) (by omega)) (grownBy_set _ (w.heap.size + 1 + 1) 2 _) (by omega)
          | false =>
            have HE0 : Hid (ER = 71) := Lib.hid (by rw [HER.out, hrt]; rfl)
            rw [hrt] at k8
            clear hrt
            go_wp2_with fail
            refine k8.mono ?_
            rintro e w9 ⟨rfl, b9⟩
            have S9 := S8.belows b9
            have HBW9 := Lib.hid (HBW8.out.trans (b9.mono HBW8.out.size))
            clear N8 S8 n0 n1 n2 k8 b9
            have s0 := (S9.cell 0).trans rfl; have s1 := (S9.cell 1).trans rfl; have s2 := (S9.cell 2).trans rfl
            have f0 := S9.frozen 0; have f1 := S9.frozen 1; have f2 := S9.frozen 2
            go_wp2
            have Z := net_set (a := .slice none 0 0) (b := .slice none 0 0) (c := .slice none 0 0) S9
            have Z0 := Z.cell 0; have Z1 := Z.cell 1; have Z2 := Z.cell 2
            simp at Z0 Z1 Z2
            refine bodyPost_ret (v := .tuple #[netZ, .int .i64 71]) ?_ rfl ⟨.inl ⟨by rw [HE0.out]; decide, by rw [HE0.out]⟩, ((HBW9.out.setCell (p := ⟨w.heap.size + 1 + 1, 0, none⟩) (by show w.heap.size ≤ w.heap.size + 1 + 1; omega) _).setCell (p := ⟨w.heap.size + 1 + 1, 1, none⟩) (by show w.heap.size ≤ w.heap.size + 1 + 1; omega) _).setCell (p := ⟨w.heap.size + 1 + 1, 2, none⟩) (by show w.heap.size ≤ w.heap.size + 1 + 1; omega) _⟩
            simp [results, Tryz.results9, go_sem, Z0, Z1, Z2, netZ]
end Go.Proofs.YtlhfaildeemngaaGreat
/- LabelBack, over the program's calls. -/
namespace Go.Proofs.YtlhfaildeemngaaGreat
open Go.RowKit Go.Shelf

theorem insE_zero {ps : List Int} {ls : List Lk} {L : List Ru} {r : Ru} : insE ps ls L r = 0 ↔ hasId r.id L = false ∧ rightN ps ls (insL r L) = true := by
  unfold insE
  cases hasId r.id L <;> cases rightN ps ls (insL r L) <;> simp
theorem delE_zero {L : List Ru} {i : Int} : delE L i = 0 ↔ hasId i L = true := by
  unfold delE
  cases hasId i L <;> simp
theorem hasId_mem {L : List Ru} {x : Ru} (h : x ∈ L) : hasId x.id L = true := List.any_eq_true.2 ⟨x, h, by simp⟩
theorem hasId_del {L : List Ru} {i : Int} : hasId i (delL i L) = false := hasId_no.2 fun x hx => by simpa using (List.mem_filter.1 hx).2
theorem back_del {ps : List Int} {ls : List Lk} {L : List Ru} (hR : RN ps ls L) {x : Ru} (hx : x ∈ L) : insE ps ls (delL x.id L) x = 0 ∧ insL x (delL x.id L) = L := by
  have e := ins_del ((allB_pw L).1 hR.rules).2.2 hx
  exact ⟨insE_zero.2 ⟨hasId_del, by rw [e]; exact (rightN_iff _ _ _).2 hR⟩, e⟩
set_option maxRecDepth 100000 in
set_option maxHeartbeats 4000000 in
theorem back10_walk (O : Own10) {vp vl vr : Value} (ps : List Int) (ls : List Lk) (L : List Ru) (r : Ru) (i : Int) (w : World) (h : IsN w vp vl vr ps ls L) (hW : NW ps ls L) (hr : r.wf) (hi : isI i) :
    Calls Tryz.prog 4 #[.agg #[vp, vl, vr], .agg (ruA r), .int .i64 i] w fun e w' => e = .returned (.bool true) ∧ Below w.heap.size w w' := by
  have HN : Hid (∀ u, Below w.heap.size w u → IsN u vp vl vr ps ls L) := Lib.hid fun u hu => h.belows hu
  have HW := Lib.hid hW
  have HWR := Lib.hid hr
  have HI := Lib.hid hi
  obtain ⟨⟨⟨A1, c1, rfl, n1, m1, _⟩, ⟨A2, c2, rfl, _⟩⟩, ⟨A3, c3, rfl, _⟩⟩ := h
  obtain ⟨rid, rdv, rpr, rkd, rf, rt, rpt⟩ := r
  rw [ruA_mk]
  have hrid : isI rid := hr.1
  have HRI := Lib.hid hrid
  have b0 : Below w.heap.size w ((w.alloc (.cells #[.slice A1 ps.length c1, .slice A2 ls.length c2, .slice A3 L.length c3] 28)).alloc (.cells #[.int .i64 rid, .int .i64 rdv, .int .i64 rpr, .int .i64 rkd, .int .u32 rf, .int .u32 rt, .int .i64 rpt] 41)) := ((Below.refl _ w).alloc (Nat.le_refl _) _).alloc (by simp) _
  have D0 := (At.new w #[.slice A1 ps.length c1, .slice A2 ls.length c2, .slice A3 L.length c3] 28).alloc (.cells #[.int .i64 rid, .int .i64 rdv, .int .i64 rpr, .int .i64 rkd, .int .u32 rf, .int .u32 rt, .int .i64 rpt] 41)
  have Q0 := At.new1 w (.cells #[.slice A1 ps.length c1, .slice A2 ls.length c2, .slice A3 L.length c3] 28) #[.int .i64 rid, .int .i64 rdv, .int .i64 rpr, .int .i64 rkd, .int .u32 rf, .int .u32 rt, .int .i64 rpt] 41
  clear hW hr hi hrid
  go_enter Tryz.func4, Tryz.ntmps4
  go_upto_region 1 with (fail)
  obtain ⟨w0, hw0⟩ : ∃ w0, w0 = ((w.alloc (.cells #[.slice A1 ps.length c1, .slice A2 ls.length c2, .slice A3 L.length c3] 28)).alloc (.cells #[.int .i64 rid, .int .i64 rdv, .int .i64 rpr, .int .i64 rkd, .int .u32 rf, .int .u32 rt, .int .i64 rpt] 41)) := ⟨_, rfl⟩
  rw [← hw0] at b0 D0 Q0 ⊢
  clear hw0
  have x0 := (D0.cell 0).trans rfl; have x1 := (D0.cell 1).trans rfl; have x2 := (D0.cell 2).trans rfl
  have k1 := lfits9_any ps ls L w0 HW.out (HN.out w0 b0)
  go_upto_region 2 with (go_at_call 5; refine k1.mono ?_; rintro e w1 ⟨rfl, b1⟩)
  have bw1 := b0.trans (b1.mono b0.size)
  have D1 := D0.belows b1
  have Q1 := Q0.belows b1
  clear x0 x1 x2 k1 b1 D0 Q0
  have x0 := (D1.cell 0).trans rfl; have x1 := (D1.cell 1).trans rfl; have x2 := (D1.cell 2).trans rfl
  have k2 := O.of noH ps ls L w1 (noH_lt _) HW.out (HN.out w1 bw1).no
  cases hrt : rightN ps ls L with
  | false =>
    have hno : ¬ RN ps ls L := fun h => by rw [(rightN_iff ps ls L).2 h] at hrt; cases hrt
    clear hrt
    go_upto_region 3 with (go_at_call 6; refine k2.mono ?_; rintro e w2 ⟨h2, b2⟩; obtain rfl := (h2.resolve_left fun h => hno h.1).2)
    have ka := alive10_any O w2
    go_wp2_with (go_at_call 7; refine ka.mono ?_; rintro e u ⟨rfl, bu⟩)
    go_ret
    exact ⟨rfl, (bw1.trans (b2.mono bw1.size)).trans (bu.mono (Nat.le_trans bw1.size b2.size))⟩
  | true =>
    have hR := (rightN_iff ps ls L).1 hrt
    have HR := Lib.hid hR
    have hl40 := ((allB_pw L).1 hR.rules).1
    clear hrt k2
    have k2 := of_right O noH ps ls L w1 (noH_lt _) hR HW.out (HN.out w1 bw1).no
    clear hR
    go_upto_region 5 with (go_at_call 6; refine k2.mono ?_; rintro e w2 ⟨p, rfl, hl, b2⟩; obtain ⟨bp, rfl⟩ := O.ptr hl)
    have HB2 := Lib.hid (bw1.trans (b2.mono bw1.size))
    have HD2 := Lib.hid (D1.belows b2)
    have HQ2 := Lib.hid (Q1.belows b2)
    have HL2 := Lib.hid hl
    have HW2 : Hid (NW ps ls (insL ⟨rid, rdv, rpr, rkd, rf, rt, rpt⟩ L)) := Lib.hid (ins_w HW.out HWR.out (by omega))
    have SZ : Hid (∀ u, Below w2.heap.size w2 u → Below w.heap.size w u ∧ O.Lb noH u (.pointer (some bp)) ps ls L ∧ (u.cell? ⟨w.heap.size, 0, none⟩ = some (.slice A1 ps.length c1) ∧ u.cell? ⟨w.heap.size, 1, none⟩ = some (.slice A2 ls.length c2) ∧ u.cell? ⟨w.heap.size, 2, none⟩ = some (.slice A3 L.length c3)) ∧ u.cell? ⟨w.heap.size + 1, 0, none⟩ = some (.int .i64 rid) ∧ u.cell? ⟨w.heap.size + 1, 1, none⟩ = some (.int .i64 rdv) ∧ u.cell? ⟨w.heap.size + 1, 2, none⟩ = some (.int .i64 rpr) ∧ u.cell? ⟨w.heap.size + 1, 3, none⟩ = some (.int .i64 rkd) ∧ u.cell? ⟨w.heap.size + 1, 4, none⟩ = some (.int .u32 rf) ∧ u.cell? ⟨w.heap.size + 1, 5, none⟩ = some (.int .u32 rt) ∧ u.cell? ⟨w.heap.size + 1, 6, none⟩ = some (.int .i64 rpt)) := Lib.hid fun u hu =>
      ⟨HB2.out.trans (hu.mono HB2.out.size), O.keep HL2.out (exc_of hu noH), ⟨((HD2.out.belows hu).cell 0).trans rfl, ((HD2.out.belows hu).cell 1).trans rfl, ((HD2.out.belows hu).cell 2).trans rfl⟩, ((HQ2.out.belows hu).cell 0).trans rfl, ((HQ2.out.belows hu).cell 1).trans rfl, ((HQ2.out.belows hu).cell 2).trans rfl, ((HQ2.out.belows hu).cell 3).trans rfl, ((HQ2.out.belows hu).cell 4).trans rfl, ((HQ2.out.belows hu).cell 5).trans rfl, ((HQ2.out.belows hu).cell 6).trans rfl⟩
    clear x0 x1 x2 k2 b2 D1 Q1 bw1 hl
    obtain ⟨hb2, hl2, ⟨x0, x1, x2⟩, y0, y1, y2, y3, y4, y5, y6⟩ := SZ.out w2 (Below.refl _ _)
    have k3 := O.insert noH ps ls L ⟨rid, rdv, rpr, rkd, rf, rt, rpt⟩ w2 (noH_lt _) HR.out HW.out HWR.out hl2
    rw [ruA_mk] at k3
    obtain ⟨ei, hei⟩ : ∃ ei, ei = insE ps ls L ⟨rid, rdv, rpr, rkd, rf, rt, rpt⟩ := ⟨_, rfl⟩
    rw [← hei] at k3
    by_cases h0 : ei = 0
    · have hz := insE_zero.1 (hei.symm.trans h0)
      have hR3 := (rightN_iff ps ls _).1 hz.2
      have HR3 := Lib.hid hR3
      have HDI : Hid (delL rid (insL ⟨rid, rdv, rpr, rkd, rf, rt, rpt⟩ L) = L) := Lib.hid (del_ins (hasId_no.1 hz.1))
      have HDE : Hid (delE (insL ⟨rid, rdv, rpr, rkd, rf, rt, rpt⟩ L) rid = 0) := Lib.hid (delE_zero.2 (hasId_mem (ins_mem.2 (.inl rfl))))
      clear hz hR3 hei
      go_upto_region 6 with (go_at_call 8; refine k3.mono ?_; rintro e w3 ⟨h3, b3⟩; obtain ⟨p3, rfl, hl3⟩ := (h3.resolve_right fun h => h.1 h0).2; obtain ⟨bp3, rfl⟩ := O.ptr hl3)
      have HB3 := Lib.hid b3
      have HL3 := Lib.hid hl3
      clear h0 h3 k3 x0 x1 x2 y0 y1 y2 y3 y4 y5 y6 hb2 hl2 b3 hl3
      obtain ⟨hb3, hl3, ⟨x0, x1, x2⟩, y0, y1, y2, y3, y4, y5, y6⟩ := SZ.out w3 HB3.out
      have k4 := O.delete noH ps ls (insL ⟨rid, rdv, rpr, rkd, rf, rt, rpt⟩ L) rid w3 (noH_lt _) HR3.out HW2.out HRI.out HL3.out
      go_upto_region 8 with (go_at_call 10; refine k4.mono ?_; rintro e w4 ⟨h4, b4⟩; obtain ⟨p4, rfl, hl4⟩ := (h4.resolve_right fun h => h.1 HDE.out).2; obtain ⟨bp4, rfl⟩ := O.ptr hl4)
      rw [HDI.out] at hl4
      have HB4 := Lib.hid (HB3.out.trans (b4.mono HB3.out.size))
      have HL4 := Lib.hid hl4
      clear h4 k4 x0 x1 x2 y0 y1 y2 y3 y4 y5 y6 hb3 hl3 b4 hl4
      obtain ⟨hb4, hl4, ⟨x0, x1, x2⟩, y0, y1, y2, y3, y4, y5, y6⟩ := SZ.out w4 HB4.out
      have k5 := same10_any O ps ls L w4 HR.out HW.out HL4.out (HN.out w4 hb4)
      go_upto_region 9 with (go_at_call 12; refine k5.mono ?_; rintro e w5 ⟨rfl, b5⟩)
      have HB5 := Lib.hid (HB4.out.trans (b5.mono HB4.out.size))
      clear k5 x0 x1 x2 y0 y1 y2 y3 y4 y5 y6 hb4 hl4 b5
      go_upto_region 11 with (fail)
      obtain ⟨hb5, hl5, ⟨x0, x1, x2⟩, y0, y1, y2, y3, y4, y5, y6⟩ := SZ.out w5 HB5.out
      have k6 := rfind_any L i w5 (rr_of HR.out.rules) (HN.out w5 hb5).2
      have hfs := find_some L i
      have hfm : ∀ x, firstL (fun r => decide (r.id = i)) L = some x → x ∈ L ∧ x.id = i := fun x hx => by
        rcases firstL_is (fun r => decide (r.id = i)) L with ⟨h, _⟩ | ⟨z, h, hm, hz, _⟩
        · rw [h] at hx; cases hx
        · rw [h] at hx; cases hx; exact ⟨hm, of_decide_eq_true hz⟩
      generalize firstL (fun r => decide (r.id = i)) L = fo at k6 hfs hfm
      rw [show firstV fo = .tuple #[.agg (ruA (fo.getD ru0)), .bool fo.isSome] from rfl] at k6
      cases fo with
      | none =>
        have HE : Hid (delE L i = 143) := Lib.hid (by unfold delE; rw [← hfs]; rfl)
        rw [show (none : Option Ru).getD ru0 = ⟨0, 0, 0, 0, 0, 0, 0⟩ from rfl, ruA_mk, show (none : Option Ru).isSome = false from rfl] at k6
        clear hfs hfm
        go_upto_region 12 with (go_at_call 13; refine k6.mono ?_; rintro e w6 ⟨rfl, b6⟩)
        generalize hw7 : w6.alloc _ = w7
        have b7 : Below w5.heap.size w5 w7 := by rw [← hw7]; exact b6.alloc b6.size _
        have HB7 := Lib.hid (HB5.out.trans (b7.mono HB5.out.size))
        clear hw7 k6 b6 b7 x0 x1 x2 y0 y1 y2 y3 y4 y5 y6 hb5 hl5
        obtain ⟨hb7, hl7, ⟨x0, x1, x2⟩, y0, y1, y2, y3, y4, y5, y6⟩ := SZ.out w7 HB7.out
        have k8 := O.delete noH ps ls L i w7 (noH_lt _) HR.out HW.out HI.out hl7
        go_upto_region 20 with (go_at_call 10; refine k8.mono ?_; rintro e w8 ⟨h8, b8⟩; obtain rfl := (h8.resolve_left fun h => by have := h.1; rw [HE.out] at this; cases this).2; rw [HE.out])
        have hb8 := hb7.trans (b8.mono hb7.size)
        have ka := alive10_any O w8
        go_wp2_with (go_at_call 7; refine ka.mono ?_; rintro e u ⟨rfl, bu⟩)
        go_ret
        exact ⟨rfl, hb8.trans (bu.mono hb8.size)⟩
      | some x =>
        obtain ⟨hxm, hxi⟩ := hfm x rfl
        have HE : Hid (delE L i = 0) := Lib.hid (by unfold delE; rw [← hfs]; rfl)
        obtain ⟨hi1, hi2⟩ := back_del HR.out hxm
        rw [hxi] at hi1 hi2
        have HI1 := Lib.hid hi1
        have HI2 := Lib.hid hi2
        have HXW := Lib.hid (HW.out.rules x hxm)
        have HRD := Lib.hid (del_right HR.out i)
        have HWD := Lib.hid (del_w HW.out i)
        rw [show (some x : Option Ru).getD ru0 = x from rfl, show (some x : Option Ru).isSome = true from rfl] at k6
        clear hfs hfm hxm hxi hi1 hi2
        obtain ⟨xid, xdv, xpr, xkd, xf, xt, xpt⟩ := x
        rw [ruA_mk] at k6
        go_upto_region 12 with (go_at_call 13; refine k6.mono ?_; rintro e w6 ⟨rfl, b6⟩)
        obtain ⟨w7, hw7⟩ : ∃ w7, w7 = w6.alloc (.cells #[.int .i64 xid, .int .i64 xdv, .int .i64 xpr, .int .i64 xkd, .int .u32 xf, .int .u32 xt, .int .i64 xpt] 41) := ⟨_, rfl⟩
        have HX7 : Hid (At w7 w6.heap.size #[.int .i64 xid, .int .i64 xdv, .int .i64 xpr, .int .i64 xkd, .int .u32 xf, .int .u32 xt, .int .i64 xpt] 41) := Lib.hid (by rw [hw7]; exact At.new w6 _ _)
        have b7 : Below w5.heap.size w5 w7 := by rw [hw7]; exact b6.alloc b6.size _
        have HB7 := Lib.hid (HB5.out.trans (b7.mono HB5.out.size))
        rw [← hw7]
        clear hw7 k6 b6 b7 x0 x1 x2 y0 y1 y2 y3 y4 y5 y6 hb5 hl5
        obtain ⟨hb7, hl7, ⟨x0, x1, x2⟩, y0, y1, y2, y3, y4, y5, y6⟩ := SZ.out w7 HB7.out
        have k8 := O.delete noH ps ls L i w7 (noH_lt _) HR.out HW.out HI.out hl7
        go_upto_region 16 with (go_at_call 10; refine k8.mono ?_; rintro e w8 ⟨h8, b8⟩; obtain ⟨p8, rfl, hl8⟩ := (h8.resolve_right fun h => h.1 HE.out).2; obtain ⟨bp8, rfl⟩ := O.ptr hl8)
        have HB8 := Lib.hid (HB7.out.trans (b8.mono HB7.out.size))
        have X8 := HX7.out.belows b8
        clear h8 k8 x0 x1 x2 y0 y1 y2 y3 y4 y5 y6 hb7 hl7 b8
        have z0 := (X8.cell 0).trans rfl; have z1 := (X8.cell 1).trans rfl; have z2 := (X8.cell 2).trans rfl; have z3 := (X8.cell 3).trans rfl; have z4 := (X8.cell 4).trans rfl; have z5 := (X8.cell 5).trans rfl; have z6 := (X8.cell 6).trans rfl
        have k9 := O.insert noH ps ls (delL i L) ⟨xid, xdv, xpr, xkd, xf, xt, xpt⟩ w8 (noH_lt _) HRD.out HWD.out HXW.out hl8
        rw [ruA_mk] at k9
        go_upto_region 17 with (go_at_call 8; refine k9.mono ?_; rintro e w9 ⟨h9, b9⟩; obtain ⟨p9, rfl, hl9⟩ := (h9.resolve_right fun h => h.1 HI1.out).2; obtain ⟨bp9, rfl⟩ := O.ptr hl9)
        rw [HI2.out] at hl9
        have HB9 := Lib.hid (HB8.out.trans (b9.mono HB8.out.size))
        have HL9 := Lib.hid hl9
        clear h9 k9 z0 z1 z2 z3 z4 z5 z6 X8 b9 hl9 hl8
        obtain ⟨hb9, hl9, ⟨x0, x1, x2⟩, y0, y1, y2, y3, y4, y5, y6⟩ := SZ.out w9 HB9.out
        have k10 := same10_any O ps ls L w9 HR.out HW.out HL9.out (HN.out w9 hb9)
        go_upto_region 20 with (go_at_call 12; refine k10.mono ?_; rintro e w10 ⟨rfl, b10⟩)
        have hb10 := hb9.trans (b10.mono hb9.size)
        have ka := alive10_any O w10
        go_wp2_with (go_at_call 7; refine ka.mono ?_; rintro e u ⟨rfl, bu⟩)
        go_ret
        exact ⟨rfl, hb10.trans (bu.mono hb10.size)⟩
    · have e0 : (ei == 0) = false := by simp [h0]
      have e1 : decide (ei = 0) = false := by simp [h0]
      clear hei
      go_upto_region 11 with (go_at_call 8; refine k3.mono ?_; rintro e w5 ⟨h5, b5⟩; obtain rfl := (h5.resolve_left fun h => h0 h.1).2)
      have HB5 := Lib.hid b5
      clear h0 h5 k3 x0 x1 x2 y0 y1 y2 y3 y4 y5 y6 hb2 hl2 b5 e0 e1
      obtain ⟨hb5, hl5, ⟨x0, x1, x2⟩, y0, y1, y2, y3, y4, y5, y6⟩ := SZ.out w5 HB5.out
      have k6 := rfind_any L i w5 (rr_of HR.out.rules) (HN.out w5 hb5).2
      have hfs := find_some L i
      have hfm : ∀ x, firstL (fun r => decide (r.id = i)) L = some x → x ∈ L ∧ x.id = i := fun x hx => by
        rcases firstL_is (fun r => decide (r.id = i)) L with ⟨h, _⟩ | ⟨z, h, hm, hz, _⟩
        · rw [h] at hx; cases hx
        · rw [h] at hx; cases hx; exact ⟨hm, of_decide_eq_true hz⟩
      generalize firstL (fun r => decide (r.id = i)) L = fo at k6 hfs hfm
      rw [show firstV fo = .tuple #[.agg (ruA (fo.getD ru0)), .bool fo.isSome] from rfl] at k6
      cases fo with
      | none =>
        have HE : Hid (delE L i = 143) := Lib.hid (by unfold delE; rw [← hfs]; rfl)
        rw [show (none : Option Ru).getD ru0 = ⟨0, 0, 0, 0, 0, 0, 0⟩ from rfl, ruA_mk, show (none : Option Ru).isSome = false from rfl] at k6
        clear hfs hfm
        go_upto_region 12 with (go_at_call 13; refine k6.mono ?_; rintro e w6 ⟨rfl, b6⟩)
        generalize hw7 : w6.alloc _ = w7
        have b7 : Below w5.heap.size w5 w7 := by rw [← hw7]; exact b6.alloc b6.size _
        have HB7 := Lib.hid (HB5.out.trans (b7.mono HB5.out.size))
        clear hw7 k6 b6 b7 x0 x1 x2 y0 y1 y2 y3 y4 y5 y6 hb5 hl5
        obtain ⟨hb7, hl7, ⟨x0, x1, x2⟩, y0, y1, y2, y3, y4, y5, y6⟩ := SZ.out w7 HB7.out
        have k8 := O.delete noH ps ls L i w7 (noH_lt _) HR.out HW.out HI.out hl7
        go_upto_region 20 with (go_at_call 10; refine k8.mono ?_; rintro e w8 ⟨h8, b8⟩; obtain rfl := (h8.resolve_left fun h => by have := h.1; rw [HE.out] at this; cases this).2; rw [HE.out])
        have hb8 := hb7.trans (b8.mono hb7.size)
        have ka := alive10_any O w8
        go_wp2_with (go_at_call 7; refine ka.mono ?_; rintro e u ⟨rfl, bu⟩)
        go_ret
        exact ⟨rfl, hb8.trans (bu.mono hb8.size)⟩
      | some x =>
        obtain ⟨hxm, hxi⟩ := hfm x rfl
        have HE : Hid (delE L i = 0) := Lib.hid (by unfold delE; rw [← hfs]; rfl)
        obtain ⟨hi1, hi2⟩ := back_del HR.out hxm
        rw [hxi] at hi1 hi2
        have HI1 := Lib.hid hi1
        have HI2 := Lib.hid hi2
        have HXW := Lib.hid (HW.out.rules x hxm)
        have HRD := Lib.hid (del_right HR.out i)
        have HWD := Lib.hid (del_w HW.out i)
        rw [show (some x : Option Ru).getD ru0 = x from rfl, show (some x : Option Ru).isSome = true from rfl] at k6
        clear hfs hfm hxm hxi hi1 hi2
        obtain ⟨xid, xdv, xpr, xkd, xf, xt, xpt⟩ := x
        rw [ruA_mk] at k6
        go_upto_region 12 with (go_at_call 13; refine k6.mono ?_; rintro e w6 ⟨rfl, b6⟩)
        obtain ⟨w7, hw7⟩ : ∃ w7, w7 = w6.alloc (.cells #[.int .i64 xid, .int .i64 xdv, .int .i64 xpr, .int .i64 xkd, .int .u32 xf, .int .u32 xt, .int .i64 xpt] 41) := ⟨_, rfl⟩
        have HX7 : Hid (At w7 w6.heap.size #[.int .i64 xid, .int .i64 xdv, .int .i64 xpr, .int .i64 xkd, .int .u32 xf, .int .u32 xt, .int .i64 xpt] 41) := Lib.hid (by rw [hw7]; exact At.new w6 _ _)
        have b7 : Below w5.heap.size w5 w7 := by rw [hw7]; exact b6.alloc b6.size _
        have HB7 := Lib.hid (HB5.out.trans (b7.mono HB5.out.size))
        rw [← hw7]
        clear hw7 k6 b6 b7 x0 x1 x2 y0 y1 y2 y3 y4 y5 y6 hb5 hl5
        obtain ⟨hb7, hl7, ⟨x0, x1, x2⟩, y0, y1, y2, y3, y4, y5, y6⟩ := SZ.out w7 HB7.out
        have k8 := O.delete noH ps ls L i w7 (noH_lt _) HR.out HW.out HI.out hl7
        go_upto_region 16 with (go_at_call 10; refine k8.mono ?_; rintro e w8 ⟨h8, b8⟩; obtain ⟨p8, rfl, hl8⟩ := (h8.resolve_right fun h => h.1 HE.out).2; obtain ⟨bp8, rfl⟩ := O.ptr hl8)
        have HB8 := Lib.hid (HB7.out.trans (b8.mono HB7.out.size))
        have X8 := HX7.out.belows b8
        clear h8 k8 x0 x1 x2 y0 y1 y2 y3 y4 y5 y6 hb7 hl7 b8
        have z0 := (X8.cell 0).trans rfl; have z1 := (X8.cell 1).trans rfl; have z2 := (X8.cell 2).trans rfl; have z3 := (X8.cell 3).trans rfl; have z4 := (X8.cell 4).trans rfl; have z5 := (X8.cell 5).trans rfl; have z6 := (X8.cell 6).trans rfl
        have k9 := O.insert noH ps ls (delL i L) ⟨xid, xdv, xpr, xkd, xf, xt, xpt⟩ w8 (noH_lt _) HRD.out HWD.out HXW.out hl8
        rw [ruA_mk] at k9
        go_upto_region 17 with (go_at_call 8; refine k9.mono ?_; rintro e w9 ⟨h9, b9⟩; obtain ⟨p9, rfl, hl9⟩ := (h9.resolve_right fun h => h.1 HI1.out).2; obtain ⟨bp9, rfl⟩ := O.ptr hl9)
        rw [HI2.out] at hl9
        have HB9 := Lib.hid (HB8.out.trans (b9.mono HB8.out.size))
        have HL9 := Lib.hid hl9
        clear h9 k9 z0 z1 z2 z3 z4 z5 z6 X8 b9 hl9 hl8
        obtain ⟨hb9, hl9, ⟨x0, x1, x2⟩, y0, y1, y2, y3, y4, y5, y6⟩ := SZ.out w9 HB9.out
        have k10 := same10_any O ps ls L w9 HR.out HW.out HL9.out (HN.out w9 hb9)
        go_upto_region 20 with (go_at_call 12; refine k10.mono ?_; rintro e w10 ⟨rfl, b10⟩)
        have hb10 := hb9.trans (b10.mono hb9.size)
        have ka := alive10_any O w10
        go_wp2_with (go_at_call 7; refine ka.mono ?_; rintro e u ⟨rfl, bu⟩)
        go_ret
        exact ⟨rfl, hb10.trans (bu.mono hb10.size)⟩
end Go.Proofs.YtlhfaildeemngaaGreat
/- Contract: the document's Delete. -/
namespace Go.Proofs.YtlhfaildeemngaaGreat
open Go.RowKit Go.Shelf

theorem del_take {L : List Ru} {k : Nat} (hk : k < L.length) (i : Int) : delL i (L.take (k + 1)) = delL i (L.take k) ++ (if L[k].id = i then [] else [L[k]]) := by
  unfold delL
  rw [List.take_succ_eq_append_getElem hk, List.filter_append]
  congr 1
  by_cases h : L[k].id = i <;> simp [h]
set_option maxRecDepth 100000 in
set_option maxHeartbeats 4000000 in
/-- The document's Delete, of a right network. -/
theorem rdelete_any {vp vl vr : Value} (ps : List Int) (ls : List Lk) (L : List Ru) (i : Int) (w : World) (hR : RN ps ls L) (h : IsN w vp vl vr ps ls L) : Calls Tryz.prog 11 #[.agg #[vp, vl, vr], .int .i64 i] w (NewOut (delE L i) (delL i L) vp vl w) := by
  have HN : Hid (∀ u, Below w.heap.size w u → IsN u vp vl vr ps ls L) := Lib.hid fun u hu => h.belows hu
  have hl := ((allB_pw L).1 hR.rules).1
  have HRR := Lib.hid (rr_of hR.rules)
  obtain ⟨⟨⟨A1, c1, rfl, _⟩, ⟨A2, c2, rfl, _⟩⟩, ⟨A3, c3, rfl, n3, m3, z3⟩⟩ := h
  have HZ : Hid (∀ u, Below w.heap.size w u → Rs u A3 L) := Lib.hid fun u hu => z3.belows hu
  obtain ⟨ER, hER⟩ : ∃ ER, ER = delE L i := ⟨_, rfl⟩
  rw [← hER]
  have HE := Lib.hid hER
  clear hER hR z3
  have b0 : Below w.heap.size w ((w.alloc (.cells #[.slice A1 ps.length c1, .slice A2 ls.length c2, .slice A3 L.length c3] 28)).alloc (.cells #[.slice none 0 0, .slice none 0 0, .slice none 0 0] 28)) := ((Below.refl _ w).alloc (Nat.le_refl _) _).alloc (by simp) _
  have D0 := (At.new w #[.slice A1 ps.length c1, .slice A2 ls.length c2, .slice A3 L.length c3] 28).alloc (.cells #[.slice none 0 0, .slice none 0 0, .slice none 0 0] 28)
  have S0 := At.new1 w (.cells #[.slice A1 ps.length c1, .slice A2 ls.length c2, .slice A3 L.length c3] 28) #[.slice none 0 0, .slice none 0 0, .slice none 0 0] 28
  go_enter Tryz.func11, Tryz.ntmps11
  go_upto_region 1 with (fail)
  obtain ⟨w0, hw0⟩ : ∃ w0, w0 = ((w.alloc (.cells #[.slice A1 ps.length c1, .slice A2 ls.length c2, .slice A3 L.length c3] 28)).alloc (.cells #[.slice none 0 0, .slice none 0 0, .slice none 0 0] 28)) := ⟨_, rfl⟩
  rw [← hw0] at D0 S0 b0 ⊢
  clear hw0
  have k1 := rfind_any L i w0 HRR.out (HN.out w0 b0).2
  have hfs := find_some L i
  generalize firstL (fun r => decide (r.id = i)) L = fo at k1 hfs
  rw [show firstV fo = .tuple #[.agg (ruA (fo.getD ru0)), .bool fo.isSome] from rfl, hfs] at k1
  generalize fo.getD ru0 = fr at k1
  obtain ⟨fid, fdv, fpr, fkd, ff, ft, fpt⟩ := fr
  rw [ruA_mk] at k1
  clear hfs
  have x2 := (D0.cell 2).trans rfl
  cases hid : hasId i L with
  | false =>
    have HER : Hid (ER = 143) := Lib.hid (by rw [HE.out]; unfold delE; rw [hid]; rfl)
    rw [hid] at k1
    clear hid
    go_upto_region 2 with (go_at_call 13; refine k1.mono ?_; rintro e w1 ⟨rfl, b1⟩)
    obtain ⟨w2, hw2⟩ : ∃ w2, w2 = w1.alloc (.cells #[.int .i64 fid, .int .i64 fdv, .int .i64 fpr, .int .i64 fkd, .int .u32 ff, .int .u32 ft, .int .i64 fpt] 41) := ⟨_, rfl⟩
    have b2 : Below w0.heap.size w0 w2 := by rw [hw2]; exact b1.alloc b1.size _
    have S2 := S0.belows b2
    have bw2 := b0.trans (b2.mono b0.size)
    rw [← hw2]
    clear hw2 b1 x2 k1
    have s0 := (S2.cell 0).trans rfl; have s1 := (S2.cell 1).trans rfl; have s2 := (S2.cell 2).trans rfl
    have f0 := S2.frozen 0; have f1 := S2.frozen 1; have f2 := S2.frozen 2
    go_wp2
    have Z := net_set (a := .slice none 0 0) (b := .slice none 0 0) (c := .slice none 0 0) S2
    have Z0 := Z.cell 0; have Z1 := Z.cell 1; have Z2 := Z.cell 2
    simp at Z0 Z1 Z2
    refine bodyPost_ret (v := .tuple #[netZ, .int .i64 143]) ?_ rfl ⟨.inl ⟨by rw [HER.out]; decide, by rw [HER.out]⟩, ((bw2.setCell (p := ⟨w.heap.size + 1, 0, none⟩) (by show w.heap.size ≤ w.heap.size + 1; omega) _).setCell (p := ⟨w.heap.size + 1, 1, none⟩) (by show w.heap.size ≤ w.heap.size + 1; omega) _).setCell (p := ⟨w.heap.size + 1, 2, none⟩) (by show w.heap.size ≤ w.heap.size + 1; omega) _⟩
    simp [results, Tryz.results11, go_sem, Z0, Z1, Z2, netZ]
  | true =>
    have HER : Hid (ER = 0) := Lib.hid (by rw [HE.out]; unfold delE; rw [hid]; rfl)
    rw [hid] at k1
    clear hid
    go_upto_region 2 with (go_at_call 13; refine k1.mono ?_; rintro e w1 ⟨rfl, b1⟩)
    obtain ⟨w2, hw2⟩ : ∃ w2, w2 = w1.alloc (.cells #[.int .i64 fid, .int .i64 fdv, .int .i64 fpr, .int .i64 fkd, .int .u32 ff, .int .u32 ft, .int .i64 fpt] 41) := ⟨_, rfl⟩
    have b2 : Below w0.heap.size w0 w2 := by rw [hw2]; exact b1.alloc b1.size _
    have HS2 := Lib.hid (S0.belows b2)
    have HD2 := Lib.hid (D0.belows b2)
    have HB2 := Lib.hid (b0.trans (b2.mono b0.size))
    have hsz3 := HS2.out.lt
    rw [← hw2]
    clear hw2 b1 x2 k1 S0 D0 b2
    have hL : L.length ≤ 9223372036854775807 := by omega
    have HI0 : Hid (w2.ownsRow w2.heap.size 41 7 (.slice none 0 0) (delL i (L.take 0)).length (rcs (delL i (L.take 0)))) := Lib.hid (World.ownsRow_nil _ _ _ _)
    go_wp2
    go_loopw [8, 9] (fun lv j wr => ∃ k : Nat, j = .int .i64 k ∧ k ≤ L.length ∧ Hid (wr.ownsRow w2.heap.size 41 7 lv (delL i (L.take k)).length (rcs (delL i (L.take k)))) ∧ Below w2.heap.size w2 wr) (fun _ j _ => L.length - (intOf j).toNat)
    case atStart => exact ⟨0, rfl, by omega, HI0, Below.refl _ _⟩
    case round =>
      obtain ⟨k, rfl, hk, HROW, hb⟩ := hrel
      clear HI0
      have HB := Lib.hid hb
      have hsz := hb.size
      have D3 := HD2.out.belows hb
      have HLEN : Hid ((delL i (L.take k)).length ≤ k ∧ k ≤ 40) := Lib.hid ⟨Nat.le_trans (List.length_filter_le _ _) (by rw [List.length_take]; omega), by omega⟩
      have x2 := (D3.cell 2).trans rfl
      clear hb
      by_cases hlt : k < L.length
      · obtain ⟨g, o, e, hg, r0, r1, r2, r3, r4, r5, r6⟩ := (HZ.out w2 HB2.out).at k hlt
        subst e
        have i0 : (0 : Int) ≤ (k : Int) := by omega
        have i1 : (k : Int) < (L.length : Int) := by omega
        obtain ⟨x, hx⟩ : ∃ x, x = L[k] := ⟨_, rfl⟩
        rw [← hx] at r0 r1 r2 r3 r4 r5 r6
        have HT := Lib.hid (del_take hlt i)
        rw [← hx] at HT
        clear hx x2
        obtain ⟨id, dv, pr, kd, f, t, pt⟩ := x
        dsimp only at r0 r1 r2 r3 r4 r5 r6 HT
        have SZ : Hid (∀ u, Below w2.heap.size w2 u → u.cell? ⟨w.heap.size, 2, none⟩ = some (.slice (some ⟨g, o, none⟩) L.length c3) ∧ u.cell? ⟨g, o + k * 7, none⟩ = some (.int .i64 id) ∧ u.cell? ⟨g, o + k * 7 + 1, none⟩ = some (.int .i64 dv) ∧ u.cell? ⟨g, o + k * 7 + 2, none⟩ = some (.int .i64 pr) ∧ u.cell? ⟨g, o + k * 7 + 3, none⟩ = some (.int .i64 kd) ∧ u.cell? ⟨g, o + k * 7 + 4, none⟩ = some (.int .u32 f) ∧ u.cell? ⟨g, o + k * 7 + 5, none⟩ = some (.int .u32 t) ∧ u.cell? ⟨g, o + k * 7 + 6, none⟩ = some (.int .i64 pt)) := Lib.hid fun u hu => ⟨((HD2.out.belows hu).cell 2).trans rfl, (hu.cell (p := ⟨g, _, none⟩) hg).trans r0, (hu.cell (p := ⟨g, _, none⟩) hg).trans r1, (hu.cell (p := ⟨g, _, none⟩) hg).trans r2, (hu.cell (p := ⟨g, _, none⟩) hg).trans r3, (hu.cell (p := ⟨g, _, none⟩) hg).trans r4, (hu.cell (p := ⟨g, _, none⟩) hg).trans r5, (hu.cell (p := ⟨g, _, none⟩) hg).trans r6⟩
        clear D3 r0 r1 r2 r3 r4 r5 r6
        obtain ⟨x2, r0, r1, r2, r3, r4, r5, r6⟩ := SZ.out wr HB.out
        by_cases hid2 : id = i
        · have e1 : (!(id == i)) = false := by simp [hid2]
          have e2 : (id == i) = true := by simp [hid2]
          have e3 : decide (id = i) = true := by simp [hid2]
          rw [if_pos hid2, List.append_nil] at HT
          clear hid2
          have HR5 : Hid (wr.ownsRow w2.heap.size 41 7 u8 (delL i (L.take (k + 1))).length (rcs (delL i (L.take (k + 1))))) := Lib.hid (by rw [HT.out]; exact HROW.out)
          go_wp2
          go_roundw
          case rel => exact ⟨k + 1, by go_num, by omega, HR5, HB.out⟩
          case measure => simp [intOf]; omega
        · have e1 : (!(id == i)) = true := by simp [hid2]
          have e2 : (id == i) = false := by simp [hid2]
          have e3 : decide (id = i) = false := by simp [hid2]
          rw [if_neg hid2] at HT
          clear hid2
          go_wp2_with (at_builtin; refine wpList_app_new ruA_size7 ruA_one Tryz.underlying26 infoRule rfl (by decide) rfl (.tmp 35) (.tmp 41) rfl w2.heap.size _ (delL i (L.take k)) rfl (HROW.out.alloc _) ⟨wr.heap.size, 0, none⟩ 1 [⟨id, dv, pr, kd, f, t, pt⟩] rfl (f_new ruA_size7 wr [⟨id, dv, pr, kd, f, t, pt⟩] #[.int .i64 id, .int .i64 dv, .int .i64 pr, .int .i64 kd, .int .u32 f, .int .u32 t, .int .i64 pt] 41 rfl) (by simp only [maxLen, List.length_singleton]; have := HLEN.out; omega) (by simp only [List.length_singleton]; have := HLEN.out; omega) (by simp; omega) ?_; intro v5 w5 ho hb5)
          have HR5 : Hid (w5.ownsRow w2.heap.size 41 7 v5 (delL i (L.take (k + 1))).length (rcs (delL i (L.take (k + 1))))) := Lib.hid (by rw [HT.out]; exact ho)
          have HB5 := Lib.hid ((HB.out.alloc HB.out.size _).trans hb5)
          clear ho hb5
          go_roundw
          case rel => exact ⟨k + 1, by go_num, by omega, HR5, HB5.out⟩
          case measure => simp [intOf]; omega
      · have hki : ¬ (k : Int) < (L.length : Int) := by omega
        have hkl : k = L.length := by omega
        have HR7 : Hid (wr.ownsRow w2.heap.size 41 7 u8 (delL i L).length (rcs (delL i L))) := Lib.hid (by have := HROW.out; rw [hkl, List.take_length] at this; exact this)
        obtain ⟨A8, n8, c8, hv8⟩ : ∃ A8 n8 c8, u8 = .slice A8 n8 c8 := by
          rcases HR7.out.2 with ⟨e, _⟩ | ⟨g, cap, cur, e, _⟩
          · exact ⟨_, _, _, e⟩
          · exact ⟨_, _, _, e⟩
        subst hv8
        clear hkl HROW HLEN
        have S9 := HS2.out.belows HB.out
        have hbw := HB2.out.trans (HB.out.mono HB2.out.size)
        have x0 := (D3.cell 0).trans rfl; have x1 := (D3.cell 1).trans rfl
        have s0 := (S9.cell 0).trans rfl; have s1 := (S9.cell 1).trans rfl; have s2 := (S9.cell 2).trans rfl
        have f0 := S9.frozen 0; have f1 := S9.frozen 1; have f2 := S9.frozen 2
        go_wp2
        have Z := net_set (a := .slice A1 ps.length c1) (b := .slice A2 ls.length c2) (c := .slice A8 n8 c8) S9
        have Z0 := Z.cell 0; have Z1 := Z.cell 1; have Z2 := Z.cell 2
        simp at Z0 Z1 Z2
        refine bodyPost_ret (v := .tuple #[.agg #[.slice A1 ps.length c1, .slice A2 ls.length c2, .slice A8 n8 c8], .int .i64 0]) ?_ rfl ⟨.inr ⟨HER.out, _, w2.heap.size, by have := HB2.out.size; omega, rfl, ?_⟩, ((hbw.setCell (p := ⟨w.heap.size + 1, 0, none⟩) (by show w.heap.size ≤ w.heap.size + 1; omega) _).setCell (p := ⟨w.heap.size + 1, 1, none⟩) (by show w.heap.size ≤ w.heap.size + 1; omega) _).setCell (p := ⟨w.heap.size + 1, 2, none⟩) (by show w.heap.size ≤ w.heap.size + 1; omega) _⟩
        · simp [results, Tryz.results11, go_sem, Z0, Z1, Z2]
        · exact row_far (row_far (row_far HR7.out (grownBy_set _ (w.heap.size + 1) 0 _) (by omega)) (grownBy_set _ (w.heap.size + 1) 1 _) (by omega)) (grownBy_set _ (w.heap.size + 1) 2 _) (by omega)
end Go.Proofs.YtlhfaildeemngaaGreat
/- LabelEdits, over the program's calls. -/
namespace Go.Proofs.YtlhfaildeemngaaGreat
open Go.RowKit Go.Shelf

theorem grown_trans {A B C : World} {r : Option Nat} (h : A.grownBy B r) (k : B.grownBy C r) : A.grownBy C r := ⟨k.os.trans h.os, k.tape.trans h.tape, k.output.trans h.output, Nat.le_trans h.size k.size, fun i hi hr => (k.block i (Nat.lt_of_lt_of_le hi h.size) hr).trans (h.block i hi hr)⟩
/-- An act as cells. -/
def actA (x : Bool × Ru) : Array Value := #[.bool x.1, .int .i64 x.2.id, .int .i64 x.2.dv, .int .i64 x.2.pr, .int .i64 x.2.kd, .int .u32 x.2.f, .int .u32 x.2.t, .int .i64 x.2.pt]
theorem actA_size (x : Bool × Ru) : (actA x).size = 8 := rfl
/-- What an edit tells: a pointer or none, an error. -/
def PtrOut (O : Own10) (H : Nat → Prop) (er : Int) (ps : List Int) (ls : List Lk) (M : List Ru) (w : World) (e : Ending) (w' : World) : Prop :=
  (∃ p : Option Addr, e = .returned (.tuple #[.pointer p, .int .i64 er]) ∧ (er = 0 → p.isSome = true ∧ O.Lb H w' (.pointer p) ps ls M) ∧ (er ≠ 0 → p = none)) ∧ Below w.heap.size w w'
theorem insert_out (O : Own10) {v : Value} (H : Nat → Prop) (ps : List Int) (ls : List Lk) (L : List Ru) (r : Ru) (w : World) (hH : ∀ b, H b → ∃ cs, At w b cs 28) (hR : RN ps ls L) (hW : NW ps ls L) (hr : r.wf) (h : O.Lb H w v ps ls L) :
    Calls Tryz.prog 8 #[v, .agg (ruA r)] w (PtrOut O H (insE ps ls L r) ps ls (insL r L) w) :=
  (O.insert H ps ls L r w hH hR hW hr h).mono fun e w' ⟨h, b⟩ => by
    refine ⟨?_, b⟩
    rcases h with ⟨h0, p, e, hl⟩ | ⟨h0, e⟩
    · obtain ⟨bp, rfl⟩ := O.ptr hl
      exact ⟨some bp, by rw [h0]; exact e, fun _ => ⟨rfl, hl⟩, fun h => absurd h0 h⟩
    · exact ⟨none, e, fun h => absurd h h0, fun _ => rfl⟩
theorem delete_out (O : Own10) {v : Value} (H : Nat → Prop) (ps : List Int) (ls : List Lk) (L : List Ru) (i : Int) (w : World) (hH : ∀ b, H b → ∃ cs, At w b cs 28) (hR : RN ps ls L) (hW : NW ps ls L) (hi : isI i) (h : O.Lb H w v ps ls L) :
    Calls Tryz.prog 10 #[v, .int .i64 i] w (PtrOut O H (delE L i) ps ls (delL i L) w) :=
  (O.delete H ps ls L i w hH hR hW hi h).mono fun e w' ⟨h, b⟩ => by
    refine ⟨?_, b⟩
    rcases h with ⟨h0, p, e, hl⟩ | ⟨h0, e⟩
    · obtain ⟨bp, rfl⟩ := O.ptr hl
      exact ⟨some bp, by rw [h0]; exact e, fun _ => ⟨rfl, hl⟩, fun h => absurd h0 h⟩
    · exact ⟨none, e, fun h => absurd h h0, fun _ => rfl⟩
/-- The document's network behind an edit, by its cells. -/
structure NetIs (er : Int) (M : List Ru) (A1 A2 : Option Addr) (n1 c1 n2 c2 : Nat) (w : World) (B1 B2 B3 : Option Addr) (m1 d1 m2 d2 m3 d3 : Nat) (w' : World) : Prop where
  bel : Below w.heap.size w w'
  ok : er = 0 → B1 = A1 ∧ m1 = n1 ∧ d1 = c1 ∧ B2 = A2 ∧ m2 = n2 ∧ d2 = c2 ∧ ∃ base, w.heap.size ≤ base ∧ w'.ownsRow base 41 7 (.slice B3 m3 d3) M.length (rcs M)
theorem newOut_cells {er : Int} {M : List Ru} {A1 A2 : Option Addr} {n1 c1 n2 c2 : Nat} {w w' : World} {e : Ending} (h : NewOut er M (.slice A1 n1 c1) (.slice A2 n2 c2) w e w') :
    ∃ B1 m1 d1 B2 m2 d2 B3 m3 d3, e = .returned (.tuple #[.agg #[.slice B1 m1 d1, .slice B2 m2 d2, .slice B3 m3 d3], .int .i64 er]) ∧ NetIs er M A1 A2 n1 c1 n2 c2 w B1 B2 B3 m1 d1 m2 d2 m3 d3 w' := by
  obtain ⟨h, b⟩ := h
  rcases h with ⟨h0, e⟩ | ⟨h0, v, base, hb, e, hrow⟩
  · exact ⟨none, 0, 0, none, 0, 0, none, 0, 0, e, b, fun h => absurd h h0⟩
  · obtain ⟨A8, n8, c8, rfl⟩ : ∃ A8 n8 c8, v = .slice A8 n8 c8 := by
      rcases hrow.2 with ⟨e, _⟩ | ⟨g, cap, cur, e, _⟩
      · exact ⟨_, _, _, e⟩
      · exact ⟨_, _, _, e⟩
    exact ⟨A1, n1, c1, A2, n2, c2, A8, n8, c8, by rw [h0]; exact e, b, fun _ => ⟨rfl, rfl, rfl, rfl, rfl, rfl, base, hb, hrow⟩⟩
/-- A network whose rules are a new row. -/
theorem isNo_new {H : Nat} {w W : World} {vp vl vr v : Value} {ps : List Int} {ls : List Lk} {L M : List Ru} {base : Nat} (h : IsNo (oneH H) w vp vl vr ps ls L) (hg : Exc (oneH H) w W) (hrow : W.ownsRow base 41 7 v M.length (rcs M)) (hH : H < base) : IsNo (oneH H) W vp vl v ps ls M :=
  fun W' hW => ⟨(h W' (hg.trans hW)).1, isR_of_row (row_far hrow hW.grown hH)⟩
/-- Where LabelEdits stands. -/
structure EdI (O : Own10) (A1 A2 : Option Addr) (c1 c2 : Nat) (ps : List Int) (ls : List Lk) (w : World) (bp : Addr) (M : List Ru) (A3 : Option Addr) (c3 : Nat) (W : World) : Prop where
  right : RN ps ls M
  wide : NW ps ls M
  lab : O.Lb (oneH w.heap.size) W (.pointer (some bp)) ps ls M
  net : At W w.heap.size #[.slice A1 ps.length c1, .slice A2 ls.length c2, .slice A3 M.length c3] 28
  no : IsNo (oneH w.heap.size) W (.slice A1 ps.length c1) (.slice A2 ls.length c2) (.slice A3 M.length c3) ps ls M
  bel : Below w.heap.size w W
theorem EdI.on {O : Own10} {A1 A2 : Option Addr} {c1 c2 : Nat} {ps : List Int} {ls : List Lk} {w : World} {bp : Addr} {M : List Ru} {A3 : Option Addr} {c3 : Nat} {W U : World} (h : EdI O A1 A2 c1 c2 ps ls w bp M A3 c3 W) (hb : Below W.heap.size W U) : EdI O A1 A2 c1 c2 ps ls w bp M A3 c3 U :=
  ⟨h.right, h.wide, O.keep h.lab (exc_of hb _), h.net.belows hb, h.no.keep (exc_of hb _), h.bel.trans (hb.mono h.bel.size)⟩
/-- What an edit leaves to take over. -/
structure Nxt (O : Own10) (A1 A2 : Option Addr) (c1 c2 : Nat) (ps : List Int) (ls : List Lk) (w : World) (er : Int) (M : List Ru) (p : Option Addr) (B1 B2 B3 : Option Addr) (m1 d1 m2 d2 m3 d3 : Nat) (XB : Nat) (W : World) : Prop where
  right : er = 0 → RN ps ls M ∧ NW ps ls M
  some' : er = 0 → p.isSome = true ∧ O.Lb (oneH w.heap.size) W (.pointer p) ps ls M
  none' : er ≠ 0 → p = none
  box : At W XB #[.slice B1 m1 d1, .slice B2 m2 d2, .slice B3 m3 d3] 28
  far : w.heap.size < XB
  cells : er = 0 → B1 = A1 ∧ m1 = ps.length ∧ d1 = c1 ∧ B2 = A2 ∧ m2 = ls.length ∧ d2 = c2
  row : er = 0 → ∃ base, w.heap.size < base ∧ W.ownsRow base 41 7 (.slice B3 m3 d3) M.length (rcs M)
theorem Nxt.on {O : Own10} {A1 A2 : Option Addr} {c1 c2 : Nat} {ps : List Int} {ls : List Lk} {w : World} {er : Int} {M : List Ru} {p : Option Addr} {B1 B2 B3 : Option Addr} {m1 d1 m2 d2 m3 d3 XB : Nat} {W U : World}
    (h : Nxt O A1 A2 c1 c2 ps ls w er M p B1 B2 B3 m1 d1 m2 d2 m3 d3 XB W) (hb : Below W.heap.size W U) : Nxt O A1 A2 c1 c2 ps ls w er M p B1 B2 B3 m1 d1 m2 d2 m3 d3 XB U :=
  ⟨h.right, fun h0 => ⟨(h.some' h0).1, O.keep (h.some' h0).2 (exc_of hb _)⟩, h.none', h.box.belows hb, h.far, h.cells, fun h0 => by obtain ⟨b, h1, h2⟩ := h.row h0; exact ⟨b, h1, row_belows h2 hb⟩⟩
/-- It is taken over. -/
theorem Nxt.take {O : Own10} {A1 A2 : Option Addr} {c1 c2 : Nat} {ps : List Int} {ls : List Lk} {w : World} {M : List Ru} {bq : Addr} {B1 B2 B3 : Option Addr} {m1 d1 m2 d2 m3 d3 XB : Nat} {W : World} {bp : Addr} {L : List Ru} {A3 : Option Addr} {c3 : Nat}
    (h : Nxt O A1 A2 c1 c2 ps ls w 0 M (some bq) B1 B2 B3 m1 d1 m2 d2 m3 d3 XB W) (hE : EdI O A1 A2 c1 c2 ps ls w bp L A3 c3 W) :
    EdI O A1 A2 c1 c2 ps ls w bq M B3 d3 (((W.setCell ⟨w.heap.size, 0, none⟩ (.slice B1 m1 d1)).setCell ⟨w.heap.size, 1, none⟩ (.slice B2 m2 d2)).setCell ⟨w.heap.size, 2, none⟩ (.slice B3 m3 d3)) := by
  obtain ⟨rfl, rfl, rfl, rfl, rfl, rfl⟩ := h.cells rfl
  obtain ⟨base, hb, hrow⟩ := h.row rfl
  have hm : m3 = M.length := by
    rcases hrow.2 with ⟨e, h0⟩ | ⟨g, cap, cur, e, _⟩
    · cases e; exact h0.symm
    · cases e; rfl
  subst hm
  have hg : W.grownBy (((W.setCell ⟨w.heap.size, 0, none⟩ (.slice B1 ps.length d1)).setCell ⟨w.heap.size, 1, none⟩ (.slice B2 ls.length d2)).setCell ⟨w.heap.size, 2, none⟩ (.slice B3 M.length d3)) (some w.heap.size) := grown_trans (grown_trans (grownBy_set _ _ 0 _) (grownBy_set _ _ 1 _)) (grownBy_set _ _ 2 _)
  refine ⟨(h.right rfl).1, (h.right rfl).2, O.keep (h.some' rfl).2 (exc_grown hg rfl), net_set hE.net, ?_, ?_⟩
  · exact (isNo_new hE.no (exc_of (Below.refl _ _) _) hrow hb).keep (exc_grown hg rfl)
  · exact ((hE.bel.setCell (p := ⟨w.heap.size, 0, none⟩) (Nat.le_refl _) _).setCell (p := ⟨w.heap.size, 1, none⟩) (Nat.le_refl _) _).setCell (p := ⟨w.heap.size, 2, none⟩) (Nat.le_refl _) _
end Go.Proofs.YtlhfaildeemngaaGreat
/- Contracts: a node's count, height and pair; the nodes at a key, around it, and at a place. -/
namespace Go.Proofs.YtlhfaildeemngaaGreat.Tr
open Go.RowKit

theorem count_any {v : Value} (t : Bt) (w : World) (h : IsT w v t) : Calls Tryz.prog 83 #[v] w fun e w' => e = .returned (.int .i64 (t.size : Int)) ∧ w = w' := by
  cases t with
  | nil =>
    obtain rfl : v = .pointer none := h
    go_enter Tryz.func83, Tryz.ntmps83
    go_wp2
    go_ret
    exact ⟨rfl, rfl⟩
  | node l x r =>
    obtain ⟨B, vl, vr, rfl, ha, _, _⟩ := h
    have c4 := (ha.cell 4).trans rfl
    clear ha
    go_enter Tryz.func83, Tryz.ntmps83
    go_wp2
    go_ret
    exact ⟨rfl, rfl⟩
theorem high_any {v : Value} (t : Bt) (w : World) (h : IsT w v t) : Calls Tryz.prog 101 #[v] w fun e w' => e = .returned (.int .i64 (t.ht : Int)) ∧ w = w' := by
  cases t with
  | nil =>
    obtain rfl : v = .pointer none := h
    go_enter Tryz.func101, Tryz.ntmps101
    go_wp2
    go_ret
    exact ⟨rfl, rfl⟩
  | node l x r =>
    obtain ⟨B, vl, vr, rfl, ha, _, _⟩ := h
    have c5 := (ha.cell 5).trans rfl
    clear ha
    go_enter Tryz.func101, Tryz.ntmps101
    go_wp2
    go_ret
    exact ⟨rfl, rfl⟩
/-- A pair, or none. -/
def toldV : Option (Int × Int) → Value
  | none => .tuple #[.agg #[.int .u64 0, .int .i64 0], .bool false]
  | some x => .tuple #[.agg #[.int .u64 x.1, .int .i64 x.2], .bool true]
theorem told_any {v : Value} (o : Option (Int × Int)) (w : World) (h : AtN w v o) : Calls Tryz.prog 85 #[v] w fun e w' => e = .returned (toldV o) ∧ Below w.heap.size w w' := by
  cases o with
  | none =>
    obtain rfl : v = .pointer none := h
    go_enter Tryz.func85, Tryz.ntmps85
    go_wp2
    refine bodyPost_ret (v := toldV none) (by simp [results, Tryz.results85, go_sem, toldV]) rfl ⟨rfl, ?_⟩
    exact (Below.refl _ w).alloc (Nat.le_refl _) _
  | some x =>
    obtain ⟨B, a, b, c, d, rfl, ha⟩ := h
    have hB := ha.lt
    have c0 := (ha.cell 0).trans rfl
    have c1 := (ha.cell 1).trans rfl
    clear ha
    go_enter Tryz.func85, Tryz.ntmps85
    go_wp2
    refine bodyPost_ret (v := toldV (some x)) (by simp [results, Tryz.results85, go_sem, toldV]) rfl ⟨rfl, ?_⟩
    exact (Below.refl _ w).alloc (Nat.le_refl _) _

set_option maxRecDepth 100000 in
theorem find_any {v : Value} (t : Bt) (k : Int) (w : World) (h : IsT w v t) (hu : Up t.flat) : Calls Tryz.prog 100 #[v, .int .u64 k] w fun e w' => ∃ v', e = .returned v' ∧ AtN w v' (getL t.flat k) ∧ w = w' := by
  obtain ⟨p, rfl⟩ := h.ptr
  go_enter Tryz.func100, Tryz.ntmps100
  go_wp2
  go_loopg [0] t.size (fun gk q wr => ∃ s : Bt, gk = s.size ∧ Hid (IsT w q s ∧ Up s.flat ∧ getL s.flat k = getL t.flat k) ∧ w = wr)
  case atStart => exact ⟨t, rfl, Lib.hid ⟨h, hu, rfl⟩, rfl⟩
  case round =>
    obtain ⟨s, rfl, HS, rfl⟩ := hrel
    obtain ⟨hs, us, es⟩ := HS.out
    have HE := Lib.hid es
    have HU := Lib.hid us
    clear es us hu h HS
    cases s with
    | nil =>
      obtain rfl := hs
      go_wp2
      go_ret
      exact ⟨_, rfl, by rw [← HE.out]; rfl, rfl⟩
    | node l x r =>
      obtain ⟨B, vl, vr, rfl, ha, hl, hr⟩ := hs
      have HL := Lib.hid hl
      have HR := Lib.hid hr
      have HA := Lib.hid ha
      have c0 := (ha.cell 0).trans rfl
      have c2 := (ha.cell 2).trans rfl
      have c3 := (ha.cell 3).trans rfl
      obtain ⟨pl, rfl⟩ := hl.ptr
      obtain ⟨pr, rfl⟩ := hr.ptr
      clear ha hl hr
      rcases Int.lt_trichotomy k x.1 with hk | hk | hk
      · have d1 : (x.1 != k) = true := by simp; omega
        go_wp2
        go_roundg l.size
        case measure => simp only [Bt.size]; omega
        case rel => exact ⟨l, rfl, Lib.hid ⟨HL.out, HU.out.node.1, by rw [← HE.out]; exact (get_left HU.out hk).symm⟩, rfl⟩
      · subst hk
        go_wp2
        go_ret
        exact ⟨_, rfl, by rw [← HE.out]; rw [show (Bt.node l x r).flat = l.flat ++ x :: r.flat from rfl, get_at HU.out]; exact ⟨B, _, _, _, _, rfl, HA.out⟩, rfl⟩
      · have d1 : (x.1 != k) = true := by simp; omega
        go_wp2
        go_roundg r.size
        case measure => simp only [Bt.size]; omega
        case rel => exact ⟨r, rfl, Lib.hid ⟨HR.out, HU.out.node.2.1, by rw [← HE.out]; exact (get_right HU.out hk).symm⟩, rfl⟩

set_option maxRecDepth 100000 in
theorem place_any {v : Value} (t : Bt) (i : Int) (w : World) (h : IsT w v t) (hi1 : -9223372036854775808 ≤ i) (hi2 : i ≤ 9223372036854775807) (hz : t.size ≤ 1000000) : Calls Tryz.prog 84 #[v, .int .i64 i] w fun e w' => ∃ v', e = .returned v' ∧ AtN w v' (atL t.flat i) ∧ w = w' := by
  obtain ⟨p, rfl⟩ := h.ptr
  go_enter Tryz.func84, Tryz.ntmps84
  go_wp2
  go_loopg [0, 1] t.size (fun gk q b wr => ∃ (s : Bt) (j : Int), b = .int .i64 j ∧ gk = s.size ∧ s.size ≤ 1000000 ∧ -9223372036854775808 ≤ j ∧ j ≤ 9223372036854775807 ∧ Hid (IsT w q s ∧ atL s.flat j = atL t.flat i) ∧ w = wr)
  case atStart => exact ⟨t, i, rfl, rfl, hz, hi1, hi2, Lib.hid ⟨h, rfl⟩, rfl⟩
  case round =>
    obtain ⟨s, j, rfl, rfl, hsz, hj1, hj2, HS, rfl⟩ := hrel
    obtain ⟨hs, es⟩ := HS.out
    have HE := Lib.hid es
    clear es h HS
    cases s with
    | nil =>
      obtain rfl := hs
      go_wp2
      go_ret
      exact ⟨_, rfl, by rw [← HE.out, show (Bt.nil).flat = [] from rfl, at_nil]; rfl, rfl⟩
    | node l x r =>
      obtain ⟨B, vl, vr, rfl, ha, hl, hr⟩ := hs
      have HL := Lib.hid hl
      have HR := Lib.hid hr
      have HA := Lib.hid ha
      have c2 := (ha.cell 2).trans rfl
      have c3 := (ha.cell 3).trans rfl
      obtain ⟨pl, rfl⟩ := hl.ptr
      obtain ⟨pr, rfl⟩ := hr.ptr
      clear ha hl hr
      simp only [Bt.size] at hsz
      have hfl : (l.flat.length : Int) = l.size := by rw [l.flat_len]
      have HF := Lib.hid hfl
      clear hfl
      rcases Int.lt_trichotomy j l.size with hk | hk | hk
      · have d1 : (j != (l.size : Int)) = true := by simp; omega
        go_wp2_with (go_at_call 83; refine (count_any _ _ HL.out).mono ?_; rintro e w1 ⟨rfl, rfl⟩)
        go_roundg l.size
        case measure => simp only [Bt.size]; omega
        case rel => exact ⟨l, j, rfl, rfl, by omega, hj1, hj2, Lib.hid ⟨HL.out, by rw [← HE.out]; exact (at_left (by rw [HF.out]; exact hk)).symm⟩, rfl⟩
      · have d1 : (j != (l.size : Int)) = false := by simp; omega
        have HK := Lib.hid hk
        clear hk
        go_wp2_with (go_at_call 83; refine (count_any _ _ HL.out).mono ?_; rintro e w1 ⟨rfl, rfl⟩)
        go_ret
        refine ⟨_, rfl, ?_, rfl⟩
        rw [← HE.out, HK.out, ← HF.out, show (Bt.node l x r).flat = l.flat ++ x :: r.flat from rfl, at_mid]
        exact ⟨B, _, _, _, _, rfl, HA.out⟩
      · have d1 : (j != (l.size : Int)) = true := by simp; omega
        go_wp2_with (go_at_call 83; refine (count_any _ _ HL.out).mono ?_; rintro e w1 ⟨rfl, rfl⟩)
        go_roundg r.size
        case measure => simp only [Bt.size]; omega
        case rel => exact ⟨r, j - (l.size + 1), rfl, rfl, by omega, by omega, by omega, Lib.hid ⟨HR.out, by rw [← HE.out, show (Bt.node l x r).flat = l.flat ++ x :: r.flat from rfl, at_right (by rw [HF.out]; exact hk), HF.out]⟩, rfl⟩
end Go.Proofs.YtlhfaildeemngaaGreat.Tr
/- Contracts: bare. -/
namespace Go.Proofs.YtlhfaildeemngaaGreat.Tr
open Go.RowKit

/-- A pair as a value. -/
abbrev pv (x : Int × Int) : Value := .agg #[.int .u64 x.1, .int .i64 x.2]
/-- A node that is made of two trees. -/
def Made (w : World) (t : Bt) (e : Ending) (w' : World) : Prop := ∃ v', e = .returned v' ∧ IsT w' v' t ∧ Below w.heap.size w w'
theorem made_node {w W : World} {B : Nat} {vl vr : Value} {l r : Bt} {x : Int × Int} {a b : Int} (hb : Below w.heap.size w W) (ha : At W B #[.int .u64 x.1, .int .i64 x.2, vl, vr, .int .i64 a, .int .i64 b] 145)
    (e1 : a = ((l.size + 1 + r.size : Nat) : Int)) (e2 : b = ((max l.ht r.ht + 1 : Nat) : Int)) (hl : ∀ W, Below w.heap.size w W → IsT W vl l) (hr : ∀ W, Below w.heap.size w W → IsT W vr r) : Made w (.node l x r) (.returned (.pointer (some ⟨B, 0, none⟩))) W := by
  subst e1 e2
  exact ⟨_, rfl, ⟨B, vl, vr, rfl, ha, hl W hb, hr W hb⟩, hb⟩
set_option maxRecDepth 100000 in
set_option maxHeartbeats 2000000 in
theorem bare_any {vl vr : Value} (l r : Bt) (x : Int × Int) (w : World) (hl : IsT w vl l) (hr : IsT w vr r) (hz : l.size + r.size ≤ 1000000) :
    Calls Tryz.prog 103 #[vl, pv x, vr] w (Made w (.node l x r)) := by
  obtain ⟨pl, rfl⟩ := hl.ptr
  obtain ⟨pr, rfl⟩ := hr.ptr
  have HL : Hid (∀ W, Below w.heap.size w W → IsT W (.pointer pl) l) := Lib.hid fun W hW => hl.belows hW
  have HR : Hid (∀ W, Below w.heap.size w W → IsT W (.pointer pr) r) := Lib.hid fun W hW => hr.belows hW
  clear hl hr
  have z1 := l.ht_size
  have z2 := r.ht_size
  have hb0 : Below w.heap.size w (w.alloc (.cells #[.int .u64 x.1, .int .i64 x.2] 109)) := (Below.refl _ w).alloc (Nat.le_refl _) _
  have j1 : IntKind.i64.wrap ((l.size : Int) + 1) = (l.size : Int) + 1 := IntWalk.i64_in _ (by omega)
  have j2 : IntKind.i64.wrap ((l.size : Int) + 1 + (r.size : Int)) = (l.size : Int) + 1 + (r.size : Int) := IntWalk.i64_in _ (by omega)
  have j3 : IntKind.i64.wrap ((l.ht : Int) + 1) = (l.ht : Int) + 1 := IntWalk.i64_in _ (by omega)
  have j4 : IntKind.i64.wrap ((r.ht : Int) + 1) = (r.ht : Int) + 1 := IntWalk.i64_in _ (by omega)
  have j5 : IntKind.i64.wrap (max (l.ht : Int) (r.ht : Int) + 1) = max (l.ht : Int) (r.ht : Int) + 1 := IntWalk.i64_in _ (by omega)
  go_enter Tryz.func103, Tryz.ntmps103
  go_wp2
  go_region_held3 (fun w' => w'.cell? ⟨w.heap.size, 0, none⟩ = some (.int .u64 x.1) ∧ w'.cell? ⟨w.heap.size, 1, none⟩ = some (.int .i64 x.2)) (first | go_keep) (first
    | (go_at_call_of 83 pl; refine (count_any l _ (HL.out _ (by first | exact hb0.drew | exact hb0))).mono ?_; rintro e w2 ⟨rfl, rfl⟩)
    | (go_at_call_of 83 pr; refine (count_any r _ (HR.out _ (by first | exact hb0.drew | exact hb0))).mono ?_; rintro e w2 ⟨rfl, rfl⟩)
    | (go_at_call_of 101 pl; refine (high_any l _ (HL.out _ (by first | exact hb0.drew | exact hb0))).mono ?_; rintro e w2 ⟨rfl, rfl⟩)
    | (go_at_call_of 101 pr; refine (high_any r _ (HR.out _ (by first | exact hb0.drew | exact hb0))).mono ?_; rintro e w2 ⟨rfl, rfl⟩))
  all_goals
    rename_i hHeld
    clear hHeld
    go_wp2
    all_goals
      go_ret
      exact made_node (((hb0.alloc hb0.size _).drew)) (At.drew (At.new1 w _ _ 145)) (by omega) (by omega) HL.out HR.out
end Go.Proofs.YtlhfaildeemngaaGreat.Tr
/- Contracts: turnRight, turnLeft. -/
namespace Go.Proofs.YtlhfaildeemngaaGreat.Tr
open Go.RowKit

def Levd (w : World) (l : Bt) (x : Int × Int) (r : Bt) (e : Ending) (w' : World) : Prop := ∃ v' t, e = .returned v' ∧ IsT w' v' t ∧ Lev l x r t ∧ Below w.heap.size w w'

set_option maxRecDepth 100000 in
set_option maxHeartbeats 4000000 in
theorem turnRight_any {vl vr : Value} (l r : Bt) (x : Int × Int) (w : World) (hl : IsT w vl l) (hr : IsT w vr r) (el : l.even) (er : r.even) (h2 : l.ht = r.ht + 2) (hz : l.size + r.size ≤ 100000) :
    Calls Tryz.prog 104 #[vl, pv x, vr] w (Levd w l x r) := by
  obtain ⟨pr, rfl⟩ := hr.ptr
  cases l with
  | nil => simp [Bt.ht] at h2
  | node ll lx lr =>
    obtain ⟨B, vo, vi, rfl, ha, ho, hi⟩ := hl
    obtain ⟨po, rfl⟩ := ho.ptr
    obtain ⟨pi, rfl⟩ := hi.ptr
    simp only [Bt.size] at hz
    have hbox : Below w.heap.size w (w.alloc (.cells #[.int .u64 x.1, .int .i64 x.2] 109)) := (Below.refl _ w).alloc (Nat.le_refl _) _
    have hX := At.new w #[.int .u64 x.1, .int .i64 x.2] 109
    have ha0 := ha.belows hbox
    have ho0 := ho.belows hbox
    have hi0 := hi.belows hbox
    have hr0 := hr.belows hbox
    clear ha ho hi hr
    have c0 := (ha0.cell 0).trans rfl
    have c1 := (ha0.cell 1).trans rfl
    have c2 := (ha0.cell 2).trans rfl
    have c3 := (ha0.cell 3).trans rfl
    go_enter Tryz.func104, Tryz.ntmps104
    go_wp2_with fail
    obtain ⟨W0, hW0⟩ : ∃ W0, w.alloc (.cells #[.int .u64 x.1, .int .i64 x.2] 109) = W0 := ⟨_, rfl⟩
    rw [hW0] at c0 c1 c2 c3 hbox hX ha0 ho0 hi0 hr0 ⊢
    clear hW0
    have HO : Hid (∀ W, Below W0.heap.size W0 W → IsT W (.pointer po) ll) := Lib.hid fun W hW => ho0.belows hW
    have HI : Hid (∀ W, Below W0.heap.size W0 W → IsT W (.pointer pi) lr) := Lib.hid fun W hW => hi0.belows hW
    have HR : Hid (∀ W, Below W0.heap.size W0 W → IsT W (.pointer pr) r) := Lib.hid fun W hW => hr0.belows hW
    have HA : Hid (∀ W, Below W0.heap.size W0 W → W.cell? ⟨B, 0, none⟩ = some (.int .u64 lx.1) ∧ W.cell? ⟨B, 1, none⟩ = some (.int .i64 lx.2) ∧ W.cell? ⟨B, 2, none⟩ = some (.pointer po) ∧ W.cell? ⟨w.heap.size, 0, none⟩ = some (.int .u64 x.1) ∧ W.cell? ⟨w.heap.size, 1, none⟩ = some (.int .i64 x.2)) := Lib.hid fun W hW => ⟨((ha0.belows hW).cell 0).trans rfl, ((ha0.belows hW).cell 1).trans rfl, ((ha0.belows hW).cell 2).trans rfl, ((hX.belows hW).cell 0).trans rfl, ((hX.belows hW).cell 1).trans rfl⟩
    clear ho0 hr0 ha0 hX
    by_cases hin : ll.ht < lr.ht
    · go_quiet (first | (go_at_call_of 101 po; exact Calls.quiet_of_same (same_of (high_any ll _ (HO.out _ (bdrewN (Below.refl _ _) _))))) | (go_at_call_of 101 pi; exact Calls.quiet_of_same (same_of (high_any lr _ (HI.out _ (bdrewN (Below.refl _ _) _))))))
      have hb1 : Below W0.heap.size W0 (W0.drewN nq) := bdrewN (Below.refl _ _) _
      generalize W0.drewN nq = W1 at hb1 ⊢
      cases lr with
      | nil => simp [Bt.ht] at hin
      | node il ix ir =>
        obtain ⟨Bi, vil, vir, hpi, hai, hil, hir⟩ := hi0
        injection hpi with hpi
        subst hpi
        obtain ⟨pil, rfl⟩ := hil.ptr
        obtain ⟨pir, rfl⟩ := hir.ptr
        simp only [Bt.size] at hz
        have HIL : Hid (∀ W, Below W0.heap.size W0 W → IsT W (.pointer pil) il) := Lib.hid fun W hW => hil.belows hW
        have HIR : Hid (∀ W, Below W0.heap.size W0 W → IsT W (.pointer pir) ir) := Lib.hid fun W hW => hir.belows hW
        have KS : Hid (∀ W, Below W0.heap.size W0 W → W.cell? ⟨B, 0, none⟩ = some (.int .u64 lx.1) ∧ W.cell? ⟨B, 1, none⟩ = some (.int .i64 lx.2) ∧ W.cell? ⟨B, 2, none⟩ = some (.pointer po) ∧ W.cell? ⟨w.heap.size, 0, none⟩ = some (.int .u64 x.1) ∧ W.cell? ⟨w.heap.size, 1, none⟩ = some (.int .i64 x.2) ∧ W.cell? ⟨Bi, 0, none⟩ = some (.int .u64 ix.1) ∧ W.cell? ⟨Bi, 1, none⟩ = some (.int .i64 ix.2) ∧ W.cell? ⟨Bi, 2, none⟩ = some (.pointer pil) ∧ W.cell? ⟨Bi, 3, none⟩ = some (.pointer pir)) := Lib.hid fun W hW => by
          obtain ⟨q1, q2, q3, q4, q5⟩ := HA.out W hW
          exact ⟨q1, q2, q3, q4, q5, ((hai.belows hW).cell 0).trans rfl, ((hai.belows hW).cell 1).trans rfl, ((hai.belows hW).cell 2).trans rfl, ((hai.belows hW).cell 3).trans rfl⟩
        have HEV := Lib.hid (And.intro (And.intro el er) (And.intro h2 hin))
        clear hil hir hai c0 c1 c2 c3 HA el er h2 hin
        obtain ⟨k1, k2, k3, k4, k5, k6, k7, k8, k9⟩ := KS.out W1 hb1
        go_wp2_with fail
        go_region_held3 (fun W => W.cell? ⟨B, 0, none⟩ = some (.int .u64 lx.1) ∧ W.cell? ⟨B, 1, none⟩ = some (.int .i64 lx.2) ∧ W.cell? ⟨B, 2, none⟩ = some (.pointer po) ∧ W.cell? ⟨w.heap.size, 0, none⟩ = some (.int .u64 x.1) ∧ W.cell? ⟨w.heap.size, 1, none⟩ = some (.int .i64 x.2) ∧ W.cell? ⟨Bi, 0, none⟩ = some (.int .u64 ix.1) ∧ W.cell? ⟨Bi, 1, none⟩ = some (.int .i64 ix.2) ∧ W.cell? ⟨Bi, 2, none⟩ = some (.pointer pil) ∧ W.cell? ⟨Bi, 3, none⟩ = some (.pointer pir)) (first | exact KS.out _ bbC | exact KS.out _ bbA | exact KS.out _ bbB | exact KS.out _ hb1.drew | exact KS.out _ hb1) (first
          | (go_at_call_of 103 pil; refine (bare_any ll il lx _ (HO.out _ (by first | exact bbB | exact hb1.drew | exact hb1)) (HIL.out _ (by first | exact bbB | exact hb1.drew | exact hb1)) (by omega)).mono ?_; rintro e wA ⟨vA, rfl, tA, bA⟩; obtain ⟨pA, rfl⟩ := tA.ptr; have bbA : Below W0.heap.size W0 wA := (by first | exact bbB.trans (bA.mono bbB.size) | exact hb1.drew.trans (bA.mono hb1.size)))
          | (go_at_call_of 103 pir; refine (bare_any ir r x _ (HIR.out _ (by first | exact bbA | exact hb1.drew | exact hb1)) (HR.out _ (by first | exact bbA | exact hb1.drew | exact hb1)) (by omega)).mono ?_; rintro e wB ⟨vB, rfl, tB, bB⟩; obtain ⟨pB, rfl⟩ := tB.ptr; have bbB : Below W0.heap.size W0 wB := (by first | exact bbA.trans (bB.mono bbA.size) | exact hb1.drew.trans (bB.mono hb1.size)))
          | (go_at_call_of 103 pA; refine (bare_any (.node ll lx il) (.node ir x r) ix _ (by first | exact tA | exact tA.belows bB) (by first | exact tB | exact tB.belows bA) (by simp only [Bt.size]; omega)).mono ?_; rintro e wC ⟨vC, rfl, tC, bC⟩; have bbC : Below W0.heap.size W0 wC := (by first | exact bbB.trans (bC.mono bbB.size) | exact bbA.trans (bC.mono bbA.size))))
        all_goals
          rename_i hHeld
          clear hHeld
          obtain ⟨pC, rfl⟩ := tC.ptr
          go_wp2
          go_ret
          obtain ⟨⟨el, er⟩, h2, hin⟩ := HEV.out
          exact ⟨_, _, rfl, tC, lev_right1 el er h2 hin, hbox.trans (bbC.mono hbox.size)⟩
    · go_quiet (first | (go_at_call_of 101 po; exact Calls.quiet_of_same (same_of (high_any ll _ (HO.out _ (bdrewN (Below.refl _ _) _))))) | (go_at_call_of 101 pi; exact Calls.quiet_of_same (same_of (high_any lr _ (HI.out _ (bdrewN (Below.refl _ _) _))))))
      have hb1 : Below W0.heap.size W0 (W0.drewN nq) := bdrewN (Below.refl _ _) _
      generalize W0.drewN nq = W1 at hb1 ⊢
      replace hin := Nat.le_of_not_lt hin
      have HEV := Lib.hid (And.intro (And.intro el er) (And.intro h2 hin))
      clear c0 c1 c2 c3 hi0 el er h2 hin
      obtain ⟨k1, k2, k3, k4, k5⟩ := HA.out W1 hb1
      go_wp2_with fail
      go_region_held3 (fun W => W.cell? ⟨B, 0, none⟩ = some (.int .u64 lx.1) ∧ W.cell? ⟨B, 1, none⟩ = some (.int .i64 lx.2) ∧ W.cell? ⟨B, 2, none⟩ = some (.pointer po) ∧ W.cell? ⟨w.heap.size, 0, none⟩ = some (.int .u64 x.1) ∧ W.cell? ⟨w.heap.size, 1, none⟩ = some (.int .i64 x.2)) (first | exact HA.out _ bbE | exact HA.out _ bbD | exact HA.out _ hb1.drew | exact HA.out _ hb1) (first
        | (go_at_call_of 103 pi; refine (bare_any lr r x _ (HI.out _ (by first | exact hb1.drew | exact hb1)) (HR.out _ (by first | exact hb1.drew | exact hb1)) (by omega)).mono ?_; rintro e wD ⟨vD, rfl, tD, bD⟩; obtain ⟨pD, rfl⟩ := tD.ptr; have bbD : Below W0.heap.size W0 wD := (by first | exact hb1.drew.trans (bD.mono hb1.size)))
        | (go_at_call_of 103 pD; refine (bare_any ll (.node lr x r) lx _ (HO.out _ bbD) tD (by simp only [Bt.size]; omega)).mono ?_; rintro e wE ⟨vE, rfl, tE, bE⟩; have bbE : Below W0.heap.size W0 wE := bbD.trans (bE.mono bbD.size)))
      all_goals
        rename_i hHeld
        clear hHeld
        obtain ⟨pE, rfl⟩ := tE.ptr
        go_wp2
        go_ret
        obtain ⟨⟨el, er⟩, h2, hin⟩ := HEV.out
        exact ⟨_, _, rfl, tE, lev_right2 el er h2 hin, hbox.trans (bbE.mono hbox.size)⟩

set_option maxRecDepth 100000 in
set_option maxHeartbeats 4000000 in
theorem turnLeft_any {vl vr : Value} (l r : Bt) (x : Int × Int) (w : World) (hl : IsT w vl l) (hr : IsT w vr r) (el : l.even) (er : r.even) (h2 : r.ht = l.ht + 2) (hz : l.size + r.size ≤ 100000) :
    Calls Tryz.prog 105 #[vl, pv x, vr] w (Levd w l x r) := by
  obtain ⟨pr, rfl⟩ := hl.ptr
  cases r with
  | nil => simp [Bt.ht] at h2
  | node rl rx rr =>
    obtain ⟨B, vi, vo, rfl, ha, hi, ho⟩ := hr
    obtain ⟨po, rfl⟩ := ho.ptr
    obtain ⟨pi, rfl⟩ := hi.ptr
    simp only [Bt.size] at hz
    have hbox : Below w.heap.size w (w.alloc (.cells #[.int .u64 x.1, .int .i64 x.2] 109)) := (Below.refl _ w).alloc (Nat.le_refl _) _
    have hX := At.new w #[.int .u64 x.1, .int .i64 x.2] 109
    have ha0 := ha.belows hbox
    have ho0 := ho.belows hbox
    have hi0 := hi.belows hbox
    have hr0 := hl.belows hbox
    clear ha ho hi hl
    have c0 := (ha0.cell 0).trans rfl
    have c1 := (ha0.cell 1).trans rfl
    have c2 := (ha0.cell 2).trans rfl
    have c3 := (ha0.cell 3).trans rfl
    go_enter Tryz.func105, Tryz.ntmps105
    go_wp2_with fail
    obtain ⟨W0, hW0⟩ : ∃ W0, w.alloc (.cells #[.int .u64 x.1, .int .i64 x.2] 109) = W0 := ⟨_, rfl⟩
    rw [hW0] at c0 c1 c2 c3 hbox hX ha0 ho0 hi0 hr0 ⊢
    clear hW0
    have HO : Hid (∀ W, Below W0.heap.size W0 W → IsT W (.pointer po) rr) := Lib.hid fun W hW => ho0.belows hW
    have HI : Hid (∀ W, Below W0.heap.size W0 W → IsT W (.pointer pi) rl) := Lib.hid fun W hW => hi0.belows hW
    have HR : Hid (∀ W, Below W0.heap.size W0 W → IsT W (.pointer pr) l) := Lib.hid fun W hW => hr0.belows hW
    have HA : Hid (∀ W, Below W0.heap.size W0 W → W.cell? ⟨B, 0, none⟩ = some (.int .u64 rx.1) ∧ W.cell? ⟨B, 1, none⟩ = some (.int .i64 rx.2) ∧ W.cell? ⟨B, 3, none⟩ = some (.pointer po) ∧ W.cell? ⟨w.heap.size, 0, none⟩ = some (.int .u64 x.1) ∧ W.cell? ⟨w.heap.size, 1, none⟩ = some (.int .i64 x.2)) := Lib.hid fun W hW => ⟨((ha0.belows hW).cell 0).trans rfl, ((ha0.belows hW).cell 1).trans rfl, ((ha0.belows hW).cell 3).trans rfl, ((hX.belows hW).cell 0).trans rfl, ((hX.belows hW).cell 1).trans rfl⟩
    clear ho0 hr0 ha0 hX
    by_cases hin : rr.ht < rl.ht
    · go_quiet (first | (go_at_call_of 101 po; exact Calls.quiet_of_same (same_of (high_any rr _ (HO.out _ (bdrewN (Below.refl _ _) _))))) | (go_at_call_of 101 pi; exact Calls.quiet_of_same (same_of (high_any rl _ (HI.out _ (bdrewN (Below.refl _ _) _))))))
      have hb1 : Below W0.heap.size W0 (W0.drewN nq) := bdrewN (Below.refl _ _) _
      generalize W0.drewN nq = W1 at hb1 ⊢
      cases rl with
      | nil => simp [Bt.ht] at hin
      | node il ix ir =>
        obtain ⟨Bi, vil, vir, hpi, hai, hil, hir⟩ := hi0
        injection hpi with hpi
        subst hpi
        obtain ⟨pil, rfl⟩ := hil.ptr
        obtain ⟨pir, rfl⟩ := hir.ptr
        simp only [Bt.size] at hz
        have HIL : Hid (∀ W, Below W0.heap.size W0 W → IsT W (.pointer pil) il) := Lib.hid fun W hW => hil.belows hW
        have HIR : Hid (∀ W, Below W0.heap.size W0 W → IsT W (.pointer pir) ir) := Lib.hid fun W hW => hir.belows hW
        have KS : Hid (∀ W, Below W0.heap.size W0 W → W.cell? ⟨B, 0, none⟩ = some (.int .u64 rx.1) ∧ W.cell? ⟨B, 1, none⟩ = some (.int .i64 rx.2) ∧ W.cell? ⟨B, 3, none⟩ = some (.pointer po) ∧ W.cell? ⟨w.heap.size, 0, none⟩ = some (.int .u64 x.1) ∧ W.cell? ⟨w.heap.size, 1, none⟩ = some (.int .i64 x.2) ∧ W.cell? ⟨Bi, 0, none⟩ = some (.int .u64 ix.1) ∧ W.cell? ⟨Bi, 1, none⟩ = some (.int .i64 ix.2) ∧ W.cell? ⟨Bi, 2, none⟩ = some (.pointer pil) ∧ W.cell? ⟨Bi, 3, none⟩ = some (.pointer pir)) := Lib.hid fun W hW => by
          obtain ⟨q1, q2, q3, q4, q5⟩ := HA.out W hW
          exact ⟨q1, q2, q3, q4, q5, ((hai.belows hW).cell 0).trans rfl, ((hai.belows hW).cell 1).trans rfl, ((hai.belows hW).cell 2).trans rfl, ((hai.belows hW).cell 3).trans rfl⟩
        have HEV := Lib.hid (And.intro (And.intro el er) (And.intro h2 hin))
        clear hil hir hai c0 c1 c2 c3 HA el er h2 hin
        obtain ⟨k1, k2, k3, k4, k5, k6, k7, k8, k9⟩ := KS.out W1 hb1
        go_wp2_with fail
        go_region_held3 (fun W => W.cell? ⟨B, 0, none⟩ = some (.int .u64 rx.1) ∧ W.cell? ⟨B, 1, none⟩ = some (.int .i64 rx.2) ∧ W.cell? ⟨B, 3, none⟩ = some (.pointer po) ∧ W.cell? ⟨w.heap.size, 0, none⟩ = some (.int .u64 x.1) ∧ W.cell? ⟨w.heap.size, 1, none⟩ = some (.int .i64 x.2) ∧ W.cell? ⟨Bi, 0, none⟩ = some (.int .u64 ix.1) ∧ W.cell? ⟨Bi, 1, none⟩ = some (.int .i64 ix.2) ∧ W.cell? ⟨Bi, 2, none⟩ = some (.pointer pil) ∧ W.cell? ⟨Bi, 3, none⟩ = some (.pointer pir)) (first | exact KS.out _ bbC | exact KS.out _ bbA | exact KS.out _ bbB | exact KS.out _ hb1.drew | exact KS.out _ hb1) (first
          | (go_at_call_of 103 pil; refine (bare_any l il x _ (HR.out _ (by first | exact bbB | exact hb1.drew | exact hb1)) (HIL.out _ (by first | exact bbB | exact hb1.drew | exact hb1)) (by omega)).mono ?_; rintro e wA ⟨vA, rfl, tA, bA⟩; obtain ⟨pA, rfl⟩ := tA.ptr; have bbA : Below W0.heap.size W0 wA := (by first | exact bbB.trans (bA.mono bbB.size) | exact hb1.drew.trans (bA.mono hb1.size)))
          | (go_at_call_of 103 pir; refine (bare_any ir rr rx _ (HIR.out _ (by first | exact bbA | exact hb1.drew | exact hb1)) (HO.out _ (by first | exact bbA | exact hb1.drew | exact hb1)) (by omega)).mono ?_; rintro e wB ⟨vB, rfl, tB, bB⟩; obtain ⟨pB, rfl⟩ := tB.ptr; have bbB : Below W0.heap.size W0 wB := (by first | exact bbA.trans (bB.mono bbA.size) | exact hb1.drew.trans (bB.mono hb1.size)))
          | (go_at_call_of 103 pA; refine (bare_any (.node l x il) (.node ir rx rr) ix _ (by first | exact tA | exact tA.belows bB) (by first | exact tB | exact tB.belows bA) (by simp only [Bt.size]; omega)).mono ?_; rintro e wC ⟨vC, rfl, tC, bC⟩; have bbC : Below W0.heap.size W0 wC := (by first | exact bbB.trans (bC.mono bbB.size) | exact bbA.trans (bC.mono bbA.size))))
        all_goals
          rename_i hHeld
          clear hHeld
          obtain ⟨pC, rfl⟩ := tC.ptr
          go_wp2
          go_ret
          obtain ⟨⟨el, er⟩, h2, hin⟩ := HEV.out
          exact ⟨_, _, rfl, tC, lev_left1 el er h2 hin, hbox.trans (bbC.mono hbox.size)⟩
    · go_quiet (first | (go_at_call_of 101 po; exact Calls.quiet_of_same (same_of (high_any rr _ (HO.out _ (bdrewN (Below.refl _ _) _))))) | (go_at_call_of 101 pi; exact Calls.quiet_of_same (same_of (high_any rl _ (HI.out _ (bdrewN (Below.refl _ _) _))))))
      have hb1 : Below W0.heap.size W0 (W0.drewN nq) := bdrewN (Below.refl _ _) _
      generalize W0.drewN nq = W1 at hb1 ⊢
      replace hin := Nat.le_of_not_lt hin
      have HEV := Lib.hid (And.intro (And.intro el er) (And.intro h2 hin))
      clear c0 c1 c2 c3 hi0 el er h2 hin
      obtain ⟨k1, k2, k3, k4, k5⟩ := HA.out W1 hb1
      go_wp2_with fail
      go_region_held3 (fun W => W.cell? ⟨B, 0, none⟩ = some (.int .u64 rx.1) ∧ W.cell? ⟨B, 1, none⟩ = some (.int .i64 rx.2) ∧ W.cell? ⟨B, 3, none⟩ = some (.pointer po) ∧ W.cell? ⟨w.heap.size, 0, none⟩ = some (.int .u64 x.1) ∧ W.cell? ⟨w.heap.size, 1, none⟩ = some (.int .i64 x.2)) (first | exact HA.out _ bbE | exact HA.out _ bbD | exact HA.out _ hb1.drew | exact HA.out _ hb1) (first
        | (go_at_call_of 103 pi; refine (bare_any l rl x _ (HR.out _ (by first | exact hb1.drew | exact hb1)) (HI.out _ (by first | exact hb1.drew | exact hb1)) (by omega)).mono ?_; rintro e wD ⟨vD, rfl, tD, bD⟩; obtain ⟨pD, rfl⟩ := tD.ptr; have bbD : Below W0.heap.size W0 wD := (by first | exact hb1.drew.trans (bD.mono hb1.size)))
        | (go_at_call_of 103 pD; refine (bare_any (.node l x rl) rr rx _ tD (HO.out _ bbD) (by simp only [Bt.size]; omega)).mono ?_; rintro e wE ⟨vE, rfl, tE, bE⟩; have bbE : Below W0.heap.size W0 wE := bbD.trans (bE.mono bbD.size)))
      all_goals
        rename_i hHeld
        clear hHeld
        obtain ⟨pE, rfl⟩ := tE.ptr
        go_wp2
        go_ret
        obtain ⟨⟨el, er⟩, h2, hin⟩ := HEV.out
        exact ⟨_, _, rfl, tE, lev_left2 el er h2 hin, hbox.trans (bbE.mono hbox.size)⟩
end Go.Proofs.YtlhfaildeemngaaGreat.Tr
/- Contracts: level, join. -/
namespace Go.Proofs.YtlhfaildeemngaaGreat.Tr
open Go.RowKit

set_option maxRecDepth 100000 in
set_option maxHeartbeats 2000000 in
theorem level_any {vl vr : Value} (l r : Bt) (x : Int × Int) (w : World) (hl : IsT w vl l) (hr : IsT w vr r) (el : l.even) (er : r.even) (h1 : l.ht ≤ r.ht + 2) (h2 : r.ht ≤ l.ht + 2) (hz : l.size + r.size ≤ 100000) :
    Calls Tryz.prog 102 #[vl, pv x, vr] w (Levd w l x r) := by
  obtain ⟨pl, rfl⟩ := hl.ptr
  obtain ⟨pr, rfl⟩ := hr.ptr
  have zz := And.intro l.ht_size r.ht_size
  have hbox : Below w.heap.size w (w.alloc (.cells #[.int .u64 x.1, .int .i64 x.2] 109)) := (Below.refl _ w).alloc (Nat.le_refl _) _
  have hX := At.new w #[.int .u64 x.1, .int .i64 x.2] 109
  have hl0 := hl.belows hbox
  have hr0 := hr.belows hbox
  have HE := Lib.hid (And.intro el er)
  clear hl hr el er
  have k0 := (hX.cell 0).trans rfl
  have k1 := (hX.cell 1).trans rfl
  by_cases hc : r.ht + 1 < l.ht
  · go_enter Tryz.func102, Tryz.ntmps102
    go_wp2_with (first
      | (go_at_call_of 101 pl; refine (high_any l _ hl0).mono ?_; rintro e w1 ⟨rfl, rfl⟩)
      | (go_at_call_of 101 pr; refine (high_any r _ hr0).mono ?_; rintro e w1 ⟨rfl, rfl⟩)
      | (go_at_call 104; refine (turnRight_any l r x _ hl0 hr0 HE.out.1 HE.out.2 (by omega) hz).mono ?_; rintro e w1 ⟨v1, t1, rfl, i1, L1, b1⟩; obtain ⟨p1, rfl⟩ := i1.ptr))
    go_ret
    exact ⟨_, _, rfl, i1, L1, hbox.trans (b1.mono hbox.size)⟩
  · have d1 : decide ((r.ht : Int) + 1 < (l.ht : Int)) = false := by simp; omega
    by_cases hd : l.ht + 1 < r.ht
    · go_enter Tryz.func102, Tryz.ntmps102
      go_wp2_with (first
        | (go_at_call_of 101 pl; refine (high_any l _ hl0).mono ?_; rintro e w1 ⟨rfl, rfl⟩)
        | (go_at_call_of 101 pr; refine (high_any r _ hr0).mono ?_; rintro e w1 ⟨rfl, rfl⟩)
        | (go_at_call 105; refine (turnLeft_any l r x _ hl0 hr0 HE.out.1 HE.out.2 (by omega) hz).mono ?_; rintro e w1 ⟨v1, t1, rfl, i1, L1, b1⟩; obtain ⟨p1, rfl⟩ := i1.ptr))
      go_ret
      exact ⟨_, _, rfl, i1, L1, hbox.trans (b1.mono hbox.size)⟩
    · have d2 : decide ((l.ht : Int) + 1 < (r.ht : Int)) = false := by simp; omega
      go_enter Tryz.func102, Tryz.ntmps102
      go_wp2_with (first
        | (go_at_call_of 101 pl; refine (high_any l _ hl0).mono ?_; rintro e w1 ⟨rfl, rfl⟩)
        | (go_at_call_of 101 pr; refine (high_any r _ hr0).mono ?_; rintro e w1 ⟨rfl, rfl⟩)
        | (go_at_call 103; refine (bare_any l r x _ hl0 hr0 (by omega)).mono ?_; rintro e w1 ⟨v1, rfl, i1, b1⟩; obtain ⟨p1, rfl⟩ := i1.ptr))
      go_ret
      exact ⟨_, _, rfl, i1, lev_bare HE.out.1 HE.out.2 (by omega) (by omega), hbox.trans (b1.mono hbox.size)⟩

def Fitd (w : World) (l : Bt) (x : Int × Int) (r : Bt) (e : Ending) (w' : World) : Prop := ∃ v' t, e = .returned v' ∧ IsT w' v' t ∧ Fit l x r t ∧ Below w.heap.size w w'
def JoinIs (n : Nat) : Prop := ∀ (vl vr : Value) (l r : Bt) (x : Int × Int) (w : World), l.size + r.size ≤ n → IsT w vl l → IsT w vr r → l.even → r.even → Calls Tryz.prog 99 #[vl, pv x, vr] w (Fitd w l x r)
set_option maxRecDepth 100000 in
set_option maxHeartbeats 4000000 in
theorem join_step (n : Nat) (hn : n ≤ 10000) (ih : ∀ m, m < n → JoinIs m) : JoinIs n := by
  intro vl vr l r x w hz hl hr el er
  obtain ⟨pl, rfl⟩ := hl.ptr
  obtain ⟨pr, rfl⟩ := hr.ptr
  have zz := And.intro l.ht_size r.ht_size
  have hbox : Below w.heap.size w (w.alloc (.cells #[.int .u64 x.1, .int .i64 x.2] 109)) := (Below.refl _ w).alloc (Nat.le_refl _) _
  have hX := At.new w #[.int .u64 x.1, .int .i64 x.2] 109
  have hl0 := hl.belows hbox
  have hr0 := hr.belows hbox
  have HE := Lib.hid (And.intro el er)
  have IH := Lib.hid ih
  clear hl hr el er ih
  have k0 := (hX.cell 0).trans rfl
  have k1 := (hX.cell 1).trans rfl
  by_cases hc : r.ht + 1 < l.ht
  · cases l with
    | nil => simp [Bt.ht] at hc
    | node ll lx lr =>
      have H0 := Lib.hid hl0
      obtain ⟨B, vll, vlr, hp, ha, hll, hlr⟩ := hl0
      injection hp with hp
      subst hp
      obtain ⟨pll, rfl⟩ := hll.ptr
      obtain ⟨plr, rfl⟩ := hlr.ptr
      have hzz : ll.size + 1 + lr.size + r.size ≤ n := hz
      go_enter Tryz.func99, Tryz.ntmps99
      go_wp2_with (first
        | (go_at_call_of 101 pr; refine (high_any r _ hr0).mono ?_; rintro e w1 ⟨rfl, rfl⟩)
        | (go_at_call 101; refine (high_any _ _ H0.out).mono ?_; rintro e w1 ⟨rfl, rfl⟩))
      obtain ⟨W0, hW0⟩ : ∃ W0, w.alloc (.cells #[.int .u64 x.1, .int .i64 x.2] 109) = W0 := ⟨_, rfl⟩
      rw [hW0] at hbox hX hr0 k0 k1 ha hll hlr ⊢
      have HLL : Hid (∀ W, Below W0.heap.size W0 W → IsT W (.pointer pll) ll) := Lib.hid fun W hW => hll.belows hW
      have HLR : Hid (∀ W, Below W0.heap.size W0 W → IsT W (.pointer plr) lr) := Lib.hid fun W hW => hlr.belows hW
      have HR : Hid (∀ W, Below W0.heap.size W0 W → IsT W (.pointer pr) r) := Lib.hid fun W hW => hr0.belows hW
      have KS : Hid (∀ W, Below W0.heap.size W0 W → W.cell? ⟨B, 0, none⟩ = some (.int .u64 lx.1) ∧ W.cell? ⟨B, 1, none⟩ = some (.int .i64 lx.2) ∧ W.cell? ⟨B, 2, none⟩ = some (.pointer pll) ∧ W.cell? ⟨B, 3, none⟩ = some (.pointer plr) ∧ W.cell? ⟨w.heap.size, 0, none⟩ = some (.int .u64 x.1) ∧ W.cell? ⟨w.heap.size, 1, none⟩ = some (.int .i64 x.2)) := Lib.hid fun W hW => ⟨((ha.belows hW).cell 0).trans rfl, ((ha.belows hW).cell 1).trans rfl, ((ha.belows hW).cell 2).trans rfl, ((ha.belows hW).cell 3).trans rfl, ((hX.belows hW).cell 0).trans rfl, ((hX.belows hW).cell 1).trans rfl⟩
      have HC := Lib.hid hc
      clear hll hlr hr0 ha hX hW0 k0 k1 H0 hc
      have hb1 := Below.refl W0.heap.size W0
      obtain ⟨q1, q2, q3, q4, q5, q6⟩ := KS.out W0 hb1
      go_region_held3 (fun W => W.cell? ⟨B, 0, none⟩ = some (.int .u64 lx.1) ∧ W.cell? ⟨B, 1, none⟩ = some (.int .i64 lx.2) ∧ W.cell? ⟨B, 2, none⟩ = some (.pointer pll) ∧ W.cell? ⟨B, 3, none⟩ = some (.pointer plr) ∧ W.cell? ⟨w.heap.size, 0, none⟩ = some (.int .u64 x.1) ∧ W.cell? ⟨w.heap.size, 1, none⟩ = some (.int .i64 x.2)) (first | exact KS.out _ bbE | exact KS.out _ bbD | exact KS.out _ hb1.drew | exact KS.out _ hb1) (first
        | (go_at_call 99; refine (IH.out (lr.size + r.size) (by omega) _ _ lr r x _ (Nat.le_refl _) (HLR.out _ (by first | exact hb1.drew | exact hb1)) (HR.out _ (by first | exact hb1.drew | exact hb1)) HE.out.1.2.1 HE.out.2).mono ?_; rintro e wD ⟨vD, tD, rfl, iD, fD, bD⟩; obtain ⟨pD, rfl⟩ := iD.ptr; have bbD : Below W0.heap.size W0 wD := (by first | exact hb1.drew.trans (bD.mono hb1.size)))
        | (go_at_call 102; refine (level_any ll tD lx _ (HLL.out _ bbD) iD HE.out.1.1 fD.2.1 (down_left_two HE.out.1 HC.out fD).1 (down_left_two HE.out.1 HC.out fD).2 (by have := fD.size; omega)).mono ?_; rintro e wE ⟨vE, tE, rfl, iE, fE, bE⟩; have bbE : Below W0.heap.size W0 wE := bbD.trans (bE.mono bbD.size)))
      all_goals
        rename_i hHeld
        clear hHeld
        obtain ⟨pE, rfl⟩ := iE.ptr
        go_wp2
        go_ret
        exact ⟨_, _, rfl, iE, fit_down_left HE.out.1 HC.out fD fE, hbox.trans (bbE.mono hbox.size)⟩
  · have d1 : decide ((r.ht : Int) + 1 < (l.ht : Int)) = false := by simp; omega
    by_cases hd : l.ht + 1 < r.ht
    · cases r with
      | nil => simp [Bt.ht] at hd
      | node rl rx rr =>
        have H0 := Lib.hid hr0
        obtain ⟨B, vrl, vrr, hp, ha, hrl, hrr⟩ := hr0
        injection hp with hp
        subst hp
        obtain ⟨prl, rfl⟩ := hrl.ptr
        obtain ⟨prr, rfl⟩ := hrr.ptr
        have hzz : l.size + (rl.size + 1 + rr.size) ≤ n := hz
        go_enter Tryz.func99, Tryz.ntmps99
        go_wp2_with (first
          | (go_at_call_of 101 pl; refine (high_any l _ hl0).mono ?_; rintro e w1 ⟨rfl, rfl⟩)
          | (go_at_call 101; refine (high_any _ _ H0.out).mono ?_; rintro e w1 ⟨rfl, rfl⟩))
        obtain ⟨W0, hW0⟩ : ∃ W0, w.alloc (.cells #[.int .u64 x.1, .int .i64 x.2] 109) = W0 := ⟨_, rfl⟩
        rw [hW0] at hbox hX hl0 k0 k1 ha hrl hrr ⊢
        have HRL : Hid (∀ W, Below W0.heap.size W0 W → IsT W (.pointer prl) rl) := Lib.hid fun W hW => hrl.belows hW
        have HRR : Hid (∀ W, Below W0.heap.size W0 W → IsT W (.pointer prr) rr) := Lib.hid fun W hW => hrr.belows hW
        have HL : Hid (∀ W, Below W0.heap.size W0 W → IsT W (.pointer pl) l) := Lib.hid fun W hW => hl0.belows hW
        have KS : Hid (∀ W, Below W0.heap.size W0 W → W.cell? ⟨B, 0, none⟩ = some (.int .u64 rx.1) ∧ W.cell? ⟨B, 1, none⟩ = some (.int .i64 rx.2) ∧ W.cell? ⟨B, 2, none⟩ = some (.pointer prl) ∧ W.cell? ⟨B, 3, none⟩ = some (.pointer prr) ∧ W.cell? ⟨w.heap.size, 0, none⟩ = some (.int .u64 x.1) ∧ W.cell? ⟨w.heap.size, 1, none⟩ = some (.int .i64 x.2)) := Lib.hid fun W hW => ⟨((ha.belows hW).cell 0).trans rfl, ((ha.belows hW).cell 1).trans rfl, ((ha.belows hW).cell 2).trans rfl, ((ha.belows hW).cell 3).trans rfl, ((hX.belows hW).cell 0).trans rfl, ((hX.belows hW).cell 1).trans rfl⟩
        have HC := Lib.hid hd
        clear hrl hrr hl0 ha hX hW0 k0 k1 H0 hc hd d1
        have hb1 := Below.refl W0.heap.size W0
        obtain ⟨q1, q2, q3, q4, q5, q6⟩ := KS.out W0 hb1
        go_region_held3 (fun W => W.cell? ⟨B, 0, none⟩ = some (.int .u64 rx.1) ∧ W.cell? ⟨B, 1, none⟩ = some (.int .i64 rx.2) ∧ W.cell? ⟨B, 2, none⟩ = some (.pointer prl) ∧ W.cell? ⟨B, 3, none⟩ = some (.pointer prr) ∧ W.cell? ⟨w.heap.size, 0, none⟩ = some (.int .u64 x.1) ∧ W.cell? ⟨w.heap.size, 1, none⟩ = some (.int .i64 x.2)) (first | exact KS.out _ bbE | exact KS.out _ bbD | exact KS.out _ hb1.drew | exact KS.out _ hb1) (first
          | (go_at_call 99; refine (IH.out (l.size + rl.size) (by omega) _ _ l rl x _ (Nat.le_refl _) (HL.out _ (by first | exact hb1.drew | exact hb1)) (HRL.out _ (by first | exact hb1.drew | exact hb1)) HE.out.1 HE.out.2.1).mono ?_; rintro e wD ⟨vD, tD, rfl, iD, fD, bD⟩; obtain ⟨pD, rfl⟩ := iD.ptr; have bbD : Below W0.heap.size W0 wD := (by first | exact hb1.drew.trans (bD.mono hb1.size)))
          | (go_at_call 102; refine (level_any tD rr rx _ iD (HRR.out _ bbD) fD.2.1 HE.out.2.2.1 (down_right_two HE.out.2 HC.out fD).2 (down_right_two HE.out.2 HC.out fD).1 (by have := fD.size; omega)).mono ?_; rintro e wE ⟨vE, tE, rfl, iE, fE, bE⟩; have bbE : Below W0.heap.size W0 wE := bbD.trans (bE.mono bbD.size)))
        all_goals
          rename_i hHeld
          clear hHeld
          obtain ⟨pE, rfl⟩ := iE.ptr
          go_wp2
          go_ret
          exact ⟨_, _, rfl, iE, fit_down_right HE.out.2 HC.out fD fE, hbox.trans (bbE.mono hbox.size)⟩
    · have d2 : decide ((l.ht : Int) + 1 < (r.ht : Int)) = false := by simp; omega
      go_enter Tryz.func99, Tryz.ntmps99
      go_wp2_with (first
        | (go_at_call_of 101 pl; refine (high_any l _ hl0).mono ?_; rintro e w1 ⟨rfl, rfl⟩)
        | (go_at_call_of 101 pr; refine (high_any r _ hr0).mono ?_; rintro e w1 ⟨rfl, rfl⟩)
        | (go_at_call 103; refine (bare_any l r x _ hl0 hr0 (by omega)).mono ?_; rintro e w1 ⟨v1, rfl, i1, b1⟩; obtain ⟨p1, rfl⟩ := i1.ptr))
      go_ret
      exact ⟨_, _, rfl, i1, (lev_bare HE.out.1 HE.out.2 (by omega) (by omega)).1, hbox.trans (b1.mono hbox.size)⟩
theorem join_is (n : Nat) (hn : n ≤ 10000) : JoinIs n := by
  induction n using Nat.strongRecOn with
  | _ n ih => exact join_step n hn fun m hm => ih m hm (by omega)
/-- join. -/
theorem join_any {vl vr : Value} (l r : Bt) (x : Int × Int) (w : World) (hl : IsT w vl l) (hr : IsT w vr r) (el : l.even) (er : r.even) (hz : l.size + r.size ≤ 10000) : Calls Tryz.prog 99 #[vl, pv x, vr] w (Fitd w l x r) :=
  join_is _ hz vl vr l r x w (Nat.le_refl _) hl hr el er
end Go.Proofs.YtlhfaildeemngaaGreat.Tr
/- Contracts: cut, joinTwo. -/
namespace Go.Proofs.YtlhfaildeemngaaGreat.Tr
open Go.RowKit

/-- What cut answers: the part below, the node at the key, the part above. -/
def CutOut (w : World) (t : Bt) (k : Int) (e : Ending) (w' : World) : Prop := ∃ (vb va vc : Value) (b c : Bt), e = .returned (.tuple #[vb, va, vc]) ∧ (IsT w' vb b ∧ b.even ∧ b.flat = lowL t.flat k) ∧ AtN w' va (getL t.flat k) ∧ (IsT w' vc c ∧ c.even ∧ c.flat = gtL t.flat k) ∧ Below w.heap.size w w'
theorem low_len {l : List (Int × Int)} {k : Int} : (lowL l k).length ≤ l.length := List.length_filter_le _ _
theorem gt_len {l : List (Int × Int)} {k : Int} : (gtL l k).length ≤ l.length := List.length_filter_le _ _
set_option maxRecDepth 100000 in
set_option maxHeartbeats 4000000 in
theorem cut_any (t : Bt) (k : Int) : ∀ (v : Value) (w : World), IsT w v t → t.even → Up t.flat → t.size ≤ 5000 → Calls Tryz.prog 97 #[v, .int .u64 k] w (CutOut w t k) := by
  induction t with
  | nil =>
    rintro v w rfl _ _ _
    go_enter Tryz.func97, Tryz.ntmps97
    go_wp2
    refine bodyPost_ret (v := .tuple #[.pointer none, .pointer none, .pointer none]) (by simp [results, Tryz.results97, go_sem]) rfl ?_
    exact ⟨_, _, _, .nil, .nil, rfl, ⟨rfl, trivial, rfl⟩, rfl, ⟨rfl, trivial, rfl⟩, Below.refl _ _⟩
  | node l x r ihl ihr =>
    rintro v w ⟨B, vl, vr, rfl, ha, hl, hr⟩ he hu hz
    obtain ⟨pl, rfl⟩ := hl.ptr
    obtain ⟨pr, rfl⟩ := hr.ptr
    have hzz : l.size + 1 + r.size ≤ 5000 := hz
    have hu' : Up (l.flat ++ x :: r.flat) := hu
    have hlen1 := low_len (l := r.flat) (k := k)
    have hlen2 := gt_len (l := l.flat) (k := k)
    rw [Bt.flat_len] at hlen1 hlen2
    have c0 := (ha.cell 0).trans rfl
    have c1 := (ha.cell 1).trans rfl
    have c2 := (ha.cell 2).trans rfl
    have c3 := (ha.cell 3).trans rfl
    have HE := Lib.hid he
    have HU := Lib.hid hu'
    clear he hu hu'
    rcases Int.lt_trichotomy k x.1 with hk | hk | hk
    · clear ihr
      have hcut := ihl (.pointer pl) w hl HE.out.1 HU.out.node.1 (by omega)
      clear ihl
      go_enter Tryz.func97, Tryz.ntmps97
      go_wp2_with (go_at_call 97; refine hcut.mono ?_; clear hcut; rintro e W0 ⟨vb, va, vc, b, c, rfl, ib, ia, ic, b0⟩; obtain ⟨pb, rfl⟩ := ib.1.ptr; obtain ⟨pa, rfl⟩ := ia.ptr; obtain ⟨pc, rfl⟩ := ic.1.ptr)
      obtain ⟨ib, eb, fb⟩ := ib
      obtain ⟨ic, ec, fc⟩ := ic
      have zc : c.size ≤ l.size := by rw [← c.flat_len, fc]; omega
      have HF := Lib.hid (And.intro fb fc)
      have ha0 := ha.belows b0
      have hr0 := hr.belows b0
      have HR : Hid (∀ W, Below W0.heap.size W0 W → IsT W (.pointer pr) r) := Lib.hid fun W hW => hr0.belows hW
      have HC : Hid (∀ W, Below W0.heap.size W0 W → IsT W (.pointer pc) c) := Lib.hid fun W hW => ic.belows hW
      have KS : Hid (∀ W, Below W0.heap.size W0 W → W.cell? ⟨B, 0, none⟩ = some (.int .u64 x.1) ∧ W.cell? ⟨B, 1, none⟩ = some (.int .i64 x.2) ∧ W.cell? ⟨B, 3, none⟩ = some (.pointer pr)) := Lib.hid fun W hW => ⟨((ha0.belows hW).cell 0).trans rfl, ((ha0.belows hW).cell 1).trans rfl, ((ha0.belows hW).cell 3).trans rfl⟩
      clear fb fc ha hl hr ha0 hr0 c0 c1 c2 c3
      have hb1 := Below.refl W0.heap.size W0
      obtain ⟨q1, q2, q3⟩ := KS.out W0 hb1
      go_region_held3 (fun W => W.cell? ⟨B, 0, none⟩ = some (.int .u64 x.1) ∧ W.cell? ⟨B, 1, none⟩ = some (.int .i64 x.2) ∧ W.cell? ⟨B, 3, none⟩ = some (.pointer pr)) (first | exact KS.out _ bbD | exact KS.out _ hb1.drew | exact KS.out _ hb1) (first
        | (go_at_call 99; refine (join_any c r x _ (HC.out _ (by first | exact hb1.drew | exact hb1)) (HR.out _ (by first | exact hb1.drew | exact hb1)) ec HE.out.2.1 (by omega)).mono ?_; rintro e wD ⟨vD, tD, rfl, iD, fD, bD⟩; obtain ⟨pD, rfl⟩ := iD.ptr; have bbD : Below W0.heap.size W0 wD := (by first | exact hb1.drew.trans (bD.mono hb1.size))))
      all_goals
        rename_i hHeld
        clear hHeld
        go_wp2
        refine bodyPost_ret (v := .tuple #[.pointer pb, .pointer pa, .pointer pD]) (by simp [results, Tryz.results97, go_sem]) rfl ?_
        refine ⟨_, _, _, b, tD, rfl, ⟨ib.belows bbD, eb, HF.out.1.trans (low_left HU.out (by omega)).symm⟩, ?_, ⟨iD, fD.2.1, ?_⟩, b0.trans (bbD.mono b0.size)⟩
        · rw [show (Bt.node l x r).flat = l.flat ++ x :: r.flat from rfl, get_left HU.out hk]; exact ia.belows bbD
        · rw [fD.1, HF.out.2]; exact (gt_left HU.out hk).symm
    · subst hk
      clear ihl ihr
      go_enter Tryz.func97, Tryz.ntmps97
      go_wp2
      go_quiet (fail)
      go_wp2
      have hb1 : Below w.heap.size w (w.drewN nq) := bdrewN (Below.refl _ _) _
      refine bodyPost_ret (v := .tuple #[.pointer pl, .pointer (some ⟨B, 0, none⟩), .pointer pr]) (by simp [results, Tryz.results97, go_sem]) rfl ?_
      refine ⟨_, _, _, l, r, rfl, ⟨hl.belows hb1, HE.out.1, (low_at HU.out).symm⟩, ?_, ⟨hr.belows hb1, HE.out.2.1, (gt_at HU.out).symm⟩, hb1⟩
      rw [show (Bt.node l x r).flat = l.flat ++ x :: r.flat from rfl, get_at HU.out]
      exact ⟨B, _, _, _, _, rfl, ha.belows hb1⟩
    · clear ihl
      have hcut := ihr (.pointer pr) w hr HE.out.2.1 HU.out.node.2.1 (by omega)
      clear ihr
      go_enter Tryz.func97, Tryz.ntmps97
      go_wp2_with (go_at_call 97; refine hcut.mono ?_; clear hcut; rintro e W0 ⟨vb, va, vc, b, c, rfl, ib, ia, ic, b0⟩; obtain ⟨pb, rfl⟩ := ib.1.ptr; obtain ⟨pa, rfl⟩ := ia.ptr; obtain ⟨pc, rfl⟩ := ic.1.ptr)
      obtain ⟨ib, eb, fb⟩ := ib
      obtain ⟨ic, ec, fc⟩ := ic
      have zb : b.size ≤ r.size := by rw [← b.flat_len, fb]; omega
      have HF := Lib.hid (And.intro fb fc)
      have ha0 := ha.belows b0
      have hl0 := hl.belows b0
      have HL : Hid (∀ W, Below W0.heap.size W0 W → IsT W (.pointer pl) l) := Lib.hid fun W hW => hl0.belows hW
      have HB : Hid (∀ W, Below W0.heap.size W0 W → IsT W (.pointer pb) b) := Lib.hid fun W hW => ib.belows hW
      have KS : Hid (∀ W, Below W0.heap.size W0 W → W.cell? ⟨B, 0, none⟩ = some (.int .u64 x.1) ∧ W.cell? ⟨B, 1, none⟩ = some (.int .i64 x.2) ∧ W.cell? ⟨B, 2, none⟩ = some (.pointer pl)) := Lib.hid fun W hW => ⟨((ha0.belows hW).cell 0).trans rfl, ((ha0.belows hW).cell 1).trans rfl, ((ha0.belows hW).cell 2).trans rfl⟩
      clear fb fc ha hl hr ha0 hl0 c0 c1 c2 c3
      have hb1 := Below.refl W0.heap.size W0
      obtain ⟨q1, q2, q3⟩ := KS.out W0 hb1
      go_region_held3 (fun W => W.cell? ⟨B, 0, none⟩ = some (.int .u64 x.1) ∧ W.cell? ⟨B, 1, none⟩ = some (.int .i64 x.2) ∧ W.cell? ⟨B, 2, none⟩ = some (.pointer pl)) (first | exact KS.out _ bbD | exact KS.out _ hb1.drew | exact KS.out _ hb1) (first
        | (go_at_call 99; refine (join_any l b x _ (HL.out _ (by first | exact hb1.drew | exact hb1)) (HB.out _ (by first | exact hb1.drew | exact hb1)) HE.out.1 eb (by omega)).mono ?_; rintro e wD ⟨vD, tD, rfl, iD, fD, bD⟩; obtain ⟨pD, rfl⟩ := iD.ptr; have bbD : Below W0.heap.size W0 wD := (by first | exact hb1.drew.trans (bD.mono hb1.size))))
      all_goals
        rename_i hHeld
        clear hHeld
        go_wp2
        refine bodyPost_ret (v := .tuple #[.pointer pD, .pointer pa, .pointer pc]) (by simp [results, Tryz.results97, go_sem]) rfl ?_
        refine ⟨_, _, _, tD, c, rfl, ⟨iD, fD.2.1, ?_⟩, ?_, ⟨ic.belows bbD, ec, HF.out.2.trans (gt_right HU.out (by omega)).symm⟩, b0.trans (bbD.mono b0.size)⟩
        · rw [fD.1, HF.out.1]; exact (low_right HU.out hk).symm
        · rw [show (Bt.node l x r).flat = l.flat ++ x :: r.flat from rfl, get_right HU.out hk]; exact ia.belows bbD

/-- What joinTwo answers. -/
def TwoOut (w : World) (l r : Bt) (e : Ending) (w' : World) : Prop := ∃ (v : Value) (t : Bt), e = .returned v ∧ IsT w' v t ∧ t.even ∧ t.flat = l.flat ++ r.flat ∧ Below w.heap.size w w'
set_option maxRecDepth 100000 in
set_option maxHeartbeats 4000000 in
theorem joinTwo_any {vl vr : Value} (l r : Bt) (w : World) (hl : IsT w vl l) (hr : IsT w vr r) (el : l.even) (er : r.even) (hu : Up r.flat) (hz : l.size + r.size ≤ 4000) : Calls Tryz.prog 98 #[vl, vr] w (TwoOut w l r) := by
  obtain ⟨pl, rfl⟩ := hl.ptr
  obtain ⟨pr, rfl⟩ := hr.ptr
  have hplace := place_any r 0 w hr (by omega) (by omega) (by omega)
  rw [at_zero] at hplace
  cases hh : r.flat with
  | nil =>
    rw [hh] at hplace
    go_enter Tryz.func98, Tryz.ntmps98
    go_wp2_with fail
    refine hplace.mono ?_
    rintro e w1 ⟨v1, rfl, ia, rfl⟩
    clear hplace
    obtain ⟨p1, rfl⟩ := ia.ptr
    go_wp2_with fail
    refine (told_any none w ia).mono ?_
    rintro e w2 ⟨rfl, b2⟩
    simp only [toldV]
    go_wp2
    go_ret
    exact ⟨_, l, rfl, (hl.belows b2).belows ((Below.refl _ _).alloc (Nat.le_refl _) _), el, by rw [hh]; simp, b2.alloc b2.size _⟩
  | cons y L =>
    rw [hh] at hplace hu
    have HH := Lib.hid hh
    have HU := Lib.hid hu
    clear hh hu
    go_enter Tryz.func98, Tryz.ntmps98
    go_wp2_with fail
    refine hplace.mono ?_
    rintro e w1 ⟨v1, rfl, ia, rfl⟩
    clear hplace
    obtain ⟨p1, rfl⟩ := ia.ptr
    go_wp2_with fail
    refine (told_any (some y) w ia).mono ?_
    rintro e w2 ⟨rfl, b2⟩
    simp only [toldV]
    have b3 : Below w.heap.size w (w2.alloc (.cells #[.int .u64 y.1, .int .i64 y.2] 109)) := b2.alloc b2.size _
    have A3 := At.new w2 #[.int .u64 y.1, .int .i64 y.2] 109
    have k0 := (A3.cell 0).trans rfl
    go_wp2_with fail
    generalize w2.alloc (.cells #[.int .u64 y.1, .int .i64 y.2] 109) = W3 at b3 A3 k0 ⊢
    refine (cut_any r y.1 _ W3 (hr.belows b3) er (by rw [HH.out]; exact HU.out) (by omega)).mono ?_
    rintro e w4 ⟨vb, va, vc, b, c, rfl, ib, ia4, ic, b4⟩
    obtain ⟨pb, rfl⟩ := ib.1.ptr
    obtain ⟨pa, rfl⟩ := ia4.ptr
    obtain ⟨pc, rfl⟩ := ic.1.ptr
    obtain ⟨ic, ec, fc⟩ := ic
    have fc' : c.flat = L := by rw [fc, HH.out]; exact gt_at (A := []) HU.out
    have zc : c.size ≤ r.size := by rw [← c.flat_len, ← r.flat_len, fc', HH.out]; simp
    have bb4 := b3.trans (b4.mono b3.size)
    have A4 := A3.belows b4
    have q0 := (A4.cell 0).trans rfl
    have q1 := (A4.cell 1).trans rfl
    have HFC := Lib.hid fc'
    clear fc fc' k0 A3
    go_wp2_with (go_at_call 99; refine (join_any l c y _ (hl.belows bb4) ic el ec (by omega)).mono ?_; rintro e w5 ⟨v5, t5, rfl, i5, f5, b5⟩; obtain ⟨p5, rfl⟩ := i5.ptr)
    go_ret
    exact ⟨_, t5, rfl, i5, f5.2.1, by rw [f5.1, HFC.out, HH.out], bb4.trans (b5.mono bb4.size)⟩
end Go.Proofs.YtlhfaildeemngaaGreat.Tr
/- Contracts: the calls of a tree, but Pairs. -/
namespace Go.Proofs.YtlhfaildeemngaaGreat.Tr
open Go.RowKit

/-- A tree that is not nil, with these pairs. -/
def IsTree1 (w : World) (v : Value) (L : List (Int × Int)) : Prop := Up L ∧ L.length ≤ 1024 ∧ ∃ (B : Nat) (vn : Value) (t : Bt), v = .pointer (some ⟨B, 0, none⟩) ∧ At w B #[vn] 143 ∧ IsT w vn t ∧ t.even ∧ t.flat = L
/-- A tree with these pairs: nil has none. -/
def IsTree (w : World) (v : Value) (L : List (Int × Int)) : Prop := (v = .pointer none ∧ L = []) ∨ IsTree1 w v L
theorem IsTree1.belows {w w' : World} {v : Value} {L : List (Int × Int)} (h : IsTree1 w v L) (hb : Below w.heap.size w w') : IsTree1 w' v L := by
  obtain ⟨h1, h2, B, vn, t, e, ha, hi, he, hf⟩ := h
  exact ⟨h1, h2, B, vn, t, e, ha.belows hb, hi.belows hb, he, hf⟩
theorem IsTree.belows {w w' : World} {v : Value} {L : List (Int × Int)} (h : IsTree w v L) (hb : Below w.heap.size w w') : IsTree w' v L := h.imp id fun h => h.belows hb
theorem IsTree1.any {w : World} {v : Value} {L : List (Int × Int)} (h : IsTree1 w v L) : IsTree w v L := .inr h
theorem IsTree.up {w : World} {v : Value} {L : List (Int × Int)} (h : IsTree w v L) : Up L ∧ L.length ≤ 1024 := by
  rcases h with ⟨_, rfl⟩ | ⟨h1, h2, _⟩
  · exact ⟨Up.nil, by simp⟩
  · exact ⟨h1, h2⟩
theorem IsTree1.ptr {w : World} {v : Value} {L : List (Int × Int)} (h : IsTree1 w v L) : ∃ B, v = .pointer (some ⟨B, 0, none⟩) := by
  obtain ⟨h1, h2, B, vn, t, e, _⟩ := h
  exact ⟨B, e⟩
theorem IsTree.ptr {w : World} {v : Value} {L : List (Int × Int)} (h : IsTree w v L) : ∃ p, v = .pointer p := by
  rcases h with ⟨rfl, _⟩ | h
  · exact ⟨_, rfl⟩
  · obtain ⟨B, rfl⟩ := h.ptr; exact ⟨_, rfl⟩
theorem tree_new (W : World) {vn : Value} {t : Bt} {L : List (Int × Int)} (hi : IsT W vn t) (he : t.even) (hf : t.flat = L) (hu : Up L) (hl : L.length ≤ 1024) : IsTree1 (W.alloc (.cells #[vn] 143)) (.pointer (some ⟨W.heap.size, 0, none⟩)) L :=
  ⟨hu, hl, W.heap.size, vn, t, rfl, At.new W _ _, hi.belows ((Below.refl _ W).alloc (Nat.le_refl _) _), he, hf⟩

def TopOut (w : World) (L : List (Int × Int)) (e : Ending) (w' : World) : Prop := ∃ (p : Option Addr) (t : Bt), e = .returned (.pointer p) ∧ IsT w (.pointer p) t ∧ t.even ∧ t.flat = L ∧ t.size = L.length ∧ w = w'
theorem top_any {v : Value} (L : List (Int × Int)) (w : World) (h : IsTree w v L) : Calls Tryz.prog 82 #[v] w (TopOut w L) := by
  rcases h with ⟨rfl, rfl⟩ | ⟨_, _, B, vn, t, rfl, ha, hi, he, hf⟩
  · go_enter Tryz.func82, Tryz.ntmps82
    go_wp2
    go_ret
    exact ⟨none, .nil, rfl, rfl, trivial, rfl, rfl, rfl⟩
  · have c0 := (ha.cell 0).trans rfl
    obtain ⟨p, rfl⟩ := hi.ptr
    go_enter Tryz.func82, Tryz.ntmps82
    go_wp2
    go_ret
    exact ⟨p, t, rfl, hi, he, hf, by rw [← hf, Bt.flat_len], rfl⟩
theorem len_any {v : Value} (L : List (Int × Int)) (w : World) (h : IsTree w v L) : Calls Tryz.prog 64 #[v] w fun e w' => e = .returned (.int .i64 (L.length : Int)) ∧ w = w' := by
  have ht := top_any L w h
  obtain ⟨p, rfl⟩ := h.ptr
  go_enter Tryz.func64, Tryz.ntmps64
  go_wp2_with (first | (go_at_call 82; refine ht.mono ?_; rintro e w1 ⟨q, t, rfl, hi, he, hf, hs, rfl⟩) | (go_at_call 83; refine (count_any t _ hi).mono ?_; rintro e w1 ⟨rfl, rfl⟩))
  go_ret
  exact ⟨ret_int (by omega), rfl⟩
/-- The value, and whether there is one. -/
def getV : Option (Int × Int) → Value
  | none => .tuple #[.int .i64 0, .bool false]
  | some x => .tuple #[.int .i64 x.2, .bool true]
set_option maxRecDepth 100000 in
theorem get_any {v : Value} (L : List (Int × Int)) (k : Int) (w : World) (h : IsTree w v L) : Calls Tryz.prog 96 #[v, .int .u64 k] w fun e w' => e = .returned (getV (getL L k)) ∧ Below w.heap.size w w' := by
  have hu := Lib.hid h.up
  obtain ⟨p, rfl⟩ := h.ptr
  cases ho : getL L k with
  | none =>
    have HO := Lib.hid ho
    clear ho
    go_enter Tryz.func96, Tryz.ntmps96
    go_wp2_with fail
    refine (top_any L _ (h)).mono ?_
    rintro e w1 ⟨q, t, rfl, hi, he, hf, hs, rfl⟩
    go_wp2_with fail
    refine (find_any t k w hi (by rw [hf]; exact hu.out.1)).mono ?_
    rintro e w1 ⟨v1, rfl, ia, rfl⟩
    rw [hf, HO.out] at ia
    clear hf hs
    obtain ⟨p1, rfl⟩ := ia.ptr
    go_wp2_with fail
    refine (told_any (none) _ ia).mono ?_
    rintro e w2 ⟨rfl, b2⟩
    simp only [toldV]
    go_wp2
    go_ret2
    exact ⟨rfl, b2.alloc b2.size _⟩
  | some x =>
    have HO := Lib.hid ho
    clear ho
    go_enter Tryz.func96, Tryz.ntmps96
    go_wp2_with fail
    refine (top_any L _ (h)).mono ?_
    rintro e w1 ⟨q, t, rfl, hi, he, hf, hs, rfl⟩
    go_wp2_with fail
    refine (find_any t k w hi (by rw [hf]; exact hu.out.1)).mono ?_
    rintro e w1 ⟨v1, rfl, ia, rfl⟩
    rw [hf, HO.out] at ia
    clear hf hs
    obtain ⟨p1, rfl⟩ := ia.ptr
    go_wp2_with fail
    refine (told_any (some x) _ ia).mono ?_
    rintro e w2 ⟨rfl, b2⟩
    simp only [toldV]
    go_wp2
    go_ret2
    exact ⟨rfl, b2.alloc b2.size _⟩
set_option maxRecDepth 100000 in
theorem At_any {v : Value} (L : List (Int × Int)) (i : Int) (w : World) (h : IsTree w v L) (hi1 : -9223372036854775808 ≤ i) (hi2 : i ≤ 9223372036854775807) : Calls Tryz.prog 65 #[v, .int .i64 i] w fun e w' => e = .returned (toldV (atL L i)) ∧ Below w.heap.size w w' := by
  have hu := Lib.hid h.up
  have b0 : Below w.heap.size w (w.alloc (.cells #[.int .u64 0, .int .i64 0] 109)) := (Below.refl _ w).alloc (Nat.le_refl _) _
  have A0 := At.new w #[.int .u64 0, .int .i64 0] 109
  obtain ⟨p, rfl⟩ := h.ptr
  cases ho : atL L i with
  | none =>
    have HO := Lib.hid ho
    clear ho
    go_enter Tryz.func65, Tryz.ntmps65
    go_wp2_with fail
    refine (top_any L _ (h.belows b0)).mono ?_
    rintro e w1 ⟨q, t, rfl, hi, he, hf, hs, rfl⟩
    go_wp2_with fail
    refine (place_any t i _ hi hi1 hi2 (by have := hu.out.2; omega)).mono ?_
    rintro e w1 ⟨v1, rfl, ia, rfl⟩
    rw [hf, HO.out] at ia
    clear hf hs
    obtain ⟨p1, rfl⟩ := ia.ptr
    go_wp2_with fail
    refine (told_any (none) _ ia).mono ?_
    rintro e w2 ⟨rfl, b2⟩
    simp only [toldV]
    have bb2 : Below (w.alloc (.cells #[.int .u64 0, .int .i64 0] 109)).heap.size (w.alloc (.cells #[.int .u64 0, .int .i64 0] 109)) w2 := (b2)
    have A2 := A0.belows bb2
    have A3 := (A2.set0 0 (.int .u64 0)).set0 1 (.int .i64 0)
    have f0 := A2.frozen 0
    have f1 := A2.frozen 1
    have e0 := (A2.cell 0).trans rfl
    have e1 := (A2.cell 1).trans rfl
    go_wp2
    refine bodyPost_ret (v := toldV (none)) (by simp [results, Tryz.results65, go_sem, toldV, A3.cell 0, A3.cell 1]) rfl ⟨rfl, ?_⟩
    have hs2 := bb2.size
    exact ((b0.trans (bb2.mono b0.size)).setCell (p := ⟨w.heap.size, 0, none⟩) (Nat.le_refl _) _).setCell (p := ⟨w.heap.size, 1, none⟩) (Nat.le_refl _) _
  | some x =>
    have HO := Lib.hid ho
    clear ho
    go_enter Tryz.func65, Tryz.ntmps65
    go_wp2_with fail
    refine (top_any L _ (h.belows b0)).mono ?_
    rintro e w1 ⟨q, t, rfl, hi, he, hf, hs, rfl⟩
    go_wp2_with fail
    refine (place_any t i _ hi hi1 hi2 (by have := hu.out.2; omega)).mono ?_
    rintro e w1 ⟨v1, rfl, ia, rfl⟩
    rw [hf, HO.out] at ia
    clear hf hs
    obtain ⟨p1, rfl⟩ := ia.ptr
    go_wp2_with fail
    refine (told_any (some x) _ ia).mono ?_
    rintro e w2 ⟨rfl, b2⟩
    simp only [toldV]
    have bb2 : Below (w.alloc (.cells #[.int .u64 0, .int .i64 0] 109)).heap.size (w.alloc (.cells #[.int .u64 0, .int .i64 0] 109)) w2 := (b2)
    have A2 := A0.belows bb2
    have A3 := (A2.set0 0 (.int .u64 x.1)).set0 1 (.int .i64 x.2)
    have f0 := A2.frozen 0
    have f1 := A2.frozen 1
    have e0 := (A2.cell 0).trans rfl
    have e1 := (A2.cell 1).trans rfl
    go_wp2
    refine bodyPost_ret (v := toldV (some x)) (by simp [results, Tryz.results65, go_sem, toldV, A3.cell 0, A3.cell 1]) rfl ⟨rfl, ?_⟩
    have hs2 := bb2.size
    exact ((b0.trans (bb2.mono b0.size)).setCell (p := ⟨w.heap.size, 0, none⟩) (Nat.le_refl _) _).setCell (p := ⟨w.heap.size, 1, none⟩) (Nat.le_refl _) _
end Go.Proofs.YtlhfaildeemngaaGreat.Tr
/- Contracts: Put, Drop, Split. -/
namespace Go.Proofs.YtlhfaildeemngaaGreat.Tr
open Go.RowKit

theorem put_length {L : List (Int × Int)} {k v : Int} (_hu : Up L) : (putL L k v).length = (lowL L k).length + 1 + (gtL L k).length := by unfold putL; rw [List.length_append, List.length_cons]; omega
theorem put_fits {L : List (Int × Int)} {k v : Int} (hu : Up L) (hl : L.length ≤ 1024) (h : getL L k ≠ none ∨ L.length < 1024) : (putL L k v).length ≤ 1024 := by
  rw [put_len hu]
  rcases h with h | h
  · rw [if_neg h]; exact hl
  · split <;> omega
set_option maxRecDepth 100000 in
set_option maxHeartbeats 1000000 in
theorem put_full {tv : Value} (L : List (Int × Int)) (k v : Int) (w : World) (h : IsTree w tv L) (hg : getL L k = none) (hl : L.length = 1024) : Calls Tryz.prog 92 #[tv, .int .u64 k, .int .i64 v] w fun e w' => e = .returned (.tuple #[.pointer none, .int .i64 41]) ∧ Below w.heap.size w w' := by
  have hu := Lib.hid h.up
  obtain ⟨p, rfl⟩ := h.ptr
  have HG := Lib.hid hg
  have HLEN := Lib.hid hl
  have HH := Lib.hid h
  clear hg hl h
  go_enter Tryz.func92, Tryz.ntmps92
  go_wp2_with fail
  refine (top_any L _ HH.out).mono ?_
  rintro e w1 ⟨q, t, rfl, hi, he, hf, hs, rfl⟩
  go_wp2_with fail
  refine (cut_any t k _ w hi he (by rw [hf]; exact hu.out.1) (by have := hu.out.2; omega)).mono ?_
  rintro e w1 ⟨vb, va, vc, b, c, rfl, ib, ia, ic, b1⟩
  rw [hf, HG.out] at ia
  obtain rfl := ia
  obtain ⟨pb, rfl⟩ := ib.1.ptr
  obtain ⟨pc, rfl⟩ := ic.1.ptr
  have hlen := len_any L w1 (HH.out.belows b1)
  rw [HLEN.out] at hlen
  clear hf hs
  go_wp2_with (go_at_call 64; refine hlen.mono ?_; rintro e w2 ⟨rfl, rfl⟩)
  go_ret2
  exact ⟨rfl, b1⟩
/-- A new tree with these pairs. -/
def TreeOut (w : World) (L : List (Int × Int)) (e : Ending) (w' : World) : Prop := ∃ v', e = .returned (.tuple #[v', .int .i64 0]) ∧ IsTree1 w' v' L ∧ Below w.heap.size w w'
set_option maxRecDepth 100000 in
set_option maxHeartbeats 1000000 in
theorem put_ok {tv : Value} (L : List (Int × Int)) (k v : Int) (w : World) (h : IsTree w tv L) (hg : getL L k ≠ none ∨ L.length < 1024) : Calls Tryz.prog 92 #[tv, .int .u64 k, .int .i64 v] w (TreeOut w (putL L k v)) := by
  have hu := Lib.hid h.up
  obtain ⟨p, rfl⟩ := h.ptr
  have HFIT := Lib.hid (put_fits (v := v) hu.out.1 hu.out.2 hg)
  have HLL := Lib.hid (And.intro (low_len (l := L) (k := k)) (gt_len (l := L) (k := k)))
  have HH := Lib.hid h
  clear h
  cases ho : getL L k with
  | none =>
    have hlt : L.length < 1024 := hg.elim (fun h => absurd ho h) id
    have HO := Lib.hid ho
    clear ho hg
    go_enter Tryz.func92, Tryz.ntmps92
    go_wp2_with fail
    refine (top_any L _ HH.out).mono ?_
    rintro e w1 ⟨q, t, rfl, hi, he, hf, hs, rfl⟩
    go_wp2_with fail
    refine (cut_any t k _ w hi he (by rw [hf]; exact hu.out.1) (by have := hu.out.2; omega)).mono ?_
    rintro e w1 ⟨vb, va, vc, b, c, rfl, ib, ia, ic, b1⟩
    rw [hf, HO.out] at ia
    rw [hf] at ib ic
    obtain rfl := ia
    obtain ⟨pb, rfl⟩ := ib.1.ptr
    obtain ⟨pc, rfl⟩ := ic.1.ptr
    have hlen := len_any L w1 (HH.out.belows b1)
    have HS := Lib.hid (And.intro hf hs)
    clear hf hs
    have hz : b.size + c.size ≤ 10000 := by have := HLL.out; have := hu.out.2; rw [← b.flat_len, ← c.flat_len, ib.2.2, ic.2.2]; omega
    have HIB := Lib.hid ib
    have HIC := Lib.hid ic
    clear ib ic
    have d1 : decide (1024 ≤ (L.length : Int)) = false := by simp; omega
    go_wp2_with (first | (go_at_call 64; refine hlen.mono ?_; rintro e w2 ⟨rfl, rfl⟩) | (go_at_call 99; refine (join_any b c (k, v) _ HIB.out.1 HIC.out.1 HIB.out.2.1 HIC.out.2.1 hz).mono ?_; rintro e w3 ⟨v3, t3, rfl, i3, f3, b3⟩; obtain ⟨p3, rfl⟩ := i3.ptr))
    go_ret2
    exact ⟨_, rfl, tree_new w3 i3 f3.2.1 (by rw [f3.1, HIB.out.2.2, HIC.out.2.2]; rfl) (hu.out.1.put k v) HFIT.out, (b1.trans (b3.mono b1.size)).alloc (b1.trans (b3.mono b1.size)).size _⟩
  | some x =>
    have HO := Lib.hid ho
    clear ho hg
    go_enter Tryz.func92, Tryz.ntmps92
    go_wp2_with fail
    refine (top_any L _ HH.out).mono ?_
    rintro e w1 ⟨q, t, rfl, hi, he, hf, hs, rfl⟩
    go_wp2_with fail
    refine (cut_any t k _ w hi he (by rw [hf]; exact hu.out.1) (by have := hu.out.2; omega)).mono ?_
    rintro e w1 ⟨vb, va, vc, b, c, rfl, ib, ia, ic, b1⟩
    rw [hf, HO.out] at ia
    rw [hf] at ib ic
    obtain ⟨Bn, n1, n2, n3, n4, rfl, han⟩ := ia
    obtain ⟨pb, rfl⟩ := ib.1.ptr
    obtain ⟨pc, rfl⟩ := ic.1.ptr
    clear hf hs han
    have hz : b.size + c.size ≤ 10000 := by have := HLL.out; have := hu.out.2; rw [← b.flat_len, ← c.flat_len, ib.2.2, ic.2.2]; omega
    have HIB := Lib.hid ib
    have HIC := Lib.hid ic
    clear ib ic
    go_wp2_with (go_at_call 99; refine (join_any b c (k, v) _ HIB.out.1 HIC.out.1 HIB.out.2.1 HIC.out.2.1 hz).mono ?_; rintro e w3 ⟨v3, t3, rfl, i3, f3, b3⟩; obtain ⟨p3, rfl⟩ := i3.ptr)
    go_ret2
    exact ⟨_, rfl, tree_new w3 i3 f3.2.1 (by rw [f3.1, HIB.out.2.2, HIC.out.2.2]; rfl) (hu.out.1.put k v) HFIT.out, (b1.trans (b3.mono b1.size)).alloc (b1.trans (b3.mono b1.size)).size _⟩
set_option maxRecDepth 100000 in
set_option maxHeartbeats 1000000 in
theorem drop_no {tv : Value} (L : List (Int × Int)) (k : Int) (w : World) (h : IsTree w tv L) (hg : getL L k = none) : Calls Tryz.prog 91 #[tv, .int .u64 k] w fun e w' => e = .returned (.tuple #[.pointer none, .int .i64 42]) ∧ Below w.heap.size w w' := by
  have hu := Lib.hid h.up
  obtain ⟨p, rfl⟩ := h.ptr
  have HG := Lib.hid hg
  have HH := Lib.hid h
  clear hg h
  go_enter Tryz.func91, Tryz.ntmps91
  go_wp2_with fail
  refine (top_any L _ HH.out).mono ?_
  rintro e w1 ⟨q, t, rfl, hi, he, hf, hs, rfl⟩
  go_wp2_with fail
  refine (cut_any t k _ w hi he (by rw [hf]; exact hu.out.1) (by have := hu.out.2; omega)).mono ?_
  rintro e w1 ⟨vb, va, vc, b, c, rfl, ib, ia, ic, b1⟩
  rw [hf, HG.out] at ia
  obtain rfl := ia
  obtain ⟨pb, rfl⟩ := ib.1.ptr
  obtain ⟨pc, rfl⟩ := ic.1.ptr
  clear hf hs ib ic
  go_wp2
  go_ret2
  exact ⟨rfl, b1⟩
set_option maxRecDepth 100000 in
set_option maxHeartbeats 1000000 in
theorem drop_ok {tv : Value} (L : List (Int × Int)) (k : Int) (w : World) (h : IsTree w tv L) (hg : getL L k ≠ none) : Calls Tryz.prog 91 #[tv, .int .u64 k] w (TreeOut w (dropL L k)) := by
  have hu := Lib.hid h.up
  obtain ⟨p, rfl⟩ := h.ptr
  have HLEN := Lib.hid (drop_len hu.out.1 hg)
  have HLL := Lib.hid (And.intro (low_len (l := L) (k := k)) (gt_len (l := L) (k := k)))
  have HH := Lib.hid h
  clear h
  cases ho : getL L k with
  | none => exact absurd ho hg
  | some x =>
    have HO := Lib.hid ho
    clear ho hg
    go_enter Tryz.func91, Tryz.ntmps91
    go_wp2_with fail
    refine (top_any L _ HH.out).mono ?_
    rintro e w1 ⟨q, t, rfl, hi, he, hf, hs, rfl⟩
    go_wp2_with fail
    refine (cut_any t k _ w hi he (by rw [hf]; exact hu.out.1) (by have := hu.out.2; omega)).mono ?_
    rintro e w1 ⟨vb, va, vc, b, c, rfl, ib, ia, ic, b1⟩
    rw [hf, HO.out] at ia
    rw [hf] at ib ic
    obtain ⟨Bn, n1, n2, n3, n4, rfl, han⟩ := ia
    obtain ⟨pb, rfl⟩ := ib.1.ptr
    obtain ⟨pc, rfl⟩ := ic.1.ptr
    clear hf hs han
    have hz : b.size + c.size ≤ 4000 := by have := HLL.out; have := hu.out.2; rw [← b.flat_len, ← c.flat_len, ib.2.2, ic.2.2]; omega
    have HIB := Lib.hid ib
    have HIC := Lib.hid ic
    clear ib ic
    go_wp2_with (go_at_call 98; refine (joinTwo_any b c _ HIB.out.1 HIC.out.1 HIB.out.2.1 HIC.out.2.1 (by rw [HIC.out.2.2]; exact hu.out.1.gt k) hz).mono ?_; rintro e w3 ⟨v3, t3, rfl, i3, e3, f3, b3⟩; obtain ⟨p3, rfl⟩ := i3.ptr)
    go_ret2
    exact ⟨_, rfl, tree_new w3 i3 e3 (by rw [f3, HIB.out.2.2, HIC.out.2.2]; rfl) (hu.out.1.drop k) (by have := HLEN.out; have := hu.out.2; omega), (b1.trans (b3.mono b1.size)).alloc (b1.trans (b3.mono b1.size)).size _⟩
/-- What Split answers. -/
def SplitOut (w : World) (L : List (Int × Int)) (k : Int) (e : Ending) (w' : World) : Prop := ∃ v1 v2, e = .returned (.tuple #[v1, v2]) ∧ IsTree1 w' v1 (lowL L k) ∧ IsTree1 w' v2 (highL L k) ∧ Below w.heap.size w w'
theorem high_len {l : List (Int × Int)} {k : Int} : (highL l k).length ≤ l.length := List.length_filter_le _ _
theorem split_fin {w W : World} {L : List (Int × Int)} {k : Int} {vb vc : Value} {b c : Bt} (hu : Up L ∧ L.length ≤ 1024) (hb : Below w.heap.size w W) (ib : IsT W vb b) (eb : b.even) (fb : b.flat = lowL L k) (ic : IsT W vc c) (ec : c.even) (fc : c.flat = highL L k) :
    SplitOut w L k (.returned (.tuple #[.pointer (some ⟨W.heap.size, 0, none⟩), .pointer (some ⟨W.heap.size + 1, 0, none⟩)])) ((W.alloc (.cells #[vb] 143)).alloc (.cells #[vc] 143)) := by
  have h1 := tree_new W ib eb fb (hu.1.low k) (Nat.le_trans low_len hu.2)
  have b1 : Below W.heap.size W (W.alloc (.cells #[vb] 143)) := (Below.refl _ W).alloc (Nat.le_refl _) _
  have h2 := tree_new (W.alloc (.cells #[vb] 143)) (ic.belows b1) ec fc (hu.1.high k) (Nat.le_trans high_len hu.2)
  rw [World.size_alloc] at h2
  exact ⟨_, _, rfl, h1.belows ((Below.refl _ _).alloc (Nat.le_refl _) _), h2, (hb.alloc hb.size _).alloc (hb.alloc hb.size _).size _⟩
end Go.Proofs.YtlhfaildeemngaaGreat.Tr
/- Contracts: the iterator that calls itself. -/
namespace Go.Proofs.YtlhfaildeemngaaGreat.Tr
open Go.RowKit Go.Shelf
attribute [local go_sem] Oper.semAt_some
theorem wide_fn (f : FuncId) : Fence.wide.fn f = True := eq_true trivial
attribute [local go_sem] wide_fn

theorem room_wide (k : Nat) : Fence.wide.room k := fun d h => by cases h
theorem roundIn_anyDepth {m m' : Nat} {P : Program} {l : Nat} {f : FuncId} {tmps : Array Value} {assign body : Code} {w : World} {R : Ending → World → Prop}
    (h : RoundIn Fence.wide m P l f tmps assign body w R) : RoundIn Fence.wide m' P l f tmps assign body w R := ⟨h.1, fun c cs _ => h.2 c cs (room_wide _)⟩
theorem yieldAt_anyDepth {m : Nat} (m' : Nat) {P : Program} {l : Nat} {args : Array Value} {W : World} {R : Ending → World → Prop} (h : YieldAt Fence.wide m P l args W R) : YieldAt Fence.wide m' P l args W R := by
  obtain ⟨fn, tmps, assign, body, hy, hR⟩ := h
  exact ⟨fn, tmps, assign, body, hy, roundIn_anyDepth hR⟩

/-- A tree in blocks below n₀. -/
def IsTn (n₀ : Nat) (w : World) : Value → Bt → Prop
  | v, .nil => v = .pointer none
  | v, .node l x r => ∃ (B : Nat) (pl pr : Option Addr) (c d : Value), v = .pointer (some ⟨B, 0, none⟩) ∧ B < n₀ ∧ At w B #[.int .u64 x.1, .int .i64 x.2, .pointer pl, .pointer pr, c, d] 145 ∧ IsTn n₀ w (.pointer pl) l ∧ IsTn n₀ w (.pointer pr) r
theorem isTn_of {w : World} : ∀ {v : Value} {t : Bt}, IsT w v t → IsTn w.heap.size w v t
  | _, .nil, h => h
  | _, .node _ _ _, ⟨B, vl, vr, e, ha, hl, hr⟩ => by
    obtain ⟨pl, rfl⟩ := hl.ptr
    obtain ⟨pr, rfl⟩ := hr.ptr
    exact ⟨B, pl, pr, _, _, e, ha.lt, ha, isTn_of hl, isTn_of hr⟩
theorem IsTn.below {n₀ : Nat} {w w' : World} (hb : Below n₀ w w') : ∀ {v : Value} {t : Bt}, IsTn n₀ w v t → IsTn n₀ w' v t
  | _, .nil, h => h
  | _, .node _ _ _, ⟨B, pl, pr, c, d, e, hB, ha, hl, hr⟩ => ⟨B, pl, pr, c, d, e, hB, ha.below hb hB, IsTn.below hb hl, IsTn.below hb hr⟩
theorem IsTn.ptr {n₀ : Nat} {w : World} {v : Value} {t : Bt} (h : IsTn n₀ w v t) : ∃ p, v = .pointer p := by
  cases t with
  | nil => exact ⟨_, h⟩
  | node l x r => obtain ⟨B, pl, pr, c, d, e, _⟩ := h; exact ⟨_, e⟩

theorem undef_no {b : Bool} (h : some undef = some (Value.bool b)) : False := by cases h
theorem hdd (k : Nat) : Fence.wide.depth.isSome = true → 1 ≤ k := fun h => by cases h
abbrev encP (x : Int × Int) : Array Value := #[pv x]
end Go.Proofs.YtlhfaildeemngaaGreat.Tr
/- Contract: Pairs. -/
namespace Go.Proofs.YtlhfaildeemngaaGreat.Tr
open Go.RowKit Go.Shelf
attribute [local go_sem] Oper.semAt_some
attribute [local go_sem] wide_fn

theorem at_own {β : Type} (B : Nat) (cs : Array Value) (t : TypeId) : Own (fun (_ : β) W => At W B cs t) := fun s X Y row hs hg hrow =>
  hs.kept hg (fun e' => by obtain ⟨o, ho, hc⟩ := hrow B e'.symm; rw [show X.heap[B]? = _ from hs] at ho; cases ho; cases hc)
theorem top_from {v : Value} (L : List (Int × Int)) (w W : World) (h : IsTree w v L) (hW : Below w.heap.size w W) : Calls Tryz.prog 82 #[v] W fun e w' => ∃ (p : Option Addr) (t : Bt), e = .returned (.pointer p) ∧ IsT w (.pointer p) t ∧ t.flat = L ∧ W = w' := by
  rcases h with ⟨rfl, rfl⟩ | ⟨_, _, B, vn, t, rfl, ha, hi, he, hf⟩
  · go_enter Tryz.func82, Tryz.ntmps82
    go_wp2
    go_ret
    exact ⟨none, .nil, rfl, rfl, rfl, rfl⟩
  · have c0 := ((ha.belows hW).cell 0).trans rfl
    obtain ⟨p, rfl⟩ := hi.ptr
    go_enter Tryz.func82, Tryz.ntmps82
    go_wp2
    go_ret
    exact ⟨p, t, rfl, hi, hf, rfl⟩
def PairsOut (w : World) (L : List (Int × Int)) (e : Ending) (w' : World) : Prop := ∃ v, e = .returned v ∧ IsP w' v L ∧ Below w.heap.size w w'
end Go.Proofs.YtlhfaildeemngaaGreat.Tr
/- Contracts: keys of ranges and boundaries, how often they stand, a range's boundaries. -/
namespace Go.Proofs.YtlhfaildeemngaaGreat.Tr
open Go.RowKit Go.Shelf

theorem or_disj (f t : Nat) (ht : t < 4294967296) : (f * 4294967296) ||| t = f * 4294967296 + t := by
  have h := Nat.shiftLeft_add_eq_or_of_lt (i := 32) (b := t) (by omega) f
  rw [Nat.shiftLeft_eq] at h
  exact h.symm
theorem bits_key (f t : Nat) (hf : f < 4294967296) (ht : t < 4294967296) : bits .or .u64 ((f : Int) * 4294967296) (t : Int) = (f : Int) * 4294967296 + (t : Int) := by
  have e0 : ((f : Int) * 4294967296) = ((f * 4294967296 : Nat) : Int) := by omega
  rw [e0]
  have h1 : (BitVec.ofInt 64 ((f * 4294967296 : Nat) : Int)).toNat = f * 4294967296 := by
    rw [BitVec.ofInt_natCast, BitVec.toNat_ofNat]; exact Nat.mod_eq_of_lt (by omega)
  have h2 : (BitVec.ofInt 64 (t : Int)).toNat = t := by
    rw [BitVec.ofInt_natCast, BitVec.toNat_ofNat]; exact Nat.mod_eq_of_lt (by omega)
  show IntKind.u64.wrap ((BitVec.ofInt 64 ((f * 4294967296 : Nat) : Int) ||| BitVec.ofInt 64 (t : Int)).toNat : Int) = _
  rw [BitVec.toNat_or, h1, h2, or_disj f t ht, IntWalk.u64_in _ (by omega)]
  omega
theorem keyS_any (f t : Nat) (w : World) (hf : f < 4294967296) (ht : t < 4294967296) : Calls Tryz.prog 124 #[.agg #[.int .u32 f, .int .u32 t]] w fun e w' => e = .returned (.int .u64 (keyI (f, t))) ∧ Below w.heap.size w w' := by
  have hk := bits_key f t hf ht
  go_enter Tryz.func124, Tryz.ntmps124
  go_wp2
  go_ret
  exact ⟨rfl, (Below.refl _ w).alloc (Nat.le_refl _) _⟩
theorem keyC_any (c : Int) (w : World) (h0 : 0 ≤ c) (h1 : c < 4294967296) : Calls Tryz.prog 123 #[.int .u32 c] w fun e w' => e = .returned (.int .u64 c) ∧ w = w' := by
  go_enter Tryz.func123, Tryz.ntmps123
  go_wp2
  go_ret
  exact ⟨rfl, rfl⟩
theorem getV_tal {P : List (Int × Int)} {f : Int → Nat} (h : Tal P f) (k : Int) : ∃ b, getV (getL P k) = .tuple #[.int .i64 (f k : Int), .bool b] := by
  rw [h.2 k]
  by_cases e : f k = 0
  · rw [if_pos e, e]; exact ⟨false, rfl⟩
  · rw [if_neg e]; exact ⟨true, rfl⟩
set_option maxRecDepth 100000 in
theorem oftenS_any {v : Value} (P : List (Int × Int)) (L : List (Nat × Nat)) (f t : Nat) (w : World) (hf : f < 4294967296) (ht : t < 4294967296) (h : IsTree w v P) (hT : Tal P (nR L)) : Calls Tryz.prog 93 #[v, .agg #[.int .u32 f, .int .u32 t]] w fun e w' => e = .returned (.int .i64 (nR L (keyI (f, t)) : Int)) ∧ Below w.heap.size w w' := by
  obtain ⟨p, rfl⟩ := h.ptr
  have HH := Lib.hid h
  obtain ⟨b, hb⟩ := getV_tal hT (keyI (f, t))
  have HT := Lib.hid hb
  clear h hT hb
  generalize hn : nR L (keyI (f, t)) = n at HT
  clear hn
  go_enter Tryz.func93, Tryz.ntmps93
  go_wp2_with fail
  refine (keyS_any f t _ hf ht).mono ?_
  rintro e w1 ⟨rfl, b1⟩
  have b1' : Below w.heap.size w w1 := ((Below.refl _ w).alloc (Nat.le_refl _) _).trans (b1.mono (by simp))
  go_wp2_with fail
  refine (get_any P _ w1 (HH.out.belows b1')).mono ?_
  rintro e w2 ⟨rfl, b2⟩
  rw [HT.out]
  go_wp2
  go_ret
  exact ⟨rfl, b1'.trans (b2.mono b1'.size)⟩
set_option maxRecDepth 100000 in
theorem oftenC_any {v : Value} (P : List (Int × Int)) (g : Int → Nat) (c : Int) (w : World) (h0 : 0 ≤ c) (h1 : c < 4294967296) (h : IsTree w v P) (hT : Tal P g) : Calls Tryz.prog 90 #[v, .int .u32 c] w fun e w' => e = .returned (.int .i64 (g c : Int)) ∧ Below w.heap.size w w' := by
  obtain ⟨p, rfl⟩ := h.ptr
  have HH := Lib.hid h
  obtain ⟨b, hb⟩ := getV_tal hT c
  have HT := Lib.hid hb
  clear h hT hb
  generalize hn : g c = n at HT
  clear hn
  go_enter Tryz.func90, Tryz.ntmps90
  go_wp2_with fail
  refine (keyC_any c _ h0 h1).mono ?_
  rintro e w1 ⟨rfl, rfl⟩
  go_wp2_with fail
  refine (get_any P _ w (HH.out)).mono ?_
  rintro e w2 ⟨rfl, b2⟩
  rw [HT.out]
  go_wp2
  go_ret
  exact ⟨rfl, b2⟩
end Go.Proofs.YtlhfaildeemngaaGreat.Tr
/- Contracts: a thing stands once more, or once less. -/
namespace Go.Proofs.YtlhfaildeemngaaGreat.Tr
open Go.RowKit Go.Shelf

/-- A new tree that tells how often. -/
def RecOut (w : World) (f : Int → Nat) (e : Ending) (w' : World) : Prop := ∃ v' P', e = .returned v' ∧ IsTree1 w' v' P' ∧ Tal P' f ∧ Below w.heap.size w w'
set_option maxRecDepth 100000 in
set_option maxHeartbeats 1000000 in
theorem recountC_more {v : Value} (P : List (Int × Int)) (g : Int → Nat) (c : Int) (w : World) (h0 : 0 ≤ c) (h1 : c < 4294967296) (h : IsTree w v P) (hT : Tal P g) (hl : P.length < 1024) (hn : g c ≤ 1000) : Calls Tryz.prog 80 #[v, .int .u32 c, .int .i64 1] w (RecOut w (fun j => g j + if j = c then 1 else 0)) := by
  have HH := Lib.hid h
  have HT := Lib.hid hT
  have HG := Lib.hid (hT.more c (n := ((g c : Nat) : Int) + 1) rfl)
  have hgn : getL P c ≠ none ∨ P.length < 1024 := .inr hl
  have HN := Lib.hid hgn
  obtain ⟨p, rfl⟩ := h.ptr
  clear h hT hgn
  go_enter Tryz.func80, Tryz.ntmps80
  go_wp2_with fail
  refine (oftenC_any P g c _ h0 h1 HH.out HT.out).mono ?_
  rintro e w1 ⟨rfl, b1⟩
  have dz : (((g c : Nat) : Int) + 1 == 0) = false := by rw [beq_eq_false_iff_ne]; omega
  generalize g c = n at *
  go_wp2_with fail
  refine (keyC_any c _ h0 h1).mono ?_
  rintro e w2 ⟨rfl, rfl⟩
  go_wp2_with fail
  refine (put_ok P c ((n : Int) + 1) _ (HH.out.belows b1) HN.out).mono ?_
  rintro e w3 ⟨v3, rfl, t3, b3⟩
  obtain ⟨B3, rfl⟩ := t3.ptr
  go_wp2
  go_ret
  exact ⟨_, _, rfl, t3, HG.out, b1.trans (b3.mono b1.size)⟩
set_option maxRecDepth 100000 in
set_option maxHeartbeats 1000000 in
theorem recountC_less {v : Value} (P : List (Int × Int)) (g : Int → Nat) (c : Int) (w : World) (h0 : 0 ≤ c) (h1 : c < 4294967296) (h : IsTree w v P) (hT : Tal P g) (_hl : P.length ≤ 1024) (hn : g c ≤ 1000) (h2 : 1 < g c) (q : Int → Nat) (hq : ∀ j, g j = q j + if j = c then 1 else 0) : Calls Tryz.prog 80 #[v, .int .u32 c, .int .i64 (-1)] w (RecOut w q) := by
  have HH := Lib.hid h
  have HT := Lib.hid hT
  have HG := Lib.hid (hT.less c (n := ((g c : Nat) : Int) - 1) rfl h2 hq)
  have hgn : getL P c ≠ none ∨ P.length < 1024 := .inl (by rw [hT.2, if_neg (by omega)]; simp)
  have HN := Lib.hid hgn
  obtain ⟨p, rfl⟩ := h.ptr
  clear h hT hgn
  go_enter Tryz.func80, Tryz.ntmps80
  go_wp2_with fail
  refine (oftenC_any P g c _ h0 h1 HH.out HT.out).mono ?_
  rintro e w1 ⟨rfl, b1⟩
  have dz : (((g c : Nat) : Int) + -1 == 0) = false := by rw [beq_eq_false_iff_ne]; omega
  have e0 : ((g c : Nat) : Int) + -1 = ((g c : Nat) : Int) - 1 := rfl
  generalize g c = n at *
  go_wp2_with fail
  refine (keyC_any c _ h0 h1).mono ?_
  rintro e w2 ⟨rfl, rfl⟩
  go_wp2_with fail
  refine (put_ok P c ((n : Int) - 1) _ (HH.out.belows b1) HN.out).mono ?_
  rintro e w3 ⟨v3, rfl, t3, b3⟩
  obtain ⟨B3, rfl⟩ := t3.ptr
  go_wp2
  go_ret
  exact ⟨_, _, rfl, t3, HG.out, b1.trans (b3.mono b1.size)⟩
set_option maxRecDepth 100000 in
set_option maxHeartbeats 1000000 in
theorem recountC_gone {v : Value} (P : List (Int × Int)) (g : Int → Nat) (c : Int) (w : World) (h0 : 0 ≤ c) (h1 : c < 4294967296) (h : IsTree w v P) (hT : Tal P g) (h2 : g c = 1) (q : Int → Nat) (hq : ∀ j, g j = q j + if j = c then 1 else 0) : Calls Tryz.prog 80 #[v, .int .u32 c, .int .i64 (-1)] w (RecOut w q) := by
  have HH := Lib.hid h
  have HT := Lib.hid hT
  have HG := Lib.hid (hT.gone c h2 hq)
  have hgn : getL P c ≠ none := by rw [hT.2, if_neg (by omega)]; simp
  have HN := Lib.hid hgn
  obtain ⟨p, rfl⟩ := h.ptr
  clear h hT hgn
  go_enter Tryz.func80, Tryz.ntmps80
  go_wp2_with fail
  refine (oftenC_any P g c _ h0 h1 HH.out HT.out).mono ?_
  rintro e w1 ⟨rfl, b1⟩
  rw [h2]
  go_wp2_with fail
  refine (keyC_any c _ h0 h1).mono ?_
  rintro e w2 ⟨rfl, rfl⟩
  go_wp2_with fail
  refine (drop_ok P c _ (HH.out.belows b1) HN.out).mono ?_
  rintro e w3 ⟨v3, rfl, t3, b3⟩
  obtain ⟨B3, rfl⟩ := t3.ptr
  go_wp2
  go_ret
  exact ⟨_, _, rfl, t3, HG.out, b1.trans (b3.mono b1.size)⟩
set_option maxRecDepth 100000 in
set_option maxHeartbeats 1000000 in
theorem recountS_more {v : Value} (P : List (Int × Int)) (L : List (Nat × Nat)) (f t : Nat) (w : World) (hf : f < 4294967296) (ht : t < 4294967296) (h : IsTree w v P) (hT : Tal P (nR L)) (hl : P.length < 1024) (hn : (nR L) (keyI (f, t)) ≤ 1000) : Calls Tryz.prog 81 #[v, .agg #[.int .u32 f, .int .u32 t], .int .i64 1] w (RecOut w (fun j => (nR L) j + if j = (keyI (f, t)) then 1 else 0)) := by
  have HH := Lib.hid h
  have HT := Lib.hid hT
  have HG := Lib.hid (hT.more (keyI (f, t)) (n := (((nR L) (keyI (f, t)) : Nat) : Int) + 1) rfl)
  have hgn : getL P (keyI (f, t)) ≠ none ∨ P.length < 1024 := .inr hl
  have HN := Lib.hid hgn
  obtain ⟨p, rfl⟩ := h.ptr
  clear h hT hgn
  go_enter Tryz.func81, Tryz.ntmps81
  go_wp2_with fail
  refine (oftenS_any P L f t _ hf ht (HH.out.belows ((Below.refl _ w).alloc (Nat.le_refl _) _)) HT.out).mono ?_
  rintro e w1 ⟨rfl, b1⟩
  have A1 := (At.new w #[.int .u32 f, .int .u32 t] 127).belows b1
  have k0 := (A1.cell 0).trans rfl
  have k1 := (A1.cell 1).trans rfl
  clear A1
  have b1 : Below w.heap.size w w1 := ((Below.refl _ w).alloc (Nat.le_refl _) _).trans (b1.mono (by simp))
  have dz : ((((nR L) (keyI (f, t)) : Nat) : Int) + 1 == 0) = false := by rw [beq_eq_false_iff_ne]; omega
  generalize (nR L) (keyI (f, t)) = n at *
  go_wp2_with fail
  refine (keyS_any f t _ hf ht).mono ?_
  rintro e w2 ⟨rfl, b2⟩
  have b2' : Below w.heap.size w w2 := b1.trans (b2.mono b1.size)
  go_wp2_with fail
  refine (put_ok P (keyI (f, t)) ((n : Int) + 1) _ (HH.out.belows b2') HN.out).mono ?_
  rintro e w3 ⟨v3, rfl, t3, b3⟩
  obtain ⟨B3, rfl⟩ := t3.ptr
  go_wp2
  go_ret
  exact ⟨_, _, rfl, t3, HG.out, b2'.trans (b3.mono b2'.size)⟩
set_option maxRecDepth 100000 in
set_option maxHeartbeats 1000000 in
theorem recountS_less {v : Value} (P : List (Int × Int)) (L : List (Nat × Nat)) (f t : Nat) (w : World) (hf : f < 4294967296) (ht : t < 4294967296) (h : IsTree w v P) (hT : Tal P (nR L)) (_hl : P.length ≤ 1024) (hn : (nR L) (keyI (f, t)) ≤ 1000) (h2 : 1 < (nR L) (keyI (f, t))) (q : Int → Nat) (hq : ∀ j, (nR L) j = q j + if j = (keyI (f, t)) then 1 else 0) : Calls Tryz.prog 81 #[v, .agg #[.int .u32 f, .int .u32 t], .int .i64 (-1)] w (RecOut w q) := by
  have HH := Lib.hid h
  have HT := Lib.hid hT
  have HG := Lib.hid (hT.less (keyI (f, t)) (n := (((nR L) (keyI (f, t)) : Nat) : Int) - 1) rfl h2 hq)
  have hgn : getL P (keyI (f, t)) ≠ none ∨ P.length < 1024 := .inl (by rw [hT.2, if_neg (by omega)]; simp)
  have HN := Lib.hid hgn
  obtain ⟨p, rfl⟩ := h.ptr
  clear h hT hgn
  go_enter Tryz.func81, Tryz.ntmps81
  go_wp2_with fail
  refine (oftenS_any P L f t _ hf ht (HH.out.belows ((Below.refl _ w).alloc (Nat.le_refl _) _)) HT.out).mono ?_
  rintro e w1 ⟨rfl, b1⟩
  have A1 := (At.new w #[.int .u32 f, .int .u32 t] 127).belows b1
  have k0 := (A1.cell 0).trans rfl
  have k1 := (A1.cell 1).trans rfl
  clear A1
  have b1 : Below w.heap.size w w1 := ((Below.refl _ w).alloc (Nat.le_refl _) _).trans (b1.mono (by simp))
  have dz : ((((nR L) (keyI (f, t)) : Nat) : Int) + -1 == 0) = false := by rw [beq_eq_false_iff_ne]; omega
  have e0 : (((nR L) (keyI (f, t)) : Nat) : Int) + -1 = (((nR L) (keyI (f, t)) : Nat) : Int) - 1 := rfl
  generalize (nR L) (keyI (f, t)) = n at *
  go_wp2_with fail
  refine (keyS_any f t _ hf ht).mono ?_
  rintro e w2 ⟨rfl, b2⟩
  have b2' : Below w.heap.size w w2 := b1.trans (b2.mono b1.size)
  go_wp2_with fail
  refine (put_ok P (keyI (f, t)) ((n : Int) - 1) _ (HH.out.belows b2') HN.out).mono ?_
  rintro e w3 ⟨v3, rfl, t3, b3⟩
  obtain ⟨B3, rfl⟩ := t3.ptr
  go_wp2
  go_ret
  exact ⟨_, _, rfl, t3, HG.out, b2'.trans (b3.mono b2'.size)⟩
set_option maxRecDepth 100000 in
set_option maxHeartbeats 1000000 in
theorem recountS_gone {v : Value} (P : List (Int × Int)) (L : List (Nat × Nat)) (f t : Nat) (w : World) (hf : f < 4294967296) (ht : t < 4294967296) (h : IsTree w v P) (hT : Tal P (nR L)) (h2 : (nR L) (keyI (f, t)) = 1) (q : Int → Nat) (hq : ∀ j, (nR L) j = q j + if j = (keyI (f, t)) then 1 else 0) : Calls Tryz.prog 81 #[v, .agg #[.int .u32 f, .int .u32 t], .int .i64 (-1)] w (RecOut w q) := by
  have HH := Lib.hid h
  have HT := Lib.hid hT
  have HG := Lib.hid (hT.gone (keyI (f, t)) h2 hq)
  have hgn : getL P (keyI (f, t)) ≠ none := by rw [hT.2, if_neg (by omega)]; simp
  have HN := Lib.hid hgn
  obtain ⟨p, rfl⟩ := h.ptr
  clear h hT hgn
  go_enter Tryz.func81, Tryz.ntmps81
  go_wp2_with fail
  refine (oftenS_any P L f t _ hf ht (HH.out.belows ((Below.refl _ w).alloc (Nat.le_refl _) _)) HT.out).mono ?_
  rintro e w1 ⟨rfl, b1⟩
  have A1 := (At.new w #[.int .u32 f, .int .u32 t] 127).belows b1
  have k0 := (A1.cell 0).trans rfl
  have k1 := (A1.cell 1).trans rfl
  clear A1
  have b1 : Below w.heap.size w w1 := ((Below.refl _ w).alloc (Nat.le_refl _) _).trans (b1.mono (by simp))
  rw [h2]
  go_wp2_with fail
  refine (keyS_any f t _ hf ht).mono ?_
  rintro e w2 ⟨rfl, b2⟩
  have b2' : Below w.heap.size w w2 := b1.trans (b2.mono b1.size)
  go_wp2_with fail
  refine (drop_ok P (keyI (f, t)) _ (HH.out.belows b2') HN.out).mono ?_
  rintro e w3 ⟨v3, rfl, t3, b3⟩
  obtain ⟨B3, rfl⟩ := t3.ptr
  go_wp2
  go_ret
  exact ⟨_, _, rfl, t3, HG.out, b2'.trans (b3.mono b2'.size)⟩
end Go.Proofs.YtlhfaildeemngaaGreat.Tr
/- Contracts: a range's boundaries; a table in memory; New, some. -/
namespace Go.Proofs.YtlhfaildeemngaaGreat.Tr
open Go.RowKit Go.Shelf

/-- A step of a count. -/
def Stp (s : Int) (c : Int) (g q : Int → Nat) : Prop := (s = 1 ∧ ∀ j, q j = g j + if j = c then 1 else 0) ∨ (s = -1 ∧ ∀ j, g j = q j + if j = c then 1 else 0)
theorem recC_any {v : Value} (P : List (Int × Int)) (g q : Int → Nat) (s c : Int) (w : World) (h0 : 0 ≤ c) (h1 : c < 4294967296) (h : IsTree w v P) (hT : Tal P g) (hl : P.length < 1024) (hn : g c ≤ 1000) (hs : Stp s c g q) : Calls Tryz.prog 80 #[v, .int .u32 c, .int .i64 s] w (RecOut w q) := by
  rcases hs with ⟨rfl, hq⟩ | ⟨rfl, hq⟩
  · obtain rfl : q = fun j => g j + if j = c then 1 else 0 := funext hq
    exact recountC_more P g c w h0 h1 h hT hl hn
  · have h2 := hq c
    rw [if_pos rfl] at h2
    by_cases h3 : 1 < g c
    · exact recountC_less P g c w h0 h1 h hT (by omega) hn h3 q hq
    · exact recountC_gone P g c w h0 h1 h hT (by omega) q hq
theorem recS_any {v : Value} (P : List (Int × Int)) (L : List (Nat × Nat)) (q : Int → Nat) (s : Int) (f t : Nat) (w : World) (hf : f < 4294967296) (ht : t < 4294967296) (h : IsTree w v P) (hT : Tal P (nR L)) (hl : P.length < 1024) (hn : nR L (keyI (f, t)) ≤ 1000) (hs : Stp s (keyI (f, t)) (nR L) q) : Calls Tryz.prog 81 #[v, .agg #[.int .u32 f, .int .u32 t], .int .i64 s] w (RecOut w q) := by
  rcases hs with ⟨rfl, hq⟩ | ⟨rfl, hq⟩
  · obtain rfl : q = fun j => nR L j + if j = keyI (f, t) then 1 else 0 := funext hq
    exact recountS_more P L f t w hf ht h hT hl hn
  · have h2 := hq (keyI (f, t))
    rw [if_pos rfl] at h2
    by_cases h3 : 1 < nR L (keyI (f, t))
    · exact recountS_less P L f t w hf ht h hT (by omega) hn h3 q hq
    · exact recountS_gone P L f t w hf ht h hT (by omega) q hq

/-- A slice that reads as these boundaries. -/
def IsC (w : World) (v : Value) (C : List Int) : Prop := ∃ A c, v = .slice A C.length c ∧ (0 < C.length → ∃ g, A = some ⟨g, 0, none⟩ ∧ g < w.heap.size ∧ ∀ k (hk : k < C.length), w.cell? ⟨g, k, none⟩ = some (.int .u32 C[k]))
def ucells (C : List Int) : List Value := C.map fun c => .int .u32 c
theorem isC_of_row {w : World} {base : Nat} {v : Value} {C : List Int} (h : w.ownsRow base 124 1 v C.length (ucells C)) : IsC w v C := by
  rcases h.2 with ⟨rfl, h0⟩ | ⟨g, cap, cur, rfl, hb, hg, hnc, hm, _⟩
  · obtain rfl := List.eq_nil_of_length_eq_zero h0
    exact ⟨none, 0, rfl, fun h => absurd h (by simp)⟩
  · refine ⟨_, cap, rfl, fun _ => ⟨g, rfl, (Array.getElem?_eq_some_iff.1 hg).1, fun k hk => ?_⟩⟩
    rw [World.ownsRow.cellAt h k (by omega)]
    simp [ucells, hk]
theorem info99 : (Tryz.prog.info? 124).map (fun i => (i.zero, i.size, i.bytes)) = some (some (.int .u32 0), 1, 4) := by kernel_rfl
set_option maxRecDepth 100000 in
set_option maxHeartbeats 1000000 in
theorem cutsOf_any (f t : Nat) (w : World) (hf : f < 4294967296) (ht : t < 4294967296) : Calls Tryz.prog 79 #[.agg #[.int .u32 f, .int .u32 t]] w fun e w' => ∃ v, e = .returned v ∧ IsC w' v (cutsR (f, t)) ∧ Below w.heap.size w w' := by
  obtain ⟨i0, hi, hz0, hz1, hz2⟩ := info_parts info99
  have A0 := At.new w #[.int .u32 f, .int .u32 t] 39
  have b0 : Below w.heap.size w (w.alloc (.cells #[.int .u32 f, .int .u32 t] 39)) := (Below.refl _ w).alloc (Nat.le_refl _) _
  by_cases h1 : 0 < f
  · by_cases h2 : t < 4294967295
    · have e : cutsR (f, t) = [(f : Int), (t : Int) + 1] := by simp [cutsR, h1, h2]
      rw [e]
      have d2 : decide ((t : Int) < 4294967295) = true := by simp; omega
      have d3 : decide (t < 4294967295) = true := by simp; omega
      have j1 : IntKind.u32.wrap ((t : Int) + 1) = (t : Int) + 1 := IntWalk.u32_in _ (by omega)
      clear e h2
      go_enter Tryz.func79, Tryz.ntmps79
      go_wp2_with (first | (at_builtin; refine wpList_append_own _ rfl _ _ 122 rfl (w.heap.size + 1) 124 i0 (.int .u32 0) 1 4 Tryz.underlying122 hi hz0 hz1 hz2 rfl (by decide) _ 1 [.int .u32 f] rfl (own1.alloc _) ⟨w1.heap.size, 0, none⟩ 1 1 [.int .u32 ((t : Int) + 1)] rfl rfl (cell_one_new w1 _ _) (by simp [Value.oneCell']) (by simp [maxLen]) (by simp) (by simp; omega) ?_; intro v2 w2 own2 grow2 _) | (at_builtin; refine wpList_append_own _ rfl _ _ 122 rfl (w.heap.size + 1) 124 i0 (.int .u32 0) 1 4 Tryz.underlying122 hi hz0 hz1 hz2 rfl (by decide) _ 0 [] rfl (World.ownsRow_nil _ _ _ _) ⟨w.heap.size + 1, 0, none⟩ 1 1 [.int .u32 f] rfl rfl (by simpa using cell_one_new (w.alloc (.cells #[.int .u32 f, .int .u32 t] 39)) (.int .u32 f) 124) (by simp [Value.oneCell']) (by simp [maxLen]) (by simp) (by simp) ?_; intro v1 w1 own1 grow1 _; have b1 : Below (w.heap.size + 1) (w.alloc (.cells #[.int .u32 f, .int .u32 t] 39)) w1 := ((Below.refl (w.heap.size + 1) (w.alloc (.cells #[.int .u32 f, .int .u32 t] 39))).alloc (by simp) _).grown grow1 (by simp) (fun k hk => by cases hk); obtain ⟨g1, cap1, rfl⟩ := ownsRow_succ own1; have A1 := A0.below b1 (by omega); have c1 := (A1.cell 1).trans rfl; have hs1 := b1.size; simp only [World.size_alloc] at hs1))
      go_ret
      have b2 : Below w.heap.size w w2 := (b0.trans (b1.mono (by omega))).trans (((Below.refl w.heap.size w1).alloc (by omega) _).grown grow2 (by simp; omega) (fun k hk => by have := (own1.lt k hk).1; omega))
      exact ⟨_, rfl, isC_of_row (base := w.heap.size + 1) (C := [(f : Int), (t : Int) + 1]) (by simpa [ucells] using own2), b2⟩
    · have e : cutsR (f, t) = [(f : Int)] := by simp [cutsR, h1, h2]
      rw [e]
      have d2 : decide ((t : Int) < 4294967295) = false := by simp; omega
      have d3 : decide (t < 4294967295) = false := by simp; omega
      clear e h2
      go_enter Tryz.func79, Tryz.ntmps79
      go_wp2_with (at_builtin; refine wpList_append_own _ rfl _ _ 122 rfl (w.heap.size + 1) 124 i0 (.int .u32 0) 1 4 Tryz.underlying122 hi hz0 hz1 hz2 rfl (by decide) _ 0 [] rfl (World.ownsRow_nil _ _ _ _) ⟨w.heap.size + 1, 0, none⟩ 1 1 [.int .u32 f] rfl rfl (by simpa using cell_one_new (w.alloc (.cells #[.int .u32 f, .int .u32 t] 39)) (.int .u32 f) 124) (by simp [Value.oneCell']) (by simp [maxLen]) (by simp) (by simp) ?_; intro v1 w1 own1 grow1 _; have b1 : Below (w.heap.size + 1) (w.alloc (.cells #[.int .u32 f, .int .u32 t] 39)) w1 := ((Below.refl (w.heap.size + 1) (w.alloc (.cells #[.int .u32 f, .int .u32 t] 39))).alloc (by simp) _).grown grow1 (by simp) (fun k hk => by cases hk); obtain ⟨g1, cap1, rfl⟩ := ownsRow_succ own1; have A1 := A0.below b1 (by omega); have c1 := (A1.cell 1).trans rfl; have hs1 := b1.size; simp only [World.size_alloc] at hs1)
      go_ret
      exact ⟨_, rfl, isC_of_row (base := w.heap.size + 1) (C := [(f : Int)]) (by simpa [ucells] using own1), b0.trans (b1.mono (by omega))⟩
  · obtain rfl : f = 0 := by omega
    by_cases h2 : t < 4294967295
    · have e : cutsR (0, t) = [(t : Int) + 1] := by simp [cutsR, h2]
      rw [e]
      have d2 : decide ((t : Int) < 4294967295) = true := by simp; omega
      have d3 : decide (t < 4294967295) = true := by simp; omega
      have j1 : IntKind.u32.wrap ((t : Int) + 1) = (t : Int) + 1 := IntWalk.u32_in _ (by omega)
      clear e h2 h1 hf
      go_enter Tryz.func79, Tryz.ntmps79
      go_wp2_with (at_builtin; refine wpList_append_own _ rfl _ _ 122 rfl (w.heap.size + 1) 124 i0 (.int .u32 0) 1 4 Tryz.underlying122 hi hz0 hz1 hz2 rfl (by decide) _ 0 [] rfl (World.ownsRow_nil _ _ _ _) ⟨w.heap.size + 1, 0, none⟩ 1 1 [.int .u32 ((t : Int) + 1)] rfl rfl (by simpa using cell_one_new (w.alloc (.cells #[.int .u32 (0 : Nat), .int .u32 t] 39)) (.int .u32 ((t : Int) + 1)) 124) (by simp [Value.oneCell']) (by simp [maxLen]) (by simp) (by simp) ?_; intro v1 w1 own1 grow1 _; have b1 : Below (w.heap.size + 1) (w.alloc (.cells #[.int .u32 (0 : Nat), .int .u32 t] 39)) w1 := ((Below.refl (w.heap.size + 1) (w.alloc (.cells #[.int .u32 (0 : Nat), .int .u32 t] 39))).alloc (by simp) _).grown grow1 (by simp) (fun k hk => by cases hk); obtain ⟨g1, cap1, rfl⟩ := ownsRow_succ own1; have A1 := A0.below b1 (by omega); have c1 := (A1.cell 1).trans rfl; have hs1 := b1.size; simp only [World.size_alloc] at hs1)
      go_ret
      exact ⟨_, rfl, isC_of_row (base := w.heap.size + 1) (C := [(t : Int) + 1]) (by simpa [ucells] using own1), b0.trans (b1.mono (by omega))⟩
    · have e : cutsR (0, t) = [] := by simp [cutsR, h2]
      rw [e]
      have d2 : decide ((t : Int) < 4294967295) = false := by simp; omega
      have d3 : decide (t < 4294967295) = false := by simp; omega
      clear e h2 h1 hf
      go_enter Tryz.func79, Tryz.ntmps79
      go_wp2
      go_ret
      exact ⟨_, rfl, ⟨none, 0, rfl, fun h => absurd h (by simp)⟩, b0⟩

/-- A table with these ranges. -/
def IsTab (w : World) (v : Value) (L : List (Nat × Nat)) : Prop := RL L ∧ ∃ (B : Nat) (vr vc : Value) (R C : List (Int × Int)), v = .pointer (some ⟨B, 0, none⟩) ∧ At w B #[vr, vc, .int .i64 (L.length : Int)] 105 ∧ IsTree w vr R ∧ IsTree w vc C ∧ Tal R (nR L) ∧ Tal C (nC L)
/-- A table with these ranges: nil has none. -/
def IsTab0 (w : World) (v : Value) (L : List (Nat × Nat)) : Prop := (v = .pointer none ∧ L = []) ∨ IsTab w v L
theorem IsTab.belows {w w' : World} {v : Value} {L : List (Nat × Nat)} (h : IsTab w v L) (hb : Below w.heap.size w w') : IsTab w' v L := by
  obtain ⟨h1, B, vr, vc, R, C, e, ha, hr, hc, tr, tc⟩ := h
  exact ⟨h1, B, vr, vc, R, C, e, ha.belows hb, hr.belows hb, hc.belows hb, tr, tc⟩
theorem IsTab0.belows {w w' : World} {v : Value} {L : List (Nat × Nat)} (h : IsTab0 w v L) (hb : Below w.heap.size w w') : IsTab0 w' v L := h.imp id fun h => h.belows hb
theorem IsTab.perm {w : World} {v : Value} {L M : List (Nat × Nat)} (h : IsTab w v L) (hp : L.Perm M) : IsTab w v M := by
  obtain ⟨h1, B, vr, vc, R, C, e, ha, hr, hc, tr, tc⟩ := h
  exact ⟨h1.perm hp, B, vr, vc, R, C, e, by rw [← hp.length_eq]; exact ha, hr, hc, by rw [← nR_perm hp]; exact tr, by rw [← nC_perm hp]; exact tc⟩
theorem IsTab.any {w : World} {v : Value} {L : List (Nat × Nat)} (h : IsTab w v L) : IsTab0 w v L := .inr h
theorem IsTab.ptr {w : World} {v : Value} {L : List (Nat × Nat)} (h : IsTab w v L) : ∃ B, v = .pointer (some ⟨B, 0, none⟩) := by
  obtain ⟨h1, B, vr, vc, R, C, e, _⟩ := h
  exact ⟨B, e⟩
theorem IsTab0.ptr {w : World} {v : Value} {L : List (Nat × Nat)} (h : IsTab0 w v L) : ∃ p, v = .pointer p := by
  rcases h with ⟨rfl, _⟩ | h
  · exact ⟨_, rfl⟩
  · obtain ⟨B, rfl⟩ := h.ptr; exact ⟨_, rfl⟩
theorem IsTab0.rl {w : World} {v : Value} {L : List (Nat × Nat)} (h : IsTab0 w v L) : RL L := by
  rcases h with ⟨_, rfl⟩ | h
  · exact RL.nil
  · exact h.1
theorem tab_new (W : World) {vr vc : Value} {R C : List (Int × Int)} {L : List (Nat × Nat)} {n : Int} (hL : RL L) (hn : n = (L.length : Int)) (hr : IsTree W vr R) (hc : IsTree W vc C) (tr : Tal R (nR L)) (tc : Tal C (nC L)) : IsTab (W.alloc (.cells #[vr, vc, .int .i64 n] 105)) (.pointer (some ⟨W.heap.size, 0, none⟩)) L := by
  subst hn
  have b : Below W.heap.size W (W.alloc (.cells #[vr, vc, .int .i64 (L.length : Int)] 105)) := (Below.refl _ W).alloc (Nat.le_refl _) _
  exact ⟨hL, W.heap.size, vr, vc, R, C, rfl, At.new W _ _, hr.belows b, hc.belows b, tr, tc⟩
theorem new_any (w : World) : Calls Tryz.prog 40 #[] w fun e w' => ∃ v, e = .returned v ∧ IsTab w' v [] ∧ Below w.heap.size w w' := by
  go_enter Tryz.func40, Tryz.ntmps40
  go_wp2
  go_ret
  exact ⟨_, rfl, tab_new w RL.nil rfl (.inl ⟨rfl, rfl⟩) (.inl ⟨rfl, rfl⟩) Tal.nil Tal.nil, (Below.refl _ w).alloc (Nat.le_refl _) _⟩
theorem some_any {v : Value} (L : List (Nat × Nat)) (w : World) (h : IsTab0 w v L) : Calls Tryz.prog 62 #[v] w fun e w' => ∃ v', e = .returned v' ∧ IsTab w' v' L ∧ Below w.heap.size w w' := by
  rcases h with ⟨rfl, rfl⟩ | h
  · go_enter Tryz.func62, Tryz.ntmps62
    go_wp2_with (go_at_call 40; refine (new_any _).mono ?_; rintro e w1 ⟨v1, rfl, t1, b1⟩)
    go_ret
    exact ⟨_, rfl, t1, b1⟩
  · obtain ⟨B, rfl⟩ := h.ptr
    go_enter Tryz.func62, Tryz.ntmps62
    go_wp2
    go_ret
    exact ⟨_, rfl, h, Below.refl _ _⟩
/-- Of a table that is not nil. -/
theorem some_same {B : Nat} (w : World) : Calls Tryz.prog 62 #[.pointer (some ⟨B, 0, none⟩)] w fun e w' => e = .returned (.pointer (some ⟨B, 0, none⟩)) ∧ w = w' := by
  go_enter Tryz.func62, Tryz.ntmps62
  go_wp2
  go_ret
  exact ⟨rfl, rfl⟩
end Go.Proofs.YtlhfaildeemngaaGreat.Tr
/- For the program's labels (stage 10): trees and tables do not see the blocks that hold networks; the ranges of rules that come and go. -/
namespace Go.Proofs.YtlhfaildeemngaaGreat
open Go.RowKit Go.Shelf

/-- The blocks of H hold networks. -/
def Nets (H : Nat → Prop) (W : World) : Prop := ∀ b, H b → ∃ cs, At W b cs 28
theorem Nets.belows {H : Nat → Prop} {W W' : World} (h : Nets H W) (hb : Below W.heap.size W W') : Nets H W' := fun b hh => by
  obtain ⟨cs, ha⟩ := h b hh
  exact ⟨cs, ha.belows hb⟩
theorem At.exc {H : Nat → Prop} {W W' : World} {B : Nat} {cs : Array Value} {t : TypeId} (h : At W B cs t) (hx : Exc H W W') (hn : Nets H W) (ht : t ≠ 28) : At W' B cs t :=
  (hx.block B h.lt fun hh => by
    obtain ⟨cs', h'⟩ := hn B hh
    have e := (show W.heap[B]? = _ from h).symm.trans h'
    simp only [Option.some.injEq, Obj.cells.injEq] at e
    exact ht e.2.1).trans h
/-- What is new, too. -/
theorem At.exc_new {H : Nat → Prop} {W W' : World} {B n : Nat} {cs : Array Value} {t : TypeId} (h : At W B cs t) (hx : Exc H W W') (hn : ∀ b, H b → b < n) (hB : n ≤ B) : At W' B cs t :=
  (hx.block B h.lt fun hh => by have := hn B hh; omega).trans h
theorem exc_is_t {H : Nat → Prop} {W W' : World} (hx : Exc H W W') (hn : Nets H W) : ∀ {v : Value} {t : Tr.Bt}, Tr.IsT W v t → Tr.IsT W' v t
  | _, .nil, h => h
  | _, .node _ _ _, ⟨B, vl, vr, e, ha, hl, hr⟩ => ⟨B, vl, vr, e, ha.exc hx hn (by decide), exc_is_t hx hn hl, exc_is_t hx hn hr⟩
theorem exc_is_tree {H : Nat → Prop} {W W' : World} (hx : Exc H W W') (hn : Nets H W) {v : Value} {L : List (Int × Int)} (h : Tr.IsTree W v L) : Tr.IsTree W' v L := by
  rcases h with h | ⟨h1, h2, B, vn, t, e, ha, hi, he, hf⟩
  · exact .inl h
  · exact .inr ⟨h1, h2, B, vn, t, e, ha.exc hx hn (by decide), exc_is_t hx hn hi, he, hf⟩
theorem exc_is_tab {H : Nat → Prop} {W W' : World} (hx : Exc H W W') (hn : Nets H W) {v : Value} {L : List (Nat × Nat)} (h : Tr.IsTab W v L) : Tr.IsTab W' v L := by
  obtain ⟨h1, B, vr, vc, R, C, e, ha, hr, hc, tr, tc⟩ := h
  exact ⟨h1, B, vr, vc, R, C, e, ha.exc hx hn (by decide), exc_is_tree hx hn hr, exc_is_tree hx hn hc, tr, tc⟩
/-- A row that is new. -/
theorem exc_row {H : Nat → Prop} {W W' : World} {base : Nat} {e : TypeId} {n : Nat} {v : Value} {k : Nat} {xs : List Value} (h : W.ownsRow base e n v k xs) (hx : Exc H W W') (hn : ∀ b, H b → b < base) : W'.ownsRow base e n v k xs := by
  refine ⟨h.1, ?_⟩
  rcases h.2 with h0 | ⟨g, cap, cur, e', hb, hg, rest⟩
  · exact .inl h0
  · exact .inr ⟨g, cap, cur, e', hb, (hx.block g (Array.getElem?_eq_some_iff.1 hg).1 fun hh => by have := hn g hh; omega).trans hg, rest⟩
/-! Ranges. -/
theorem ins_perm (r : Ru) (L : List Ru) : (insL r L).Perm (r :: L) := by
  induction L with
  | nil => exact List.Perm.refl _
  | cons x L ih =>
    unfold insL
    split
    · exact List.Perm.refl _
    · exact (ih.cons x).trans (List.Perm.swap r x L)
theorem rgL_ins (r : Ru) (L : List Ru) : (rgL (insL r L)).Perm (rgL L ++ [(r.f, r.t)]) :=
  ((ins_perm r L).map _).trans (List.perm_append_singleton (r.f, r.t) (rgL L)).symm
theorem rgL_del {L : List Ru} (hp : L.Pairwise (fun a b => a.id < b.id)) {x : Ru} (hx : x ∈ L) : (rgL (delL x.id L)).Perm ((rgL L).erase (x.f, x.t)) := by
  have e := ins_del hp hx
  have h1 : (rgL L).Perm (rgL (delL x.id L) ++ [(x.f, x.t)]) := by
    have := rgL_ins x (delL x.id L)
    rwa [e] at this
  have h2 := h1.erase (x.f, x.t)
  refine List.Perm.symm (h2.trans ?_)
  have h3 := (List.perm_append_singleton (x.f, x.t) (rgL (delL x.id L))).erase (x.f, x.t)
  rw [List.erase_cons_head] at h3
  exact h3
theorem bnds_len_perm {L M : List (Nat × Nat)} (h : L.Perm M) : Tr.bnds L = Tr.bnds M := Tr.bnds_perm fun _r => h.mem_iff
end Go.Proofs.YtlhfaildeemngaaGreat
/- Words: traces in memory. The document's Has, Ints, Same. -/
namespace Go.Proofs.YtlhfaildeemngaaGreat
open Go.RowKit Go.Shelf

/-- A trace's value. -/
def tcV (v : Value) (x : Tc) : Value := .agg #[v, .int .i64 x.ft, .int .i64 x.out.d, .int .i64 x.out.p]
end Go.Proofs.YtlhfaildeemngaaGreat
/- Contracts: the document's Trace, of a right network. -/
namespace Go.Proofs.YtlhfaildeemngaaGreat
open Go.RowKit Go.Shelf

theorem intA_one (x : Int) : ∀ u ∈ (intA x).toList, u.oneCell' = true := by
  intro u hu; simp [intA] at hu; subst hu; rfl
theorem infoInt : (Tryz.prog.info? 3).map (fun i => (i.zero, i.size, i.bytes)) = some (some (.int .i64 0), 1, 8) := by kernel_rfl
/-- What Trace answers, of a device that there is. -/
def TrOut (x : Tc) (w : World) (e : Ending) (w' : World) : Prop := ∃ v, e = .returned (.tuple #[tcV v x, .int .i64 0]) ∧ IsF 1 intA w' v x.ds ∧ (∀ g o n c, v = .slice (some ⟨g, o, none⟩) n c → w.heap.size ≤ g) ∧ Below w.heap.size w w'
/-- .. and of one that there is not. -/
def trNo : Value := .tuple #[.agg #[.slice none 0 0, .int .i64 0, .int .i64 0, .int .i64 0], .int .i64 91]
/-- Four stores into the result. -/
def putW (W : World) (R g n cap : Nat) (f pd pp : Int) : World := (((W.setCell ⟨R, 0, none⟩ (.slice (some ⟨g, 0, none⟩) n cap)).setCell ⟨R, 1, none⟩ (.int .i64 f)).setCell ⟨R, 2, none⟩ (.int .i64 pd)).setCell ⟨R, 3, none⟩ (.int .i64 pp)
theorem putW_at {W : World} {R g n cap : Nat} {f pd pp : Int} {v : Value} {x y z : Value} {T : TypeId} (h : At W R #[v, x, y, z] T) : At (putW W R g n cap f pd pp) R #[.slice (some ⟨g, 0, none⟩) n cap, .int .i64 f, .int .i64 pd, .int .i64 pp] T :=
  (((h.set0 0 _).set0 1 _).set0 2 _).set0 3 _
theorem tr_end {V : Tc} {w W : World} {g n cap : Nat} {f pd pp : Int} {D : List Int} (ho : W.ownsRow (w.heap.size + 1 + 1 + 1) 3 1 (.slice (some ⟨g, 0, none⟩) n cap) D.length (fcs intA D)) (hb : Below w.heap.size w W) (hV : V = ⟨D, f, ⟨pd, pp⟩⟩) :
    TrOut V w (.returned (.tuple #[.agg #[.slice (some ⟨g, 0, none⟩) n cap, .int .i64 f, .int .i64 pd, .int .i64 pp], .int .i64 0])) (putW W (w.heap.size + 1) g n cap f pd pp) := by
  subst hV
  have hsz : ∀ j, w.heap.size ≤ (⟨w.heap.size + 1, j, none⟩ : Addr).block := fun j => by show w.heap.size ≤ w.heap.size + 1; omega
  have o1 := row_far ho (grownBy_set W (w.heap.size + 1) 0 (.slice (some ⟨g, 0, none⟩) n cap)) (by omega)
  have o2 := row_far o1 (grownBy_set _ (w.heap.size + 1) 1 (.int .i64 f)) (by omega)
  have o3 := row_far o2 (grownBy_set _ (w.heap.size + 1) 2 (.int .i64 pd)) (by omega)
  have o4 := row_far o3 (grownBy_set _ (w.heap.size + 1) 3 (.int .i64 pp)) (by omega)
  have hge := (ho.lt g rfl).1
  exact ⟨_, rfl, isF_of_row intA_size o4, fun g' o' n' c' e => by cases e; omega, (((hb.setCell (hsz 0) _).setCell (hsz 1) _).setCell (hsz 2) _).setCell (hsz 3) _⟩
end Go.Proofs.YtlhfaildeemngaaGreat
/- Contracts of package label: slices.Clone of numbers, links, rules; copied: a network with lists of its own. -/
namespace Go.Proofs.YtlhfaildeemngaaGreat
open Go.RowKit Go.Shelf

theorem fr_iff {w : World} {v : Value} {L : List Ru} : IsF 7 ruA w v L ↔ IsR w v L := Iff.rfl
theorem lkA_one (l : Lk) : ∀ u ∈ (lkA l).toList, u.oneCell' = true := by
  intro u hu
  obtain ⟨⟨a, b⟩, ⟨c, d⟩⟩ := l
  simp [lkA] at hu
  rcases hu with rfl | rfl | rfl | rfl <;> rfl
theorem infoLink : (Tryz.prog.info? 83).map (fun i => (i.zero, i.size, i.bytes)) = some (some (.agg #[.int .i64 0, .int .i64 0, .int .i64 0, .int .i64 0]), 4, 32) := by kernel_rfl
/-- A row's value is a slice. -/
theorem row_slice {w : World} {base : Nat} {e : TypeId} {n : Nat} {v : Value} {k : Nat} {xs : List Value} (h : w.ownsRow base e n v k xs) : ∃ A c, v = .slice A k c ∧ k ≤ c ∧ c ≤ maxLen := by
  rcases h.2 with ⟨rfl, rfl⟩ | ⟨g, cap, cur, rfl, _, _, h1, h2, _⟩
  · exact ⟨_, _, rfl, Nat.le_refl _, Nat.zero_le _⟩
  · exact ⟨_, _, rfl, h1, h2⟩
theorem row_mono {w : World} {base base' : Nat} {e : TypeId} {n : Nat} {v : Value} {k : Nat} {xs : List Value} (h : w.ownsRow base e n v k xs) (hb : base' ≤ base) : w.ownsRow base' e n v k xs :=
  ⟨h.1, h.2.imp id fun ⟨g, cap, cur, e, h1, rest⟩ => ⟨g, cap, cur, e, Nat.le_trans hb h1, rest⟩⟩

set_option maxRecDepth 100000 in
theorem clone_ints {v : Value} (L : List Int) (w : World) (hlen : L.length ≤ 100000) (hz : IsF 1 intA w v L) : Calls Tryz.prog 37 #[v] w fun e w' => ∃ v', e = .returned v' ∧ w'.ownsRow w.heap.size 3 1 v' L.length (fcs intA L) ∧ Below w.heap.size w w' := by
  obtain ⟨A, c, rfl, n1, m1, z⟩ := hz
  have q22 : ∀ (w : World) (a : Option Addr) (n c n' c' : Nat), (binOp .eql 22 (.slice a n c) (.slice none n' c')).run Tryz.prog w = .ok (.bool a.isNone) w := fun w a n c n' c' => Lib.run_eql_slice_nil w _ _ a n c n' c' Tryz.underlying22
  cases A with
  | none =>
    have hL : L = [] := by
      cases L with
      | nil => rfl
      | cons r L => obtain ⟨g, o, e, _⟩ := z (by simp); cases e
    subst hL
    go_enter Tryz.func37, Tryz.ntmps37
    go_wp2
    go_ret
    exact ⟨_, rfl, World.ownsRow_nil _ _ _ _, Below.refl _ _⟩
  | some ad =>
    have HZ := Lib.hid (z.belows ((Below.refl _ w).alloc (Nat.le_refl _) (.cells #[] 3)))
    clear z
    go_enter Tryz.func37, Tryz.ntmps37
    go_wp2_with (at_builtin; refine wpList_app_f intA_size intA_one Tryz.underlying22 infoInt rfl (by decide) rfl _ _ rfl w.heap.size _ [] rfl (RowF.empty 3 w) _ _ L rfl HZ.out (fun e => by cases e) (by simp only [maxLen, List.length_nil]; omega) (by simp only [List.length_nil]; omega) (by simp) ?_; intro g cap w1 hrow b1)
    go_ret
    exact ⟨_, rfl, by simpa using hrow.1, ((Below.refl _ w).alloc (Nat.le_refl _) _).trans b1⟩

set_option maxRecDepth 100000 in
theorem clone_links {v : Value} (L : List Lk) (w : World) (hlen : L.length ≤ 100000) (hz : IsF 4 lkA w v L) : Calls Tryz.prog 38 #[v] w fun e w' => ∃ v', e = .returned v' ∧ w'.ownsRow w.heap.size 83 4 v' L.length (fcs lkA L) ∧ Below w.heap.size w w' := by
  obtain ⟨A, c, rfl, n1, m1, z⟩ := hz
  have q22 : ∀ (w : World) (a : Option Addr) (n c n' c' : Nat), (binOp .eql 23 (.slice a n c) (.slice none n' c')).run Tryz.prog w = .ok (.bool a.isNone) w := fun w a n c n' c' => Lib.run_eql_slice_nil w _ _ a n c n' c' Tryz.underlying23
  cases A with
  | none =>
    have hL : L = [] := by
      cases L with
      | nil => rfl
      | cons r L => obtain ⟨g, o, e, _⟩ := z (by simp); cases e
    subst hL
    go_enter Tryz.func38, Tryz.ntmps38
    go_wp2
    go_ret
    exact ⟨_, rfl, World.ownsRow_nil _ _ _ _, Below.refl _ _⟩
  | some ad =>
    have HZ := Lib.hid (z.belows ((Below.refl _ w).alloc (Nat.le_refl _) (.cells #[] 83)))
    clear z
    go_enter Tryz.func38, Tryz.ntmps38
    go_wp2_with (at_builtin; refine wpList_app_f lkA_size lkA_one Tryz.underlying23 infoLink rfl (by decide) rfl _ _ rfl w.heap.size _ [] rfl (RowF.empty 83 w) _ _ L rfl HZ.out (fun e => by cases e) (by simp only [maxLen, List.length_nil]; omega) (by simp only [List.length_nil]; omega) (by simp) ?_; intro g cap w1 hrow b1)
    go_ret
    exact ⟨_, rfl, by simpa using hrow.1, ((Below.refl _ w).alloc (Nat.le_refl _) _).trans b1⟩

set_option maxRecDepth 100000 in
theorem clone_rules {v : Value} (L : List Ru) (w : World) (hlen : L.length ≤ 100000) (hz : IsF 7 ruA w v L) : Calls Tryz.prog 39 #[v] w fun e w' => ∃ v', e = .returned v' ∧ w'.ownsRow w.heap.size 41 7 v' L.length (fcs ruA L) ∧ Below w.heap.size w w' := by
  obtain ⟨A, c, rfl, n1, m1, z⟩ := hz
  have q22 : ∀ (w : World) (a : Option Addr) (n c n' c' : Nat), (binOp .eql 26 (.slice a n c) (.slice none n' c')).run Tryz.prog w = .ok (.bool a.isNone) w := fun w a n c n' c' => Lib.run_eql_slice_nil w _ _ a n c n' c' Tryz.underlying26
  cases A with
  | none =>
    have hL : L = [] := by
      cases L with
      | nil => rfl
      | cons r L => obtain ⟨g, o, e, _⟩ := z (by simp); cases e
    subst hL
    go_enter Tryz.func39, Tryz.ntmps39
    go_wp2
    go_ret
    exact ⟨_, rfl, World.ownsRow_nil _ _ _ _, Below.refl _ _⟩
  | some ad =>
    have HZ := Lib.hid (z.belows ((Below.refl _ w).alloc (Nat.le_refl _) (.cells #[] 41)))
    clear z
    go_enter Tryz.func39, Tryz.ntmps39
    go_wp2_with (at_builtin; refine wpList_app_f ruA_size7 ruA_one Tryz.underlying26 infoRule rfl (by decide) rfl _ _ rfl w.heap.size _ [] rfl (RowF.empty 41 w) _ _ L rfl HZ.out (fun e => by cases e) (by simp only [maxLen, List.length_nil]; omega) (by simp only [List.length_nil]; omega) (by simp) ?_; intro g cap w1 hrow b1)
    go_ret
    exact ⟨_, rfl, by simpa using hrow.1, ((Below.refl _ w).alloc (Nat.le_refl _) _).trans b1⟩
end Go.Proofs.YtlhfaildeemngaaGreat
/- Plain: rows of one's own, written in place (over any program): copy, append where there is room, clear. -/
namespace Go.Proofs.YtlhfaildeemngaaGreat
open Go.RowKit Go.Shelf

section
variable {P : Program} {α : Type} {n : Nat} {f : α → Array Value}
theorem fcs_take (hf : ∀ r, (f r).size = n) (L : List α) (i : Nat) : fcs f (L.take i) = (fcs f L).take (i * n) := by
  induction L generalizing i with
  | nil => simp [fcs]
  | cons x L ih =>
    cases i with
    | zero => simp [fcs]
    | succ i =>
      have h1 : (f x).toList.take ((i + 1) * n) = (f x).toList := List.take_of_length_le (by rw [Array.length_toList, hf, Nat.succ_mul]; omega)
      rw [List.take_succ_cons, fcs_cons, fcs_cons, ih, List.take_append, Array.length_toList, hf, h1, show (i + 1) * n - n = i * n by rw [Nat.succ_mul]; omega]
theorem fcs_drop (hf : ∀ r, (f r).size = n) (L : List α) (i : Nat) : fcs f (L.drop i) = (fcs f L).drop (i * n) := by
  induction L generalizing i with
  | nil => simp [fcs]
  | cons x L ih =>
    cases i with
    | zero => simp [fcs]
    | succ i =>
      have h1 : (f x).toList.drop ((i + 1) * n) = [] := List.drop_of_length_le (by rw [Array.length_toList, hf, Nat.succ_mul]; omega)
      rw [List.drop_succ_cons, fcs_cons, ih, List.drop_append, Array.length_toList, hf, h1, show (i + 1) * n - n = i * n by rw [Nat.succ_mul]; omega]
      simp
/-- 'copy' within or into a row of one's own. -/
theorem run_copy_rowk (w : World) (dT sT ty elem : TypeId) (k g o dLen dCap : Nat) (a : Addr) (sLen sCap : Nat) (cur : Array Value) (t : TypeId) (cs : List Value) (m : Nat)
    (hu : P.underlying dT = some (.slice elem)) (hs : (P.info? elem).map (·.size) = some k) (hg : At w g cur t) (hm : Nat.min sLen dLen = m) (hn : cs.length = m * k)
    (hsrc : ∀ j v, cs[j]? = some v → w.cell? (a.add j) = some v) (hfit : o + cs.length ≤ cur.size) (h1 : ∀ v ∈ cs, v.oneCell' = true) :
    (Builtin.copy_ #[dT, sT] ty #[.slice (some ⟨g, o, none⟩) dLen dCap, .slice (some a) sLen sCap]).run P w = .ok (goInt m) (w.setRow g (cur.toList.take o ++ cs ++ cur.toList.drop (o + cs.length)).toArray) := by
  have hl := run_firstCells_some (P := P) w k m a sLen sCap cs hn hsrc
  have hst := run_storeCells_at P g o t cs 0 cur w hg (by simpa using hfit) h1
  cases hq : P.info? elem with
  | none => simp [hq] at hs
  | some i =>
    have hi : i.size = k := by simpa [hq] using hs
    simp only [Nat.add_zero] at hst
    simp [Builtin.copy_, run_underlying hu, Builtin.lenOf, sizeOf, typeInfo, hq, hi, hm, hl, hst]
/-- 'append' onto a row of one's own that has room. -/
theorem run_append_rowk (w : World) (t tx ty e e' : TypeId) (i : TypeInfo) (ht : P.underlying t = some (.slice e)) (htx : P.underlying tx = some (.slice e')) (hi : P.info? e = some i) (g sLen sCap : Nat) (a : Addr) (m c : Nat) (cur : Array Value) (T : TypeId) (cs : List Value)
    (hg : At w g cur T) (hn : cs.length = m * i.size) (hsrc : ∀ j v, cs[j]? = some v → w.cell? (a.add j) = some v) (hroom : sLen + m ≤ sCap) (hfit : sLen * i.size + cs.length ≤ cur.size) (h1 : ∀ v ∈ cs, v.oneCell' = true) :
    (Builtin.append_ #[t, tx] ty #[.slice (some ⟨g, 0, none⟩) sLen sCap, .slice (some a) m c]).run P w = .ok (.slice (some ⟨g, 0, none⟩) (sLen + m) sCap) (w.setRow g (cur.toList.take (sLen * i.size) ++ cs ++ cur.toList.drop (sLen * i.size + cs.length)).toArray) := by
  have hl := run_firstCells_some (P := P) w i.size m a m c cs hn hsrc
  have hst := run_storeCells_at P g (sLen * i.size) T cs 0 cur w hg (by simpa using hfit) h1
  simp only [Nat.add_zero] at hst
  simp [Builtin.append_, Builtin.lenOf, run_underlying ht, run_underlying htx, sizeOf, typeInfo, hi, hroom, hl, Addr.add_lit, hst]
/-- 'clear' of a piece of a row of one's own. -/
theorem run_clear_rowk (w : World) (t e ty : TypeId) (z : Value) (ht : P.underlying t = some (.slice e)) (hv : ∀ w, (zeroValue e).run P w = .ok z w) (g o m c : Nat) (cur : Array Value) (T : TypeId) (hg : At w g cur T) (hm : 0 < m)
    (zs : List Value) (hz : (Builtin.zeroCells z.cells m).toList = zs) (hfit : o + zs.length ≤ cur.size) (h1 : ∀ v ∈ zs, v.oneCell' = true) :
    (Builtin.clear_ #[t] ty #[.slice (some ⟨g, o, none⟩) m c]).run P w = .ok (.tuple #[]) (w.setRow g (cur.toList.take o ++ zs ++ cur.toList.drop (o + zs.length)).toArray) := by
  have hst := run_storeCells_at P g o T zs 0 cur w hg (by simpa using hfit) h1
  simp only [Nat.add_zero] at hst
  obtain ⟨m, rfl⟩ : ∃ k, m = k + 1 := ⟨m - 1, by omega⟩
  simp [Builtin.clear_, run_underlying ht, hv, hz, hst]
/-- An append with a known run, as one step of a region that draws. -/
theorem step_app_run {ops : Array Oper} {o : Oper} {a : Act} {w : World} {K : Act → World → Prop} {Q : Exit → Act → World → Prop} {E : Prop}
    (hg : o.guard = none) (d x : Operand) (dT sT : TypeId) (hop : o.op = Op.call { callee := Callee.builtin Builtin.append, args := #[d, x], argTypes := #[dT, sT] })
    (v u : Value) (hd : a.eval d = v) (hx : a.eval x = u) {v' : Value} {w' : World} (hr : (Builtin.append_ #[dT, sT] o.type #[v, u]).run P w = .ok v' w') (hK : K (a.put o.dst v') w') :
    if Region.wanted o (yielded ops a.tmps) = true then Oper.wp P o a w K Q else E := by
  have hw : Region.wanted o (yielded ops a.tmps) = true := by simp [Region.wanted, hg]
  rw [if_pos hw]
  unfold Oper.wp
  simp [execOp, hop, resolve, invoke, builtin, hd, hx, hr, Result.andThen]
  exact hK

theorem grown_setRow (w : World) (g : Nat) (C : Array Value) : w.grownBy (w.setRow g C) (some g) :=
  ⟨rfl, rfl, rfl, by simp, fun k _ hk => setRow_other w g k C fun e => hk (by rw [e])⟩
theorem At.setRow {w : World} {g : Nat} {cur : Array Value} {t : TypeId} (h : At w g cur t) (C : Array Value) : At (w.setRow g C) g C t := setRow_heap w g cur C t (0, 0) h
theorem grown_drew {w w' : World} {o : Option Nat} (h : w.grownBy w' o) : w.grownBy w'.drew o := ⟨h.os, h.tape, h.output, h.size, h.block⟩
theorem grown_of_drew {w w' : World} {o : Option Nat} (h : w.drew.grownBy w' o) : w.grownBy w' o := ⟨h.os, h.tape, h.output, h.size, h.block⟩
theorem grown_tr2 {w w1 w2 : World} {o : Option Nat} (h : w.grownBy w1 o) (k : w1.grownBy w2 o) : w.grownBy w2 o :=
  ⟨k.os.trans h.os, k.tape.trans h.tape, k.output.trans h.output, Nat.le_trans h.size k.size, fun b hb hne => (k.block b (Nat.lt_of_lt_of_le hb h.size) hne).trans (h.block b hb hne)⟩
/-- A row by its block. -/
theorem own_of {w : World} {base : Nat} {e : TypeId} {g cap k : Nat} {cur : Array Value} {xs : List Value} (hb : base ≤ g) (hA : At w g cur e) (hk : k ≤ cap) (hm : cap ≤ maxLen) (hs : cur.size = cap * n) (hx : cur.toList.take (k * n) = xs) (hl : xs.length = k * n) :
    w.ownsRow base e n (.slice (some ⟨g, 0, none⟩) k cap) k xs := ⟨hl, .inr ⟨g, cap, cur, rfl, hb, hA, hk, hm, hs, hx⟩⟩
theorem shape_at {w : World} {B : Nat} {cs : Array Value} {t : TypeId} (h : At w B cs t) : w.shape? B = some (t, cs.size) := by
  unfold World.shape?
  rw [show w.heap[B]? = _ from h]
end
/-! Plain: where one element comes in, or goes. -/
section
variable {A B R S : List Value} {p q r : Nat}
/-- There is room: what stood from the place on is moved, then the new one is written. -/
theorem shift_in {X : List Value} (hX : X = A ++ B ++ S) (ha : A.length = p) (hb : B.length = q) (hr : R.length = r) (hs : r ≤ S.length) {C1 C2 : List Value}
    (h1 : C1 = X.take (p + r) ++ B ++ X.drop (p + r + q)) (h2 : C2 = C1.take p ++ R ++ C1.drop (p + r)) : C2.take (p + r + q) = A ++ R ++ B ∧ C2.length = X.length ∧ C1.length = X.length := by
  have hl : X.length = p + q + S.length := by rw [hX]; simp; omega
  have hl1 : C1.length = X.length := by rw [h1]; simp; omega
  have e1 : C1.take p = A := by
    rw [h1, List.append_assoc, List.take_append_of_le_length (by simp; omega), List.take_take, Nat.min_eq_left (by omega), hX, List.append_assoc, List.take_append_of_le_length (by omega), List.take_of_length_le (by omega)]
  have e2 : C1.drop (p + r) = B ++ X.drop (p + r + q) := by
    rw [h1, List.append_assoc, List.drop_append_of_le_length (by simp; omega), List.drop_of_length_le (by simp; omega), List.nil_append]
  refine ⟨?_, ?_, hl1⟩
  · rw [h2, e1, e2, ← List.append_assoc, List.take_append_of_le_length (by simp; omega), List.take_of_length_le (by simp; omega)]
  · rw [h2, e1, e2]; simp; omega
/-- There is none: a new row. -/
theorem grow_in {X : List Value} (hX : X.take p = A) (ha : A.length = p) (hb : B.length = q) (hr : R.length = r) (hs : p + r + q ≤ X.length) {C1 C2 : List Value}
    (h1 : C1 = X.take p ++ R ++ X.drop (p + r)) (h2 : C2 = C1.take (p + r) ++ B ++ C1.drop (p + r + q)) : C2.take (p + r + q) = A ++ R ++ B ∧ C2.length = X.length ∧ C1.length = X.length := by
  have hl1 : C1.length = X.length := by rw [h1]; simp; omega
  have e1 : C1.take (p + r) = A ++ R := by
    rw [h1, hX, List.take_append_of_le_length (by simp; omega), List.take_of_length_le (by simp; omega)]
  refine ⟨?_, ?_, hl1⟩
  · rw [h2, e1, List.take_append_of_le_length (by simp; omega), List.take_of_length_le (by simp; omega)]
  · rw [h2, e1]; simp; omega
/-- One goes. -/
theorem shift_out {X : List Value} (hX : X = A ++ R ++ B ++ S) (ha : A.length = p) (hb : B.length = q) (hr : R.length = r) {Z : List Value} (hz : Z.length = r) {C1 C2 : List Value}
    (h1 : C1 = X.take p ++ B ++ X.drop (p + q)) (h2 : C2 = C1.take (p + q) ++ Z ++ C1.drop (p + q + r)) : C2.take (p + q) = A ++ B ∧ C2.length = X.length ∧ C1.length = X.length := by
  have hl : X.length = p + r + q + S.length := by rw [hX]; simp; omega
  have hl1 : C1.length = X.length := by rw [h1]; simp; omega
  have e1 : X.take p = A := by
    rw [hX, List.append_assoc, List.append_assoc, List.take_append_of_le_length (by omega), List.take_of_length_le (by omega)]
  have e2 : C1.take (p + q) = A ++ B := by
    rw [h1, e1, List.take_append_of_le_length (by simp; omega), List.take_of_length_le (by simp; omega)]
  refine ⟨?_, ?_, hl1⟩
  · rw [h2, e2, List.append_assoc, List.take_append_of_le_length (by simp; omega), List.take_of_length_le (by simp; omega)]
  · rw [h2, e2]; simp; omega
end
end Go.Proofs.YtlhfaildeemngaaGreat
/- Contracts of package label: slices.Insert, slices.Delete on a row of rules of one's own. -/
namespace Go.Proofs.YtlhfaildeemngaaGreat
open Go.RowKit Go.Shelf

/-- A row of one's own that reads as these rules, written in place or made anew. -/
def RowOut (w : World) (base : Nat) (v : Value) (M : List Ru) (e : Ending) (w' : World) : Prop := ∃ v', e = .returned v' ∧ w'.ownsRow base 41 7 v' M.length (fcs ruA M) ∧ w.grownBy w' v.ownBlock
theorem sizeRule : (Tryz.prog.info? 41).map (·.size) = some 7 := by kernel_rfl
set_option maxRecDepth 100000 in
theorem insert_end {v : Value} {base : Nat} (L : List Ru) (r : Ru) (VB : Nat) (w : World) (hl : L.length ≤ 100000) (hrow : w.ownsRow base 41 7 v L.length (fcs ruA L)) (hbase : base ≤ w.heap.size) (hv : At w VB (ruA r) 41) :
    Calls Tryz.prog 25 #[v, .int .i64 (L.length : Int), .slice (some ⟨VB, 0, none⟩) 1 1] w (RowOut w base v (L ++ [r])) := by
  obtain ⟨i0, hi0, hz0, hz1, hz2⟩ := info_parts infoRule
  have hn : ∀ (j : Nat) (u : Value), (fcs ruA [r])[j]? = some u → w.cell? ((⟨VB, 0, none⟩ : Addr).add j) = some u := by
    intro j u h
    rw [add_none, hv.cell j, ← Array.getElem?_toList]
    simpa [fcs] using h
  have HN := Lib.hid hn
  have HR := Lib.hid hrow
  obtain ⟨A, c, rfl, hc1, hc2⟩ := row_slice hrow
  clear hn hrow hv
  go_enter Tryz.func25, Tryz.ntmps25
  go_wp2_with (at_builtin; refine wpList_append_own _ rfl _ _ 26 rfl base 41 i0 _ 7 48 Tryz.underlying26 hi0 hz0 hz1 hz2 rfl (by decide) _ _ _ rfl HR.out ⟨VB, 0, none⟩ 1 1 (fcs ruA [r]) rfl rfl HN.out (fcs_one ruA_one [r]) (by simp only [maxLen]; omega) (by omega) hbase ?_; intro v' w' h1 h2 h3; replace h2 : w.grownBy w' (Value.slice A L.length c).ownBlock := h2)
  all_goals go_ret
  all_goals exact ⟨v', rfl, by rw [fcs_append, List.length_append]; exact h1, by cases A <;> exact h2⟩

set_option maxRecDepth 100000 in
set_option maxHeartbeats 1000000 in
/-- There is room. -/
theorem insert_room {base g cap : Nat} {cur : Array Value} (L : List Ru) (i : Nat) (r : Ru) (VB : Nat) (w : World) (hi : i < L.length) (hl : L.length ≤ 100000) (hb : base ≤ g) (hA : At w g cur 41) (hcap : L.length + 1 ≤ cap) (hm : cap ≤ maxLen) (hs : cur.size = cap * 7) (hx : cur.toList.take (L.length * 7) = fcs ruA L) (hv : At w VB (ruA r) 41) (hne : VB ≠ g) :
    Calls Tryz.prog 25 #[.slice (some ⟨g, 0, none⟩) L.length cap, .int .i64 (i : Int), .slice (some ⟨VB, 0, none⟩) 1 1] w (RowOut w base (.slice (some ⟨g, 0, none⟩) L.length cap) (L.take i ++ [r] ++ L.drop i)) := by
  have hm' : cap ≤ 9223372036854775807 := by unfold maxLen at hm; omega
  obtain ⟨B, hB⟩ : ∃ B, B = fcs ruA (L.drop i) := ⟨_, rfl⟩
  obtain ⟨R, hR⟩ : ∃ R, R = (ruA r).toList := ⟨_, rfl⟩
  have hbl : B.length = (L.length - i) * 7 := by rw [hB, fcs_length ruA_size7, List.length_drop]
  have hrl : R.length = 7 := by rw [hR]; rfl
  have hB1 : ∀ u ∈ B, u.oneCell' = true := by rw [hB]; exact fcs_one ruA_one _
  have hR1 : ∀ u ∈ R, u.oneCell' = true := by rw [hR]; exact ruA_one r
  have hX : cur.toList = fcs ruA (L.take i) ++ B ++ cur.toList.drop (L.length * 7) := by
    conv => lhs; rw [← List.take_append_drop (L.length * 7) cur.toList, hx]
    rw [hB, ← fcs_append, List.take_append_drop]
  have hal : (fcs ruA (L.take i)).length = i * 7 := by rw [fcs_length ruA_size7, List.length_take, Nat.min_eq_left (by omega)]
  have hsl : 7 ≤ (cur.toList.drop (L.length * 7)).length := by rw [List.length_drop, Array.length_toList, hs]; omega
  obtain ⟨C1, hC1⟩ : ∃ C1, C1 = cur.toList.take (i * 7 + 7) ++ B ++ cur.toList.drop (i * 7 + 7 + (L.length - i) * 7) := ⟨_, rfl⟩
  obtain ⟨C2, hC2⟩ : ∃ C2, C2 = C1.take (i * 7) ++ R ++ C1.drop (i * 7 + 7) := ⟨_, rfl⟩
  obtain ⟨k1, k2, k3⟩ := shift_in hX hal hbl hrl hsl hC1 hC2
  have z1 : C1.toArray.size = cap * 7 := by rw [← hs, ← Array.length_toList (xs := cur), ← k3]; rfl
  have z2 : C2.toArray.size = cap * 7 := by rw [← hs, ← Array.length_toList (xs := cur), ← k2]; rfl
  have hsB : ∀ (W : World), (∀ x, W.cell? x = w.cell? x) → ∀ j u, B[j]? = some u → W.cell? ((⟨g, i * 7, none⟩ : Addr).add j) = some u := fun W hW j u h => by
    rw [addr_off, hW, hA.cell, ← Array.getElem?_toList, hX, List.append_assoc, List.getElem?_append_right (by omega), hal, show i * 7 + j - i * 7 = j by omega, List.getElem?_append_left (List.getElem?_eq_some_iff.1 h).1]
    exact h
  have hsR : ∀ (W : World), At W VB (ruA r) 41 → ∀ j u, R[j]? = some u → W.cell? ((⟨VB, 0, none⟩ : Addr).add j) = some u := fun W hW j u h => by
    rw [add_none, hW.cell j, ← Array.getElem?_toList, ← hR]; exact h
  have hcp1 : ∀ ty dc sc, (Builtin.copy_ #[26, 26] ty #[.slice (some ⟨g, (i + 1) * 7, none⟩) (L.length - i) dc, .slice (some ⟨g, i * 7, none⟩) (L.length + 1 - i) sc]).run Tryz.prog w.drew = .ok (goInt ((L.length - i : Nat) : Int)) (w.drew.setRow g C1.toArray) := fun ty dc sc => by
    have h := run_copy_rowk (P := Tryz.prog) w.drew 26 26 ty 41 7 g ((i + 1) * 7) (L.length - i) dc ⟨g, i * 7, none⟩ (L.length + 1 - i) sc cur 41 B (L.length - i) Tryz.underlying26 sizeRule hA (by simp only [Nat.min_def]; split <;> omega) hbl (hsB _ fun _ => rfl) (by rw [hs, hbl]; omega) hB1
    rw [h, hC1, hbl, show (i + 1) * 7 = i * 7 + 7 by omega]
  have A1 : At (w.drew.setRow g C1.toArray) g C1.toArray 41 := At.setRow (show At w.drew g cur 41 from hA) _
  have V1 : At (w.drew.setRow g C1.toArray) VB (ruA r) 41 := (show At w.drew VB (ruA r) 41 from hv).kept (grown_setRow _ _ _) (fun e => hne (Option.some.inj e))
  obtain ⟨W1, hW1⟩ : ∃ W1, W1 = w.drew.setRow g C1.toArray := ⟨_, rfl⟩
  rw [← hW1] at hcp1 A1 V1
  have hcp2 : ∀ ty dc, (Builtin.copy_ #[26, 26] ty #[.slice (some ⟨g, i * 7, none⟩) (L.length + 1 - i) dc, .slice (some ⟨VB, 0, none⟩) 1 1]).run Tryz.prog W1 = .ok (goInt 1) (W1.setRow g C2.toArray) := fun ty dc => by
    have h := run_copy_rowk (P := Tryz.prog) W1 26 26 ty 41 7 g (i * 7) (L.length + 1 - i) dc ⟨VB, 0, none⟩ 1 1 C1.toArray 41 R 1 Tryz.underlying26 sizeRule A1 (by simp only [Nat.min_def]; split <;> omega) (by rw [hrl]) (hsR _ V1) (by rw [z1, hrl]; omega) hR1
    rw [h, hrl, hC2]; rfl
  have hov : ∀ lb cb, (callFunc 48 #[.slice (some ⟨VB, 0, none⟩) 1 1, .slice (some ⟨g, (i + 1) * 7, none⟩) lb cb]).run Tryz.prog w = .ok (.value (.bool false)) w := fun lb cb => by
    rw [run_callFunc_extern Tryz.func48 (by kernel_rfl) (by kernel_rfl) (by kernel_rfl) (e := Extern.SlicesOverlaps.overlaps #[26, 26] #[4]) (by kernel_rfl),
      Lib.run_overlaps_apart w 26 4 41 Tryz.underlying26 7 Tryz.sizeOf41 ⟨VB, 0, none⟩ ⟨g, (i + 1) * 7, none⟩ 1 1 lb cb hne 41 41 7 (cap * 7) (shape_at hv) (by have := shape_at hA; rwa [hs] at this) (by omega) (hv.frozen 0) (hv.frozen 7)]
    rfl
  have HO := Lib.hid (show RowOut w base (.slice (some ⟨g, 0, none⟩) L.length cap) (L.take i ++ [r] ++ L.drop i) (.returned (.slice (some ⟨g, 0, none⟩) (L.length + 1) cap)) (W1.setRow g C2.toArray) from by
    have e1 : (L.take i ++ [r] ++ L.drop i).length = L.length + 1 := by simp; omega
    refine ⟨_, rfl, ?_, ?_⟩
    · rw [e1]
      refine own_of hb (At.setRow A1 _) (by omega) hm z2 ?_ (by rw [fcs_length ruA_size7, e1])
      simp only
      rw [show (L.length + 1) * 7 = i * 7 + 7 + (L.length - i) * 7 by omega, k1, fcs_append, fcs_append, hB, hR]
      simp [fcs]
    · rw [hW1]
      exact grown_tr2 (grown_of_drew (grown_setRow w.drew g _)) (grown_setRow _ _ _))
  have n1 : ¬ ((i : Int) = (L.length : Int)) := by omega
  have n2 : ¬ (cap = i) := by omega
  have n3 : ¬ (cap = i + 1) := by omega
  have j1 : IntKind.i64.wrap ((i : Int) + 1) = (i : Int) + 1 := IntWalk.i64_in _ (by omega)
  have j2 : IntKind.i64.wrap ((L.length : Int) + 1) = (L.length : Int) + 1 := IntWalk.i64_in _ (by omega)
  have t1 : ((i : Int) + 1).toNat = i + 1 := by omega
  have t2 : (0 : Int) ≤ (i : Int) + 1 := by omega
  have t4 : (i : Int) ≤ (L.length : Int) + 1 := by omega
  have t3 : i ≤ L.length := by omega
  have mixed : Tryz.prog.follows Departure.mixedOrders = true := by kernel_rfl
  clear k1 k2 k3 z1 z2 hC1 hC2 hX hal hsl hsB hsR hB1 hR1 hx hs hA A1 V1 hv hW1
  generalize L.length = N at *
  go_enter Tryz.func25, Tryz.ntmps25
  go_wp2_with (simp only [hov])
  go_region_law_o (refine step_copy_runI rfl _ _ 26 26 rfl _ _ (by simp [Act.eval, Act.put]) (by simp [Act.eval, Act.put]) (hcp1 _ _ _) ?_)
  go_wp2_with (at_builtin; refine wpList_copy_runI _ rfl _ _ 26 26 rfl _ _ rfl rfl (hcp2 _ _) ?_)
  go_ret
  exact HO.out

set_option maxRecDepth 100000 in
set_option maxHeartbeats 1000000 in
/-- There is none: a new row. -/
theorem insert_grow {base g cap : Nat} {cur : Array Value} (L : List Ru) (i : Nat) (r : Ru) (VB : Nat) (w : World) (hi : i < L.length) (hl : L.length ≤ 100000) (hbase : base ≤ w.heap.size) (hA : At w g cur 41) (hnc : L.length ≤ cap) (hcap : cap < L.length + 1) (hx : cur.toList.take (L.length * 7) = fcs ruA L) (hv : At w VB (ruA r) 41) :
    Calls Tryz.prog 25 #[.slice (some ⟨g, 0, none⟩) L.length cap, .int .i64 (i : Int), .slice (some ⟨VB, 0, none⟩) 1 1] w (RowOut w base (.slice (some ⟨g, 0, none⟩) L.length cap) (L.take i ++ [r] ++ L.drop i)) := by
  obtain ⟨i0, hi0, hz0, hz1, hz2⟩ := info_parts infoRule
  obtain ⟨z, hz⟩ : ∃ z, z = Value.agg #[.int .i64 0, .int .i64 0, .int .i64 0, .int .i64 0, .int .u32 0, .int .u32 0, .int .i64 0] := ⟨_, rfl⟩
  have hzs : z.cells.size = 7 := by rw [hz]; rfl
  rw [← hz] at hz0
  obtain ⟨B, hB⟩ : ∃ B, B = fcs ruA (L.drop i) := ⟨_, rfl⟩
  obtain ⟨R, hR⟩ : ∃ R, R = (ruA r).toList := ⟨_, rfl⟩
  obtain ⟨A, hAA⟩ : ∃ A, A = fcs ruA (L.take i) := ⟨_, rfl⟩
  have hbl : B.length = (L.length - i) * 7 := by rw [hB, fcs_length ruA_size7, List.length_drop]
  have hrl : R.length = 7 := by rw [hR]; rfl
  have hal : A.length = i * 7 := by rw [hAA, fcs_length ruA_size7, List.length_take, Nat.min_eq_left (by omega)]
  have hB1 : ∀ u ∈ B, u.oneCell' = true := by rw [hB]; exact fcs_one ruA_one _
  have hR1 : ∀ u ∈ R, u.oneCell' = true := by rw [hR]; exact ruA_one r
  have hX : cur.toList = A ++ B ++ cur.toList.drop (L.length * 7) := by
    conv => lhs; rw [← List.take_append_drop (L.length * 7) cur.toList, hx]
    rw [hAA, hB, ← fcs_append, List.take_append_drop]
  obtain ⟨G, hG⟩ : ∃ G, G = grownCap w (L.length + 1) cap 41 := ⟨_, rfl⟩
  have hGn : L.length + 1 ≤ G := by rw [hG]; exact grownCap_ge w _ _ _
  have hGm : G ≤ maxLen := by rw [hG]; exact grownCap_le_maxLen w _ _ _ (by unfold maxLen; omega)
  have hG63 : G ≤ 9223372036854775807 := by unfold maxLen at hGm; omega
  obtain ⟨ROW, hROW⟩ : ∃ ROW : Array Value, ROW = A.toArray ++ Builtin.zeroCells z.cells (L.length + 1 - i) ++ Builtin.zeroCells z.cells (G - (L.length + 1)) := ⟨_, rfl⟩
  have hRs : ROW.size = G * 7 := by
    rw [hROW]
    simp [Builtin.zeroCells, hzs, hal]
    omega
  have hRt : ROW.toList.take (i * 7) = A := by
    rw [hROW, Array.toList_append, Array.toList_append, List.append_assoc, ← hal, List.take_left']
    rfl
  obtain ⟨C1, hC1⟩ : ∃ C1, C1 = ROW.toList.take (i * 7) ++ R ++ ROW.toList.drop (i * 7 + 7) := ⟨_, rfl⟩
  obtain ⟨C2, hC2⟩ : ∃ C2, C2 = C1.take (i * 7 + 7) ++ B ++ C1.drop (i * 7 + 7 + (L.length - i) * 7) := ⟨_, rfl⟩
  obtain ⟨k1, k2, k3⟩ := grow_in hRt hal hbl hrl (by have e : ROW.toList.length = G * 7 := (Array.length_toList (xs := ROW)).trans hRs; omega) hC1 hC2
  have z1 : C1.toArray.size = G * 7 := by rw [← hRs, ← Array.length_toList (xs := ROW), ← k3]; rfl
  have z2 : C2.toArray.size = G * 7 := by rw [← hRs, ← Array.length_toList (xs := ROW), ← k2]; rfl
  have hold : (Builtin.firstCells i0.size i (.slice (some ⟨g, 0, none⟩) i cap)).run Tryz.prog w.drew = .ok A.toArray w.drew := by
    rw [hz1]
    exact run_firstCells_some w.drew 7 i ⟨g, 0, none⟩ i cap A hal (fun j v hj => by
      rw [add_none, (show At w.drew g cur 41 from hA).cell, ← Array.getElem?_toList, hX, List.append_assoc, List.getElem?_append_left (List.getElem?_eq_some_iff.1 hj).1]
      exact hj)
  have hrz : ∀ ty, (Builtin.append_ #[26, 3] ty #[.slice (some ⟨g, 0, none⟩) i cap, .int .i64 ((L.length : Int) + 1 - (i : Int))]).run Tryz.prog w =
      .ok (.slice (some ⟨w.heap.size, 0, none⟩) (L.length + 1) G) (w.drew.alloc (.cells ROW 41)) := fun ty => by
    have h := Lib.run_append_grow_zeros w 26 3 ty 41 i0 z .i64 .i64 Tryz.underlying26 Tryz.underlying3 hi0 hz0 (some ⟨g, 0, none⟩) i cap A hold (L.length + 1 - i) (by omega) (by omega) (by omega) (by omega) (by rw [hz2]; omega) (by rw [hz2, show i + (L.length + 1 - i) = L.length + 1 by omega]; exact growslice_fits hcap (by omega))
    rw [show i + (L.length + 1 - i) = L.length + 1 by omega, ← hG, ← hROW] at h
    rw [show (L.length : Int) + 1 - (i : Int) = ((L.length + 1 - i : Nat) : Int) by omega]
    exact h
  have hgw := hA.lt
  have hvw := hv.lt
  have hcpA : ∀ (W : World), W.heap = (w.alloc (.cells ROW 41)).heap → ∀ ty dc, (Builtin.copy_ #[26, 26] ty #[.slice (some ⟨w.heap.size, i * 7, none⟩) (L.length + 1 - i) dc, .slice (some ⟨VB, 0, none⟩) 1 1]).run Tryz.prog W = .ok (goInt 1) (W.setRow w.heap.size C1.toArray) := fun W hW ty dc => by
    have a1 : At W w.heap.size ROW 41 := by unfold At; rw [hW]; exact At.new w _ _
    have v1 : At W VB (ruA r) 41 := by unfold At; rw [hW]; exact hv.alloc _
    have h := run_copy_rowk (P := Tryz.prog) W 26 26 ty 41 7 w.heap.size (i * 7) (L.length + 1 - i) dc ⟨VB, 0, none⟩ 1 1 ROW 41 R 1 Tryz.underlying26 sizeRule a1 (by simp only [Nat.min_def]; split <;> omega) (by rw [hrl]) (fun j u h => by rw [add_none, v1.cell j, ← Array.getElem?_toList, ← hR]; exact h) (by rw [hRs, hrl]; omega) hR1
    rw [h, hrl, hC1]; rfl
  have hcpB : ∀ (W : World), W.heap = ((w.alloc (.cells ROW 41)).setRow w.heap.size C1.toArray).heap → ∀ ty dc sc, (Builtin.copy_ #[26, 26] ty #[.slice (some ⟨w.heap.size, (i + 1) * 7, none⟩) (L.length - i) dc, .slice (some ⟨g, i * 7, none⟩) (L.length - i) sc]).run Tryz.prog W = .ok (goInt ((L.length - i : Nat) : Int)) (W.setRow w.heap.size C2.toArray) := fun W hW ty dc sc => by
    have a1 : At W w.heap.size C1.toArray 41 := by unfold At; rw [hW]; exact At.setRow (At.new w ROW 41) _
    have a2 : At W g cur 41 := by unfold At; rw [hW]; exact (hA.alloc _).kept (grown_setRow _ _ _) (fun e => by cases e; omega)
    have h := run_copy_rowk (P := Tryz.prog) W 26 26 ty 41 7 w.heap.size ((i + 1) * 7) (L.length - i) dc ⟨g, i * 7, none⟩ (L.length - i) sc C1.toArray 41 B (L.length - i) Tryz.underlying26 sizeRule a1 (by simp only [Nat.min_def]; split <;> omega) hbl (fun j u h => by
      rw [addr_off, a2.cell, ← Array.getElem?_toList, hX, List.append_assoc, List.getElem?_append_right (by omega), hal, show i * 7 + j - i * 7 = j by omega, List.getElem?_append_left (List.getElem?_eq_some_iff.1 h).1]
      exact h) (by rw [z1, hbl]; omega) hB1
    rw [h, hC2, hbl, show (i + 1) * 7 = i * 7 + 7 by omega]
  have HO := Lib.hid (show ∀ W : World, W.heap = (((w.alloc (.cells ROW 41)).setRow w.heap.size C1.toArray).setRow w.heap.size C2.toArray).heap → W.os = w.os → W.tape = w.tape → W.output = w.output → RowOut w base (.slice (some ⟨g, 0, none⟩) L.length cap) (L.take i ++ [r] ++ L.drop i) (.returned (.slice (some ⟨w.heap.size, 0, none⟩) (L.length + 1) G)) W from fun W hW h1 h2 h3 => by
    have e1 : (L.take i ++ [r] ++ L.drop i).length = L.length + 1 := by simp; omega
    refine ⟨_, rfl, ?_, ?_⟩
    · rw [e1]
      refine own_of hbase (cur := C2.toArray) (by unfold At; rw [hW]; exact At.setRow (At.setRow (At.new w ROW 41) _) _) hGn hGm z2 ?_ (by rw [fcs_length ruA_size7, e1])
      simp only
      rw [show (L.length + 1) * 7 = i * 7 + 7 + (L.length - i) * 7 by omega, k1, fcs_append, fcs_append, hB, hR, hAA]
      simp [fcs]
    · refine ⟨h1, h2, h3, ?_, fun k hk _ => ?_⟩
      · rw [hW]; simp
      · rw [hW, setRow_other _ _ _ _ (by omega), setRow_other _ _ _ _ (by omega)]; exact (World.grownBy_alloc w _ none).block k hk (by simp))
  have n1 : ¬ ((i : Int) = (L.length : Int)) := by omega
  have n2 : ¬ (G = i) := by omega
  have n3 : ¬ (G = i + 1) := by omega
  have n4 : ¬ (cap = i) := by omega
  have n5 : (cap : Int) < (L.length : Int) + 1 := by omega
  have n6 : (i : Int) ≤ (L.length : Int) := by omega
  have j1 : IntKind.i64.wrap ((i : Int) + 1) = (i : Int) + 1 := IntWalk.i64_in _ (by omega)
  have j2 : IntKind.i64.wrap ((L.length : Int) + 1) = (L.length : Int) + 1 := IntWalk.i64_in _ (by omega)
  have j3 : IntKind.i64.wrap ((L.length : Int) + 1 - (i : Int)) = (L.length : Int) + 1 - (i : Int) := IntWalk.i64_in _ (by omega)
  have t1 : ((i : Int) + 1).toNat = i + 1 := by omega
  have t2 : (0 : Int) ≤ (i : Int) + 1 := by omega
  have t4 : (i : Int) ≤ (L.length : Int) + 1 := by omega
  have t3 : i ≤ L.length := by omega
  have mixed : Tryz.prog.follows Departure.mixedOrders = true := by kernel_rfl
  clear k1 k2 k3 z1 z2 hC1 hC2 hX hal hB1 hR1 hx hA hv hold hRs hRt hROW hG hGm
  generalize L.length = N at *
  have hE : ((w.alloc (.cells ROW 41)).drew).heap = (w.alloc (.cells ROW 41)).heap := rfl
  have hF : (((w.alloc (.cells ROW 41)).drew.setRow w.heap.size C1.toArray).drew).heap = ((w.alloc (.cells ROW 41)).setRow w.heap.size C1.toArray).heap := rfl
  go_enter Tryz.func25, Tryz.ntmps25
  go_wp2_with (first
    | (at_builtin; refine Lib.wpList_append_run _ rfl _ _ _ _ rfl _ _ rfl rfl _ _ (hrz _) ?_)
    | (at_builtin; refine wpList_copy_runI _ rfl _ _ 26 26 rfl _ _ rfl rfl (hcpA _ hE _ _) ?_))
  go_region_law_o (refine step_copy_runI rfl _ _ 26 26 rfl _ _ (by simp [Act.eval, Act.put]) (by simp [Act.eval, Act.put]) (hcpB _ hF _ _ _) ?_)
  go_wp2
  go_ret
  exact HO.out _ rfl rfl rfl rfl
end Go.Proofs.YtlhfaildeemngaaGreat
/- Contracts of package label: slices.Insert, slices.Delete on a row of rules of one's own, any way. -/
namespace Go.Proofs.YtlhfaildeemngaaGreat
open Go.RowKit Go.Shelf

/-- A rule comes in. -/
theorem insert_any {v : Value} {base : Nat} (L : List Ru) (i : Nat) (r : Ru) (VB : Nat) (w : World) (hi : i ≤ L.length) (hl : L.length ≤ 100000) (hrow : w.ownsRow base 41 7 v L.length (fcs ruA L)) (hbase : base ≤ w.heap.size) (hv : At w VB (ruA r) 41) (hne : v.ownBlock ≠ some VB) :
    Calls Tryz.prog 25 #[v, .int .i64 (i : Int), .slice (some ⟨VB, 0, none⟩) 1 1] w (RowOut w base v (L.take i ++ [r] ++ L.drop i)) := by
  by_cases h : i = L.length
  · subst h
    have := insert_end L r VB w hl hrow hbase hv
    simpa using this
  · have hlt : i < L.length := by omega
    rcases hrow.2 with ⟨_, h0⟩ | ⟨g, cap, cur, rfl, hb, hA, hnc, hm, hs, hx⟩
    · omega
    · have hne' : VB ≠ g := fun e => hne (by simp [Value.ownBlock, e])
      by_cases hc : L.length + 1 ≤ cap
      · exact insert_room L i r VB w hlt hl hb hA hc hm hs hx hv hne'
      · exact insert_grow L i r VB w hlt hl hbase hA hnc (by omega) hx hv
set_option maxRecDepth 100000 in
set_option maxHeartbeats 1000000 in
theorem delete_row {base g cap M : Nat} {cur : Array Value} (L : List Ru) (i : Nat) (w : World) (hM : L.length = M + 1) (hi : i ≤ M) (hl : M ≤ 100000) (hb : base ≤ g) (hA : At w g cur 41) (hnc : M + 1 ≤ cap) (hm : cap ≤ maxLen) (hs : cur.size = cap * 7) (hx : cur.toList.take (L.length * 7) = fcs ruA L) :
    Calls Tryz.prog 26 #[.slice (some ⟨g, 0, none⟩) (M + 1) cap, .int .i64 (i : Int), .int .i64 ((i : Int) + 1)] w (RowOut w base (.slice (some ⟨g, 0, none⟩) (M + 1) cap) (L.take i ++ L.drop (i + 1))) := by
  obtain ⟨i0, hi0, hz0, hz1, hz2⟩ := info_parts infoRule
  have hm' : cap ≤ 9223372036854775807 := by unfold maxLen at hm; omega
  obtain ⟨z, hz⟩ : ∃ z, z = Value.agg #[.int .i64 0, .int .i64 0, .int .i64 0, .int .i64 0, .int .u32 0, .int .u32 0, .int .i64 0] := ⟨_, rfl⟩
  obtain ⟨B, hB⟩ : ∃ B, B = fcs ruA (L.drop (i + 1)) := ⟨_, rfl⟩
  obtain ⟨R, hR⟩ : ∃ R, R = fcs ruA [L[i]'(by omega)] := ⟨_, rfl⟩
  obtain ⟨A, hAA⟩ : ∃ A, A = fcs ruA (L.take i) := ⟨_, rfl⟩
  obtain ⟨Z, hZ⟩ : ∃ Z, Z = (Builtin.zeroCells z.cells 1).toList := ⟨_, rfl⟩
  have hzc : z.cells = #[.int .i64 0, .int .i64 0, .int .i64 0, .int .i64 0, .int .u32 0, .int .u32 0, .int .i64 0] := by rw [hz]; rfl
  have hzl : Z.length = 7 := by rw [hZ]; simp [Builtin.zeroCells, hzc]
  have hbl : B.length = (M - i) * 7 := by rw [hB, fcs_length ruA_size7, List.length_drop, hM]; omega
  have hrl : R.length = 7 := by rw [hR, fcs_length ruA_size7]; rfl
  have hal : A.length = i * 7 := by rw [hAA, fcs_length ruA_size7, List.length_take, Nat.min_eq_left (by omega)]
  have hB1 : ∀ u ∈ B, u.oneCell' = true := by rw [hB]; exact fcs_one ruA_one _
  have hZ1 : ∀ u ∈ Z, u.oneCell' = true := by
    rw [hZ]
    intro u hu
    simp only [Builtin.zeroCells, hzc, Array.toList_map, List.mem_map] at hu
    obtain ⟨k, _, rfl⟩ := hu
    have h7 : k % 7 < 7 := Nat.mod_lt _ (by omega)
    generalize k % 7 = q at h7
    match q, h7 with
    | 0, _ => rfl
    | 1, _ => rfl
    | 2, _ => rfl
    | 3, _ => rfl
    | 4, _ => rfl
    | 5, _ => rfl
    | 6, _ => rfl
  have hX : cur.toList = A ++ R ++ B ++ cur.toList.drop (L.length * 7) := by
    conv => lhs; rw [← List.take_append_drop (L.length * 7) cur.toList, hx]
    rw [hAA, hB, hR, ← fcs_append, ← fcs_append]
    congr 2
    rw [List.append_assoc, List.singleton_append, ← List.drop_eq_getElem_cons, List.take_append_drop]
  obtain ⟨C1, hC1⟩ : ∃ C1, C1 = cur.toList.take (i * 7) ++ B ++ cur.toList.drop (i * 7 + (M - i) * 7) := ⟨_, rfl⟩
  obtain ⟨C2, hC2⟩ : ∃ C2, C2 = C1.take (i * 7 + (M - i) * 7) ++ Z ++ C1.drop (i * 7 + (M - i) * 7 + 7) := ⟨_, rfl⟩
  obtain ⟨k1, k2, k3⟩ := shift_out hX hal hbl hrl hzl hC1 hC2
  have z1 : C1.toArray.size = cap * 7 := by rw [← hs, ← Array.length_toList (xs := cur), ← k3]; rfl
  have z2 : C2.toArray.size = cap * 7 := by rw [← hs, ← Array.length_toList (xs := cur), ← k2]; rfl
  obtain ⟨AD, hAD, hsrc⟩ : ∃ AD : Addr, (if cap = i + 1 then some (⟨g, 0, none⟩ : Addr) else some ⟨g, (i + 1) * 7, none⟩) = some AD ∧ ∀ j u, B[j]? = some u → w.drew.cell? (AD.add j) = some u := by
    by_cases h : cap = i + 1
    · refine ⟨⟨g, 0, none⟩, by simp [h], fun j u hu => ?_⟩
      have h0 : B.length = 0 := by rw [hbl]; omega
      rw [List.length_eq_zero_iff.1 h0] at hu
      simp at hu
    · refine ⟨⟨g, (i + 1) * 7, none⟩, by simp [h], fun j u hu => ?_⟩
      rw [addr_off, (show At w.drew g cur 41 from hA).cell, ← Array.getElem?_toList, hX, List.append_assoc, List.getElem?_append_right (by rw [List.length_append]; omega), List.length_append, hal, hrl, show (i + 1) * 7 + j - (i * 7 + 7) = j by omega, List.getElem?_append_left (List.getElem?_eq_some_iff.1 hu).1]
      exact hu
  have hap : ∀ ty sc, (Builtin.append_ #[26, 26] ty #[.slice (some ⟨g, 0, none⟩) i cap, .slice (some AD) (M - i) sc]).run Tryz.prog w.drew = .ok (.slice (some ⟨g, 0, none⟩) M cap) (w.drew.setRow g C1.toArray) := fun ty sc => by
    have h := run_append_rowk (P := Tryz.prog) w.drew 26 26 ty 41 41 i0 Tryz.underlying26 Tryz.underlying26 hi0 g i cap AD (M - i) sc cur 41 B hA (by rw [hz1]; exact hbl) hsrc (by omega) (by rw [hz1, hs, hbl]; omega) hB1
    rw [h, hz1, hbl, hC1, show i + (M - i) = M by omega]
  have A1 : At (w.drew.setRow g C1.toArray) g C1.toArray 41 := At.setRow (show At w.drew g cur 41 from hA) _
  obtain ⟨W1, hW1⟩ : ∃ W1, W1 = w.drew.setRow g C1.toArray := ⟨_, rfl⟩
  rw [← hW1] at hap A1
  have hcl : ∀ ty, (Builtin.clear_ #[26] ty #[.slice (some ⟨g, M * 7, none⟩) 1 (cap - M)]).run Tryz.prog W1 = .ok (.tuple #[]) (W1.setRow g C2.toArray) := fun ty => by
    have h := run_clear_rowk (P := Tryz.prog) W1 26 41 ty z Tryz.underlying26 (fun w => by rw [hz]; exact Tryz.zeroValue41 w) g (M * 7) 1 (cap - M) C1.toArray 41 A1 (by omega) Z hZ.symm (by rw [z1, hzl]; omega) hZ1
    rw [h, hzl, hC2, show i * 7 + (M - i) * 7 = M * 7 by omega]
  have HO := Lib.hid (show RowOut w base (.slice (some ⟨g, 0, none⟩) (M + 1) cap) (L.take i ++ L.drop (i + 1)) (.returned (.slice (some ⟨g, 0, none⟩) M cap)) (W1.setRow g C2.toArray) from by
    have e1 : (L.take i ++ L.drop (i + 1)).length = M := by simp; omega
    refine ⟨_, rfl, ?_, ?_⟩
    · rw [e1]
      refine own_of hb (At.setRow A1 _) (by omega) hm z2 ?_ (by rw [fcs_length ruA_size7, e1])
      simp only
      rw [show M * 7 = i * 7 + (M - i) * 7 by omega, k1, fcs_append, hB, hAA]
    · rw [hW1]
      exact grown_tr2 (grown_of_drew (grown_setRow w.drew g _)) (grown_setRow _ _ _))
  have n1 : ¬ ((i : Int) = (i : Int) + 1) := by omega
  have n2 : ¬ (cap = M) := by omega
  have n3 : i ≤ cap := by omega
  have n4 : i ≤ M + 1 := by omega
  have n5 : (i : Int) + 1 ≤ (M : Int) + 1 := by omega
  have n6 : M ≤ cap := by omega
  have n7 : (0 : Int) ≤ (i : Int) + 1 := by omega
  have n8 : (i : Int) ≤ (i : Int) + 1 := by omega
  have n9 : (M : Int) ≤ (M : Int) + 1 := by omega
  have n10 : (M : Int) + 1 ≤ (cap : Int) := by omega
  have t1 : ((i : Int) + 1).toNat = i + 1 := by omega
  have t2 : ((M : Int) + 1).toNat = M + 1 := by omega
  have mixed : Tryz.prog.follows Departure.mixedOrders = true := by kernel_rfl
  clear k1 k2 k3 z1 z2 hC1 hC2 hX hal hsrc hB1 hZ1 hx hs hA A1 hW1
  go_enter Tryz.func26, Tryz.ntmps26
  go_wp2_with fail
  go_region_law_o (refine step_app_run rfl (.tmp 22) (.tmp 25) 26 26 rfl (.slice (some ⟨g, 0, none⟩) i cap) (.slice (some AD) (M - i) (cap - (i + 1))) (by simp [Act.eval, Act.put]) (by simp [Act.eval, Act.put]) (hap 26 (cap - (i + 1))) ?_)
  go_wp2
  go_ret
  exact HO.out
end Go.Proofs.YtlhfaildeemngaaGreat
/- Contracts of package label: sort.Search over any closure; place: where the rule with an ID stands, or would stand. -/
namespace Go.Proofs.YtlhfaildeemngaaGreat
open Go.RowKit Go.Shelf

/-- What is asked of a predicate that is looked for. -/
def AskAt (g : Nat) (lb : Array Value) (n : Nat) (p : Nat → Bool) (w : World) : Prop :=
  ∀ k, k < n → ∀ W, Below w.heap.size w W → Calls Tryz.prog g (#[.int .i64 (k : Int)] ++ lb) W fun e W' => e = .returned (.bool (p k)) ∧ Below W.heap.size W W'
set_option maxRecDepth 100000 in
set_option maxHeartbeats 1000000 in
theorem sortSearch_any (g : Nat) (lb : Array Value) (eg : ∀ args w, (callFunc g args).run Tryz.prog w = .ok (.enter g args) w) (n : Nat) (p : Nat → Bool) (w : World) (hn : n ≤ 1000000000) (hp : AskAt g lb n p w) (hm : ∀ a b, a ≤ b → b < n → p a = true → p b = true) :
    Calls Tryz.prog 46 #[.int .i64 (n : Int), .func (.func g) #[] lb] w fun e w' => ∃ i : Nat, e = .returned (.int .i64 (i : Int)) ∧ i ≤ n ∧ (∀ j, j < i → p j = false) ∧ (∀ j, i ≤ j → j < n → p j = true) ∧ Below w.heap.size w w' := by
  have HP := Lib.hid hp
  have HM := Lib.hid hm
  clear hp hm
  go_enter Tryz.func46, Tryz.ntmps46
  go_wp2
  go_loopw [5, 6] (fun s t wr => ∃ i j : Nat, s = .int .i64 i ∧ t = .int .i64 j ∧ i ≤ j ∧ j ≤ n ∧ Hid ((∀ q, q < i → p q = false) ∧ (∀ q, j ≤ q → q < n → p q = true)) ∧ Below w.heap.size w wr) (fun s t _ => (intOf t).toNat - (intOf s).toNat)
  case atStart => exact ⟨0, n, rfl, rfl, by omega, by omega, Lib.hid ⟨fun q hq => by omega, fun q h1 h2 => by omega⟩, Below.refl _ _⟩
  case round =>
    obtain ⟨i, j, rfl, rfl, hij, hj, HB, hb⟩ := hrel
    by_cases hlt : i < j
    · have hm2 : (i + j) / 2 < n := by omega
      have k1 : ((i : Int) + (j : Int)).fdiv (2 ^ min (Int.toNat 1) IntKind.u64.bits) = ((i : Int) + (j : Int)) / 2 := by
        show ((i : Int) + (j : Int)).fdiv 2 = _
        rw [Int.fdiv_eq_ediv_of_nonneg _ (by omega)]
      have hcall := HP.out ((i + j) / 2) hm2 wr hb
      have e2 : (((i + j) / 2 : Nat) : Int) = ((i : Int) + (j : Int)) / 2 := by omega
      rw [e2] at hcall
      cases hq : p ((i + j) / 2) with
      | true =>
        rw [hq] at hcall
        have HU := Lib.hid (show (∀ q, q < i → p q = false) ∧ (∀ q, (i + j) / 2 ≤ q → q < n → p q = true) from ⟨HB.out.1, fun q h1 h2 => HM.out _ q h1 h2 hq⟩)
        clear hq
        go_wp2_with (go_at_fn g; refine hcall.mono ?_; rintro e w' ⟨rfl, hb'⟩)
        go_roundw
        case rel => exact ⟨i, (i + j) / 2, rfl, by go_num, by omega, by omega, HU, hb.trans (hb'.mono hb.size)⟩
        case measure => simp [intOf]; omega
      | false =>
        rw [hq] at hcall
        have HU := Lib.hid (show (∀ q, q < (i + j) / 2 + 1 → p q = false) ∧ (∀ q, j ≤ q → q < n → p q = true) from ⟨fun q h => by
          cases hpq : p q with
          | false => rfl
          | true => exact absurd (HM.out q ((i + j) / 2) (by omega) hm2 hpq) (by rw [hq]; decide), HB.out.2⟩)
        clear hq
        go_wp2_with (go_at_fn g; refine hcall.mono ?_; rintro e w' ⟨rfl, hb'⟩)
        go_roundw
        case rel => exact ⟨(i + j) / 2 + 1, j, by go_num, rfl, by omega, hj, HU, hb.trans (hb'.mono hb.size)⟩
        case measure => simp [intOf]; omega
    · obtain rfl : i = j := by omega
      go_wp2
      go_ret
      exact ⟨i, rfl, hj, HB.out.1, HB.out.2, hb⟩
/-- The ID of the rule at a place. -/
def idAt (L : List Ru) (k : Nat) : Int := if h : k < L.length then L[k].id else 0
theorem idAt_in {L : List Ru} {k : Nat} (h : k < L.length) : idAt L k = L[k].id := dif_pos h
set_option maxRecDepth 100000 in
theorem place1_any (L : List Ru) (id : Int) (A : Option Addr) (c k LB IB : Nat) (w : World) (hk : k < L.length) (_h1 : L.length ≤ c) (_h2 : c ≤ maxLen) (hl : At w LB #[.slice A L.length c] 26) (hi : At w IB #[.int .i64 id] 3) (hz : Rs w A L) :
    Calls Tryz.prog 47 #[.int .i64 (k : Int), .pointer (some ⟨LB, 0, none⟩), .pointer (some ⟨IB, 0, none⟩)] w fun e w' => e = .returned (.bool (decide (id ≤ idAt L k))) ∧ Below w.heap.size w w' := by
  have c0 := (hl.cell 0).trans rfl
  have c1 := (hi.cell 0).trans rfl
  obtain ⟨g, o, rfl, _, r0, _⟩ := hz.at k hk
  rw [idAt_in hk]
  have i0 : (0 : Int) ≤ (k : Int) := by omega
  have i1 : (k : Int) < (L.length : Int) := by omega
  generalize L[k].id = x at r0 ⊢
  clear hl hi hz
  go_enter Tryz.func47, Tryz.ntmps47
  go_wp2_with fail
  go_quiet (fail)
  go_wp2
  go_ret
  exact ⟨rfl, bdrewN (Below.refl _ _) nq⟩
end Go.Proofs.YtlhfaildeemngaaGreat
