/- Contracts: joined: the ports that are in links, as a map. -/
import Derived.Test.YtmndgbpfophniaaK2
import Derived.Test.YtmndgbpfophniaaJ1
namespace Go.Proofs.Ytmndgbpfophniaa
open Go.RowKit Go.Shelf Go.Maps

def ptV (p : Pt) : Value := .agg (ptA p)
theorem zPt (w : World) : (zeroValue 34).run Try.prog w = .ok (ptV ⟨0, 0⟩) w := by kernel_rfl
theorem ptV_inj (x y : Pt) (h : ptV x = ptV y) : x = y := pt_inj x y h
/-- A map from ports to ports. -/
def JMap (w : World) (b n s : Nat) (M : Pt → Option Pt) : Prop := MapAt Try.prog 34 ptV isPt w b n s fun y => (M y).map ptV
theorem JMap.belows {w w' : World} {b n s : Nat} {M : Pt → Option Pt} (h : JMap w b n s M) (hb : Below w.heap.size w w') : JMap w' b n s M := MapAt.belows h hb
theorem JMap.lt {w : World} {b n s : Nat} {M : Pt → Option Pt} (h : JMap w b n s M) : b < w.heap.size := MapAt.lt h
theorem JMap.of_put {w : World} {b n s : Nat} {M : Pt → Option Pt} {x v : Pt} (h : MapAt Try.prog 34 ptV isPt w b n (if ((M x).map ptV).isSome then s else s + 1) fun y => if y = x then some (ptV v) else (M y).map ptV) : JMap w b n (if (M x).isSome then s else s + 1) (setM M x v) := by
  rw [Option.isSome_map] at h
  have e : (fun y => (setM M x v y).map ptV) = fun y => if y = x then some (ptV v) else (M y).map ptV := by
    funext y
    unfold setM
    split <;> rfl
  unfold JMap
  rw [e]
  exact h
theorem run_makeMap_of {t k e : TypeId} (ht : Try.prog.underlying t = some (.map k e)) (n : Int) (w : World) : (Instr.makeMap t (some (.int .i64 n))).run Try.prog w = .ok (.map (some w.heap.size)) (w.alloc (.map #[] 0)) := by
  simp [Instr.makeMap, run_underlying ht, go_sem]
/-- What joined answers. -/
def JOut (ls : List Lk) (w : World) (e : Ending) (w' : World) : Prop := ∃ b, e = .returned (.map (some b)) ∧ w.heap.size ≤ b ∧ JMap w' b (2 * ls.length) (cntL ls) (mapL ls) ∧ Below w.heap.size w w'
/-- Where the loop stands. -/
def JI (ls : List Lk) (w0 : World) (b k : Nat) (W : World) : Prop := JMap W b (2 * k) (cntL (ls.take k)) (mapL (ls.take k)) ∧ Below b w0 W
set_option maxRecDepth 100000 in
set_option maxHeartbeats 4000000 in
theorem joined_any {vp vl : Value} (ps : List Int) (ls : List Lk) (w : World) (hT : TW ps ls) (h16 : ls.length ≤ 16) (h : IsT w vp vl ps ls) : Calls Try.prog 39 #[.agg #[vp, vl]] w (JOut ls w) := by
  obtain ⟨⟨A1, c1, rfl, n1, m1, _⟩, ⟨A2, c2, rfl, n2, m2, z2⟩⟩ := h
  have hmm := run_makeMap_of Try.underlying71
  have HW := Lib.hid hT.links
  have D0 := (At.new w #[.slice A1 ps.length c1, .slice A2 ls.length c2] 25).alloc (.map #[] 0)
  have b0 : Below w.heap.size w ((w.alloc (.cells #[.slice A1 ps.length c1, .slice A2 ls.length c2] 25)).alloc (.map #[] 0)) := ((Below.refl _ w).alloc (Nat.le_refl _) _).alloc (by simp) _
  have J0 : JMap ((w.alloc (.cells #[.slice A1 ps.length c1, .slice A2 ls.length c2] 25)).alloc (.map #[] 0)) (w.heap.size + 1) 0 0 (fun _ => none) := by
    have := MapAt.made (P := Try.prog) (k := 34) (kv := ptV) (ok := isPt) (w.alloc (.cells #[.slice A1 ps.length c1, .slice A2 ls.length c2] 25))
    rw [World.size_alloc] at this
    exact this
  have H2 := Lib.hid z2
  clear z2 hT
  go_enter Try.func39, Try.ntmps39
  obtain ⟨w0, hw0⟩ : ∃ w0, w0 = ((w.alloc (.cells #[.slice A1 ps.length c1, .slice A2 ls.length c2] 25)).alloc (.map #[] 0)) := ⟨_, rfl⟩
  go_upto_region 2 with (fail)
  rw [← hw0] at D0 b0 J0 ⊢
  have hs0 : w0.heap.size = w.heap.size + 1 + 1 := by rw [hw0]; simp
  have x1 := (D0.cell 1).trans rfl
  have HJ0 := Lib.hid J0
  have HB0 := Lib.hid b0
  have HS0 := Lib.hid hs0
  clear hw0 hmm J0 b0 hs0
  go_wp2
  go_loopw [14] (fun i wr => ∃ k : Nat, i = .int .i64 k ∧ k ≤ ls.length ∧ Hid (JI ls w0 (w.heap.size + 1) k wr)) (fun i _ => ls.length - (intOf i).toNat)
  case atStart => exact ⟨0, rfl, by omega, Lib.hid ⟨by have := HJ0.out; exact this, Below.refl _ _⟩⟩
  case round =>
    obtain ⟨k, rfl, hk, HJ⟩ := hrel
    obtain ⟨hj, hb⟩ := HJ.out
    clear HJ
    by_cases hlt : k < ls.length
    · have i0 : (0 : Int) ≤ (k : Int) := by omega
      have i1 : (k : Int) < (ls.length : Int) := by omega
      obtain ⟨g, o, e, hg, hc⟩ := H2.out.at k hlt
      subst e
      have hbw : Below w.heap.size w wr := HB0.out.trans (hb.mono (by omega))
      have r0 := (hbw.cell (p := ⟨g, _, none⟩) hg).trans (hc 0 (by decide)); have r1 := (hbw.cell (p := ⟨g, _, none⟩) hg).trans (hc 1 (by decide)); have r2 := (hbw.cell (p := ⟨g, _, none⟩) hg).trans (hc 2 (by decide)); have r3 := (hbw.cell (p := ⟨g, _, none⟩) hg).trans (hc 3 (by decide))
      have HE := Lib.hid (mapL_snoc ls k hlt)
      have HC := Lib.hid (cntL_snoc ls k hlt)
      obtain ⟨pa, pb⟩ := HW.out _ (List.getElem_mem hlt)
      generalize ls[k] = l at r0 r1 r2 r3 HE HC pa pb
      obtain ⟨⟨a, b⟩, ⟨c, d⟩⟩ := l
      simp only [lkA, Nat.add_zero] at r0 r1 r2 r3
      dsimp only at HE HC pa pb
      generalize mapL (ls.take k) = M0 at hj HE HC
      generalize cntL (ls.take k) = s0 at hj HC
      obtain ⟨ka, hka⟩ := keyPt ⟨a, b⟩ pa
      obtain ⟨kb, hkb⟩ := keyPt ⟨c, d⟩ pb
      have bs : wr.heap.size ≠ w.heap.size + 1 := by have := hj.lt; omega
      have L1 := At.new wr #[.int .i64 a, .int .i64 b, .int .i64 c, .int .i64 d] 67
      have bl1 : Below wr.heap.size wr (wr.alloc (.cells #[.int .i64 a, .int .i64 b, .int .i64 c, .int .i64 d] 67)) := (Below.refl _ wr).alloc (Nat.le_refl _) _
      have j1 := Lib.hid (hj.belows bl1)
      have hb1 : Below (w.heap.size + 1) w0 (wr.alloc (.cells #[.int .i64 a, .int .i64 b, .int .i64 c, .int .i64 d] 67)) := hb.alloc (by have := hj.lt; omega) _
      have HB1 := Lib.hid hb1
      have PA := Lib.hid pa
      have PB := Lib.hid pb
      have HKA := Lib.hid hka
      have HKB := Lib.hid hkb
      have hltL : wr.heap.size < (wr.alloc (.cells #[.int .i64 a, .int .i64 b, .int .i64 c, .int .i64 d] 67)).heap.size := by simp
      clear hc hj hb bl1 hb1 hbw pa pb hka hkb
      go_upto_region 5 with (fail)
      obtain ⟨w1, hw1⟩ : ∃ w1, w1 = (wr.alloc (.cells #[.int .i64 a, .int .i64 b, .int .i64 c, .int .i64 d] 67)) := ⟨_, rfl⟩
      rw [← hw1] at L1 j1 HB1 hltL ⊢
      have LZ : ∀ u, At u wr.heap.size #[.int .i64 a, .int .i64 b, .int .i64 c, .int .i64 d] 67 → u.cell? ⟨wr.heap.size, 0, none⟩ = some (.int .i64 a) ∧ u.cell? ⟨wr.heap.size, 1, none⟩ = some (.int .i64 b) ∧ u.cell? ⟨wr.heap.size, 2, none⟩ = some (.int .i64 c) ∧ u.cell? ⟨wr.heap.size, 3, none⟩ = some (.int .i64 d) := fun u h => ⟨(h.cell 0).trans rfl, (h.cell 1).trans rfl, (h.cell 2).trans rfl, (h.cell 3).trans rfl⟩
      have HLZ := Lib.hid LZ
      obtain ⟨B, hB⟩ : ∃ B, B = wr.heap.size := ⟨_, rfl⟩
      rw [← hB] at L1 hltL HLZ bs ⊢
      clear hw1 LZ hB r0 r1 r2 r3
      have j1d : MapAt Try.prog 34 ptV isPt w1.drew (w.heap.size + 1) (2 * k) s0 fun y => (M0 y).map ptV := JMap.belows j1.out (bdrewN (Below.refl _ _) 1)
      obtain ⟨w5, hrun5, j5, g5⟩ := j1d.put keyedPt ptV_inj Try.underlying71 (by unfold maxLen; omega) PA.out HKA.out (ptV ⟨c, d⟩)
      have J5 := Lib.hid (JMap.of_put j5)
      have L5 := L1.drew.kept g5 (by simpa using bs)
      have j5d : MapAt Try.prog 34 ptV isPt w5 (w.heap.size + 1) (2 * k + 1) (if (M0 ⟨a, b⟩).isSome then s0 else s0 + 1) fun y => (setM M0 ⟨a, b⟩ ⟨c, d⟩ y).map ptV := J5.out
      obtain ⟨w6, hrun6, j6, g6⟩ := j5d.put keyedPt ptV_inj Try.underlying71 (by unfold maxLen; omega) PB.out HKB.out (ptV ⟨a, b⟩)
      have J6 := Lib.hid (JMap.of_put j6)
      have L6 := L5.kept g6 (by simpa using bs)
      have G5 := Lib.hid g5
      have G6 := Lib.hid g6
      clear j1d j5 j5d j6 g5 g6
      rw [show ptV ⟨a, b⟩ = .agg #[.int .i64 a, .int .i64 b] from rfl, show ptV ⟨c, d⟩ = .agg #[.int .i64 c, .int .i64 d] from rfl] at hrun5 hrun6
      go_region_held3 (fun W => W.cell? ⟨B, 0, none⟩ = some (.int .i64 a) ∧ W.cell? ⟨B, 1, none⟩ = some (.int .i64 b) ∧ W.cell? ⟨B, 2, none⟩ = some (.int .i64 c) ∧ W.cell? ⟨B, 3, none⟩ = some (.int .i64 d))
        (first | exact HLZ.out _ L6 | exact HLZ.out _ L5 | exact HLZ.out _ L1.drew | exact HLZ.out _ L1) (fail)
      have HFB : Hid (Below (w.heap.size + 1) w0 w6) := Lib.hid (((bdrewN HB1.out 1).grown G5.out (by have := HB1.out.size; have := HS0.out; show w.heap.size + 1 ≤ w1.heap.size; omega) (fun j hj => by cases hj; exact Nat.le_refl _)).grown G6.out (by have := HB1.out.size; have := HS0.out; have := G5.out.size; have e : w1.drew.heap.size = w1.heap.size := rfl; omega) (fun j hj => by cases hj; exact Nat.le_refl _))
      have HFJ : Hid (JI ls w0 (w.heap.size + 1) (k + 1) w6) := Lib.hid ⟨by rw [HE.out, HC.out]; exact J6.out, HFB.out⟩
      clear HE HC J5 J6 G5 G6 HB1 L1 L5 L6 j1 HLZ hrun5 hrun6
      all_goals (go_wp2_with fail)
      all_goals (go_roundw)
      case rel => exact ⟨k + 1, by go_num, by omega, HFJ⟩
      case measure => simp [intOf]; omega
    · have hki : ¬ (k : Int) < (ls.length : Int) := by omega
      obtain rfl : k = ls.length := by omega
      rw [List.take_length] at hj
      have hbw : Below w.heap.size w wr := HB0.out.trans (hb.mono (by omega))
      have HJ := Lib.hid hj
      clear hj
      go_wp2
      go_ret
      exact ⟨_, rfl, by omega, HJ.out, hbw⟩
end Go.Proofs.Ytmndgbpfophniaa
