/- NumReads' walk. -/
import Derived.Test.YtnjghodjpbalcaaR4
import Derived.Test.YtnjghodjpbalcaaBack
namespace Go.Proofs.Ytnjghodjpbalcaa
open Go.RowKit

theorem NumOut.none_ {l : List UInt8} {most base g : Nat} {w w' : World} {e : Ending} (h : NumOut l most base g w e w') (hN : numAt l most = none) : w.grownBy w' (some g) ∧ w'.heap.size = w.heap.size ∧ e = .returned (.tuple #[.int .u64 0, .int .i64 11]) ∧ Rdr w' base g l := by
  obtain ⟨h1, h2, h3⟩ := h
  rw [hN] at h3
  exact ⟨h1, h2, h3⟩
theorem NumOut.some_ {l : List UInt8} {most base g v n : Nat} {w w' : World} {e : Ending} (h : NumOut l most base g w e w') (hN : numAt l most = some (v, n)) : w.grownBy w' (some g) ∧ w'.heap.size = w.heap.size ∧ e = .returned (.tuple #[.int .u64 v, .int .i64 0]) ∧ Rdr w' base g (l.drop n) := by
  obtain ⟨h1, h2, h3⟩ := h
  rw [hN] at h3
  exact ⟨h1, h2, h3⟩
theorem TextOut.none_ {l : List UInt8} {most : Int} {base g : Nat} {w w' : World} {e : Ending} (h : TextOut l most base g w e w') (hN : textAt l most = none) : w.grownBy w' (some g) ∧ w'.heap.size = w.heap.size ∧ e = .returned (.tuple #[.string ⟨#[]⟩, .int .i64 11]) ∧ Rdr w' base g l := by
  obtain ⟨h1, h2, h3⟩ := h
  rw [hN] at h3
  exact ⟨h1, h2, h3⟩
theorem TextOut.some_ {l : List UInt8} {most : Int} {base g v n : Nat} {w w' : World} {e : Ending} (h : TextOut l most base g w e w') (hN : textAt l most = some (v, n)) : w.grownBy w' (some g) ∧ w'.heap.size = w.heap.size ∧ (∃ S, e = .returned (.tuple #[.string S, .int .i64 0]) ∧ Hid (S = ⟨((l.drop n).take v).toArray⟩)) ∧ Rdr w' base g (l.drop (n + v)) := by
  obtain ⟨h1, h2, h3⟩ := h
  rw [hN] at h3
  exact ⟨h1, h2, ⟨_, h3.1, rfl⟩, h3.2⟩
theorem RefText.none_ {r : List UInt8} {most : Int} {gm n c i : Nat} {A : Option Addr} {w w' : World} {e : Ending} (h : RefText r most gm A n c i w e w') (hN : textAt r most = none) : w.grownBy w' (some gm) ∧ e = .returned (.tuple #[.string ⟨#[]⟩, .int .i64 11]) ∧ MR w' gm A n c i := by
  obtain ⟨h1, h2⟩ := h
  rw [hN] at h2
  exact ⟨h1, h2⟩
theorem RefText.some_ {r : List UInt8} {most : Int} {gm n c i v m : Nat} {A : Option Addr} {w w' : World} {e : Ending} (h : RefText r most gm A n c i w e w') (hN : textAt r most = some (v, m)) {S : ByteArray} (hS : S = ⟨((r.drop m).take v).toArray⟩) : w.grownBy w' (some gm) ∧ e = .returned (.tuple #[.string S, .int .i64 0]) ∧ MR w' gm A n c (i + m + v) := by
  obtain ⟨h1, h2⟩ := h
  rw [hN] at h2
  subst hS
  exact ⟨h1, h2⟩
theorem text_num {r : List UInt8} {most : Int} {v n : Nat} (h : textAt r most = some (v, n)) : n + v ≤ r.length := by
  unfold textAt at h
  match hN : num1 r with
  | none => rw [hN] at h; cases h
  | some (v', n') =>
    rw [hN] at h
    simp only at h
    split at h
    · rename_i hh
      injection h with h; injection h with h1 h2; subst h1 h2
      have := (num1_le hN).2.1
      omega
    · cases h

theorem Rdr.far {w w' : World} {base g gm : Nat} {l : List UInt8} (h : Rdr w base g l) (hg : w.grownBy w' (some gm)) (hne : g < gm) : Rdr w' base g l :=
  h.kept fun k hk => hg.block k (by have := h.lt; omega) (by simp; omega)
theorem MR.far {w w' : World} {gm n c i g : Nat} {A : Option Addr} (h : MR w gm A n c i) (hg : w.grownBy w' (some g)) (hne : g < gm) : MR w' gm A n c i :=
  h.keep (hg.block gm h.lt (by simp; omega))

/-- The loop's relation: both readers are at one place. -/
def Rel3 (l : List ActV) (w : World) (g gm : Nat) (A : Option Addr) (b : List UInt8) (c : Nat) (i : Value) (wr : World) : Prop :=
  ∃ k j R, i = .int .i64 ((k : Nat) : Int) ∧ k ≤ 60 ∧ k ≤ l.length ∧ Hid (R = b.drop j) ∧ j ≤ b.length ∧ Rdr wr w.heap.size g R ∧ MR wr gm A b.length c j ∧ Below w.heap.size w wr

set_option maxRecDepth 100000 in
set_option maxHeartbeats 4000000 in
theorem reads_walk (Bb : Option Addr) (cb : Nat) (b : List UInt8) (A : Option Addr) (c : Nat) (l : List ActV) (w : World) (hb : Rd w w.heap.size Bb b) (hcb : b.length ≤ cb) (hcbm : cb ≤ maxLen) (hr : ActsAt w w.heap.size A l) (hc : l.length ≤ c) (hcm : c ≤ maxLen) :
    Calls Try.prog 4 #[.slice Bb b.length cb, .slice A l.length c] w (Post w) := by
  have hll : l.length ≤ 9223372036854775807 := by have : c ≤ 9223372036854775807 := hcm; omega
  have hbl : b.length ≤ 9223372036854775807 := by have : cb ≤ 9223372036854775807 := hcbm; omega
  have HR := Lib.hid hr
  have HB := Lib.hid hb
  clear hr hb
  by_cases hb4 : 400 < b.length
  · go_enter Try.func4, Try.ntmps4
    go_wp2_with (go_at_call 13; refine (alive_any _).mono ?_; rintro e w1 ⟨rfl, hb1⟩)
    go_ret
    exact ⟨rfl, hb1⟩
  · go_enter Try.func4, Try.ntmps4
    go_wp2_with fail
    refine (open_any Bb b cb w HB.out (by omega)).mono ?_
    rintro e wO ⟨g, rfl, hrd, bO⟩
    have hgO := hrd.lt
    have hbg : w.heap.size ≤ g := by obtain ⟨_, _, h, _⟩ := hrd; exact h
    obtain ⟨gm, hgme⟩ : ∃ gm, gm = wO.heap.size := ⟨_, rfl⟩
    have hgm : g < gm := by omega
    have mr0 : MR (wO.alloc (.cells #[.slice Bb b.length cb, .int .i64 0, .bool false] 37)) gm Bb b.length cb 0 := by rw [hgme]; exact ⟨false, heap_alloc_new wO _⟩
    have Hgm := Lib.hid hgme
    go_wp2
    rw [← Hgm.out]
    clear hgme
    go_loopw [7] (fun i wr => Rel3 l w g gm Bb b cb i wr) (fun i _ => 60 - (intOf i).toNat)
    case atStart => exact ⟨0, 0, b, rfl, by omega, by omega, rfl, by omega, hrd.below ((Below.refl _ _).alloc (Nat.le_refl _) _), mr0, bO.alloc bO.size _⟩
    case round =>
      clear mr0 hrd
      obtain ⟨k, j, R, rfl, hk60, hkl, HRj, hj, rr, mr, hbel⟩ := hrel
      have hsz := hbel.size
      have hgs := rr.lt
      have hgms := mr.lt
      have hRl : R.length ≤ 100000000 := by rw [HRj.out, List.length_drop]; omega
      by_cases hlt : k < l.length ∧ k < 60
      · obtain ⟨h1, h2⟩ := hlt
        obtain ⟨ad, x, rfl, hx, hB, hact⟩ := (HR.out.below hbel).get h1
        obtain ⟨xk, xl, xn, xm, xs⟩ := x
        obtain ⟨e1, e2, e3, e4, e5, bl, bn, bm, bs⟩ := hact
        dsimp only at e1 e2 e3 e4 e5 bl bn bm
        have rr1 : Rdr (wr.alloc (.cells #[.int .i64 xk, .int .i64 xl, .int .u64 xn, .int .u64 xm, .string xs] 26)) w.heap.size g R := rr.below ((Below.refl _ _).alloc (Nat.le_refl _) _)
        have mr1 : MR (wr.alloc (.cells #[.int .i64 xk, .int .i64 xl, .int .u64 xn, .int .u64 xm, .string xs] 26)) gm Bb b.length cb j := mr.keep (heap_alloc_old wr _ hgms)
        clear hx bs rr mr HR
        by_cases hK : xk = 1
        · have hKb : (xk == 1) = true := by simpa using hK
          have HK := Lib.hid hK
          clear hK
          match hN : numAt R xm with
          | none =>
            go_wp2_with fail
            refine (number_any R xm w.heap.size g _ rr1 bm).mono ?_
            rintro e w2 ho
            obtain ⟨g2, s2, rfl, r2⟩ := ho.none_ hN
            have f2 : w2.cell? ⟨wr.heap.size, 3, none⟩ = some (.int .u64 xm) := g2.cell (by simp) (by simp; omega)
            have m2 : MR w2 gm Bb b.length cb j := mr1.far g2 hgm
            have hrd2 : Rd w2 w.heap.size Bb b := (HB.out.below (hbel.alloc hsz _)).keep fun p hp => World.cell?_of_block (g2.block p.block (by simp; omega) (by simp; omega))
            clear ho
            go_wp2_with fail
            refine (refnum_any Bb b cb j gm xm w.heap.size w2 m2 hrd2 (by rw [s2]; simp; omega) hj hcb hcbm (by omega)).mono ?_
            rintro e wX ho
            obtain ⟨gX, rfl, mX⟩ := (HRj.out ▸ ho).none_ hN
            have rX : Rdr wX w.heap.size g (R) := r2.far gX hgm
            have bX : Below w.heap.size w wX := ((hbel.alloc hsz _).trans (below_of_grown g2 (by simp; omega) hbg)).trans (below_of_grown gX (by rw [s2]; simp; omega) (by omega))
            obtain ⟨R2, HR2⟩ : ∃ R2, Hid (R2 = b.drop (j)) := ⟨_, rfl⟩
            rw [show (R) = R2 from by rw [HR2.out, HRj.out]] at rX
            obtain ⟨j2, hj2⟩ : ∃ j2, j2 = j := ⟨_, rfl⟩
            have hj2b : j2 ≤ b.length := by omega
            rw [← hj2] at mX HR2
            clear ho g2 gX s2 m2 hrd2 r2 hj2 f2 hN
            have hdum : True := trivial

            have hszX : w.heap.size ≤ wX.heap.size := bX.size
            have Rl : R2.length = b.length - j2 := by rw [HR2.out, List.length_drop]
            have hne2 : ((R2.length : Int) != (b.length : Int) - (j2 : Int)) = false := by rw [bne_eq_false_iff_eq, Rl]; omega
            have hwr : IntKind.i64.wrap ((b.length : Int) - (j2 : Int)) = (b.length : Int) - (j2 : Int) := IntWalk.i64_in _ (by omega)
            have hgmX := mX.lt
            obtain ⟨badX, _, x1, _, _⟩ := mr_cells mX
            have x1' : ∀ x : Sub wX, x.u.cell? ⟨gm, 1, none⟩ = some (.int .i64 j2) := fun x => (x.h.cell (by exact hgmX)).trans x1
            clear Rl x1 e1 e2 e3 e4 e5
            go_wp2_with fail
            refine wp_region_cls (by kernel_rfl) (by kernel_rfl) ?_
            repeat (go_big_quiet_step ((go_at_call 19; exact left_quiet rX)))
            refine wpQuiet_nil ?_
            rintro _ ⟨x, rfl⟩
            go_wp2
            go_roundw
            case rel => exact ⟨k + 1, j2, R2, by go_num, by omega, by omega, HR2, by omega, rX.below x.h, mX.keep (x.h.block gm hgmX), bX.trans (x.h.mono hszX)⟩
            case measure => simp [intOf]; omega
          | some (v, n) =>
            have hnR : n ≤ R.length := (num1_le (num_of_numAt hN).1).2.1
            have hjn : j + n ≤ b.length := by rw [HRj.out, List.length_drop] at hnR; omega
            go_wp2_with fail
            refine (number_any R xm w.heap.size g _ rr1 bm).mono ?_
            rintro e w2 ho
            obtain ⟨g2, s2, rfl, r2⟩ := ho.some_ hN
            have f2 : w2.cell? ⟨wr.heap.size, 3, none⟩ = some (.int .u64 xm) := g2.cell (by simp) (by simp; omega)
            have m2 : MR w2 gm Bb b.length cb j := mr1.far g2 hgm
            have hrd2 : Rd w2 w.heap.size Bb b := (HB.out.below (hbel.alloc hsz _)).keep fun p hp => World.cell?_of_block (g2.block p.block (by simp; omega) (by simp; omega))
            clear ho
            go_wp2_with fail
            refine (refnum_any Bb b cb j gm xm w.heap.size w2 m2 hrd2 (by rw [s2]; simp; omega) hj hcb hcbm (by omega)).mono ?_
            rintro e wX ho
            obtain ⟨gX, rfl, mX⟩ := ho.some_ (by rw [← HRj.out]; exact hN)
            have rX : Rdr wX w.heap.size g (R.drop n) := r2.far gX hgm
            have bX : Below w.heap.size w wX := ((hbel.alloc hsz _).trans (below_of_grown g2 (by simp; omega) hbg)).trans (below_of_grown gX (by rw [s2]; simp; omega) (by omega))
            obtain ⟨R2, HR2⟩ : ∃ R2, Hid (R2 = b.drop (j + n)) := ⟨_, rfl⟩
            rw [show (R.drop n) = R2 from by rw [HR2.out, HRj.out, List.drop_drop]] at rX
            obtain ⟨j2, hj2⟩ : ∃ j2, j2 = j + n := ⟨_, rfl⟩
            have hj2b : j2 ≤ b.length := by omega
            rw [← hj2] at mX HR2
            clear ho g2 gX s2 m2 hrd2 r2 hj2 f2 hN
            have hbb : ((v : Int) == (v : Int)) = true := by simp
            have hdum : True := trivial

            have hszX : w.heap.size ≤ wX.heap.size := bX.size
            have Rl : R2.length = b.length - j2 := by rw [HR2.out, List.length_drop]
            have hne2 : ((R2.length : Int) != (b.length : Int) - (j2 : Int)) = false := by rw [bne_eq_false_iff_eq, Rl]; omega
            have hwr : IntKind.i64.wrap ((b.length : Int) - (j2 : Int)) = (b.length : Int) - (j2 : Int) := IntWalk.i64_in _ (by omega)
            have hgmX := mX.lt
            obtain ⟨badX, _, x1, _, _⟩ := mr_cells mX
            have x1' : ∀ x : Sub wX, x.u.cell? ⟨gm, 1, none⟩ = some (.int .i64 j2) := fun x => (x.h.cell (by exact hgmX)).trans x1
            clear Rl x1 e1 e2 e3 e4 e5
            go_wp2_with fail
            refine wp_region_cls (by kernel_rfl) (by kernel_rfl) ?_
            repeat (go_big_quiet_step ((go_at_call 19; exact left_quiet rX)))
            refine wpQuiet_nil ?_
            rintro _ ⟨x, rfl⟩
            go_wp2
            go_roundw
            case rel => exact ⟨k + 1, j2, R2, by go_num, by omega, by omega, HR2, by omega, rX.below x.h, mX.keep (x.h.block gm hgmX), bX.trans (x.h.mono hszX)⟩
            case measure => simp [intOf]; omega
        · have hKb : (xk == 1) = false := by simpa using hK
          match hN : textAt R xl with
          | none =>
            go_wp2_with fail
            refine (rtext_any R xl w.heap.size g _ rr1 bl.1 bl.2 hRl).mono ?_
            rintro e w2 ho
            obtain ⟨g2, s2, rfl, r2⟩ := ho.none_ hN
            have f2 : w2.cell? ⟨wr.heap.size, 1, none⟩ = some (.int .i64 xl) := g2.cell (by simp) (by simp; omega)
            have m2 : MR w2 gm Bb b.length cb j := mr1.far g2 hgm
            have hrd2 : Rd w2 w.heap.size Bb b := (HB.out.below (hbel.alloc hsz _)).keep fun p hp => World.cell?_of_block (g2.block p.block (by simp; omega) (by simp; omega))
            clear ho
            go_wp2_with fail
            refine (reftext_any Bb b cb j gm w.heap.size xl w2 m2 hrd2 (by omega) hj hcb hcbm (by omega) bl.1 bl.2).mono ?_
            rintro e wX ho
            obtain ⟨gX, rfl, mX⟩ := ho.none_ (by rw [← HRj.out]; exact hN)
            have rX : Rdr wX w.heap.size g (R) := r2.far gX hgm
            have bX : Below w.heap.size w wX := ((hbel.alloc hsz _).trans (below_of_grown g2 (by simp; omega) hbg)).trans (below_of_grown gX (by rw [s2]; simp; omega) (by omega))
            obtain ⟨R2, HR2⟩ : ∃ R2, Hid (R2 = b.drop (j)) := ⟨_, rfl⟩
            rw [show (R) = R2 from by rw [HR2.out, HRj.out]] at rX
            obtain ⟨j2, hj2⟩ : ∃ j2, j2 = j := ⟨_, rfl⟩
            have hj2b : j2 ≤ b.length := by omega
            rw [← hj2] at mX HR2
            clear ho g2 gX s2 m2 hrd2 r2 hj2 f2 hN
            have hdum : True := trivial

            have hszX : w.heap.size ≤ wX.heap.size := bX.size
            have Rl : R2.length = b.length - j2 := by rw [HR2.out, List.length_drop]
            have hne2 : ((R2.length : Int) != (b.length : Int) - (j2 : Int)) = false := by rw [bne_eq_false_iff_eq, Rl]; omega
            have hwr : IntKind.i64.wrap ((b.length : Int) - (j2 : Int)) = (b.length : Int) - (j2 : Int) := IntWalk.i64_in _ (by omega)
            have hgmX := mX.lt
            obtain ⟨badX, _, x1, _, _⟩ := mr_cells mX
            have x1' : ∀ x : Sub wX, x.u.cell? ⟨gm, 1, none⟩ = some (.int .i64 j2) := fun x => (x.h.cell (by exact hgmX)).trans x1
            clear Rl x1 e1 e2 e3 e4 e5
            go_wp2_with fail
            refine wp_region_cls (by kernel_rfl) (by kernel_rfl) ?_
            repeat (go_big_quiet_step ((go_at_call 19; exact left_quiet rX)))
            refine wpQuiet_nil ?_
            rintro _ ⟨x, rfl⟩
            go_wp2
            go_roundw
            case rel => exact ⟨k + 1, j2, R2, by go_num, by omega, by omega, HR2, by omega, rX.below x.h, mX.keep (x.h.block gm hgmX), bX.trans (x.h.mono hszX)⟩
            case measure => simp [intOf]; omega
          | some (v, n) =>
            have hnR : n + v ≤ R.length := text_num hN
            have hjn : j + n + v ≤ b.length := by rw [HRj.out, List.length_drop] at hnR; omega
            go_wp2_with fail
            refine (rtext_any R xl w.heap.size g _ rr1 bl.1 bl.2 hRl).mono ?_
            rintro e w2 ho
            obtain ⟨g2, s2, ⟨S, rfl, HS⟩, r2⟩ := ho.some_ hN
            have f2 : w2.cell? ⟨wr.heap.size, 1, none⟩ = some (.int .i64 xl) := g2.cell (by simp) (by simp; omega)
            have m2 : MR w2 gm Bb b.length cb j := mr1.far g2 hgm
            have hrd2 : Rd w2 w.heap.size Bb b := (HB.out.below (hbel.alloc hsz _)).keep fun p hp => World.cell?_of_block (g2.block p.block (by simp; omega) (by simp; omega))
            clear ho
            go_wp2_with fail
            refine (reftext_any Bb b cb j gm w.heap.size xl w2 m2 hrd2 (by omega) hj hcb hcbm (by omega) bl.1 bl.2).mono ?_
            rintro e wX ho
            obtain ⟨gX, rfl, mX⟩ := ho.some_ (by rw [← HRj.out]; exact hN) (S := S) (by rw [← HRj.out]; exact HS.out)
            have rX : Rdr wX w.heap.size g (R.drop (n + v)) := r2.far gX hgm
            have bX : Below w.heap.size w wX := ((hbel.alloc hsz _).trans (below_of_grown g2 (by simp; omega) hbg)).trans (below_of_grown gX (by rw [s2]; simp; omega) (by omega))
            obtain ⟨R2, HR2⟩ : ∃ R2, Hid (R2 = b.drop (j + n + v)) := ⟨_, rfl⟩
            rw [show (R.drop (n + v)) = R2 from by rw [HR2.out, HRj.out, List.drop_drop, Nat.add_assoc]] at rX
            obtain ⟨j2, hj2⟩ : ∃ j2, j2 = j + n + v := ⟨_, rfl⟩
            have hj2b : j2 ≤ b.length := by omega
            rw [← hj2] at mX HR2
            clear ho g2 gX s2 m2 hrd2 r2 hj2 f2 hN
            have hbb : (S.toList == S.toList) = true := by simp
            have hdum : True := trivial

            have hszX : w.heap.size ≤ wX.heap.size := bX.size
            have Rl : R2.length = b.length - j2 := by rw [HR2.out, List.length_drop]
            have hne2 : ((R2.length : Int) != (b.length : Int) - (j2 : Int)) = false := by rw [bne_eq_false_iff_eq, Rl]; omega
            have hwr : IntKind.i64.wrap ((b.length : Int) - (j2 : Int)) = (b.length : Int) - (j2 : Int) := IntWalk.i64_in _ (by omega)
            have hgmX := mX.lt
            obtain ⟨badX, _, x1, _, _⟩ := mr_cells mX
            have x1' : ∀ x : Sub wX, x.u.cell? ⟨gm, 1, none⟩ = some (.int .i64 j2) := fun x => (x.h.cell (by exact hgmX)).trans x1
            clear Rl x1 e1 e2 e3 e4 e5
            go_wp2_with fail
            refine wp_region_cls (by kernel_rfl) (by kernel_rfl) ?_
            repeat (go_big_quiet_step ((go_at_call 19; exact left_quiet rX)))
            refine wpQuiet_nil ?_
            rintro _ ⟨x, rfl⟩
            go_wp2
            go_roundw
            case rel => exact ⟨k + 1, j2, R2, by go_num, by omega, by omega, HR2, by omega, rX.below x.h, mX.keep (x.h.block gm hgmX), bX.trans (x.h.mono hszX)⟩
            case measure => simp [intOf]; omega
      · rcases (show ¬ k < l.length ∨ (k < l.length ∧ ¬ k < 60) from by omega) with h | ⟨h, h'⟩
        all_goals
          clear hlt
          go_wp2_with fail
          refine (alive_any wr).mono ?_
          rintro e wY ⟨rfl, bY⟩
          go_wp2
          go_ret
          exact ⟨rfl, hbel.trans (bY.mono hsz)⟩
end Go.Proofs.Ytnjghodjpbalcaa
