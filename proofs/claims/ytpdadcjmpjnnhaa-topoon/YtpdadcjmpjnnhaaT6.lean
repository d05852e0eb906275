/- Contracts: the document's Reaches. -/
import Derived.Test.YtpdadcjmpjnnhaaT1
import Derived.Deep.OwnRows
namespace Go.Proofs.Ytpdadcjmpjnnhaa
open Go.RowKit Go.Shelf

/-- Bools of n devices, as cells. -/
def blA (n : Nat) (S : Int → Bool) : Array Value := ((List.range n).map fun i : Nat => Value.bool (S i)).toArray
theorem blA_size (n : Nat) (S : Int → Bool) : (blA n S).size = n := by simp [blA]
theorem blA_at (n : Nat) (S : Int → Bool) (j : Nat) (h : j < n) : (blA n S)[j]? = some (.bool (S j)) := by simp [blA, h]
theorem blA_set (n : Nat) (S : Int → Bool) (j : Nat) (v : Bool) : (blA n S).setIfInBounds j (.bool v) = blA n (fun i => if i = (j : Int) then v else S i) := by
  apply Array.ext_getElem?
  intro i
  rw [Array.getElem?_setIfInBounds]
  by_cases hij : j = i
  · subst hij
    by_cases hj : j < n <;> simp [blA, hj]
  · rw [if_neg hij]
    by_cases hi : i < n
    · have : ¬ (i : Int) = (j : Int) := by omega
      simp [blA, hi, this]
    · simp [blA, hi]
theorem made_bools (n : Nat) : madeCells #[.bool false] n = blA n (fun _ => false) := by
  apply Array.ext
  · simp [madeCells, blA]
  · intro i h1 h2
    simp [madeCells, blA, Nat.mod_one]
theorem infoB : (Try.prog.info? 4).map (fun i => (i.zero, i.size, i.bytes)) = some (some (.bool false), 1, 1) := by kernel_rfl
/-- Is it reached, as the document reckons? -/
def reachT (ps : List Int) (ls : List Lk) (a b : Int) : Bool := decide (0 ≤ a) && (decide (a < (ps.length : Int)) && (decide (0 ≤ b) && (decide (b < (ps.length : Int)) && rnds ls (oneS a) ps.length b)))
theorem rnd_take (ls : List Lk) (S : Int → Bool) (k : Nat) (hk : k < ls.length) : rnd (ls.take (k + 1)) S = rlx (rnd (ls.take k) S) ls[k] := by
  unfold rnd; rw [List.take_succ_eq_append_getElem hk, List.foldl_append]; rfl
/-- A link's two stores. -/
theorem rlx_two (S : Int → Bool) (x y : Int) (l : Lk) (hx : l.a.d = x) (hy : l.b.d = y) : (fun i => if i = y then (S x || S y) else if i = x then (S x || S y) else S i) = rlx S l := by
  funext i
  unfold rlx
  rw [hx, hy]
  by_cases h1 : i = y
  · rw [if_pos h1, if_pos (.inr h1)]
  · rw [if_neg h1]
    by_cases h2 : i = x
    · rw [if_pos h2, if_pos (.inl h2)]
    · rw [if_neg h2, if_neg (by exact fun h => h.elim h2 h1)]
set_option maxRecDepth 100000 in
set_option maxHeartbeats 1000000 in
theorem rreaches_out {vp vl : Value} (ps : List Int) (ls : List Lk) (a b : Int) (w : World) (h : IsT w vp vl ps ls) (hno : ¬ ((0 ≤ a ∧ a < (ps.length : Int)) ∧ 0 ≤ b ∧ b < (ps.length : Int))) : Calls Try.prog 22 #[.agg #[vp, vl], .int .i64 a, .int .i64 b] w fun e w' => e = .returned (.bool false) ∧ Below w.heap.size w w' := by
  obtain ⟨⟨A1, c1, rfl, n1, m1, _⟩, ⟨A2, c2, rfl, n2, m2, _⟩⟩ := h
  have hM : ps.length ≤ 9223372036854775807 := Nat.le_trans n1 m1
  have b0 : Below w.heap.size w (w.alloc (.cells #[.slice A1 ps.length c1, .slice A2 ls.length c2] 25)) := (Below.refl _ w).alloc (Nat.le_refl _) _
  by_cases h1 : a < 0
  · have e1 : decide (a < 0) = true := decide_eq_true h1
    clear hno
    go_enter Try.func22, Try.ntmps22
    go_wp2
    go_ret
    exact ⟨rfl, b0⟩
  · have e1 : decide (a < 0) = false := decide_eq_false h1
    by_cases h2 : (ps.length : Int) ≤ a
    · have e2 : decide ((ps.length : Int) ≤ a) = true := decide_eq_true h2
      clear hno
      go_enter Try.func22, Try.ntmps22
      go_wp2
      go_ret
      exact ⟨rfl, b0⟩
    · have e2 : decide ((ps.length : Int) ≤ a) = false := decide_eq_false h2
      by_cases h3 : b < 0
      · have e3 : decide (b < 0) = true := decide_eq_true h3
        clear hno
        go_enter Try.func22, Try.ntmps22
        go_wp2
        go_ret
        exact ⟨rfl, b0⟩
      · have e3 : decide (b < 0) = false := decide_eq_false h3
        have h4 : (ps.length : Int) ≤ b := by omega
        have e4 : decide ((ps.length : Int) ≤ b) = true := decide_eq_true h4
        clear hno
        go_enter Try.func22, Try.ntmps22
        go_wp2
        go_ret
        exact ⟨rfl, b0⟩
set_option maxRecDepth 100000 in
set_option maxHeartbeats 4000000 in
/-- The document's Reaches, of a right topology. -/
theorem rreaches_any {vp vl : Value} (ps : List Int) (ls : List Lk) (a b : Int) (w : World) (hR : RT ps ls) (h : IsT w vp vl ps ls) : Calls Try.prog 22 #[.agg #[vp, vl], .int .i64 a, .int .i64 b] w fun e w' => e = .returned (.bool (reachT ps ls a b)) ∧ Below w.heap.size w w' := by
  by_cases hin : (0 ≤ a ∧ a < (ps.length : Int)) ∧ 0 ≤ b ∧ b < (ps.length : Int)
  case neg =>
    have e : reachT ps ls a b = false := by
      cases hr : reachT ps ls a b with
      | false => rfl
      | true => simp only [reachT, Bool.and_eq_true, decide_eq_true_eq] at hr; exact absurd ⟨⟨hr.1, hr.2.1⟩, hr.2.2.1, hr.2.2.2.1⟩ hin
    rw [e]
    exact rreaches_out ps ls a b w h hin
  obtain ⟨⟨ha0, ha1⟩, hb0, hb1⟩ := hin
  obtain ⟨V, hV⟩ : ∃ V, V = reachT ps ls a b := ⟨_, rfl⟩
  rw [← hV]
  have HV : Hid (V = rnds ls (oneS a) ps.length b) := Lib.hid (by rw [hV, reachT, decide_eq_true ha0, decide_eq_true ha1, decide_eq_true hb0, decide_eq_true hb1]; rfl)
  clear hV
  obtain ⟨ka, rfl⟩ := Int.eq_ofNat_of_zero_le ha0
  obtain ⟨kb, rfl⟩ := Int.eq_ofNat_of_zero_le hb0
  obtain ⟨⟨A1, c1, rfl, n1, m1, _⟩, ⟨A2, c2, rfl, n2, m2, z2⟩⟩ := h
  have hM : ps.length ≤ 9223372036854775807 := Nat.le_trans n1 m1
  have hL : ls.length ≤ 9223372036854775807 := Nat.le_trans n2 m2
  have hn8 := hR.n8
  have HN := Lib.hid hR.inN
  have D0 := At.new w #[.slice A1 ps.length c1, .slice A2 ls.length c2] 25
  have b0 : Below w.heap.size w (w.alloc (.cells #[.slice A1 ps.length c1, .slice A2 ls.length c2] 25)) := (Below.refl _ w).alloc (Nat.le_refl _) _
  have HZ := Lib.hid (z2.belows b0)
  have hmk := fun u : World => run_make_row' (P := Try.prog) 64 4 (.bool false) 1 Try.underlying64 infoB rfl .i64 .i64 ps.length (by omega) (by omega) u
  rw [made_bools] at hmk
  have e1 : decide ((ka : Int) < 0) = false := decide_eq_false (by omega)
  have e2 : decide ((ps.length : Int) ≤ (ka : Int)) = false := decide_eq_false (by omega)
  have e3 : decide ((kb : Int) < 0) = false := decide_eq_false (by omega)
  have e4 : decide ((ps.length : Int) ≤ (kb : Int)) = false := decide_eq_false (by omega)
  generalize hnn : ps.length = n at *
  clear z2 hR hnn
  go_enter Try.func22, Try.ntmps22
  obtain ⟨w0, hw0⟩ : ∃ w0, w0 = w.alloc (.cells #[.slice A1 n c1, .slice A2 ls.length c2] 25) := ⟨_, rfl⟩
  rw [← hw0] at D0 b0 HZ
  have HSZ : Hid (w.heap.size + 1 = w0.heap.size) := Lib.hid (by rw [hw0]; simp)
  go_upto_region 5 with (fail)
  rw [← hw0, HSZ.out]
  clear hw0 hmk e1 e2 e3 e4 HSZ
  have S0 := At.new w0 (blA n fun _ => false) 4
  have bS : Below w0.heap.size w0 (w0.alloc (.cells (blA n fun _ => false) 4)) := (Below.refl _ _).alloc (Nat.le_refl _) _
  obtain ⟨w1, hw1⟩ : ∃ w1, w1 = w0.alloc (.cells (blA n fun _ => false) 4) := ⟨_, rfl⟩
  rw [← hw1] at S0 bS ⊢
  clear hw1
  have s0 := (S0.cell ka).trans (blA_at n _ ka (by omega))
  have q0 := S0.frozen ka
  have hone : blA n (fun i => if i = (ka : Int) then true else false) = blA n (rnds ls (oneS ka) 0) := by
    have e : (fun i : Int => if i = (ka : Int) then true else false) = rnds ls (oneS ka) 0 := by
      funext i
      show _ = decide (i = (ka : Int))
      by_cases h : i = (ka : Int) <;> simp [h]
    rw [e]
  have S1 : At (w1.setCell ⟨w0.heap.size, ka, none⟩ (.bool true)) w0.heap.size (blA n (rnds ls (oneS ka) 0)) 4 := by
    have := S0.set0 ka (.bool true)
    rw [blA_set, hone] at this
    exact this
  have bS1 : Below w0.heap.size w0 (w1.setCell ⟨w0.heap.size, ka, none⟩ (.bool true)) := bS.setCell (p := ⟨w0.heap.size, ka, none⟩) (Nat.le_refl _) _
  have i0 : (0 : Int) ≤ (ka : Int) := by omega
  clear hone S0
  go_upto_region 6 with (fail)
  clear s0 q0
  obtain ⟨w2, hw2⟩ : ∃ w2, w2 = w1.setCell ⟨w0.heap.size, ka, none⟩ (.bool true) := ⟨_, rfl⟩
  rw [← hw2] at S1 bS1 ⊢
  clear hw2 bS
  go_wp2
  go_loopw [9] (fun r wr => ∃ rr : Nat, r = .int .i64 rr ∧ rr ≤ n ∧ Hid (At wr w0.heap.size (blA n (rnds ls (oneS ka) rr)) 4 ∧ Below w0.heap.size w0 wr)) (fun r _ => n - (intOf r).toNat)
  case atStart => exact ⟨0, rfl, by omega, Lib.hid ⟨S1, bS1⟩⟩
  case round =>
    obtain ⟨rr, rfl, hrr, HI⟩ := hrel
    by_cases hlt : rr < n
    · have hri : (rr : Int) < (n : Int) := by omega
      obtain ⟨wo, rfl⟩ : ∃ wo, wo = wr := ⟨_, rfl⟩
      generalize hT : rnds ls (oneS ka) rr = T at HI
      have HT : Hid (rnds ls (oneS ka) (rr + 1) = rnd ls T) := Lib.hid (by show rnd ls (rnds ls (oneS ka) rr) = _; rw [hT])
      clear hT S1 bS1
      go_wp2
      go_loopw [10] (fun i wr => ∃ k : Nat, i = .int .i64 k ∧ k ≤ ls.length ∧ Hid (At wr w0.heap.size (blA n (rnd (ls.take k) T)) 4 ∧ Below w0.heap.size w0 wr)) (fun i _ => ls.length - (intOf i).toNat)
      case atStart => exact ⟨0, rfl, by omega, Lib.hid ⟨HI.out.1, HI.out.2⟩⟩
      case round =>
        obtain ⟨k, rfl, hk, HJ⟩ := hrel
        obtain ⟨Ak, bk⟩ := HJ.out
        have Dk := D0.belows bk
        have x0 := (Dk.cell 0).trans rfl
        have x1 := (Dk.cell 1).trans rfl
        by_cases hkl : k < ls.length
        · obtain ⟨g, o, f2, hg, r⟩ := HZ.out.at k hkl
          subst f2
          have r0' := r 0 (by decide); have r2' := r 2 (by decide)
          obtain ⟨⟨lx0, lx1⟩, ly0, ly1⟩ := HN.out ls[k] (List.getElem_mem hkl)
          have HE := Lib.hid (rnd_take ls T k hkl)
          clear r HJ
          generalize ls[k] = l at r0' r2' lx0 lx1 ly0 ly1 HE
          obtain ⟨⟨xd, xp⟩, ⟨yd, yp⟩⟩ := l
          dsimp only at lx0 lx1 ly0 ly1
          obtain ⟨kx, rfl⟩ := Int.eq_ofNat_of_zero_le lx0
          obtain ⟨ky, rfl⟩ := Int.eq_ofNat_of_zero_le ly0
          have r0 : wr.cell? ⟨g, o + k * 4, none⟩ = some (.int .i64 kx) := (bk.cell (p := ⟨g, o + k * 4, none⟩) hg).trans r0'
          have r2 : wr.cell? ⟨g, o + k * 4 + 2, none⟩ = some (.int .i64 ky) := (bk.cell (p := ⟨g, o + k * 4 + 2, none⟩) hg).trans r2'
          have i1 : (0 : Int) ≤ (k : Int) := by omega
          have i2 : (k : Int) < (ls.length : Int) := by omega
          have j1 : (0 : Int) ≤ (kx : Int) := by omega
          have j2 : (kx : Int) < (n : Int) := by omega
          have j3 : (0 : Int) ≤ (ky : Int) := by omega
          have j4 : (ky : Int) < (n : Int) := by omega
          generalize rnd (ls.take k) T = S at Ak HE
          have cx := (Ak.cell kx).trans (blA_at n S kx (by omega))
          have cy := (Ak.cell ky).trans (blA_at n S ky (by omega))
          have zx := Ak.frozen kx
          have HBo : Hid (∀ v : Bool, v = (S kx || S ky) → blA n (fun i => if i = (ky : Int) then v else if i = (kx : Int) then v else S i) = blA n (rnd (ls.take (k + 1)) T)) := Lib.hid fun v hv => by
            rw [HE.out, hv]
            rw [← rlx_two S kx ky ⟨⟨kx, xp⟩, ⟨ky, yp⟩⟩ rfl rfl]
          have HA := Lib.hid Ak
          have Hbk := Lib.hid bk
          clear r0' r2' HE Ak bk Dk
          generalize hsx : S kx = sx at cx HBo
          generalize hsy : S ky = sy at cy HBo
          clear hsx hsy
          cases sx with
          | true =>
            go_upto_region 16 with (fail)
            obtain ⟨w5, hw5⟩ : ∃ w5, w5 = wr.setCell ⟨w0.heap.size, kx, none⟩ (.bool true) := ⟨_, rfl⟩
            have A5 := HA.out.set0 kx (.bool true)
            rw [blA_set, ← hw5] at A5
            have b5 := Hbk.out.setCell (p := ⟨w0.heap.size, kx, none⟩) (Nat.le_refl _) (.bool true)
            rw [← hw5] at b5 ⊢
            clear hw5 cx cy zx x0 x1 r0 r2
            have cz := (A5.cell ky).trans (blA_at n _ ky (by omega))
            have zz := A5.frozen ky
            have A6 := A5.set0 ky (.bool true)
            rw [blA_set, HBo.out true (by simp)] at A6
            have H6 := Lib.hid A6
            have Hb6 := Lib.hid (b5.setCell (p := ⟨w0.heap.size, ky, none⟩) (Nat.le_refl _) (.bool true))
            clear A6 A5 b5
            go_wp2_with fail
            exact ⟨⟨k + 1, by go_num, by omega, Lib.hid ⟨H6.out, Hb6.out⟩⟩, by simp [intOf]; omega⟩
          | false =>
            go_upto_region 16 with (fail)
            obtain ⟨w5, hw5⟩ : ∃ w5, w5 = wr.setCell ⟨w0.heap.size, kx, none⟩ (.bool sy) := ⟨_, rfl⟩
            have A5 := HA.out.set0 kx (.bool sy)
            rw [blA_set, ← hw5] at A5
            have b5 := Hbk.out.setCell (p := ⟨w0.heap.size, kx, none⟩) (Nat.le_refl _) (.bool sy)
            rw [← hw5] at b5 ⊢
            clear hw5 cx cy zx x0 x1 r0 r2
            have cz := (A5.cell ky).trans (blA_at n _ ky (by omega))
            have zz := A5.frozen ky
            have A6 := A5.set0 ky (.bool sy)
            rw [blA_set, HBo.out sy (by simp)] at A6
            have H6 := Lib.hid A6
            have Hb6 := Lib.hid (b5.setCell (p := ⟨w0.heap.size, ky, none⟩) (Nat.le_refl _) (.bool sy))
            clear A6 A5 b5
            go_wp2_with fail
            exact ⟨⟨k + 1, by go_num, by omega, Lib.hid ⟨H6.out, Hb6.out⟩⟩, by simp [intOf]; omega⟩
        · obtain rfl : k = ls.length := by omega
          have hki : ¬ (ls.length : Int) < (ls.length : Int) := by omega
          rw [List.take_length, ← HT.out] at Ak
          have HA := Lib.hid Ak
          have Hbk := Lib.hid bk
          clear Ak bk Dk HJ
          go_wp2
          go_roundw
          case rel => exact ⟨rr + 1, by go_num, by omega, Lib.hid ⟨HA.out, Hbk.out⟩⟩
          case measure => simp [intOf]; omega
    · obtain rfl : rr = n := by omega
      obtain ⟨Ar, br⟩ := HI.out
      have hri : ¬ (rr : Int) < (rr : Int) := by omega
      have s0 := (Ar.cell kb).trans (blA_at rr _ kb (by omega))
      rw [← HV.out] at s0
      have j1 : (0 : Int) ≤ (kb : Int) := by omega
      clear Ar HI
      go_wp2
      go_ret
      exact ⟨rfl, b0.trans (br.mono b0.size)⟩
end Go.Proofs.Ytpdadcjmpjnnhaa
