/- Contracts: the document's within, Right, All. -/
import Derived.Test.YtmndgbpfophniaaD7
namespace Go.Proofs.Ytmndgbpfophniaa
open Go.RowKit Go.Shelf

theorem rwithin_any (n b : Int) (w : World) : Calls Try.prog 50 #[.int .i64 n, .int .i64 b] w fun e w' => e = .returned (.bool (wn n 0 b)) ∧ w = w' := by
  by_cases h : 0 ≤ n
  · have d1 : decide (0 ≤ n) = true := decide_eq_true h
    unfold wn; rw [d1, Bool.true_and]
    go_enter Try.func50, Try.ntmps50
    go_wp2
    go_ret
    exact ⟨rfl, rfl⟩
  · have d1 : decide (0 ≤ n) = false := decide_eq_false h
    unfold wn; rw [d1, Bool.false_and]
    go_enter Try.func50, Try.ntmps50
    go_wp2
    go_ret
    exact ⟨rfl, rfl⟩
/-- Whether a rule is right, as the document reckons it. -/
def dB (id dv pr kd : Int) (f t : Nat) (pt : Int) : Bool := ((((wn (wrap64 (id - 1)) 0 1048575 && wn dv 0 7) && (wn pr 0 1024 && wn kd 0 3)) && wn pt 0 3) && decide (f ≤ t)) && (decide (kd = 0) || decide (pt = 0))
set_option maxRecDepth 100000 in
set_option maxHeartbeats 2000000 in
theorem rright_raw (id dv pr kd : Int) (f t : Nat) (pt : Int) (w : World) : Calls Try.prog 37 #[.agg #[.int .i64 id, .int .i64 dv, .int .i64 pr, .int .i64 kd, .int .u32 f, .int .u32 t, .int .i64 pt]] w fun e w' => e = .returned (.bool (dB id dv pr kd f t pt)) ∧ Below w.heap.size w w' := by
  unfold dB
  cases h1 : wn (wrap64 (id - 1)) 0 1048575 with
  | false =>
    cases h3 : wn pr 0 1024 with
    | false =>
      cases h5 : wn pt 0 3 with
      | false =>
        go_enter Try.func37, Try.ntmps37
        go_wp2_with (go_at_call 50; refine (rwithin_any _ _ _).mono ?_; rintro e w1 ⟨rfl, rfl⟩)
        go_ret
        exact ⟨rfl, (Below.refl _ _).alloc (Nat.le_refl _) _⟩
      | true =>
        go_enter Try.func37, Try.ntmps37
        go_wp2_with (go_at_call 50; refine (rwithin_any _ _ _).mono ?_; rintro e w1 ⟨rfl, rfl⟩)
        go_ret
        exact ⟨rfl, (Below.refl _ _).alloc (Nat.le_refl _) _⟩
    | true =>
      cases h4 : wn kd 0 3 with
      | false =>
        cases h5 : wn pt 0 3 with
        | false =>
          go_enter Try.func37, Try.ntmps37
          go_wp2_with (go_at_call 50; refine (rwithin_any _ _ _).mono ?_; rintro e w1 ⟨rfl, rfl⟩)
          go_ret
          exact ⟨rfl, (Below.refl _ _).alloc (Nat.le_refl _) _⟩
        | true =>
          go_enter Try.func37, Try.ntmps37
          go_wp2_with (go_at_call 50; refine (rwithin_any _ _ _).mono ?_; rintro e w1 ⟨rfl, rfl⟩)
          go_ret
          exact ⟨rfl, (Below.refl _ _).alloc (Nat.le_refl _) _⟩
      | true =>
        cases h5 : wn pt 0 3 with
        | false =>
          go_enter Try.func37, Try.ntmps37
          go_wp2_with (go_at_call 50; refine (rwithin_any _ _ _).mono ?_; rintro e w1 ⟨rfl, rfl⟩)
          go_ret
          exact ⟨rfl, (Below.refl _ _).alloc (Nat.le_refl _) _⟩
        | true =>
          go_enter Try.func37, Try.ntmps37
          go_wp2_with (go_at_call 50; refine (rwithin_any _ _ _).mono ?_; rintro e w1 ⟨rfl, rfl⟩)
          go_ret
          exact ⟨rfl, (Below.refl _ _).alloc (Nat.le_refl _) _⟩
  | true =>
    cases h2 : wn dv 0 7 with
    | false =>
      cases h3 : wn pr 0 1024 with
      | false =>
        cases h5 : wn pt 0 3 with
        | false =>
          go_enter Try.func37, Try.ntmps37
          go_wp2_with (go_at_call 50; refine (rwithin_any _ _ _).mono ?_; rintro e w1 ⟨rfl, rfl⟩)
          go_ret
          exact ⟨rfl, (Below.refl _ _).alloc (Nat.le_refl _) _⟩
        | true =>
          go_enter Try.func37, Try.ntmps37
          go_wp2_with (go_at_call 50; refine (rwithin_any _ _ _).mono ?_; rintro e w1 ⟨rfl, rfl⟩)
          go_ret
          exact ⟨rfl, (Below.refl _ _).alloc (Nat.le_refl _) _⟩
      | true =>
        cases h4 : wn kd 0 3 with
        | false =>
          cases h5 : wn pt 0 3 with
          | false =>
            go_enter Try.func37, Try.ntmps37
            go_wp2_with (go_at_call 50; refine (rwithin_any _ _ _).mono ?_; rintro e w1 ⟨rfl, rfl⟩)
            go_ret
            exact ⟨rfl, (Below.refl _ _).alloc (Nat.le_refl _) _⟩
          | true =>
            go_enter Try.func37, Try.ntmps37
            go_wp2_with (go_at_call 50; refine (rwithin_any _ _ _).mono ?_; rintro e w1 ⟨rfl, rfl⟩)
            go_ret
            exact ⟨rfl, (Below.refl _ _).alloc (Nat.le_refl _) _⟩
        | true =>
          cases h5 : wn pt 0 3 with
          | false =>
            go_enter Try.func37, Try.ntmps37
            go_wp2_with (go_at_call 50; refine (rwithin_any _ _ _).mono ?_; rintro e w1 ⟨rfl, rfl⟩)
            go_ret
            exact ⟨rfl, (Below.refl _ _).alloc (Nat.le_refl _) _⟩
          | true =>
            go_enter Try.func37, Try.ntmps37
            go_wp2_with (go_at_call 50; refine (rwithin_any _ _ _).mono ?_; rintro e w1 ⟨rfl, rfl⟩)
            go_ret
            exact ⟨rfl, (Below.refl _ _).alloc (Nat.le_refl _) _⟩
    | true =>
      cases h3 : wn pr 0 1024 with
      | false =>
        cases h5 : wn pt 0 3 with
        | false =>
          go_enter Try.func37, Try.ntmps37
          go_wp2_with (go_at_call 50; refine (rwithin_any _ _ _).mono ?_; rintro e w1 ⟨rfl, rfl⟩)
          go_ret
          exact ⟨rfl, (Below.refl _ _).alloc (Nat.le_refl _) _⟩
        | true =>
          go_enter Try.func37, Try.ntmps37
          go_wp2_with (go_at_call 50; refine (rwithin_any _ _ _).mono ?_; rintro e w1 ⟨rfl, rfl⟩)
          go_ret
          exact ⟨rfl, (Below.refl _ _).alloc (Nat.le_refl _) _⟩
      | true =>
        cases h4 : wn kd 0 3 with
        | false =>
          cases h5 : wn pt 0 3 with
          | false =>
            go_enter Try.func37, Try.ntmps37
            go_wp2_with (go_at_call 50; refine (rwithin_any _ _ _).mono ?_; rintro e w1 ⟨rfl, rfl⟩)
            go_ret
            exact ⟨rfl, (Below.refl _ _).alloc (Nat.le_refl _) _⟩
          | true =>
            go_enter Try.func37, Try.ntmps37
            go_wp2_with (go_at_call 50; refine (rwithin_any _ _ _).mono ?_; rintro e w1 ⟨rfl, rfl⟩)
            go_ret
            exact ⟨rfl, (Below.refl _ _).alloc (Nat.le_refl _) _⟩
        | true =>
          cases h5 : wn pt 0 3 with
          | false =>
            go_enter Try.func37, Try.ntmps37
            go_wp2_with (go_at_call 50; refine (rwithin_any _ _ _).mono ?_; rintro e w1 ⟨rfl, rfl⟩)
            go_ret
            exact ⟨rfl, (Below.refl _ _).alloc (Nat.le_refl _) _⟩
          | true =>
            cases h6 : decide (f ≤ t) with
            | false =>
              have h6i : decide ((f : Int) ≤ (t : Int)) = false := by rw [← h6]; congr 1; simp
              go_enter Try.func37, Try.ntmps37
              go_wp2_with (go_at_call 50; refine (rwithin_any _ _ _).mono ?_; rintro e w1 ⟨rfl, rfl⟩)
              go_ret
              exact ⟨rfl, (Below.refl _ _).alloc (Nat.le_refl _) _⟩
            | true =>
              cases h7 : decide (kd = 0) with
              | false =>
                have h6i : decide ((f : Int) ≤ (t : Int)) = true := by rw [← h6]; congr 1; simp
                have h7i : (kd == 0) = false := by rw [← h7]; rfl
                go_enter Try.func37, Try.ntmps37
                go_wp2_with (go_at_call 50; refine (rwithin_any _ _ _).mono ?_; rintro e w1 ⟨rfl, rfl⟩)
                go_ret
                exact ⟨rfl, (Below.refl _ _).alloc (Nat.le_refl _) _⟩
              | true =>
                have h6i : decide ((f : Int) ≤ (t : Int)) = true := by rw [← h6]; congr 1; simp
                have h7i : (kd == 0) = true := by rw [← h7]; rfl
                go_enter Try.func37, Try.ntmps37
                go_wp2_with (go_at_call 50; refine (rwithin_any _ _ _).mono ?_; rintro e w1 ⟨rfl, rfl⟩)
                go_ret
                exact ⟨rfl, (Below.refl _ _).alloc (Nat.le_refl _) _⟩
theorem dB_is (r : Ru) (h : r.wf) : dB r.id r.dv r.pr r.kd r.f r.t r.pt = ruB r := by
  obtain ⟨⟨a1, a2⟩, _, _, _, _, _, _⟩ := h
  have e : wn (wrap64 (r.id - 1)) 0 1048575 = decide (1 ≤ r.id ∧ r.id ≤ 1048576) := by
    by_cases hm : r.id = -9223372036854775808
    · rw [hm, show wrap64 (-9223372036854775808 - 1) = 9223372036854775807 from by unfold wrap64; rfl]
      simp [wn]
    · rw [IntWalk.wrap64_in (r.id - 1) (by omega)]
      unfold wn
      rw [← Bool.decide_and]
      congr 1
      apply propext; omega
  rw [Bool.eq_iff_iff, ruB_iff]
  unfold dB
  rw [e]
  simp only [wn, Bool.and_eq_true, Bool.or_eq_true, decide_eq_true_eq]
  omega
/-- The document's Right. -/
theorem rruright_any (r : Ru) (w : World) (h : r.wf) : Calls Try.prog 37 #[.agg (ruA r)] w fun e w' => e = .returned (.bool (ruB r)) ∧ Below w.heap.size w w' := by
  rw [← dB_is r h]
  obtain ⟨id, dv, pr, kd, f, t, pt⟩ := r
  exact rright_raw id dv pr kd f t pt w

set_option maxRecDepth 100000 in
set_option maxHeartbeats 1000000 in
/-- The document's All. -/
theorem rruall_any {v : Value} (L : List Ru) (w : World) (hwf : ∀ r ∈ L, r.wf) (h1 : IsR w v L) : Calls Try.prog 22 #[v] w fun e w' => e = .returned (.bool (allB L)) ∧ Below w.heap.size w w' := by
  obtain ⟨A1, c1, rfl, n1, m1, z1⟩ := h1
  have hL : L.length ≤ 9223372036854775807 := Nat.le_trans n1 m1
  have H1 := Lib.hid z1
  have HW : Hid (∀ k (hk : k < L.length) (u : World), Calls Try.prog 37 #[.agg (ruA L[k])] u fun e w' => e = .returned (.bool (ruB L[k])) ∧ Below u.heap.size u w') := Lib.hid fun k hk u => rruright_any _ u (hwf _ (List.getElem_mem hk))
  obtain ⟨q, hq⟩ : ∃ q, q = allB L := ⟨_, rfl⟩
  rw [← hq]
  have HQ := Lib.hid hq
  clear z1 hq hwf
  go_enter Try.func22, Try.ntmps22
  go_wp2
  go_loopw [3] (fun i wr => ∃ k : Nat, i = .int .i64 k ∧ k ≤ L.length ∧ Hid (∀ j (hj : j < L.length), j < k → ruB L[j] = true ∧ lastId L j < L[j].id) ∧ Below w.heap.size w wr) (fun i _ => L.length - (intOf i).toNat)
  case atStart => exact ⟨0, rfl, by omega, Lib.hid (fun j _ hj => by omega), Below.refl _ _⟩
  case round =>
    obtain ⟨k, rfl, hk, HK, hb⟩ := hrel
    by_cases hlt : k < L.length
    · have hcall := HW.out k hlt wr
      have hz := H1.out.belows hb
      obtain ⟨g1, o1, e1, hg, r0, r1, r2, r3, r4, r5, r6⟩ := hz.at k hlt
      subst e1
      have HX : Hid (ruB L[k] = true → lastId L k < L[k].id → ∀ j (h1 : j < L.length), j < k + 1 → ruB L[j] = true ∧ lastId L j < L[j].id) := Lib.hid fun e e' j h1 hj => by
        by_cases hjk : j = k
        · subst hjk; exact ⟨e, e'⟩
        · exact HK.out j h1 (by omega)
      have HY : Hid (ruB L[k] = false ∨ ¬ lastId L k < L[k].id → q = false) := Lib.hid fun e => by
        rw [HQ.out, ← Bool.not_eq_true, allB_iff]
        rintro ⟨_, h⟩
        have := h k hlt
        rcases e with e | e
        · rw [e] at this; exact absurd this.1 (by simp)
        · exact e this.2
      have HI : Hid (ruB L[k] = true → 1 ≤ L[k].id) := Lib.hid fun e => ((ruB_iff _).1 e).1.1
      have HZ : Hid (∀ m, k = m + 1 → ∀ u, Below wr.heap.size wr u → u.cell? ⟨g1, o1 + m * 7, none⟩ = some (.int .i64 (lastId L k)) ∧ u.cell? ⟨g1, o1 + k * 7, none⟩ = some (.int .i64 L[k].id)) := Lib.hid fun m hm u hu => by
        obtain ⟨g', o', e', hg', r', _⟩ := hz.at m (by omega)
        cases e'
        have e2 : lastId L k = (L[m]'(by omega)).id := by subst hm; simp [lastId, show m < L.length by omega]
        rw [e2]
        exact ⟨(hu.cell (p := ⟨g1, o1 + m * 7, none⟩) hg').trans r', (hu.cell (p := ⟨g1, o1 + k * 7, none⟩) hg).trans r0⟩
      clear hz HK
      have hl0 : k = 0 → lastId L k = 0 := fun e => by subst e; rfl
      generalize lastId L k = la at HX HY HZ hl0
      generalize L[k] = x at r0 r1 r2 r3 r4 r5 r6 hcall HX HY HI HZ
      have i0 : (0 : Int) ≤ (k : Int) := by omega
      have i1 : (k : Int) < (L.length : Int) := by omega
      cases hr : ruB x with
      | false =>
        have hqf := HY.out (Or.inl hr)
        subst hqf
        rw [hr] at hcall
        clear HX HY HI HZ hl0
        obtain ⟨id, dv, pr, kd, f, t, pt⟩ := x
        rw [ruA_mk] at hcall
        dsimp only at r0 r1 r2 r3 r4 r5 r6
        go_wp2_with (go_at_call 37; refine hcall.mono ?_; rintro e w1 ⟨rfl, b1⟩)
        go_quiet (fail)
        go_wp2
        go_ret
        exact ⟨rfl, bdrewN (hb.trans (b1.mono hb.size)) _⟩
      | true =>
        rw [hr] at hcall
        by_cases hk0 : k = 0
        · have HV : Hid (∀ j (h1 : j < L.length), j < k + 1 → ruB L[j] = true ∧ lastId L j < L[j].id) := Lib.hid (HX.out hr (by have := HI.out hr; rw [hl0 hk0]; omega))
          have hkz : decide ((0 : Int) < (k : Int)) = false := by simp [hk0]
          have hkn : decide (0 < k) = false := by simp [hk0]
          have HK0 := Lib.hid hk0
          clear HX HY HI HZ hl0 hk0 hr
          obtain ⟨id, dv, pr, kd, f, t, pt⟩ := x
          rw [ruA_mk] at hcall
          dsimp only at r0 r1 r2 r3 r4 r5 r6
          go_wp2_with (go_at_call 37; refine hcall.mono ?_; rintro e w1 ⟨rfl, b1⟩)
          go_quiet (fail)
          go_wp2
          go_roundw
          case rel => exact ⟨k + 1, by go_num, by omega, HV, bdrewN (hb.trans (b1.mono hb.size)) _⟩
          case measure => simp [intOf]; omega
        · obtain ⟨m, hm⟩ : ∃ m, k = m + 1 := ⟨k - 1, by omega⟩
          have hwr : IntKind.i64.wrap ((k : Int) - 1) = (m : Int) := by rw [IntWalk.i64_in _ (by omega)]; omega
          have hwr2 : wrap64 ((k : Int) - 1) = (m : Int) := by rw [IntWalk.wrap64_in _ (by omega)]; omega
          have hwr3 : (k : Int) - 1 = (m : Int) := by omega
          have hkz : decide ((0 : Int) < (k : Int)) = true := by simp; omega
          have hkn : decide (0 < k) = true := by simp; omega
          have m0 : (0 : Int) ≤ (m : Int) := by omega
          have m1' : (m : Int) < (L.length : Int) := by omega
          have hcell := HZ.out m hm
          have HM := Lib.hid hm
          by_cases hlast : la < x.id
          · have HV : Hid (∀ j (h1 : j < L.length), j < k + 1 → ruB L[j] = true ∧ lastId L j < L[j].id) := Lib.hid (HX.out hr hlast)
            clear HX HY HI HZ hl0 hk0 hm
            obtain ⟨id, dv, pr, kd, f, t, pt⟩ := x
            rw [ruA_mk] at hcall
            dsimp only at r0 r1 r2 r3 r4 r5 r6 hcell hlast
            have hge : decide (id ≤ la) = false := by simp; omega
            go_wp2_with (go_at_call 37; refine hcall.mono ?_; rintro e w1 ⟨rfl, b1⟩; obtain ⟨cA, cB⟩ := hcell w1 b1; clear hcell)
            go_quiet (fail)
            go_wp2
            go_roundw
            case rel => exact ⟨k + 1, by go_num, by omega, HV, bdrewN (hb.trans (b1.mono hb.size)) _⟩
            case measure => simp [intOf]; omega
          · have hqf := HY.out (Or.inr hlast)
            subst hqf
            clear HX HY HI HZ hl0 hk0 hm
            obtain ⟨id, dv, pr, kd, f, t, pt⟩ := x
            rw [ruA_mk] at hcall
            dsimp only at r0 r1 r2 r3 r4 r5 r6 hcell hlast
            have hge : decide (id ≤ la) = true := by simp; omega
            go_wp2_with (go_at_call 37; refine hcall.mono ?_; rintro e w1 ⟨rfl, b1⟩; obtain ⟨cA, cB⟩ := hcell w1 b1; clear hcell)
            go_quiet (fail)
            go_wp2
            go_ret
            exact ⟨rfl, bdrewN (hb.trans (b1.mono hb.size)) _⟩
    · have hqt : q = decide (L.length ≤ 40) := by
        rw [HQ.out, Bool.eq_iff_iff, allB_iff, decide_eq_true_eq]
        exact ⟨fun h => h.1, fun h => ⟨h, fun k' hk' => HK.out k' hk' (by omega)⟩⟩
      have hqi : q = decide ((L.length : Int) ≤ 40) := by rw [hqt]; congr 1; apply propext; omega
      have HA := Lib.hid hqt
      have HB := Lib.hid hqi
      clear hqt hqi HQ HK
      go_wp2
      go_ret
      refine ⟨?_, hb⟩
      first | exact ret_bool HA.out.symm | exact ret_bool HB.out.symm
end Go.Proofs.Ytmndgbpfophniaa
