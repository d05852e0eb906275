/- Contracts: the document's first, Match, Denies. -/
import Derived.Test.YtmndgbpfophniaaR6
import Derived.Test.YtmndgbpfophniaaFW
namespace Go.Proofs.Ytmndgbpfophniaa
open Go.RowKit Go.Shelf

/-- Whether a rule is of a device, takes an address, and is of the one table. -/
def dkB (d : Int) (a : Nat) (acl : Bool) (r : Ru) : Bool := decide (r.dv = d) && (decide (r.f ≤ a) && (decide (a ≤ r.t) && ((decide (r.kd = 2) || decide (r.kd = 3)) == acl)))
theorem dk_fwd {d : Int} {a : Nat} (r : Ru) (h : ruB r = true) : dkB d a false r = tk d 0 1 a r := by
  obtain ⟨_, _, _, h0, h3, _⟩ := (ruB_iff r).1 h
  rw [Bool.eq_iff_iff]; simp [dkB, tk, takesB]; omega
theorem dk_acl {d : Int} {a : Nat} (r : Ru) (_ : ruB r = true) : dkB d a true r = tk d 2 3 a r := by
  rw [Bool.eq_iff_iff]; simp [dkB, tk, takesB]; omega

set_option maxRecDepth 100000 in
set_option maxHeartbeats 8000000 in
/-- The document's first. -/
theorem rfirst_any {v : Value} (L : List Ru) (d : Int) (a : Nat) (acl : Bool) (w : World) (h : IsR w v L) : Calls Try.prog 49 #[v, .int .i64 d, .int .u32 a, .bool acl] w fun e w' => e = .returned (firstV (firstL (dkB d a acl) L)) ∧ Below w.heap.size w w' := by
  obtain ⟨A1, c1, rfl, n1, m1, z1⟩ := h
  have hL : L.length ≤ 9223372036854775807 := Nat.le_trans n1 m1
  have H1 : Hid (∀ u, Below w.heap.size w u → Rs u A1 L) := Lib.hid fun u hu => z1.belows hu
  clear z1
  obtain ⟨fo, hfo⟩ : ∃ fo, fo = firstL (dkB d a acl) L := ⟨_, rfl⟩
  rw [← hfo]
  have HFO := Lib.hid hfo
  clear hfo
  go_enter Try.func49, Try.ntmps49
  go_wp2
  go_loopw [11, 12] (fun b i wr => ∃ k : Nat, Hid (FirI (dkB d a acl) L w i b k wr)) (fun _ i => fun _ => L.length - (intOf i).toNat)
  case atStart =>
    refine ⟨0, Lib.hid ⟨rfl, rfl, by omega, ?_, ?_, ?_⟩⟩
    · exact ((Below.refl _ _).alloc (Nat.le_refl _) _).alloc (by simp) _
    · exact (At.new w _ _).alloc _
    · exact At.new1 w _ _ _
  case round =>
    obtain ⟨k, HF⟩ := hrel
    obtain ⟨rfl, rfl, hk, hb, hA, hB⟩ := HF.out
    clear HF
    by_cases hlt : k < L.length
    · have hq := firstL_snoc (dkB d a acl) L k hlt
      obtain ⟨g1, o1, e1, _, r0, r1, r2, r3, r4, r5, r6⟩ := (H1.out wr hb).at k hlt
      subst e1
      have i0 : (0 : Int) ≤ (k : Int) := by omega
      have i1 : (k : Int) < (L.length : Int) := by omega
      generalize L[k] = x at r0 r1 r2 r3 r4 r5 r6 hq
      obtain ⟨id, dv, pr, kd, f, t, pt⟩ := x
      dsimp only at r0 r1 r2 r3 r4 r5 r6
      have hs1 : w.heap.size + 1 < wr.heap.size := hB.lt
      have hs0 : w.heap.size < wr.heap.size := by omega
      generalize ho : firstL (dkB d a acl) (L.take k) = o at hq hB ⊢
      clear ho
      have SKIP : Hid (dkB d a acl ⟨id, dv, pr, kd, f, t, pt⟩ = false → firstL (dkB d a acl) (L.take (k + 1)) = o) := Lib.hid fun hp => by rw [hq]; unfold stepF; rw [hp]; rfl
      have TAKE : Hid (dkB d a acl ⟨id, dv, pr, kd, f, t, pt⟩ = true → firstL (dkB d a acl) (L.take (k + 1)) = if (o.isNone || aheadB ⟨id, dv, pr, kd, f, t, pt⟩ (o.getD ru0)) = true then some ⟨id, dv, pr, kd, f, t, pt⟩ else o) := Lib.hid fun hp => by rw [hq]; unfold stepF; rw [hp]; rfl
      clear hq
      by_cases e2 : kd = 2
      · have p2 : (kd == 2) = true := by simp [e2]
        by_cases h1 : dv = d
        · have q1 : (dv != d) = false := by simp [h1]
          have q1b : (dv == d) = true := by simp [h1]
          by_cases h2 : a < f
          · have q2 : decide ((a : Int) < (f : Int)) = true := by simp; omega
            have q2n : decide (a < f) = true := by simp; omega
            have HN : Hid (firstL (dkB d a acl) (L.take (k + 1)) = o) := Lib.hid (SKIP.out (by simp [dkB] <;> omega))
            clear SKIP TAKE h1 h2 e2
            have i0 : (0 : Int) ≤ (k : Int) := by omega
            go_wp2_with fail
            go_roundw
            case rel => exact ⟨k + 1, Lib.hid ⟨by go_num, by rw [HN.out], by omega, hb.alloc hb.size _, hA.alloc _, by rw [HN.out]; exact hB.alloc _⟩⟩
            case measure => simp [intOf]; omega
          · have q2 : decide ((a : Int) < (f : Int)) = false := by simp; omega
            have q2n : decide (a < f) = false := by simp; omega
            by_cases h3 : t < a
            · have q3 : decide ((t : Int) < (a : Int)) = true := by simp; omega
              have q3n : decide (t < a) = true := by simp; omega
              have HN : Hid (firstL (dkB d a acl) (L.take (k + 1)) = o) := Lib.hid (SKIP.out (by simp [dkB] <;> omega))
              clear SKIP TAKE h1 h2 h3 e2
              have i0 : (0 : Int) ≤ (k : Int) := by omega
              go_wp2_with fail
              go_roundw
              case rel => exact ⟨k + 1, Lib.hid ⟨by go_num, by rw [HN.out], by omega, hb.alloc hb.size _, hA.alloc _, by rw [HN.out]; exact hB.alloc _⟩⟩
              case measure => simp [intOf]; omega
            · have q3 : decide ((t : Int) < (a : Int)) = false := by simp; omega
              have q3n : decide (t < a) = false := by simp; omega
              cases acl with
              | false =>
                have HN : Hid (firstL (dkB d a false) (L.take (k + 1)) = o) := Lib.hid (SKIP.out (by simp [dkB, e2]))
                clear SKIP TAKE h1 h2 h3 e2
                have i0 : (0 : Int) ≤ (k : Int) := by omega
                go_wp2_with fail
                go_roundw
                case rel => exact ⟨k + 1, Lib.hid ⟨by go_num, by rw [HN.out], by omega, hb.alloc hb.size _, hA.alloc _, by rw [HN.out]; exact hB.alloc _⟩⟩
                case measure => simp [intOf]; omega
              | true =>
                have htk : dkB d a true ⟨id, dv, pr, kd, f, t, pt⟩ = true := by simp [dkB, h1, e2] <;> omega
                have TK := TAKE.out htk
                clear SKIP TAKE htk h1 h2 h3 e2
                cases o with
                | none =>
                  have HN : Hid (firstL (dkB d a true) (L.take (k + 1)) = some ⟨id, dv, pr, kd, f, t, pt⟩) := Lib.hid (by rw [TK]; rfl)
                  clear TK
                  rw [show ruA ((none : Option Ru).getD ru0) = ruA ru0 from rfl, rd0] at hB
                  have y0 := (hB.cell 0).trans rfl; have y1 := (hB.cell 1).trans rfl; have y2 := (hB.cell 2).trans rfl; have y3 := (hB.cell 3).trans rfl; have y4 := (hB.cell 4).trans rfl; have y5 := (hB.cell 5).trans rfl; have y6 := (hB.cell 6).trans rfl
                  have z0 := hB.frozen 0; have z1 := hB.frozen 1; have z2 := hB.frozen 2; have z3 := hB.frozen 3; have z4 := hB.frozen 4; have z5 := hB.frozen 5; have z6 := hB.frozen 6
                  go_wp2_with fail
                  refine ⟨⟨k + 1, Lib.hid ⟨by go_num, ?_, by omega, ?_, ?_, ?_⟩⟩, by simp [intOf]; omega⟩
                  · rw [HN.out]; rfl
                  · exact (below_fill hb (by omega) ⟨id, dv, pr, kd, f, t, pt⟩).alloc (by simp [fillW]; omega) _
                  · exact (hA.fillo (by omega) ⟨id, dv, pr, kd, f, t, pt⟩).alloc _
                  · rw [HN.out]; exact (At.fill (y := ru0) hB ⟨id, dv, pr, kd, f, t, pt⟩).alloc _
                | some y =>
                  obtain ⟨id', dv', pr', kd', f', t', pt'⟩ := y
                  rw [show ruA ((some (⟨id', dv', pr', kd', f', t', pt'⟩ : Ru)).getD ru0) = #[.int .i64 id', .int .i64 dv', .int .i64 pr', .int .i64 kd', .int .u32 f', .int .u32 t', .int .i64 pt'] from rfl] at hB
                  rw [show ((some (⟨id', dv', pr', kd', f', t', pt'⟩ : Ru)).isNone || aheadB ⟨id, dv, pr, kd, f, t, pt⟩ ((some (⟨id', dv', pr', kd', f', t', pt'⟩ : Ru)).getD ru0)) = aheadB ⟨id, dv, pr, kd, f, t, pt⟩ ⟨id', dv', pr', kd', f', t', pt'⟩ from rfl] at TK
                  by_cases h6 : pr' < pr
                  · have q6 : decide (pr' < pr) = true := by simp [h6]
                    have HN : Hid (firstL (dkB d a true) (L.take (k + 1)) = some ⟨id, dv, pr, kd, f, t, pt⟩) := Lib.hid (by rw [TK, if_pos ((ahead_iff _ _).2 (by dsimp only; omega))])
                    clear TK h6
                    have y0 := (hB.cell 0).trans rfl; have y1 := (hB.cell 1).trans rfl; have y2 := (hB.cell 2).trans rfl; have y3 := (hB.cell 3).trans rfl; have y4 := (hB.cell 4).trans rfl; have y5 := (hB.cell 5).trans rfl; have y6 := (hB.cell 6).trans rfl
                    have z0 := hB.frozen 0; have z1 := hB.frozen 1; have z2 := hB.frozen 2; have z3 := hB.frozen 3; have z4 := hB.frozen 4; have z5 := hB.frozen 5; have z6 := hB.frozen 6
                    go_wp2_with fail
                    refine ⟨⟨k + 1, Lib.hid ⟨by go_num, ?_, by omega, ?_, ?_, ?_⟩⟩, by simp [intOf]; omega⟩
                    · rw [HN.out]; rfl
                    · exact (below_fill hb (by omega) ⟨id, dv, pr, kd, f, t, pt⟩).alloc (by simp [fillW]; omega) _
                    · exact (hA.fillo (by omega) ⟨id, dv, pr, kd, f, t, pt⟩).alloc _
                    · rw [HN.out]; exact (At.fill (y := ⟨id', dv', pr', kd', f', t', pt'⟩) hB ⟨id, dv, pr, kd, f, t, pt⟩).alloc _
                  · have q6 : decide (pr' < pr) = false := by simp; omega
                    by_cases h7 : pr = pr'
                    · have q7 : (pr == pr') = true := by simp [h7]
                      by_cases h8 : id < id'
                      · have q8 : decide (id < id') = true := by simp [h8]
                        have HN : Hid (firstL (dkB d a true) (L.take (k + 1)) = some ⟨id, dv, pr, kd, f, t, pt⟩) := Lib.hid (by rw [TK, if_pos ((ahead_iff _ _).2 (by dsimp only; omega))])
                        clear TK h6 h7 h8
                        have y0 := (hB.cell 0).trans rfl; have y1 := (hB.cell 1).trans rfl; have y2 := (hB.cell 2).trans rfl; have y3 := (hB.cell 3).trans rfl; have y4 := (hB.cell 4).trans rfl; have y5 := (hB.cell 5).trans rfl; have y6 := (hB.cell 6).trans rfl
                        have z0 := hB.frozen 0; have z1 := hB.frozen 1; have z2 := hB.frozen 2; have z3 := hB.frozen 3; have z4 := hB.frozen 4; have z5 := hB.frozen 5; have z6 := hB.frozen 6
                        go_wp2_with fail
                        refine ⟨⟨k + 1, Lib.hid ⟨by go_num, ?_, by omega, ?_, ?_, ?_⟩⟩, by simp [intOf]; omega⟩
                        · rw [HN.out]; rfl
                        · exact (below_fill hb (by omega) ⟨id, dv, pr, kd, f, t, pt⟩).alloc (by simp [fillW]; omega) _
                        · exact (hA.fillo (by omega) ⟨id, dv, pr, kd, f, t, pt⟩).alloc _
                        · rw [HN.out]; exact (At.fill (y := ⟨id', dv', pr', kd', f', t', pt'⟩) hB ⟨id, dv, pr, kd, f, t, pt⟩).alloc _
                      · have q8 : decide (id < id') = false := by simp; omega
                        have HN : Hid (firstL (dkB d a true) (L.take (k + 1)) = some ⟨id', dv', pr', kd', f', t', pt'⟩) := Lib.hid (by rw [TK, if_neg (by rw [(ahead_no _ _).2 (by dsimp only; omega)]; simp)])
                        clear TK h6 h7 h8
                        have y0 := (hB.cell 0).trans rfl; have y1 := (hB.cell 1).trans rfl; have y2 := (hB.cell 2).trans rfl; have y3 := (hB.cell 3).trans rfl; have y4 := (hB.cell 4).trans rfl; have y5 := (hB.cell 5).trans rfl; have y6 := (hB.cell 6).trans rfl
                        go_wp2_with fail
                        go_roundw
                        case rel => exact ⟨k + 1, Lib.hid ⟨by go_num, (by rw [HN.out] <;> rfl), by omega, hb.alloc hb.size _, hA.alloc _, by rw [HN.out]; exact hB.alloc _⟩⟩
                        case measure => simp [intOf]; omega
                    · have q7 : (pr == pr') = false := by simp [h7]
                      have HN : Hid (firstL (dkB d a true) (L.take (k + 1)) = some ⟨id', dv', pr', kd', f', t', pt'⟩) := Lib.hid (by rw [TK, if_neg (by rw [(ahead_no _ _).2 (by dsimp only; omega)]; simp)])
                      clear TK h6 h7
                      have y0 := (hB.cell 0).trans rfl; have y1 := (hB.cell 1).trans rfl; have y2 := (hB.cell 2).trans rfl; have y3 := (hB.cell 3).trans rfl; have y4 := (hB.cell 4).trans rfl; have y5 := (hB.cell 5).trans rfl; have y6 := (hB.cell 6).trans rfl
                      go_wp2_with fail
                      go_roundw
                      case rel => exact ⟨k + 1, Lib.hid ⟨by go_num, (by rw [HN.out] <;> rfl), by omega, hb.alloc hb.size _, hA.alloc _, by rw [HN.out]; exact hB.alloc _⟩⟩
                      case measure => simp [intOf]; omega
        · have q1 : (dv != d) = true := by simp [h1]
          have q1b : (dv == d) = false := by simp [h1]
          have HN : Hid (firstL (dkB d a acl) (L.take (k + 1)) = o) := Lib.hid (SKIP.out (by simp [dkB, h1]))
          clear SKIP TAKE h1 e2
          have i0 : (0 : Int) ≤ (k : Int) := by omega
          go_wp2_with fail
          go_roundw
          case rel => exact ⟨k + 1, Lib.hid ⟨by go_num, by rw [HN.out], by omega, hb.alloc hb.size _, hA.alloc _, by rw [HN.out]; exact hB.alloc _⟩⟩
          case measure => simp [intOf]; omega
      · have p2 : (kd == 2) = false := by simp [e2]
        by_cases e3 : kd = 3
        · have p3 : (kd == 3) = true := by simp [e3]
          by_cases h1 : dv = d
          · have q1 : (dv != d) = false := by simp [h1]
            have q1b : (dv == d) = true := by simp [h1]
            by_cases h2 : a < f
            · have q2 : decide ((a : Int) < (f : Int)) = true := by simp; omega
              have q2n : decide (a < f) = true := by simp; omega
              have HN : Hid (firstL (dkB d a acl) (L.take (k + 1)) = o) := Lib.hid (SKIP.out (by simp [dkB] <;> omega))
              clear SKIP TAKE h1 h2 e2 e3
              have i0 : (0 : Int) ≤ (k : Int) := by omega
              go_wp2_with fail
              go_roundw
              case rel => exact ⟨k + 1, Lib.hid ⟨by go_num, by rw [HN.out], by omega, hb.alloc hb.size _, hA.alloc _, by rw [HN.out]; exact hB.alloc _⟩⟩
              case measure => simp [intOf]; omega
            · have q2 : decide ((a : Int) < (f : Int)) = false := by simp; omega
              have q2n : decide (a < f) = false := by simp; omega
              by_cases h3 : t < a
              · have q3 : decide ((t : Int) < (a : Int)) = true := by simp; omega
                have q3n : decide (t < a) = true := by simp; omega
                have HN : Hid (firstL (dkB d a acl) (L.take (k + 1)) = o) := Lib.hid (SKIP.out (by simp [dkB] <;> omega))
                clear SKIP TAKE h1 h2 h3 e2 e3
                have i0 : (0 : Int) ≤ (k : Int) := by omega
                go_wp2_with fail
                go_roundw
                case rel => exact ⟨k + 1, Lib.hid ⟨by go_num, by rw [HN.out], by omega, hb.alloc hb.size _, hA.alloc _, by rw [HN.out]; exact hB.alloc _⟩⟩
                case measure => simp [intOf]; omega
              · have q3 : decide ((t : Int) < (a : Int)) = false := by simp; omega
                have q3n : decide (t < a) = false := by simp; omega
                cases acl with
                | false =>
                  have HN : Hid (firstL (dkB d a false) (L.take (k + 1)) = o) := Lib.hid (SKIP.out (by simp [dkB, e3]))
                  clear SKIP TAKE h1 h2 h3 e2 e3
                  have i0 : (0 : Int) ≤ (k : Int) := by omega
                  go_wp2_with fail
                  go_roundw
                  case rel => exact ⟨k + 1, Lib.hid ⟨by go_num, by rw [HN.out], by omega, hb.alloc hb.size _, hA.alloc _, by rw [HN.out]; exact hB.alloc _⟩⟩
                  case measure => simp [intOf]; omega
                | true =>
                  have htk : dkB d a true ⟨id, dv, pr, kd, f, t, pt⟩ = true := by simp [dkB, h1, e3] <;> omega
                  have TK := TAKE.out htk
                  clear SKIP TAKE htk h1 h2 h3 e2 e3
                  cases o with
                  | none =>
                    have HN : Hid (firstL (dkB d a true) (L.take (k + 1)) = some ⟨id, dv, pr, kd, f, t, pt⟩) := Lib.hid (by rw [TK]; rfl)
                    clear TK
                    rw [show ruA ((none : Option Ru).getD ru0) = ruA ru0 from rfl, rd0] at hB
                    have y0 := (hB.cell 0).trans rfl; have y1 := (hB.cell 1).trans rfl; have y2 := (hB.cell 2).trans rfl; have y3 := (hB.cell 3).trans rfl; have y4 := (hB.cell 4).trans rfl; have y5 := (hB.cell 5).trans rfl; have y6 := (hB.cell 6).trans rfl
                    have z0 := hB.frozen 0; have z1 := hB.frozen 1; have z2 := hB.frozen 2; have z3 := hB.frozen 3; have z4 := hB.frozen 4; have z5 := hB.frozen 5; have z6 := hB.frozen 6
                    go_wp2_with fail
                    refine ⟨⟨k + 1, Lib.hid ⟨by go_num, ?_, by omega, ?_, ?_, ?_⟩⟩, by simp [intOf]; omega⟩
                    · rw [HN.out]; rfl
                    · exact (below_fill hb (by omega) ⟨id, dv, pr, kd, f, t, pt⟩).alloc (by simp [fillW]; omega) _
                    · exact (hA.fillo (by omega) ⟨id, dv, pr, kd, f, t, pt⟩).alloc _
                    · rw [HN.out]; exact (At.fill (y := ru0) hB ⟨id, dv, pr, kd, f, t, pt⟩).alloc _
                  | some y =>
                    obtain ⟨id', dv', pr', kd', f', t', pt'⟩ := y
                    rw [show ruA ((some (⟨id', dv', pr', kd', f', t', pt'⟩ : Ru)).getD ru0) = #[.int .i64 id', .int .i64 dv', .int .i64 pr', .int .i64 kd', .int .u32 f', .int .u32 t', .int .i64 pt'] from rfl] at hB
                    rw [show ((some (⟨id', dv', pr', kd', f', t', pt'⟩ : Ru)).isNone || aheadB ⟨id, dv, pr, kd, f, t, pt⟩ ((some (⟨id', dv', pr', kd', f', t', pt'⟩ : Ru)).getD ru0)) = aheadB ⟨id, dv, pr, kd, f, t, pt⟩ ⟨id', dv', pr', kd', f', t', pt'⟩ from rfl] at TK
                    by_cases h6 : pr' < pr
                    · have q6 : decide (pr' < pr) = true := by simp [h6]
                      have HN : Hid (firstL (dkB d a true) (L.take (k + 1)) = some ⟨id, dv, pr, kd, f, t, pt⟩) := Lib.hid (by rw [TK, if_pos ((ahead_iff _ _).2 (by dsimp only; omega))])
                      clear TK h6
                      have y0 := (hB.cell 0).trans rfl; have y1 := (hB.cell 1).trans rfl; have y2 := (hB.cell 2).trans rfl; have y3 := (hB.cell 3).trans rfl; have y4 := (hB.cell 4).trans rfl; have y5 := (hB.cell 5).trans rfl; have y6 := (hB.cell 6).trans rfl
                      have z0 := hB.frozen 0; have z1 := hB.frozen 1; have z2 := hB.frozen 2; have z3 := hB.frozen 3; have z4 := hB.frozen 4; have z5 := hB.frozen 5; have z6 := hB.frozen 6
                      go_wp2_with fail
                      refine ⟨⟨k + 1, Lib.hid ⟨by go_num, ?_, by omega, ?_, ?_, ?_⟩⟩, by simp [intOf]; omega⟩
                      · rw [HN.out]; rfl
                      · exact (below_fill hb (by omega) ⟨id, dv, pr, kd, f, t, pt⟩).alloc (by simp [fillW]; omega) _
                      · exact (hA.fillo (by omega) ⟨id, dv, pr, kd, f, t, pt⟩).alloc _
                      · rw [HN.out]; exact (At.fill (y := ⟨id', dv', pr', kd', f', t', pt'⟩) hB ⟨id, dv, pr, kd, f, t, pt⟩).alloc _
                    · have q6 : decide (pr' < pr) = false := by simp; omega
                      by_cases h7 : pr = pr'
                      · have q7 : (pr == pr') = true := by simp [h7]
                        by_cases h8 : id < id'
                        · have q8 : decide (id < id') = true := by simp [h8]
                          have HN : Hid (firstL (dkB d a true) (L.take (k + 1)) = some ⟨id, dv, pr, kd, f, t, pt⟩) := Lib.hid (by rw [TK, if_pos ((ahead_iff _ _).2 (by dsimp only; omega))])
                          clear TK h6 h7 h8
                          have y0 := (hB.cell 0).trans rfl; have y1 := (hB.cell 1).trans rfl; have y2 := (hB.cell 2).trans rfl; have y3 := (hB.cell 3).trans rfl; have y4 := (hB.cell 4).trans rfl; have y5 := (hB.cell 5).trans rfl; have y6 := (hB.cell 6).trans rfl
                          have z0 := hB.frozen 0; have z1 := hB.frozen 1; have z2 := hB.frozen 2; have z3 := hB.frozen 3; have z4 := hB.frozen 4; have z5 := hB.frozen 5; have z6 := hB.frozen 6
                          go_wp2_with fail
                          refine ⟨⟨k + 1, Lib.hid ⟨by go_num, ?_, by omega, ?_, ?_, ?_⟩⟩, by simp [intOf]; omega⟩
                          · rw [HN.out]; rfl
                          · exact (below_fill hb (by omega) ⟨id, dv, pr, kd, f, t, pt⟩).alloc (by simp [fillW]; omega) _
                          · exact (hA.fillo (by omega) ⟨id, dv, pr, kd, f, t, pt⟩).alloc _
                          · rw [HN.out]; exact (At.fill (y := ⟨id', dv', pr', kd', f', t', pt'⟩) hB ⟨id, dv, pr, kd, f, t, pt⟩).alloc _
                        · have q8 : decide (id < id') = false := by simp; omega
                          have HN : Hid (firstL (dkB d a true) (L.take (k + 1)) = some ⟨id', dv', pr', kd', f', t', pt'⟩) := Lib.hid (by rw [TK, if_neg (by rw [(ahead_no _ _).2 (by dsimp only; omega)]; simp)])
                          clear TK h6 h7 h8
                          have y0 := (hB.cell 0).trans rfl; have y1 := (hB.cell 1).trans rfl; have y2 := (hB.cell 2).trans rfl; have y3 := (hB.cell 3).trans rfl; have y4 := (hB.cell 4).trans rfl; have y5 := (hB.cell 5).trans rfl; have y6 := (hB.cell 6).trans rfl
                          go_wp2_with fail
                          go_roundw
                          case rel => exact ⟨k + 1, Lib.hid ⟨by go_num, (by rw [HN.out] <;> rfl), by omega, hb.alloc hb.size _, hA.alloc _, by rw [HN.out]; exact hB.alloc _⟩⟩
                          case measure => simp [intOf]; omega
                      · have q7 : (pr == pr') = false := by simp [h7]
                        have HN : Hid (firstL (dkB d a true) (L.take (k + 1)) = some ⟨id', dv', pr', kd', f', t', pt'⟩) := Lib.hid (by rw [TK, if_neg (by rw [(ahead_no _ _).2 (by dsimp only; omega)]; simp)])
                        clear TK h6 h7
                        have y0 := (hB.cell 0).trans rfl; have y1 := (hB.cell 1).trans rfl; have y2 := (hB.cell 2).trans rfl; have y3 := (hB.cell 3).trans rfl; have y4 := (hB.cell 4).trans rfl; have y5 := (hB.cell 5).trans rfl; have y6 := (hB.cell 6).trans rfl
                        go_wp2_with fail
                        go_roundw
                        case rel => exact ⟨k + 1, Lib.hid ⟨by go_num, (by rw [HN.out] <;> rfl), by omega, hb.alloc hb.size _, hA.alloc _, by rw [HN.out]; exact hB.alloc _⟩⟩
                        case measure => simp [intOf]; omega
          · have q1 : (dv != d) = true := by simp [h1]
            have q1b : (dv == d) = false := by simp [h1]
            have HN : Hid (firstL (dkB d a acl) (L.take (k + 1)) = o) := Lib.hid (SKIP.out (by simp [dkB, h1]))
            clear SKIP TAKE h1 e2 e3
            have i0 : (0 : Int) ≤ (k : Int) := by omega
            go_wp2_with fail
            go_roundw
            case rel => exact ⟨k + 1, Lib.hid ⟨by go_num, by rw [HN.out], by omega, hb.alloc hb.size _, hA.alloc _, by rw [HN.out]; exact hB.alloc _⟩⟩
            case measure => simp [intOf]; omega
        · have p3 : (kd == 3) = false := by simp [e3]
          by_cases h1 : dv = d
          · have q1 : (dv != d) = false := by simp [h1]
            have q1b : (dv == d) = true := by simp [h1]
            by_cases h2 : a < f
            · have q2 : decide ((a : Int) < (f : Int)) = true := by simp; omega
              have q2n : decide (a < f) = true := by simp; omega
              have HN : Hid (firstL (dkB d a acl) (L.take (k + 1)) = o) := Lib.hid (SKIP.out (by simp [dkB] <;> omega))
              clear SKIP TAKE h1 h2 e2 e3
              have i0 : (0 : Int) ≤ (k : Int) := by omega
              go_wp2_with fail
              go_roundw
              case rel => exact ⟨k + 1, Lib.hid ⟨by go_num, by rw [HN.out], by omega, hb.alloc hb.size _, hA.alloc _, by rw [HN.out]; exact hB.alloc _⟩⟩
              case measure => simp [intOf]; omega
            · have q2 : decide ((a : Int) < (f : Int)) = false := by simp; omega
              have q2n : decide (a < f) = false := by simp; omega
              by_cases h3 : t < a
              · have q3 : decide ((t : Int) < (a : Int)) = true := by simp; omega
                have q3n : decide (t < a) = true := by simp; omega
                have HN : Hid (firstL (dkB d a acl) (L.take (k + 1)) = o) := Lib.hid (SKIP.out (by simp [dkB] <;> omega))
                clear SKIP TAKE h1 h2 h3 e2 e3
                have i0 : (0 : Int) ≤ (k : Int) := by omega
                go_wp2_with fail
                go_roundw
                case rel => exact ⟨k + 1, Lib.hid ⟨by go_num, by rw [HN.out], by omega, hb.alloc hb.size _, hA.alloc _, by rw [HN.out]; exact hB.alloc _⟩⟩
                case measure => simp [intOf]; omega
              · have q3 : decide ((t : Int) < (a : Int)) = false := by simp; omega
                have q3n : decide (t < a) = false := by simp; omega
                cases acl with
                | true =>
                  have HN : Hid (firstL (dkB d a true) (L.take (k + 1)) = o) := Lib.hid (SKIP.out (by simp [dkB, e2, e3]))
                  clear SKIP TAKE h1 h2 h3 e2 e3
                  have i0 : (0 : Int) ≤ (k : Int) := by omega
                  go_wp2_with fail
                  go_roundw
                  case rel => exact ⟨k + 1, Lib.hid ⟨by go_num, by rw [HN.out], by omega, hb.alloc hb.size _, hA.alloc _, by rw [HN.out]; exact hB.alloc _⟩⟩
                  case measure => simp [intOf]; omega
                | false =>
                  have htk : dkB d a false ⟨id, dv, pr, kd, f, t, pt⟩ = true := by simp [dkB, h1, e2, e3] <;> omega
                  have TK := TAKE.out htk
                  clear SKIP TAKE htk h1 h2 h3 e2 e3
                  cases o with
                  | none =>
                    have HN : Hid (firstL (dkB d a false) (L.take (k + 1)) = some ⟨id, dv, pr, kd, f, t, pt⟩) := Lib.hid (by rw [TK]; rfl)
                    clear TK
                    rw [show ruA ((none : Option Ru).getD ru0) = ruA ru0 from rfl, rd0] at hB
                    have y0 := (hB.cell 0).trans rfl; have y1 := (hB.cell 1).trans rfl; have y2 := (hB.cell 2).trans rfl; have y3 := (hB.cell 3).trans rfl; have y4 := (hB.cell 4).trans rfl; have y5 := (hB.cell 5).trans rfl; have y6 := (hB.cell 6).trans rfl
                    have z0 := hB.frozen 0; have z1 := hB.frozen 1; have z2 := hB.frozen 2; have z3 := hB.frozen 3; have z4 := hB.frozen 4; have z5 := hB.frozen 5; have z6 := hB.frozen 6
                    go_wp2_with fail
                    refine ⟨⟨k + 1, Lib.hid ⟨by go_num, ?_, by omega, ?_, ?_, ?_⟩⟩, by simp [intOf]; omega⟩
                    · rw [HN.out]; rfl
                    · exact (below_fill hb (by omega) ⟨id, dv, pr, kd, f, t, pt⟩).alloc (by simp [fillW]; omega) _
                    · exact (hA.fillo (by omega) ⟨id, dv, pr, kd, f, t, pt⟩).alloc _
                    · rw [HN.out]; exact (At.fill (y := ru0) hB ⟨id, dv, pr, kd, f, t, pt⟩).alloc _
                  | some y =>
                    obtain ⟨id', dv', pr', kd', f', t', pt'⟩ := y
                    rw [show ruA ((some (⟨id', dv', pr', kd', f', t', pt'⟩ : Ru)).getD ru0) = #[.int .i64 id', .int .i64 dv', .int .i64 pr', .int .i64 kd', .int .u32 f', .int .u32 t', .int .i64 pt'] from rfl] at hB
                    rw [show ((some (⟨id', dv', pr', kd', f', t', pt'⟩ : Ru)).isNone || aheadB ⟨id, dv, pr, kd, f, t, pt⟩ ((some (⟨id', dv', pr', kd', f', t', pt'⟩ : Ru)).getD ru0)) = aheadB ⟨id, dv, pr, kd, f, t, pt⟩ ⟨id', dv', pr', kd', f', t', pt'⟩ from rfl] at TK
                    by_cases h6 : pr' < pr
                    · have q6 : decide (pr' < pr) = true := by simp [h6]
                      have HN : Hid (firstL (dkB d a false) (L.take (k + 1)) = some ⟨id, dv, pr, kd, f, t, pt⟩) := Lib.hid (by rw [TK, if_pos ((ahead_iff _ _).2 (by dsimp only; omega))])
                      clear TK h6
                      have y0 := (hB.cell 0).trans rfl; have y1 := (hB.cell 1).trans rfl; have y2 := (hB.cell 2).trans rfl; have y3 := (hB.cell 3).trans rfl; have y4 := (hB.cell 4).trans rfl; have y5 := (hB.cell 5).trans rfl; have y6 := (hB.cell 6).trans rfl
                      have z0 := hB.frozen 0; have z1 := hB.frozen 1; have z2 := hB.frozen 2; have z3 := hB.frozen 3; have z4 := hB.frozen 4; have z5 := hB.frozen 5; have z6 := hB.frozen 6
                      go_wp2_with fail
                      refine ⟨⟨k + 1, Lib.hid ⟨by go_num, ?_, by omega, ?_, ?_, ?_⟩⟩, by simp [intOf]; omega⟩
                      · rw [HN.out]; rfl
                      · exact (below_fill hb (by omega) ⟨id, dv, pr, kd, f, t, pt⟩).alloc (by simp [fillW]; omega) _
                      · exact (hA.fillo (by omega) ⟨id, dv, pr, kd, f, t, pt⟩).alloc _
                      · rw [HN.out]; exact (At.fill (y := ⟨id', dv', pr', kd', f', t', pt'⟩) hB ⟨id, dv, pr, kd, f, t, pt⟩).alloc _
                    · have q6 : decide (pr' < pr) = false := by simp; omega
                      by_cases h7 : pr = pr'
                      · have q7 : (pr == pr') = true := by simp [h7]
                        by_cases h8 : id < id'
                        · have q8 : decide (id < id') = true := by simp [h8]
                          have HN : Hid (firstL (dkB d a false) (L.take (k + 1)) = some ⟨id, dv, pr, kd, f, t, pt⟩) := Lib.hid (by rw [TK, if_pos ((ahead_iff _ _).2 (by dsimp only; omega))])
                          clear TK h6 h7 h8
                          have y0 := (hB.cell 0).trans rfl; have y1 := (hB.cell 1).trans rfl; have y2 := (hB.cell 2).trans rfl; have y3 := (hB.cell 3).trans rfl; have y4 := (hB.cell 4).trans rfl; have y5 := (hB.cell 5).trans rfl; have y6 := (hB.cell 6).trans rfl
                          have z0 := hB.frozen 0; have z1 := hB.frozen 1; have z2 := hB.frozen 2; have z3 := hB.frozen 3; have z4 := hB.frozen 4; have z5 := hB.frozen 5; have z6 := hB.frozen 6
                          go_wp2_with fail
                          refine ⟨⟨k + 1, Lib.hid ⟨by go_num, ?_, by omega, ?_, ?_, ?_⟩⟩, by simp [intOf]; omega⟩
                          · rw [HN.out]; rfl
                          · exact (below_fill hb (by omega) ⟨id, dv, pr, kd, f, t, pt⟩).alloc (by simp [fillW]; omega) _
                          · exact (hA.fillo (by omega) ⟨id, dv, pr, kd, f, t, pt⟩).alloc _
                          · rw [HN.out]; exact (At.fill (y := ⟨id', dv', pr', kd', f', t', pt'⟩) hB ⟨id, dv, pr, kd, f, t, pt⟩).alloc _
                        · have q8 : decide (id < id') = false := by simp; omega
                          have HN : Hid (firstL (dkB d a false) (L.take (k + 1)) = some ⟨id', dv', pr', kd', f', t', pt'⟩) := Lib.hid (by rw [TK, if_neg (by rw [(ahead_no _ _).2 (by dsimp only; omega)]; simp)])
                          clear TK h6 h7 h8
                          have y0 := (hB.cell 0).trans rfl; have y1 := (hB.cell 1).trans rfl; have y2 := (hB.cell 2).trans rfl; have y3 := (hB.cell 3).trans rfl; have y4 := (hB.cell 4).trans rfl; have y5 := (hB.cell 5).trans rfl; have y6 := (hB.cell 6).trans rfl
                          go_wp2_with fail
                          go_roundw
                          case rel => exact ⟨k + 1, Lib.hid ⟨by go_num, (by rw [HN.out] <;> rfl), by omega, hb.alloc hb.size _, hA.alloc _, by rw [HN.out]; exact hB.alloc _⟩⟩
                          case measure => simp [intOf]; omega
                      · have q7 : (pr == pr') = false := by simp [h7]
                        have HN : Hid (firstL (dkB d a false) (L.take (k + 1)) = some ⟨id', dv', pr', kd', f', t', pt'⟩) := Lib.hid (by rw [TK, if_neg (by rw [(ahead_no _ _).2 (by dsimp only; omega)]; simp)])
                        clear TK h6 h7
                        have y0 := (hB.cell 0).trans rfl; have y1 := (hB.cell 1).trans rfl; have y2 := (hB.cell 2).trans rfl; have y3 := (hB.cell 3).trans rfl; have y4 := (hB.cell 4).trans rfl; have y5 := (hB.cell 5).trans rfl; have y6 := (hB.cell 6).trans rfl
                        go_wp2_with fail
                        go_roundw
                        case rel => exact ⟨k + 1, Lib.hid ⟨by go_num, (by rw [HN.out] <;> rfl), by omega, hb.alloc hb.size _, hA.alloc _, by rw [HN.out]; exact hB.alloc _⟩⟩
                        case measure => simp [intOf]; omega
          · have q1 : (dv != d) = true := by simp [h1]
            have q1b : (dv == d) = false := by simp [h1]
            have HN : Hid (firstL (dkB d a acl) (L.take (k + 1)) = o) := Lib.hid (SKIP.out (by simp [dkB, h1]))
            clear SKIP TAKE h1 e2 e3
            have i0 : (0 : Int) ≤ (k : Int) := by omega
            go_wp2_with fail
            go_roundw
            case rel => exact ⟨k + 1, Lib.hid ⟨by go_num, by rw [HN.out], by omega, hb.alloc hb.size _, hA.alloc _, by rw [HN.out]; exact hB.alloc _⟩⟩
            case measure => simp [intOf]; omega
    · obtain rfl : k = L.length := by omega
      rw [List.take_length, ← HFO.out] at hB
      rw [List.take_length, ← HFO.out]
      obtain ⟨y, hy⟩ : ∃ y, y = fo.getD ru0 := ⟨_, rfl⟩
      rw [← hy] at hB
      have hV : firstV fo = .tuple #[.agg (ruA y), .bool fo.isSome] := by rw [hy]; rfl
      have HV := Lib.hid hV
      clear hV hy
      generalize fo.isSome = q at HV ⊢
      obtain ⟨id', dv', pr', kd', f', t', pt'⟩ := y
      rw [ruA_mk] at hB
      have Z := At.fill (y := ru0) hA ⟨id', dv', pr', kd', f', t', pt'⟩
      rw [rd0] at hA
      have d0 := (hB.cell 0).trans rfl; have d1 := (hB.cell 1).trans rfl; have d2 := (hB.cell 2).trans rfl; have d3 := (hB.cell 3).trans rfl; have d4 := (hB.cell 4).trans rfl; have d5 := (hB.cell 5).trans rfl; have d6 := (hB.cell 6).trans rfl; have e0 := (hA.cell 0).trans rfl; have e1 := (hA.cell 1).trans rfl; have e2 := (hA.cell 2).trans rfl; have e3 := (hA.cell 3).trans rfl; have e4 := (hA.cell 4).trans rfl; have e5 := (hA.cell 5).trans rfl; have e6 := (hA.cell 6).trans rfl; have z0 := hA.frozen 0; have z1 := hA.frozen 1; have z2 := hA.frozen 2; have z3 := hA.frozen 3; have z4 := hA.frozen 4; have z5 := hA.frozen 5; have z6 := hA.frozen 6
      go_wp2
      refine bodyPost_ret (v := firstV fo) ?_ rfl ⟨rfl, below_fill hb (by omega) ⟨id', dv', pr', kd', f', t', pt'⟩⟩
      unfold fillW ruA at Z
      have y0 := Z.cell 0; have y1 := Z.cell 1; have y2 := Z.cell 2; have y3 := Z.cell 3; have y4 := Z.cell 4; have y5 := Z.cell 5; have y6 := Z.cell 6
      dsimp only at y0 y1 y2 y3 y4 y5 y6
      simp [results, Try.results49, go_sem, y0, y1, y2, y3, y4, y5, y6, HV.out, ruA_mk]

set_option maxRecDepth 100000 in
set_option maxHeartbeats 1000000 in
/-- The document's Match, of right rules. -/
theorem rmatch_any {v : Value} (L : List Ru) (d : Int) (a : Nat) (w : World) (hR : RR L) (h : IsR w v L) : Calls Try.prog 34 #[v, .int .i64 d, .int .u32 a] w fun e w' => e = .returned (firstV (firstL (tk d 0 1 a) L)) ∧ Below w.heap.size w w' := by
  have b0 : Below w.heap.size w (w.alloc (.cells (ruA ru0) 63)) := (Below.refl _ _).alloc (Nat.le_refl _) _
  have Z0 := At.new w (ruA ru0) 63
  have hf := rfirst_any L d a false _ (h.belows b0)
  rw [firstL_congr (dkB d a false) (tk d 0 1 a) L (fun r hr => dk_fwd r (hR.right r hr))] at hf
  obtain ⟨A1, c1, rfl, n1, m1, z1⟩ := h
  clear z1 hR
  obtain ⟨y, hy⟩ : ∃ y, y = (firstL (tk d 0 1 a) L).getD ru0 := ⟨_, rfl⟩
  have hV : firstV (firstL (tk d 0 1 a) L) = .tuple #[.agg (ruA y), .bool (firstL (tk d 0 1 a) L).isSome] := by rw [hy]; rfl
  rw [hV] at hf ⊢
  generalize (firstL (tk d 0 1 a) L).isSome = q at hf ⊢
  clear hV hy
  obtain ⟨id, dv, pr, kd, f, t, pt⟩ := y
  simp only [ruA_mk] at hf ⊢
  rw [rd0] at hf b0 Z0
  go_enter Try.func34, Try.ntmps34
  go_wp2_with fail
  refine hf.mono ?_
  rintro e w1 ⟨rfl, b1⟩
  have Z1 := Z0.belows b1
  have B1 := b0.trans (b1.mono b0.size)
  have y0 := (Z1.cell 0).trans rfl; have y1 := (Z1.cell 1).trans rfl; have y2 := (Z1.cell 2).trans rfl; have y3 := (Z1.cell 3).trans rfl; have y4 := (Z1.cell 4).trans rfl; have y5 := (Z1.cell 5).trans rfl; have y6 := (Z1.cell 6).trans rfl
  have z0 := Z1.frozen 0; have z1 := Z1.frozen 1; have z2 := Z1.frozen 2; have z3 := Z1.frozen 3; have z4 := Z1.frozen 4; have z5 := Z1.frozen 5; have z6 := Z1.frozen 6
  go_wp2
  have Z := At.fill (y := ru0) (by rw [rd0]; exact Z1) ⟨id, dv, pr, kd, f, t, pt⟩
  have Y0 := Z.cell 0; have Y1 := Z.cell 1; have Y2 := Z.cell 2; have Y3 := Z.cell 3; have Y4 := Z.cell 4; have Y5 := Z.cell 5; have Y6 := Z.cell 6
  unfold fillW at Y0 Y1 Y2 Y3 Y4 Y5 Y6
  refine bodyPost_ret (v := .tuple #[.agg (ruA ⟨id, dv, pr, kd, f, t, pt⟩), .bool q]) ?_ rfl ⟨rfl, below_fill B1 (Nat.le_refl _) ⟨id, dv, pr, kd, f, t, pt⟩⟩
  simp [ruA] at Y0 Y1 Y2 Y3 Y4 Y5 Y6
  simp [results, Try.results34, go_sem, Y0, Y1, Y2, Y3, Y4, Y5, Y6, ruA]
set_option maxRecDepth 100000 in
set_option maxHeartbeats 1000000 in
/-- The document's Denies, of right rules. -/
theorem rdenies_any {v : Value} (L : List Ru) (d : Int) (a : Nat) (w : World) (hR : RR L) (h : IsR w v L) : Calls Try.prog 33 #[v, .int .i64 d, .int .u32 a] w fun e w' => e = .returned (.bool ((firstL (tk d 2 3 a) L).isSome && decide (((firstL (tk d 2 3 a) L).getD ru0).kd = 3))) ∧ Below w.heap.size w w' := by
  have hf := rfirst_any L d a true w h
  rw [firstL_congr (dkB d a true) (tk d 2 3 a) L (fun r hr => dk_acl r (hR.right r hr))] at hf
  obtain ⟨A1, c1, rfl, n1, m1, z1⟩ := h
  clear z1 hR
  obtain ⟨y, hy⟩ : ∃ y, y = (firstL (tk d 2 3 a) L).getD ru0 := ⟨_, rfl⟩
  have hV : firstV (firstL (tk d 2 3 a) L) = .tuple #[.agg (ruA y), .bool (firstL (tk d 2 3 a) L).isSome] := by rw [hy]; rfl
  rw [hV] at hf
  rw [← hy]
  generalize (firstL (tk d 2 3 a) L).isSome = q at hf ⊢
  clear hV hy
  obtain ⟨id, dv, pr, kd, f, t, pt⟩ := y
  simp only [ruA_mk] at hf ⊢
  have fin : ∀ w1, Below w.heap.size w w1 → Below w.heap.size w (w1.alloc (.cells #[.int .i64 id, .int .i64 dv, .int .i64 pr, .int .i64 kd, .int .u32 f, .int .u32 t, .int .i64 pt] 63)) := fun w1 b1 => b1.alloc b1.size _
  cases q with
  | false =>
    simp only [Bool.false_and]
    go_enter Try.func33, Try.ntmps33
    go_wp2_with fail
    refine hf.mono ?_
    rintro e w1 ⟨rfl, b1⟩
    go_wp2
    go_ret
    exact ⟨rfl, fin w1 b1⟩
  | true =>
    simp only [Bool.true_and]
    go_enter Try.func33, Try.ntmps33
    go_wp2_with fail
    refine hf.mono ?_
    rintro e w1 ⟨rfl, b1⟩
    go_wp2
    go_ret
    exact ⟨rfl, fin w1 b1⟩
end Go.Proofs.Ytmndgbpfophniaa
