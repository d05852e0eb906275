/- Contracts: first, over any closure that asks. -/
import Derived.Test.YtmndgbpfophniaaF3
namespace Go.Proofs.Ytmndgbpfophniaa
open Go.RowKit Go.Shelf

/-- What is asked of a closure at each rule of a list. -/
def Asks (g : Nat) (lb : Array Value) (L : List Ru) (p : Ru → Bool) (w : World) : Prop :=
  ∀ k (hk : k < L.length) W, Below w.heap.size w W → Calls Try.prog g (#[.agg (ruA L[k])] ++ lb) W fun e W' => e = .returned (.bool (p L[k])) ∧ Below W.heap.size W W'

set_option maxRecDepth 100000 in
set_option maxHeartbeats 1000000 in
theorem first_any {v : Value} (g : Nat) (lb : Array Value) (eg : ∀ args w, (callFunc g args).run Try.prog w = .ok (.enter g args) w) (L : List Ru) (p : Ru → Bool) (w : World) (hs : Asks g lb L p w) (h : IsR w v L) :
    Calls Try.prog 47 #[v, .func (.func g) #[] lb] w fun e w' => e = .returned (firstV (firstL p L)) ∧ Below w.heap.size w w' := by
  obtain ⟨A1, c1, rfl, n1, m1, z1⟩ := h
  have hL : L.length ≤ 9223372036854775807 := Nat.le_trans n1 m1
  have H1 := Lib.hid z1
  have HS := Lib.hid hs
  clear z1 hs
  obtain ⟨fo, hfo⟩ : ∃ fo, fo = firstL p L := ⟨_, rfl⟩
  rw [← hfo]
  have HFO := Lib.hid hfo
  clear hfo
  go_enter Try.func47, Try.ntmps47
  go_wp2
  go_loopw [7, 12] (fun b i wr => ∃ k : Nat, Hid (FirI p L w i b k wr)) (fun _ i _ => L.length - (intOf i).toNat)
  case atStart =>
    refine ⟨0, Lib.hid ⟨rfl, rfl, by omega, ?_, ?_, ?_⟩⟩
    · exact ((Below.refl _ _).alloc (Nat.le_refl _) _).alloc (by simp) _
    · exact (At.new w _ _).alloc _
    · exact At.new1 w _ _ _
  case round =>
    obtain ⟨k, HF⟩ := hrel
    obtain ⟨rfl, rfl, hk, hb, hA, hB⟩ := HF.out
    clear HF
    by_cases hlt : k < L.length
    · have hq := firstL_snoc p L k hlt
      obtain ⟨g1, o1, e1, _, r0, r1, r2, r3, r4, r5, r6⟩ := (H1.out.belows hb).at k hlt
      subst e1
      have i0 : (0 : Int) ≤ (k : Int) := by omega
      have i1 : (k : Int) < (L.length : Int) := by omega
      have hcall := HS.out k hlt
      generalize hx : L[k] = x at r0 r1 r2 r3 r4 r5 r6 hcall hq
      obtain ⟨id, dv, pr, kd, f, t, pt⟩ := x
      dsimp only at r0 r1 r2 r3 r4 r5 r6
      have hcall2 := hcall (wr.alloc (.cells (ruA ⟨id, dv, pr, kd, f, t, pt⟩) 63)) (hb.alloc hb.size _)
      have hA1 := hA.alloc (.cells (ruA ⟨id, dv, pr, kd, f, t, pt⟩) 63)
      have hB1 := hB.alloc (.cells (ruA ⟨id, dv, pr, kd, f, t, pt⟩) 63)
      have hR1 := At.new wr (ruA ⟨id, dv, pr, kd, f, t, pt⟩) 63
      have hb1 : Below w.heap.size w (wr.alloc (.cells (ruA ⟨id, dv, pr, kd, f, t, pt⟩) 63)) := hb.alloc hb.size _
      have hs1 : wr.heap.size < (wr.alloc (.cells (ruA ⟨id, dv, pr, kd, f, t, pt⟩) 63)).heap.size := by simp
      clear hcall hA hB
      generalize ho : firstL p (L.take k) = o at hq hB1
      rw [ruA_mk] at hcall2 hR1 hA1 hB1 hb1 hs1
      cases hp : p ⟨id, dv, pr, kd, f, t, pt⟩ with
      | false =>
        rw [hp] at hcall2
        have hq2 : firstL p (L.take (k + 1)) = o := by rw [hq]; unfold stepF; rw [hp]; rfl
        clear hq
        go_wp2_with (go_at_fn g; refine hcall2.mono ?_; rintro e w2 ⟨rfl, b2⟩)
        go_roundw
        case rel =>
          refine ⟨k + 1, Lib.hid ⟨by go_num, ?_, by omega, hb1.trans (b2.mono hb1.size), hA1.belows b2, ?_⟩⟩
          · rw [hq2]
          · rw [hq2]; exact hB1.belows b2
        case measure => simp [intOf]; omega
      | true =>
        rw [hp] at hcall2
        cases o with
        | none =>
          have hq2 : firstL p (L.take (k + 1)) = some ⟨id, dv, pr, kd, f, t, pt⟩ := by rw [hq]; unfold stepF; rw [hp]; rfl
          clear hq
          rw [show ruA ((none : Option Ru).getD ru0) = #[.int .i64 0, .int .i64 0, .int .i64 0, .int .i64 0, .int .u32 0, .int .u32 0, .int .i64 0] from rfl] at hB1
          go_wp2_with (go_at_fn g; refine hcall2.mono ?_; rintro e w2 ⟨rfl, b2⟩; have R2 := hR1.belows b2; have B2 := hB1.belows b2; have c0 := (R2.cell 0).trans rfl; have c1 := (R2.cell 1).trans rfl; have c2 := (R2.cell 2).trans rfl; have c3 := (R2.cell 3).trans rfl; have c4 := (R2.cell 4).trans rfl; have c5 := (R2.cell 5).trans rfl; have c6 := (R2.cell 6).trans rfl; have d0 := (B2.cell 0).trans rfl; have d1 := (B2.cell 1).trans rfl; have d2 := (B2.cell 2).trans rfl; have d3 := (B2.cell 3).trans rfl; have d4 := (B2.cell 4).trans rfl; have d5 := (B2.cell 5).trans rfl; have d6 := (B2.cell 6).trans rfl; have z0 := B2.frozen 0; have z1 := B2.frozen 1; have z2 := B2.frozen 2; have z3 := B2.frozen 3; have z4 := B2.frozen 4; have z5 := B2.frozen 5; have z6 := B2.frozen 6)
          refine ⟨⟨k + 1, Lib.hid ⟨by go_num, ?_, by omega, ?_, ?_, ?_⟩⟩, by simp [intOf]; omega⟩
          · rw [hq2]; rfl
          · exact below_fill (hb1.trans (b2.mono hb1.size)) (by omega) ⟨id, dv, pr, kd, f, t, pt⟩
          · exact (hA1.belows b2).fillo (by omega) ⟨id, dv, pr, kd, f, t, pt⟩
          · rw [hq2]; exact At.fill (y := ru0) B2 ⟨id, dv, pr, kd, f, t, pt⟩
        | some y =>
          obtain ⟨id', dv', pr', kd', f', t', pt'⟩ := y
          have hah := fun u : World => ahead_any ⟨id, dv, pr, kd, f, t, pt⟩ ⟨id', dv', pr', kd', f', t', pt'⟩ u
          rw [ruA_mk, ruA_mk] at hah
          rw [show ruA ((some (⟨id', dv', pr', kd', f', t', pt'⟩ : Ru)).getD ru0) = #[.int .i64 id', .int .i64 dv', .int .i64 pr', .int .i64 kd', .int .u32 f', .int .u32 t', .int .i64 pt'] from rfl] at hB1
          cases hh : aheadB ⟨id, dv, pr, kd, f, t, pt⟩ ⟨id', dv', pr', kd', f', t', pt'⟩ with
          | true =>
            rw [hh] at hah
            have hq2 : firstL p (L.take (k + 1)) = some ⟨id, dv, pr, kd, f, t, pt⟩ := by rw [hq]; unfold stepF; rw [hp]; simp only [Option.getD_some, hh, Bool.or_true, Bool.and_true, if_true]
            clear hq
            go_wp2_with (first | (go_at_fn g; refine hcall2.mono ?_; rintro e w2 ⟨rfl, b2⟩; have R2 := hR1.belows b2; have B2 := hB1.belows b2; have c0 := (R2.cell 0).trans rfl; have c1 := (R2.cell 1).trans rfl; have c2 := (R2.cell 2).trans rfl; have c3 := (R2.cell 3).trans rfl; have c4 := (R2.cell 4).trans rfl; have c5 := (R2.cell 5).trans rfl; have c6 := (R2.cell 6).trans rfl; have d0 := (B2.cell 0).trans rfl; have d1 := (B2.cell 1).trans rfl; have d2 := (B2.cell 2).trans rfl; have d3 := (B2.cell 3).trans rfl; have d4 := (B2.cell 4).trans rfl; have d5 := (B2.cell 5).trans rfl; have d6 := (B2.cell 6).trans rfl; have z0 := B2.frozen 0; have z1 := B2.frozen 1; have z2 := B2.frozen 2; have z3 := B2.frozen 3; have z4 := B2.frozen 4; have z5 := B2.frozen 5; have z6 := B2.frozen 6) | (go_at_call 54; refine (hah _).mono ?_; rintro e w3 ⟨rfl, b3⟩; have R3 := R2.belows b3; have B3 := B2.belows b3; clear c0 d0 z0 c1 d1 z1 c2 d2 z2 c3 d3 z3 c4 d4 z4 c5 d5 z5 c6 d6 z6; have c0 := (R3.cell 0).trans rfl; have c1 := (R3.cell 1).trans rfl; have c2 := (R3.cell 2).trans rfl; have c3 := (R3.cell 3).trans rfl; have c4 := (R3.cell 4).trans rfl; have c5 := (R3.cell 5).trans rfl; have c6 := (R3.cell 6).trans rfl; have d0 := (B3.cell 0).trans rfl; have d1 := (B3.cell 1).trans rfl; have d2 := (B3.cell 2).trans rfl; have d3 := (B3.cell 3).trans rfl; have d4 := (B3.cell 4).trans rfl; have d5 := (B3.cell 5).trans rfl; have d6 := (B3.cell 6).trans rfl; have z0 := B3.frozen 0; have z1 := B3.frozen 1; have z2 := B3.frozen 2; have z3 := B3.frozen 3; have z4 := B3.frozen 4; have z5 := B3.frozen 5; have z6 := B3.frozen 6))
            refine ⟨⟨k + 1, Lib.hid ⟨by go_num, ?_, by omega, ?_, ?_, ?_⟩⟩, by simp [intOf]; omega⟩
            · rw [hq2]; rfl
            · exact below_fill ((hb1.trans (b2.mono hb1.size)).trans (b3.mono (Nat.le_trans hb1.size b2.size))) (by omega) ⟨id, dv, pr, kd, f, t, pt⟩
            · exact ((hA1.belows b2).belows b3).fillo (by omega) ⟨id, dv, pr, kd, f, t, pt⟩
            · rw [hq2]; exact At.fill (y := ⟨id', dv', pr', kd', f', t', pt'⟩) B3 ⟨id, dv, pr, kd, f, t, pt⟩
          | false =>
            rw [hh] at hah
            have hq2 : firstL p (L.take (k + 1)) = some ⟨id', dv', pr', kd', f', t', pt'⟩ := by rw [hq]; unfold stepF; rw [hp]; simp only [Option.getD_some, hh, Option.isNone_some, Bool.or_false, Bool.and_false, Bool.false_eq_true, if_false]
            clear hq
            go_wp2_with (first | (go_at_fn g; refine hcall2.mono ?_; rintro e w2 ⟨rfl, b2⟩; have R2 := hR1.belows b2; have B2 := hB1.belows b2; have c0 := (R2.cell 0).trans rfl; have c1 := (R2.cell 1).trans rfl; have c2 := (R2.cell 2).trans rfl; have c3 := (R2.cell 3).trans rfl; have c4 := (R2.cell 4).trans rfl; have c5 := (R2.cell 5).trans rfl; have c6 := (R2.cell 6).trans rfl; have d0 := (B2.cell 0).trans rfl; have d1 := (B2.cell 1).trans rfl; have d2 := (B2.cell 2).trans rfl; have d3 := (B2.cell 3).trans rfl; have d4 := (B2.cell 4).trans rfl; have d5 := (B2.cell 5).trans rfl; have d6 := (B2.cell 6).trans rfl; have z0 := B2.frozen 0; have z1 := B2.frozen 1; have z2 := B2.frozen 2; have z3 := B2.frozen 3; have z4 := B2.frozen 4; have z5 := B2.frozen 5; have z6 := B2.frozen 6) | (go_at_call 54; refine (hah _).mono ?_; rintro e w3 ⟨rfl, b3⟩; have R3 := R2.belows b3; have B3 := B2.belows b3; clear c0 d0 z0 c1 d1 z1 c2 d2 z2 c3 d3 z3 c4 d4 z4 c5 d5 z5 c6 d6 z6; have c0 := (R3.cell 0).trans rfl; have c1 := (R3.cell 1).trans rfl; have c2 := (R3.cell 2).trans rfl; have c3 := (R3.cell 3).trans rfl; have c4 := (R3.cell 4).trans rfl; have c5 := (R3.cell 5).trans rfl; have c6 := (R3.cell 6).trans rfl; have d0 := (B3.cell 0).trans rfl; have d1 := (B3.cell 1).trans rfl; have d2 := (B3.cell 2).trans rfl; have d3 := (B3.cell 3).trans rfl; have d4 := (B3.cell 4).trans rfl; have d5 := (B3.cell 5).trans rfl; have d6 := (B3.cell 6).trans rfl; have z0 := B3.frozen 0; have z1 := B3.frozen 1; have z2 := B3.frozen 2; have z3 := B3.frozen 3; have z4 := B3.frozen 4; have z5 := B3.frozen 5; have z6 := B3.frozen 6))
            go_roundw
            case rel =>
              refine ⟨k + 1, Lib.hid ⟨by go_num, ?_, by omega, (hb1.trans (b2.mono hb1.size)).trans (b3.mono (Nat.le_trans hb1.size b2.size)), (hA1.belows b2).belows b3, ?_⟩⟩
              · rw [hq2]; rfl
              · rw [hq2]; exact B3
            case measure => simp [intOf]; omega
    · obtain rfl : k = L.length := by omega
      rw [List.take_length, ← HFO.out] at hB
      rw [List.take_length, ← HFO.out]
      obtain ⟨y, hy⟩ : ∃ y, y = fo.getD ru0 := ⟨_, rfl⟩
      rw [← hy] at hB
      have hV : firstV fo = .tuple #[.agg (ruA y), .bool fo.isSome] := by rw [hy]; rfl
      have HV := Lib.hid hV
      clear hV hy
      generalize fo.isSome = q at HV ⊢
      obtain ⟨id', dv', pr', kd', f', t', pt'⟩ := y
      rw [ruA_mk] at hB
      have Z := At.fill (y := ru0) hA ⟨id', dv', pr', kd', f', t', pt'⟩
      rw [rd0] at hA
      have d0 := (hB.cell 0).trans rfl; have e0 := (hA.cell 0).trans rfl; have z0 := hA.frozen 0; have d1 := (hB.cell 1).trans rfl; have e1 := (hA.cell 1).trans rfl; have z1 := hA.frozen 1; have d2 := (hB.cell 2).trans rfl; have e2 := (hA.cell 2).trans rfl; have z2 := hA.frozen 2; have d3 := (hB.cell 3).trans rfl; have e3 := (hA.cell 3).trans rfl; have z3 := hA.frozen 3; have d4 := (hB.cell 4).trans rfl; have e4 := (hA.cell 4).trans rfl; have z4 := hA.frozen 4; have d5 := (hB.cell 5).trans rfl; have e5 := (hA.cell 5).trans rfl; have z5 := hA.frozen 5; have d6 := (hB.cell 6).trans rfl; have e6 := (hA.cell 6).trans rfl; have z6 := hA.frozen 6
      go_wp2
      refine bodyPost_ret (v := firstV fo) ?_ rfl ⟨rfl, below_fill hb (by omega) ⟨id', dv', pr', kd', f', t', pt'⟩⟩
      unfold fillW ruA at Z
      have y0 := Z.cell 0; have y1 := Z.cell 1; have y2 := Z.cell 2; have y3 := Z.cell 3; have y4 := Z.cell 4; have y5 := Z.cell 5; have y6 := Z.cell 6
      dsimp only at y0 y1 y2 y3 y4 y5 y6
      simp [results, Try.results47, go_sem, y0, y1, y2, y3, y4, y5, y6, HV.out, ruA_mk]
end Go.Proofs.Ytmndgbpfophniaa
