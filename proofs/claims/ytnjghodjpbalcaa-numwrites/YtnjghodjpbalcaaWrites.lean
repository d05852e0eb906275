/- NumWrites' walk. -/
import Derived.Test.YtnjghodjpbalcaaFew
import Derived.Test.YtnjghodjpbalcaaActs
import Derived.Test.YtnjghodjpbalcaaR1
import Derived.Test.YtnjghodjpbalcaaCls
import Derived.Test.YtnjghodjpbalcaaSeg
namespace Go.Proofs.Ytnjghodjpbalcaa
open Go.RowKit

/-- Two addresses in two blocks. -/
def Apart (A B : Option Addr) : Prop := ∀ p q, A = some p → B = some q → p.block ≠ q.block

/-- A row's own block lies below g: a cell of block g is as it was. -/
theorem cell_far {w w' : World} {A : Option Addr} {n c g j : Nat} (hg : w.grownBy w' (Value.ownBlock (.slice A n c))) (hA : ∀ p, A = some p → p.block < g) (hlt : g < w.heap.size) : w'.cell? ⟨g, j, none⟩ = w.cell? ⟨g, j, none⟩ := by
  refine World.cell?_of_block (hg.block g hlt ?_)
  cases A with
  | none => simp [Value.ownBlock]
  | some p => simp [Value.ownBlock]; have := hA p rfl; omega
/-- .. and what lies apart from it. -/
theorem rd_far {w w' : World} {A B : Option Addr} {n c : Nat} {l : List UInt8} (hg : w.grownBy w' (Value.ownBlock (.slice A n c))) (hap : ∀ p q, A = some p → B = some q → p.block ≠ q.block) (h : Rd w w.heap.size B l) : Rd w' w'.heap.size B l := by
  intro hn
  obtain ⟨ad, rfl, hb, hc⟩ := h hn
  refine ⟨ad, rfl, Nat.lt_of_lt_of_le hb hg.size, fun j b hj => ?_⟩
  rw [World.cell?_of_block (w := w) (hg.block (ad.add j).block (by rw [addr_block]; exact hb) ?_)]
  · exact hc j b hj
  · rw [addr_block]
    cases A with
    | none => simp [Value.ownBlock]
    | some p => simp [Value.ownBlock]; exact fun e => hap p ad rfl rfl e.symm
theorem below_row {w w' : World} {A : Option Addr} {n c B : Nat} (hg : w.grownBy w' (Value.ownBlock (.slice A n c))) (hA : ∀ p, A = some p → B ≤ p.block) (hB : B ≤ w.heap.size) : Below B w w' :=
  (Below.refl _ _).grown hg hB fun k hk => by
    cases A with
    | none => cases hk
    | some p => injection hk with hk; subst hk; exact hA p rfl

/-- What the drawn region reads, in every world that has only grown. -/
def RegS (wT : World) (g : Nat) (xn : Nat) (xs : ByteArray) (v3 v8 v9 : Value) (S3 S8 S9 : ByteArray) (u : World) : Prop :=
  u.cell? ⟨g, 2, none⟩ = some (.int .u64 xn) ∧ u.cell? ⟨g, 4, none⟩ = some (.string xs) ∧ Sem.run Try.prog (convert 23 9 v3) u = .ok (.string S3) u ∧ Sem.run Try.prog (convert 23 9 v8) u = .ok (.string S8) u ∧ Sem.run Try.prog (convert 23 9 v9) u = .ok (.string S9) u ∧ Below wT.heap.size wT u

theorem cat_eq' {L1 L2 L3 : List UInt8} {S1 S2 S3 : ByteArray} (h1 : (⟨L1.toArray⟩ : ByteArray) = S1) (h2 : (⟨L2.toArray⟩ : ByteArray) = S2) (h3 : (⟨L3.toArray⟩ : ByteArray) = S3) (h : L1 = L2 ++ L3) : (S1.toList == (S2 ++ S3).toList) = true := by
  subst h3
  exact cat_eq h1 h2 h

set_option maxRecDepth 100000 in
set_option maxHeartbeats 4000000 in
theorem writes_walk (A : Option Addr) (c : Nat) (l : List ActV) (w : World) (hr : ActsAt w w.heap.size A l) (hc : l.length ≤ c) (hcm : c ≤ maxLen) :
    Calls Try.prog 3 #[.slice A l.length c] w fun e w' => e = .returned (.bool true) ∧ Below w.heap.size w w' := by
  obtain ⟨i0, hi, hz0, hz1, hz2⟩ := info_parts info5
  have hll : l.length ≤ 9223372036854775807 := by have : c ≤ 9223372036854775807 := hcm; omega
  have HR := Lib.hid hr
  clear hr
  go_enter Try.func3, Try.ntmps3
  go_wp2
  go_loopw [3, 4, 5] (fun v3 v4 i wr => ∃ k A3 c3 L3 A4 c4 L4, i = .int .i64 ((k : Nat) : Int) ∧ k ≤ 60 ∧ k ≤ l.length ∧ v3 = .slice A3 (L3 : List UInt8).length c3 ∧ v4 = .slice A4 (L4 : List UInt8).length c4 ∧
      L3.length ≤ k * 1000 ∧ Hid (L4 = L3) ∧ L3.length ≤ c3 ∧ Rd wr wr.heap.size A3 L3 ∧ Own wr w.heap.size 5 (.slice A4 L4.length c4) L4 ∧ Apart A3 A4 ∧ Below w.heap.size w wr) (fun _ _ i _ => 60 - (intOf i).toNat)
  case atStart => exact ⟨0, none, 0, [], none, 0, [], rfl, by omega, by omega, rfl, rfl, by simp, rfl, by simp, Rd.nil _ _ _, Own.nil _ _ _, (fun p q h => by cases h), Below.refl _ _⟩
  case round =>
    obtain ⟨k, A3, c3, L3, A4, c4, L4, rfl, hk60, hkl, rfl, rfl, hlen, HL, hc3, r3, o4, hap, hbel⟩ := hrel
    have hsz := hbel.size
    by_cases hlt : k < l.length ∧ k < 60
    · obtain ⟨h1, h2⟩ := hlt
      obtain ⟨ad, x, rfl, hx, hB, hact⟩ := (HR.out.below hbel).get h1
      obtain ⟨xk, xl, xn, xm, xs⟩ := x
      obtain ⟨e1, e2, e3, e4, e5, _, bn, _, bs⟩ := hact
      dsimp only at e1 e2 e3 e4 e5 bn bs
      have bs : xs.size ≤ 9223372036854775807 := bs
      clear hx HR
      by_cases hS : 400 < xs.size
      · go_wp2
        go_roundw
        case rel => exact ⟨k + 1, A3, c3, L3, A4, c4, L4, by go_num, by omega, by omega, rfl, rfl, by omega, HL, hc3, (r3.alloc (Nat.le_refl _) _).more (by simp), o4.alloc _, hap, hbel.alloc hsz _⟩
        case measure => simp [intOf]; omega
      · have hcv3 := conv_any (wr.alloc (.cells #[.int .i64 xk, .int .i64 xl, .int .u64 xn, .int .u64 xm, .string xs] 26)) _ A3 L3 c3 (r3.alloc (Nat.le_refl _) _)
        generalize hS3 : (⟨L3.toArray⟩ : ByteArray) = S3 at hcv3
        have HS3 := Lib.hid hS3
        have hz3 : S3.size ≤ 60000 := by rw [← hS3]; show L3.toArray.size ≤ _; simp; omega
        clear hS3
        go_wp2_with fail
        clear e1 e2 e3 e4 e5 hcv3
        refine (put_any A3 L3 c3 xn _ ((r3.alloc (Nat.le_refl _) _).more (by simp)) hc3 (by omega) bn).mono ?_
        rintro e wP ⟨A8, c8, L8, rfl, H8, o8, b8⟩
        obtain ⟨_, hc8, _, r8⟩ := o8.rd
        have r3P := (((r3.alloc (Nat.le_refl _) (.cells #[.int .i64 xk, .int .i64 xl, .int .u64 xn, .int .u64 xm, .string xs] 26)).more (B' := (wr.alloc (.cells #[.int .i64 xk, .int .i64 xl, .int .u64 xn, .int .u64 xm, .string xs] 26)).heap.size) (by simp)).below b8).more b8.size
        have hcP : ∀ j, wP.cell? ⟨wr.heap.size, j, none⟩ = (wr.alloc (.cells #[.int .i64 xk, .int .i64 xl, .int .u64 xn, .int .u64 xm, .string xs] 26)).cell? ⟨wr.heap.size, j, none⟩ := fun j => b8.cell (by simp)
        have f2 : wP.cell? ⟨wr.heap.size, 2, none⟩ = some (.int .u64 xn) := by rw [hcP]; simp
        have f4 : wP.cell? ⟨wr.heap.size, 4, none⟩ = some (.string xs) := by rw [hcP]; simp
        have f0 : wP.cell? ⟨wr.heap.size, 0, none⟩ = some (.int .i64 xk) := by rw [hcP]; simp
        clear hcP
        go_wp2_with fail
        refine (text_any A3 L3 c3 xs wP r3P hc3 (by omega) (by omega)).mono ?_
        rintro e wT ⟨A9, c9, L9, rfl, H9, o9, b9⟩
        obtain ⟨_, hc9, _, r9⟩ := o9.rd
        have hgP : wr.heap.size < wP.heap.size := by have := b8.size; simp at this; omega
        have hPT := b9.size
        have q3 : Rd wT wT.heap.size A3 L3 := (r3P.below b9).more hPT
        have q8 : Rd wT wT.heap.size A8 L8 := (r8.below b9).more hPT
        have k2 : wT.cell? ⟨wr.heap.size, 2, none⟩ = some (.int .u64 xn) := (b9.cell hgP).trans f2
        have k4 : wT.cell? ⟨wr.heap.size, 4, none⟩ = some (.string xs) := (b9.cell hgP).trans f4
        have k0 : wT.cell? ⟨wr.heap.size, 0, none⟩ = some (.int .i64 xk) := (b9.cell hgP).trans f0
        clear f0 f2 f4
        generalize hS8 : (⟨L8.toArray⟩ : ByteArray) = S8
        generalize hS9 : (⟨L9.toArray⟩ : ByteArray) = S9
        have HS8 := Lib.hid hS8
        have HS9 := Lib.hid hS9
        clear hS8 hS9
        have hS : ∀ u, Below wT.heap.size wT u → RegS wT wr.heap.size xn xs (.slice A3 L3.length c3) (.slice A8 L8.length c8) (.slice A9 L9.length c9) S3 S8 S9 u := fun u hu =>
          ⟨(hu.cell (by exact Nat.lt_of_lt_of_le hgP hPT)).trans k2, (hu.cell (by exact Nat.lt_of_lt_of_le hgP hPT)).trans k4, by rw [← HS3.out]; exact conv_any u _ A3 L3 c3 (q3.below hu), by rw [← HS8.out]; exact conv_any u _ A8 L8 c8 (q8.below hu), by rw [← HS9.out]; exact conv_any u _ A9 L9 c9 (r9.below hu), hu⟩
        have HSS := Lib.hid hS
        clear hS k2 k4
        go_upto_region 10 with (fail)
        have hnn : (S3.toList == S3.toList) = true := by simp
        have hz8 : S8.size ≤ 70000 := by
          rw [← HS8.out]; show L8.toArray.size ≤ _
          have := congrArg List.length H8.out
          have := (enc_len xn bn).2
          simp at *
          omega
        have c3' : ∀ x : Sub wT, Sem.run Try.prog (convert 23 9 (.slice A3 L3.length c3)) x.u = .ok (.string S3) x.u := fun x => (HSS.out x.u x.h).2.2.1
        have c8' : ∀ x : Sub wT, Sem.run Try.prog (convert 23 9 (.slice A8 L8.length c8)) x.u = .ok (.string S8) x.u := fun x => (HSS.out x.u x.h).2.2.2.1
        have l2' : ∀ x : Sub wT, x.u.cell? ⟨wr.heap.size, 2, none⟩ = some (.int .u64 xn) := fun x => (HSS.out x.u x.h).1
        refine wp_region_seg 10 16 (by kernel_rfl) (by kernel_rfl) rfl (by kernel_rfl) (by kernel_rfl) ?_
        show wpQuiet _ _ _ _ [_, _, _, _, _, _, _, _, _, _] _
        repeat (go_big_quiet_step (fail))
        refine wpQuiet_nil ?_
        intro u hu
        refine held_call (k := 10) (ys := #[.int .u64 xn]) (by kernel_rfl) rfl (by kernel_rfl) rfl Try.func11 (by kernel_rfl) (by kernel_rfl) hu (by simp only [List.map_toArray, List.map_cons, List.map_nil, Act.eval]; rfl) (fun v => rfl) ?_
        refine (rput_any xn u bn).mono ?_
        rintro e wA ⟨AA, cA, LA, rfl, HA, oA, bA⟩
        refine ⟨_, rfl, bA, ?_⟩
        clear c3' c8' l2'
        obtain ⟨_, _, _, rA⟩ := oA.rd
        generalize hSA : (⟨LA.toArray⟩ : ByteArray) = SA
        have bTA : Below wT.heap.size wT wA := hu.trans (bA.mono hu.size)
        have hqA : (S8.toList == (S3 ++ SA).toList) = true := cat_eq' HS8.out HS3.out hSA (by rw [H8.out, HA.out])
        have hzA : SA.size ≤ 9 := by rw [← hSA]; show LA.toArray.size ≤ _; simp; rw [HA.out]; exact (enc_len xn bn).2
        have cA' : ∀ x : Sub wA, Sem.run Try.prog (convert 23 9 (.slice AA LA.length cA)) x.u = .ok (.string SA) x.u := fun x => hSA ▸ conv_any x.u _ AA LA cA (rA.below x.h)
        have c9' : ∀ x : Sub wA, Sem.run Try.prog (convert 23 9 (.slice A9 L9.length c9)) x.u = .ok (.string S9) x.u := fun x => (HSS.out x.u (bTA.trans (x.h.mono bTA.size))).2.2.2.2.1
        have l4' : ∀ x : Sub wA, x.u.cell? ⟨wr.heap.size, 4, none⟩ = some (.string xs) := fun x => (HSS.out x.u (bTA.trans (x.h.mono bTA.size))).2.1
        clear hSA oA
        refine held_more 10 5 11 (by kernel_rfl) (by kernel_rfl) (by kernel_rfl) (Below.refl _ _) ?_
        show wpQuiet _ _ _ _ [_, _, _, _, _, _, _, _, _, _] ⟨List.toArray (_ :: _ :: _ :: _ :: _ :: _ :: _ :: _ :: _ :: _ :: _ :: _ :: _ :: _ :: _ :: _ :: _ :: _ :: _ :: _ :: _ :: _ :: _ :: _ :: _ :: _ :: _ :: _ :: _ :: _ :: _ :: _ :: _ :: _ :: _ :: _ :: _ :: _ :: _ :: _ :: _ :: _ :: _ :: _ :: _ :: _ :: _ :: _ :: _ :: _ :: _ :: _ :: _ :: _ :: _ :: _ :: _ :: _ :: _ :: _ :: _ :: _ :: _ :: _ :: _ :: _ :: _ :: _ :: _ :: _ :: _ :: _ :: _ :: _ :: _ :: _ :: _ :: _ :: _ :: _ :: _ :: _ :: _ :: _ :: _ :: _ :: _ :: _ :: _ :: _ :: []), _⟩
        repeat (go_big_quiet_step (fail))
        refine wpQuiet_nil ?_
        intro u2 hu2
        refine held_call (k := 21) (ys := #[.string xs]) (by kernel_rfl) rfl (by kernel_rfl) rfl Try.func12 (by kernel_rfl) (by kernel_rfl) hu2 (by simp only [List.map_toArray, List.map_cons, List.map_nil, Act.eval]; rfl) (fun v => rfl) ?_
        refine (rtxt_any xs u2 (by omega)).mono ?_
        rintro e wB ⟨AB, cB, LB, rfl, HB, oB, bB⟩
        refine ⟨_, rfl, bB, ?_⟩
        clear cA' c9' l4'
        obtain ⟨_, _, _, rB⟩ := oB.rd
        generalize hSB : (⟨LB.toArray⟩ : ByteArray) = SB
        have bTB : Below wT.heap.size wT wB := bTA.trans ((hu2.trans (bB.mono hu2.size)).mono bTA.size)
        have hqB : (S9.toList == (S3 ++ SB).toList) = true := cat_eq' HS9.out HS3.out hSB (by rw [H9.out, HB.out])
        have hzB : SB.size ≤ 500 := by
          rw [← hSB]; show LB.toArray.size ≤ _
          have h1 := congrArg List.length HB.out
          have h2 := (enc_len xs.size (by omega)).2
          simp [encT] at h1 ⊢
          omega
        have cB' : ∀ x : Sub wB, Sem.run Try.prog (convert 23 9 (.slice AB LB.length cB)) x.u = .ok (.string SB) x.u := fun x => hSB ▸ conv_any x.u _ AB LB cB (rB.below x.h)
        clear hSB oB
        refine held_more 4 0 22 (by kernel_rfl) (by kernel_rfl) (by kernel_rfl) (Below.refl _ _) ?_
        show wpQuiet _ _ _ _ [_, _, _, _] ⟨List.toArray (_ :: _ :: _ :: _ :: _ :: _ :: _ :: _ :: _ :: _ :: _ :: _ :: _ :: _ :: _ :: _ :: _ :: _ :: _ :: _ :: _ :: _ :: _ :: _ :: _ :: _ :: _ :: _ :: _ :: _ :: _ :: _ :: _ :: _ :: _ :: _ :: _ :: _ :: _ :: _ :: _ :: _ :: _ :: _ :: _ :: _ :: _ :: _ :: _ :: _ :: _ :: _ :: _ :: _ :: _ :: _ :: _ :: _ :: _ :: _ :: _ :: _ :: _ :: _ :: _ :: _ :: _ :: _ :: _ :: _ :: _ :: _ :: _ :: _ :: _ :: _ :: _ :: _ :: _ :: _ :: _ :: _ :: _ :: _ :: _ :: _ :: _ :: _ :: _ :: _ :: []), _⟩
        repeat (go_big_quiet_step (fail))
        refine wpQuiet_nil ?_
        intro u3 hu3
        refine held_end (by kernel_rfl) ?_
        have bT3 : Below wT.heap.size wT u3 := bTB.trans (hu3.mono bTB.size)
        have bW : Below wr.heap.size wr wT := ((Below.refl _ _).alloc (Nat.le_refl _) (.cells #[.int .i64 xk, .int .i64 xl, .int .u64 xn, .int .u64 xm, .string xs] 26)).trans ((b8.mono (by simp)).trans (b9.mono (by omega)))
        have bR3 : Below wr.heap.size wr u3 := bW.trans (bT3.mono bW.size)
        obtain ⟨k2, k4, _⟩ := HSS.out u3 bT3
        have k0 : u3.cell? ⟨wr.heap.size, 0, none⟩ = some (.int .i64 xk) := (bT3.cell (by exact Nat.lt_of_lt_of_le hgP hPT)).trans k0
        have p4 := o4.below bR3
        have p8 := (q8.below bT3).more bT3.size
        have hgu : wr.heap.size < u3.heap.size := Nat.lt_of_lt_of_le hgP (Nat.le_trans hPT bT3.size)
        have ha4 : ∀ p, A4 = some p → p.block < wr.heap.size := fun p hp => (o4.at_block p.block (by rw [hp]; rfl)).2
        have ha8 : ∀ p, A8 = some p → wr.heap.size < p.block ∧ p.block < wT.heap.size := fun p hp => by
          have := o8.at_block p.block (by rw [hp]; rfl)
          simp at this
          exact ⟨by omega, by omega⟩
        have hl8 : L8.length ≤ k * 1000 + 9 := by have h1 := congrArg List.length H8.out; have := (enc_len xn bn).2; simp at h1; omega
        have hl4 : L4.length ≤ k * 1000 := by rw [HL.out]; exact hlen
        have H48 : Hid (L8 = L4 ++ enc xn) := by show _ = _; rw [H8.out, HL.out]
        clear hqA hqB hzA hzB cB' hnn hz8 HSS HS3 HS8 HS9 r3P q3 q8 r9 o9 H9 HA HB rA rB HL r3 hap b8 b9 bW bTA bTB hu hu2 hu3
        go_wp2_with fail
        refine (rput_any xn u3 bn).mono ?_
        rintro e wC ⟨AC, cC, LC, rfl, HC, oC, bC⟩
        obtain ⟨_, _, _, rC⟩ := oC.rd
        have hlC : LC.length ≤ 9 := by rw [HC.out]; exact (enc_len xn bn).2
        have hszC : w.heap.size ≤ wC.heap.size := Nat.le_trans hsz (Nat.le_trans bR3.size bC.size)
        have p4C := p4.below bC
        have m0 : wC.cell? ⟨wr.heap.size, 0, none⟩ = some (.int .i64 xk) := (bC.cell (by exact hgu)).trans k0
        have m4 : wC.cell? ⟨wr.heap.size, 4, none⟩ = some (.string xs) := (bC.cell (by exact hgu)).trans k4
        have hgC : wr.heap.size < wC.heap.size := Nat.lt_of_lt_of_le hgu bC.size
        have ha4b : ∀ p, A4 = some p → w.heap.size ≤ p.block := fun p hp => (o4.at_block p.block (by rw [hp]; rfl)).1
        have p8C := (p8.below bC).more bC.size
        have hTC : wT.heap.size ≤ wC.heap.size := Nat.le_trans bT3.size bC.size
        have bWC : Below w.heap.size w wC := hbel.trans ((bR3.mono hsz).trans (bC.mono (Nat.le_trans hsz bR3.size)))
        clear oC k0 k2 k4 p4 p8
        by_cases hK : xk = 1
        · have hKb : (xk != 1) = false := by subst hK; rfl
          have HK := Lib.hid hK
          clear hK
          go_wp2_with (at_builtin; refine wpList_app_lies _ rfl (.tmp 65) (.tmp 68) 23 23 rfl w.heap.size 5 i0 _ Try.underlying23 hi hz0 hz1 hz2 rfl _ L4 rfl p4C _ LC rfl (rC.src Try.underlying23 _) (by omega) hszC ?_; intro AD cD LD wD HD oD gD qD; have n0 := (cell_far (j := 0) gD ha4 hgC).trans m0; clear p4C m0 m4)
          go_roundw
          case rel =>
            refine ⟨k + 1, A8, c8, L8, AD, cD, LD, by go_num, by omega, by omega, rfl, rfl, by omega, by show LD = L8; rw [HD.out, HC.out, H48.out], hc8, rd_far gD (fun p q hp hq => by have := ha4 p hp; have := ha8 q hq; omega) p8C, oD, fun p q hp hq => ?_, bWC.trans (below_row gD ha4b hszC)⟩
            have h1 := ha8 p hp
            rcases qD q hq with h | h
            · cases hA : A4 with
              | none => rw [hA] at h; cases h
              | some r => rw [hA] at h; injection h with h; have := ha4 r hA; omega
            · omega
          case measure => simp [intOf]; omega
        · have hKb : (xk != 1) = true := by simpa using hK
          go_wp2_with (at_builtin; refine wpList_app_lies _ rfl (.tmp 65) (.tmp 68) 23 23 rfl w.heap.size 5 i0 _ Try.underlying23 hi hz0 hz1 hz2 rfl _ L4 rfl p4C _ LC rfl (rC.src Try.underlying23 _) (by omega) hszC ?_; intro AD cD LD wD HD oD gD qD; have n0 := (cell_far (j := 0) gD ha4 hgC).trans m0; have n4 := (cell_far (j := 4) gD ha4 hgC).trans m4; clear p4C m0 m4)
          have p8D : Rd wD wD.heap.size A8 L8 := rd_far gD (fun p q hp hq => by have := ha4 p hp; have := ha8 q hq; omega) p8C
          refine (text_any A8 L8 c8 xs wD p8D hc8 (by omega) (by omega)).mono ?_
          rintro e wE ⟨AE, cE, LE, rfl, HE, oE, bE⟩
          obtain ⟨_, hcE, _, rE⟩ := oE.rd
          have hgD : wr.heap.size < wD.heap.size := Nat.lt_of_lt_of_le hgC gD.size
          have n4E : wE.cell? ⟨wr.heap.size, 4, none⟩ = some (.string xs) := (bE.cell (by exact hgD)).trans n4
          have haE : ∀ p, AE = some p → wD.heap.size ≤ p.block ∧ p.block < wE.heap.size := fun p hp => oE.at_block p.block (by rw [hp]; rfl)
          clear n0 n4
          go_wp2_with fail
          refine (rtxt_any xs wE (by omega)).mono ?_
          rintro e wF ⟨AF, cF, LF, rfl, HF, oF, bF⟩
          obtain ⟨_, _, _, rF⟩ := oF.rd
          have hD2 : w.heap.size ≤ wD.heap.size := Nat.le_trans hszC gD.size
          have pF : Own wF w.heap.size 5 (.slice AD LD.length cD) LD := (oD.below bE).below bF
          have hszF : w.heap.size ≤ wF.heap.size := Nat.le_trans hD2 (Nat.le_trans bE.size bF.size)
          have h2 := (enc_len xs.size (by omega)).2
          have hlF : LF.length ≤ 409 := by have h1 := congrArg List.length HF.out; simp [encT] at h1; omega
          have hlE : LE.length ≤ k * 1000 + 9 + 409 := by have h1 := congrArg List.length HE.out; simp [encT] at h1; omega
          have hlD : LD.length ≤ k * 1000 + 9 := by have h1 := congrArg List.length HD.out; simp at h1; omega
          clear oF h2
          go_wp2_with (at_builtin; refine wpList_app_lies _ rfl (.tmp 77) (.tmp 80) 23 23 rfl w.heap.size 5 i0 _ Try.underlying23 hi hz0 hz1 hz2 rfl _ LD rfl pF _ LF rfl (rF.src Try.underlying23 _) (by omega) hszF ?_; intro AG cG LG wG HG oG gG qG)
          have haD : ∀ p, AD = some p → w.heap.size ≤ p.block ∧ p.block < wD.heap.size := fun p hp => oD.at_block p.block (by rw [hp]; rfl)
          have bWF : Below w.heap.size w wF := (bWC.trans (below_row gD ha4b hszC)).trans ((bE.mono hD2).trans (bF.mono (Nat.le_trans hD2 bE.size)))
          go_roundw
          case rel =>
            refine ⟨k + 1, AE, cE, LE, AG, cG, LG, by go_num, by omega, by omega, rfl, rfl, by omega, ?_, hcE, rd_far gG (fun p q hp hq => by have := haD p hp; have := haE q hq; omega) ((rE.below bF).more bF.size), oG, fun p q hp hq => ?_, bWF.trans (below_row gG (fun p hp => (haD p hp).1) hszF)⟩
            · show LG = LE
              rw [HG.out, HF.out, HE.out, HD.out, HC.out, H48.out]
            · have h1 := haE p hp
              have h3 := bF.size
              rcases qG q hq with h | h
              · cases hA : AD with
                | none => rw [hA] at h; cases h
                | some r => rw [hA] at h; injection h with h; have := haD r hA; omega
              · omega
          case measure => simp [intOf]; omega
    · have HEnd : Hid (L4 = L3) := HL
      clear HL
      rcases (show ¬ k < l.length ∨ (k < l.length ∧ ¬ k < 60) from by omega) with h | ⟨h, h'⟩
      all_goals
        clear hlt
        go_wp2_with fail
        refine (alive_any wr).mono ?_
        rintro e wX ⟨rfl, bX⟩
        obtain ⟨_, _, _, r4⟩ := o4.rd
        have v3 := conv_any wX _ A3 L3 c3 (r3.below bX)
        have v4 := conv_any wX _ A4 L4 c4 (r4.below bX)
        have e34 : (⟨L4.toArray⟩ : ByteArray) = ⟨L3.toArray⟩ := by rw [HEnd.out]
        rw [e34] at v4
        generalize (⟨L3.toArray⟩ : ByteArray) = S3 at v3 v4
        clear e34
        go_wp2_with fail
        go_ret
        exact ⟨by simp, hbel.trans (bX.mono hsz)⟩
end Go.Proofs.Ytnjghodjpbalcaa
