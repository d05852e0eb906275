/- The contract of the document's own Reader.Number: a number of several bytes. -/
import Derived.Test.YtnjghodjpbalcaaR2
namespace Go.Proofs.Ytnjghodjpbalcaa
open Go.RowKit

theorem enc_of_bad {b : UInt8} {r : List UInt8} (h1 : ¬ b.toNat < 240) (h2 : ¬ r.length < b.toNat - 239) (hn : num1 (b :: r) = none) : (enc (vm (r.take (b.toNat - 239))) == (b :: r).take (b.toNat - 238)) = false := by
  refine beq_eq_false_iff_ne.2 fun e => ?_
  have h3 := num1_enc (vm (r.take (b.toNat - 239))) ((b :: r).drop (b.toNat - 238)) (vm_lt _)
  rw [e, List.take_append_drop, hn] at h3
  cases h3
theorem enc_of_good {b : UInt8} {r : List UInt8} {v n : Nat} (h1 : ¬ b.toNat < 240) (h2 : ¬ r.length < b.toNat - 239) (hn : num1 (b :: r) = some (v, n)) :
    v = vm (r.take (b.toNat - 239)) ∧ n = b.toNat - 238 ∧ (enc (vm (r.take (b.toNat - 239))) == (b :: r).take (b.toNat - 238)) = true := by
  by_cases h3 : vm (r.take (b.toNat - 239)) < 240 ∨ bw (vm (r.take (b.toNat - 239))) < b.toNat - 239
  · rw [num1_bad r h1 h2 h3] at hn; cases hn
  · have hn2 := hn
    rw [num1_high r h1 h2 h3] at hn
    injection hn with hn; injection hn with e1 e2
    obtain ⟨_, q⟩ := enc_num1 hn2
    refine ⟨e1.symm, by omega, ?_⟩
    rw [← e2, show b.toNat - 239 + 1 = b.toNat - 238 from by omega] at q
    rw [q, e1]
    exact beq_self_eq_true _

set_option maxRecDepth 100000 in
set_option maxHeartbeats 4000000 in
theorem ref_high_more (ad : Addr) (b : UInt8) (r : List UInt8) (c i gm most : Nat) (w : World) (hm : MR w gm (some ad) (i + (r.length + 1)) c i) (hat : RefAt w gm ad b r c i) (hc : i + (r.length + 1) ≤ c) (hcm : c ≤ 9223372036854775807) (hn : i + (r.length + 1) ≤ 1000)
    (hb1 : 240 ≤ b.toNat) (hb2 : b.toNat < 248) (hs : ¬ r.length < b.toNat - 239) (hmo : most < vm (r.take (b.toNat - 239))) :
    Calls Try.prog 16 #[.pointer (some ⟨gm, 0, none⟩), .int .u64 most] w (RefOut (b :: r) most gm (some ad) (i + (r.length + 1)) c i w) := by
  have HM := Lib.hid hm
  have HN : Hid (numAt (b :: r) most = none) := by
    show _ = _
    match hN : num1 (b :: r) with
    | none => exact numAt_none hN
    | some (v, n) => exact numAt_no hN (by rw [(enc_of_good (by omega) hs hN).1]; omega)
  obtain ⟨c0, c1, ⟨bad, c2⟩, fz, b0, bs, hrd⟩ := hat
  have BS := Lib.hid bs
  have hci : ¬ c = i := by omega
  have hvl := vm_lt (r.take (b.toNat - 239))
  generalize hV : vm (r.take (b.toNat - 239)) = V at *
  have HV := Lib.hid hV
  clear hm bs hV
  go_enter Try.func16, Try.ntmps16
  go_wp2_with fail
  go_quiet (fail)
  go_wp2
  go_loop [7, 9] (fun v t => ∃ j : Nat, j ≤ b.toNat - 239 ∧ t = .int .i64 ((j + 1 : Nat) : Int) ∧ v = .int .u64 ((vm (r.take j) : Nat) : Int)) (fun _ t => 20 - (intOf t).toNat)
  case atStart => exact ⟨0, by omega, rfl, rfl⟩
  case round =>
    obtain ⟨j, hj, rfl, rfl⟩ := hrel
    by_cases hlt : j < b.toNat - 239
    · have hjr : j < r.length := by omega
      have hcj : w.cell? ((ad.add i).add (j + 1)) = some (.int .u8 r[j].toNat) := BS.out j r[j] (List.getElem?_eq_getElem hjr)
      have hcj2 : w.cell? ⟨(ad.add i).block, (ad.add i).off + (j + 1), none⟩ = some (.int .u8 r[j].toNat) := by
        have h5 := hcj
        generalize ad.add i = q at h5 ⊢
        simpa [Addr.add] using h5
      have hx8 : r[j].toNat < 256 := r[j].toNat_lt
      have hvj : vm (r.take j) < 72057594037927936 := by
        have h1 := (vm_lt_pow (r.take j) (by simp; omega)).1
        have h2 : (r.take j).length ≤ 7 := by simp; omega
        have h3 : 256 ^ (r.take j).length ≤ 256 ^ 7 := Nat.pow_le_pow_right (by omega) h2
        have h4 : (256 : Nat) ^ 7 = 72057594037927936 := by decide
        omega
      have HS : Hid (vm (r.take (j + 1)) = 256 * vm (r.take j) + r[j].toNat) := by
        show _ = _
        rw [List.take_succ_eq_append_getElem hjr, vm_snoc]
        omega
      go_wp2
      go_round
      case rel => exact ⟨j + 1, by omega, by go_num, by rw [HS.out]; go_num⟩
      case measure => simp [intOf]; omega
    · obtain rfl : j = b.toNat - 239 := by omega
      rw [HV.out]
      have hk0 : ((b.toNat : Int) - 238 == 0) = false := beq_eq_false_iff_ne.2 (by omega)
      have hd : decide (most < V) = true := by simp; omega
      go_wp2
      go_quiet (fail)
      go_wp2
      go_ret2
      exact RefOut.no HN.out HM.out ⟨rfl, rfl, rfl, Nat.le_refl _, fun _ _ => rfl⟩

set_option maxRecDepth 100000 in
set_option maxHeartbeats 4000000 in
theorem ref_high_bad (ad : Addr) (b : UInt8) (r : List UInt8) (c i gm most : Nat) (w : World) (hm : MR w gm (some ad) (i + (r.length + 1)) c i) (hat : RefAt w gm ad b r c i) (hc : i + (r.length + 1) ≤ c) (hcm : c ≤ 9223372036854775807) (hn : i + (r.length + 1) ≤ 1000)
    (hb1 : 240 ≤ b.toNat) (hb2 : b.toNat < 248) (hs : ¬ r.length < b.toNat - 239) (hmo : vm (r.take (b.toNat - 239)) ≤ most) (hnone : num1 (b :: r) = none) :
    Calls Try.prog 16 #[.pointer (some ⟨gm, 0, none⟩), .int .u64 most] w (RefOut (b :: r) most gm (some ad) (i + (r.length + 1)) c i w) := by
  have HM := Lib.hid hm
  have HN := Lib.hid (numAt_none (most := most) hnone)
  have HC := Lib.hid (enc_of_bad (by omega) hs hnone)
  obtain ⟨c0, c1, ⟨bad, c2⟩, fz, b0, bs, hrd⟩ := hat
  have BS := Lib.hid bs
  have hci : ¬ c = i := by omega
  have hvl := vm_lt (r.take (b.toNat - 239))
  generalize hV : vm (r.take (b.toNat - 239)) = V at *
  have HV := Lib.hid hV
  clear hm bs hV
  go_enter Try.func16, Try.ntmps16
  go_wp2_with fail
  go_quiet (fail)
  go_wp2
  go_loop [7, 9] (fun v t => ∃ j : Nat, j ≤ b.toNat - 239 ∧ t = .int .i64 ((j + 1 : Nat) : Int) ∧ v = .int .u64 ((vm (r.take j) : Nat) : Int)) (fun _ t => 20 - (intOf t).toNat)
  case atStart => exact ⟨0, by omega, rfl, rfl⟩
  case round =>
    obtain ⟨j, hj, rfl, rfl⟩ := hrel
    by_cases hlt : j < b.toNat - 239
    · have hjr : j < r.length := by omega
      have hcj : w.cell? ((ad.add i).add (j + 1)) = some (.int .u8 r[j].toNat) := BS.out j r[j] (List.getElem?_eq_getElem hjr)
      have hcj2 : w.cell? ⟨(ad.add i).block, (ad.add i).off + (j + 1), none⟩ = some (.int .u8 r[j].toNat) := by
        have h5 := hcj
        generalize ad.add i = q at h5 ⊢
        simpa [Addr.add] using h5
      have hx8 : r[j].toNat < 256 := r[j].toNat_lt
      have hvj : vm (r.take j) < 72057594037927936 := by
        have h1 := (vm_lt_pow (r.take j) (by simp; omega)).1
        have h2 : (r.take j).length ≤ 7 := by simp; omega
        have h3 : 256 ^ (r.take j).length ≤ 256 ^ 7 := Nat.pow_le_pow_right (by omega) h2
        have h4 : (256 : Nat) ^ 7 = 72057594037927936 := by decide
        omega
      have HS : Hid (vm (r.take (j + 1)) = 256 * vm (r.take j) + r[j].toNat) := by
        show _ = _
        rw [List.take_succ_eq_append_getElem hjr, vm_snoc]
        omega
      go_wp2
      go_round
      case rel => exact ⟨j + 1, by omega, by go_num, by rw [HS.out]; go_num⟩
      case measure => simp [intOf]; omega
    · obtain rfl : j = b.toNat - 239 := by omega
      rw [HV.out]
      have hk0 : ((b.toNat : Int) - 238 == 0) = false := beq_eq_false_iff_ne.2 (by omega)
      have hd : decide (most < V) = false := by simp; omega
      go_wp2
      have hck : ∀ x : Sub (w.drewN nq), Sem.run Try.prog (convert 23 9 (.slice (some (ad.add i)) (b.toNat - 238) (c - i))) x.u = .ok (.string ⟨((b :: r).take (b.toNat - 238)).toArray⟩) x.u := fun x => by
        have h1 := conv_any x.u _ (some (ad.add i)) ((b :: r).take (b.toNat - 238)) (c - i) (((hrd.take (b.toNat - 238)).drewN nq).below x.h)
        rwa [show ((b :: r).take (b.toNat - 238)).length = (b.toNat - 238) from by first | (simp; done) | (simp; omega)] at h1
      generalize hSK : (⟨((b :: r).take (b.toNat - 238)).toArray⟩ : ByteArray) = SK at hck
      have HSK := Lib.hid hSK
      clear hSK
      refine wp_region_seg 9 8 (by kernel_rfl) (by kernel_rfl) rfl (by kernel_rfl) (by kernel_rfl) ?_
      show wpQuiet _ _ _ _ [_, _, _, _, _, _, _, _, _] _
      repeat (go_big_quiet_step (fail))
      refine wpQuiet_nil ?_
      intro u hu
      refine held_more 4 4 11 (by kernel_rfl) (by kernel_rfl) (by kernel_rfl) hu ?_
      show wpQuiet _ _ _ _ [_, _, _, _] _
      repeat (go_big_quiet_step (fail))
      refine wpQuiet_nil ?_
      intro u2 hu2
      refine held_call (k := 9) (ys := #[.int .u64 (V : Nat)]) (by kernel_rfl) rfl (by kernel_rfl) rfl Try.func11 (by kernel_rfl) (by kernel_rfl) hu2 (by simp only [List.map_toArray, List.map_cons, List.map_nil, Act.eval]; rfl) (fun v => rfl) ?_
      refine (rput_any V u2 hvl).mono ?_
      rintro e wA ⟨AA, cA, LA, rfl, HA, oA, bA⟩
      refine ⟨_, rfl, bA, ?_⟩
      clear hck
      obtain ⟨_, _, _, rA⟩ := oA.rd
      have hSA : ∀ x : Sub wA, Sem.run Try.prog (convert 23 9 (.slice AA LA.length cA)) x.u = .ok (.string ⟨LA.toArray⟩) x.u := fun x => conv_any x.u _ AA LA cA (rA.below x.h)
      have hcmp : ((⟨LA.toArray⟩ : ByteArray).toList == SK.toList) = false := by rw [← HSK.out, ByteArray.toList_mk, ByteArray.toList_mk, HA.out]; exact HC.out
      generalize (⟨LA.toArray⟩ : ByteArray) = SA at hSA hcmp
      have bwA : Below w.heap.size w wA := (show Below w.heap.size w (w.drewN nq) from ⟨rfl, rfl, rfl, Nat.le_refl _, fun _ _ => rfl⟩).trans (hu2.trans (bA.mono hu2.size))
      clear oA rA
      refine held_more 1 2 10 (by kernel_rfl) (by kernel_rfl) (by kernel_rfl) (Below.refl _ _) ?_
      show wpQuiet _ _ _ _ [_] ⟨List.toArray (_ :: _ :: _ :: _ :: _ :: _ :: _ :: _ :: _ :: _ :: _ :: _ :: _ :: _ :: _ :: _ :: _ :: _ :: _ :: _ :: _ :: _ :: _ :: _ :: _ :: _ :: _ :: _ :: _ :: _ :: _ :: _ :: _ :: _ :: _ :: _ :: _ :: _ :: _ :: _ :: _ :: _ :: _ :: _ :: _ :: _ :: _ :: _ :: _ :: _ :: _ :: _ :: _ :: _ :: _ :: _ :: _ :: _ :: _ :: _ :: _ :: _ :: _ :: _ :: _ :: _ :: _ :: _ :: _ :: _ :: _ :: _ :: _ :: _ :: _ :: _ :: _ :: _ :: _ :: _ :: _ :: _ :: _ :: _ :: _ :: _ :: _ :: _ :: _ :: _ :: _ :: _ :: _ :: _ :: _ :: _ :: _ :: _ :: _ :: _ :: _ :: _ :: _ :: _ :: _ :: []), _⟩
      repeat (go_big_quiet_step (fail))
      refine wpQuiet_nil ?_
      intro u3 hu3
      refine held_more 2 0 15 (by kernel_rfl) (by kernel_rfl) (by kernel_rfl) hu3 ?_
      show wpQuiet _ _ _ _ [_, _] _
      repeat (go_big_quiet_step (fail))
      refine wpQuiet_nil ?_
      intro u4 hu4
      refine held_end (by kernel_rfl) ?_
      have bw4 : Below w.heap.size w u4 := bwA.trans (hu4.mono bwA.size)
      have hgm := HM.out.lt
      have c0u := (bw4.cell (p := ⟨gm, 0, none⟩) hgm).trans c0
      have c1u := (bw4.cell (p := ⟨gm, 1, none⟩) hgm).trans c1
      have c2u := (bw4.cell (p := ⟨gm, 2, none⟩) hgm).trans c2
      have fzu : ∀ j, u4.frozen? ⟨gm, j, none⟩ = false := fun j => (bw4.frozen (p := ⟨gm, j, none⟩) hgm).trans (fz j)
      clear c0 c1 c2 fz b0 hcmp hSA
      go_wp2
      go_ret2
      exact RefOut.no HN.out HM.out bw4

set_option maxRecDepth 100000 in
set_option maxHeartbeats 4000000 in
theorem ref_high_good (ad : Addr) (b : UInt8) (r : List UInt8) (c i gm most : Nat) (w : World) (hm : MR w gm (some ad) (i + (r.length + 1)) c i) (hat : RefAt w gm ad b r c i) (hc : i + (r.length + 1) ≤ c) (hcm : c ≤ 9223372036854775807) (hn : i + (r.length + 1) ≤ 1000)
    (hb1 : 240 ≤ b.toNat) (hb2 : b.toNat < 248) (hs : ¬ r.length < b.toNat - 239) (v n : Nat) (hmo : vm (r.take (b.toNat - 239)) ≤ most) (hsome : num1 (b :: r) = some (v, n)) :
    Calls Try.prog 16 #[.pointer (some ⟨gm, 0, none⟩), .int .u64 most] w (RefOut (b :: r) most gm (some ad) (i + (r.length + 1)) c i w) := by
  have HM := Lib.hid hm
  have HN := Lib.hid (numAt_yes (most := most) hsome (by rw [(enc_of_good (by omega) hs hsome).1]; exact hmo))
  have HC := Lib.hid (enc_of_good (by omega) hs hsome).2.2
  have HE := Lib.hid (enc_of_good (by omega) hs hsome).1
  have HE2 := Lib.hid (enc_of_good (by omega) hs hsome).2.1
  obtain ⟨c0, c1, ⟨bad, c2⟩, fz, b0, bs, hrd⟩ := hat
  have BS := Lib.hid bs
  have hci : ¬ c = i := by omega
  have hvl := vm_lt (r.take (b.toNat - 239))
  generalize hV : vm (r.take (b.toNat - 239)) = V at *
  have HV := Lib.hid hV
  clear hm bs hV
  go_enter Try.func16, Try.ntmps16
  go_wp2_with fail
  go_quiet (fail)
  go_wp2
  go_loop [7, 9] (fun v t => ∃ j : Nat, j ≤ b.toNat - 239 ∧ t = .int .i64 ((j + 1 : Nat) : Int) ∧ v = .int .u64 ((vm (r.take j) : Nat) : Int)) (fun _ t => 20 - (intOf t).toNat)
  case atStart => exact ⟨0, by omega, rfl, rfl⟩
  case round =>
    obtain ⟨j, hj, rfl, rfl⟩ := hrel
    by_cases hlt : j < b.toNat - 239
    · have hjr : j < r.length := by omega
      have hcj : w.cell? ((ad.add i).add (j + 1)) = some (.int .u8 r[j].toNat) := BS.out j r[j] (List.getElem?_eq_getElem hjr)
      have hcj2 : w.cell? ⟨(ad.add i).block, (ad.add i).off + (j + 1), none⟩ = some (.int .u8 r[j].toNat) := by
        have h5 := hcj
        generalize ad.add i = q at h5 ⊢
        simpa [Addr.add] using h5
      have hx8 : r[j].toNat < 256 := r[j].toNat_lt
      have hvj : vm (r.take j) < 72057594037927936 := by
        have h1 := (vm_lt_pow (r.take j) (by simp; omega)).1
        have h2 : (r.take j).length ≤ 7 := by simp; omega
        have h3 : 256 ^ (r.take j).length ≤ 256 ^ 7 := Nat.pow_le_pow_right (by omega) h2
        have h4 : (256 : Nat) ^ 7 = 72057594037927936 := by decide
        omega
      have HS : Hid (vm (r.take (j + 1)) = 256 * vm (r.take j) + r[j].toNat) := by
        show _ = _
        rw [List.take_succ_eq_append_getElem hjr, vm_snoc]
        omega
      go_wp2
      go_round
      case rel => exact ⟨j + 1, by omega, by go_num, by rw [HS.out]; go_num⟩
      case measure => simp [intOf]; omega
    · obtain rfl : j = b.toNat - 239 := by omega
      rw [HV.out]
      have hk0 : ((b.toNat : Int) - 238 == 0) = false := beq_eq_false_iff_ne.2 (by omega)
      have hd : decide (most < V) = false := by simp; omega
      go_wp2
      have hck : ∀ x : Sub (w.drewN nq), Sem.run Try.prog (convert 23 9 (.slice (some (ad.add i)) (b.toNat - 238) (c - i))) x.u = .ok (.string ⟨((b :: r).take (b.toNat - 238)).toArray⟩) x.u := fun x => by
        have h1 := conv_any x.u _ (some (ad.add i)) ((b :: r).take (b.toNat - 238)) (c - i) (((hrd.take (b.toNat - 238)).drewN nq).below x.h)
        rwa [show ((b :: r).take (b.toNat - 238)).length = (b.toNat - 238) from by first | (simp; done) | (simp; omega)] at h1
      generalize hSK : (⟨((b :: r).take (b.toNat - 238)).toArray⟩ : ByteArray) = SK at hck
      have HSK := Lib.hid hSK
      clear hSK
      refine wp_region_seg 9 8 (by kernel_rfl) (by kernel_rfl) rfl (by kernel_rfl) (by kernel_rfl) ?_
      show wpQuiet _ _ _ _ [_, _, _, _, _, _, _, _, _] _
      repeat (go_big_quiet_step (fail))
      refine wpQuiet_nil ?_
      intro u hu
      refine held_more 4 4 11 (by kernel_rfl) (by kernel_rfl) (by kernel_rfl) hu ?_
      show wpQuiet _ _ _ _ [_, _, _, _] _
      repeat (go_big_quiet_step (fail))
      refine wpQuiet_nil ?_
      intro u2 hu2
      refine held_call (k := 9) (ys := #[.int .u64 (V : Nat)]) (by kernel_rfl) rfl (by kernel_rfl) rfl Try.func11 (by kernel_rfl) (by kernel_rfl) hu2 (by simp only [List.map_toArray, List.map_cons, List.map_nil, Act.eval]; rfl) (fun v => rfl) ?_
      refine (rput_any V u2 hvl).mono ?_
      rintro e wA ⟨AA, cA, LA, rfl, HA, oA, bA⟩
      refine ⟨_, rfl, bA, ?_⟩
      clear hck
      obtain ⟨_, _, _, rA⟩ := oA.rd
      have hSA : ∀ x : Sub wA, Sem.run Try.prog (convert 23 9 (.slice AA LA.length cA)) x.u = .ok (.string ⟨LA.toArray⟩) x.u := fun x => conv_any x.u _ AA LA cA (rA.below x.h)
      have hcmp : ((⟨LA.toArray⟩ : ByteArray).toList == SK.toList) = true := by rw [← HSK.out, ByteArray.toList_mk, ByteArray.toList_mk, HA.out]; exact HC.out
      generalize (⟨LA.toArray⟩ : ByteArray) = SA at hSA hcmp
      have bwA : Below w.heap.size w wA := (show Below w.heap.size w (w.drewN nq) from ⟨rfl, rfl, rfl, Nat.le_refl _, fun _ _ => rfl⟩).trans (hu2.trans (bA.mono hu2.size))
      clear oA rA
      refine held_more 1 2 10 (by kernel_rfl) (by kernel_rfl) (by kernel_rfl) (Below.refl _ _) ?_
      show wpQuiet _ _ _ _ [_] ⟨List.toArray (_ :: _ :: _ :: _ :: _ :: _ :: _ :: _ :: _ :: _ :: _ :: _ :: _ :: _ :: _ :: _ :: _ :: _ :: _ :: _ :: _ :: _ :: _ :: _ :: _ :: _ :: _ :: _ :: _ :: _ :: _ :: _ :: _ :: _ :: _ :: _ :: _ :: _ :: _ :: _ :: _ :: _ :: _ :: _ :: _ :: _ :: _ :: _ :: _ :: _ :: _ :: _ :: _ :: _ :: _ :: _ :: _ :: _ :: _ :: _ :: _ :: _ :: _ :: _ :: _ :: _ :: _ :: _ :: _ :: _ :: _ :: _ :: _ :: _ :: _ :: _ :: _ :: _ :: _ :: _ :: _ :: _ :: _ :: _ :: _ :: _ :: _ :: _ :: _ :: _ :: _ :: _ :: _ :: _ :: _ :: _ :: _ :: _ :: _ :: _ :: _ :: _ :: _ :: _ :: _ :: []), _⟩
      repeat (go_big_quiet_step (fail))
      refine wpQuiet_nil ?_
      intro u3 hu3
      refine held_more 2 0 15 (by kernel_rfl) (by kernel_rfl) (by kernel_rfl) hu3 ?_
      show wpQuiet _ _ _ _ [_, _] _
      repeat (go_big_quiet_step (fail))
      refine wpQuiet_nil ?_
      intro u4 hu4
      refine held_end (by kernel_rfl) ?_
      have bw4 : Below w.heap.size w u4 := bwA.trans (hu4.mono bwA.size)
      have hgm := HM.out.lt
      have c0u := (bw4.cell (p := ⟨gm, 0, none⟩) hgm).trans c0
      have c1u := (bw4.cell (p := ⟨gm, 1, none⟩) hgm).trans c1
      have c2u := (bw4.cell (p := ⟨gm, 2, none⟩) hgm).trans c2
      have fzu : ∀ j, u4.frozen? ⟨gm, j, none⟩ = false := fun j => (bw4.frozen (p := ⟨gm, j, none⟩) hgm).trans (fz j)
      clear c0 c1 c2 fz b0 hcmp hSA
      go_wp2
      go_ret2
      exact RefOut.yes HN.out HM.out bw4 _ _ (by rw [HE.out]) (by rw [HE2.out]; omega)

end Go.Proofs.Ytnjghodjpbalcaa
