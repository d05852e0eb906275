/- Contracts: the document's Addr; the texts of prefixes and ranges. -/
import Derived.Test.YtmpgfmedldnhjaaGreatDoorT2
import Derived.Test.YtmpgfmedldnhjaaGreatDoorP1
namespace Go.Proofs.YtmpgfmedldnhjaaGreatDoor
open Go.RowKit

/-- A text, known by its bytes. -/
def StrOut (l : List UInt8) (w : World) (e : Ending) (w' : World) : Prop := ∃ S : ByteArray, e = .returned (.string S) ∧ Hid (S.data.toList = l) ∧ S.size ≤ 20 ∧ w = w'
theorem digits_out (x : Int) (w : World) (h0 : 0 ≤ x) (h1 : x < 4294967296) : Calls Tryz.prog 53 #[.int .i64 x] w (StrOut (Lib.decDigits x.toNat) w) := by
  obtain ⟨n, rfl⟩ := Int.eq_ofNat_of_zero_le h0
  refine (digits_any n w (by omega)).mono ?_
  rintro e w' ⟨rfl, rfl⟩
  refine ⟨_, rfl, Lib.hid rfl, ?_, rfl⟩
  rw [str_len, Lib.decDigits_length]
  exact Lib.nDigits_le20 n (by omega)
theorem dot_size (a : ByteArray) (c : UInt8) : (a ++ (⟨#[c]⟩ : ByteArray)).size = a.size + 1 := by rw [ByteArray.size_append]; rfl

set_option maxRecDepth 100000 in
set_option maxHeartbeats 1000000 in
/-- The document's Addr. -/
theorem raddr_any (a : Nat) (w : World) (ha : a < 4294967296) : Calls Tryz.prog 48 #[.int .u32 a] w fun e w' => e = .returned (.string ⟨(addrT a).toArray⟩) ∧ w = w' := by
  go_enter Tryz.func48, Tryz.ntmps48
  go_wp2_with fail
  refine (digits_out _ w (by omega) (by omega)).mono ?_
  rintro e w' ⟨S0, rfl, H0, z0, rfl⟩
  have a0 := str_add (P := Tryz.prog) (w := w) S0 ⟨#[46]⟩ (by show _ + 1 ≤ _; omega)
  go_wp2_with fail
  clear a0
  refine (digits_out _ w (by omega) (by omega)).mono ?_
  rintro e w' ⟨S1, rfl, H1, z1, rfl⟩
  have a0 := str_add (P := Tryz.prog) (w := w) (S0 ++ ⟨#[46]⟩) S1 (by rw [dot_size]; omega)
  have a1 := str_add (P := Tryz.prog) (w := w) (S0 ++ ⟨#[46]⟩ ++ S1) ⟨#[46]⟩ (by rw [ByteArray.size_append, dot_size]; show _ + 1 ≤ _; omega)
  go_wp2_with fail
  clear a0 a1
  refine (digits_out _ w (by omega) (by omega)).mono ?_
  rintro e w' ⟨S2, rfl, H2, z2, rfl⟩
  have a0 := str_add (P := Tryz.prog) (w := w) (S0 ++ ⟨#[46]⟩ ++ S1 ++ ⟨#[46]⟩) S2 (by rw [dot_size, ByteArray.size_append, dot_size]; omega)
  have a1 := str_add (P := Tryz.prog) (w := w) (S0 ++ ⟨#[46]⟩ ++ S1 ++ ⟨#[46]⟩ ++ S2) ⟨#[46]⟩ (by rw [ByteArray.size_append, dot_size, ByteArray.size_append, dot_size]; show _ + 1 ≤ _; omega)
  go_wp2_with fail
  clear a0 a1
  refine (digits_out _ w (by omega) (by omega)).mono ?_
  rintro e w' ⟨S3, rfl, H3, z3, rfl⟩
  have a0 := str_add (P := Tryz.prog) (w := w) (S0 ++ ⟨#[46]⟩ ++ S1 ++ ⟨#[46]⟩ ++ S2 ++ ⟨#[46]⟩) S3 (by rw [dot_size, ByteArray.size_append, dot_size, ByteArray.size_append, dot_size]; omega)
  go_wp2
  go_ret
  refine ⟨?_, rfl⟩
  have : (S0 ++ ⟨#[46]⟩ ++ S1 ++ ⟨#[46]⟩ ++ S2 ++ ⟨#[46]⟩ ++ S3 : ByteArray) = ⟨(addrT a).toArray⟩ := by
    apply str_eq
    rw [str_app, str_app, str_app, str_app, str_app, str_app, H0.out, H1.out, H2.out, H3.out, str_mk]
    unfold addrT
    rw [show ((a : Int) / 16777216).toNat = a / 16777216 % 256 by omega, show ((a : Int) / 65536 % 256).toNat = a / 65536 % 256 by omega, show ((a : Int) / 256 % 256).toNat = a / 256 % 256 by omega, show ((a : Int) % 256).toNat = a % 256 by omega]
    simp
  rw [← this]; rfl

theorem addrT_len (a : Nat) : (addrT a).length ≤ 15 := by
  have h0 := dd_le3 (b := a / 16777216 % 256) (by omega); have h1 := dd_le3 (b := a / 65536 % 256) (by omega); have h2 := dd_le3 (b := a / 256 % 256) (by omega); have h3 := dd_le3 (b := a % 256) (by omega)
  unfold addrT; simp; omega
/-- A prefix's text. -/
def prefT (a n : Nat) : List UInt8 := addrT a ++ 47 :: Lib.decDigits n
/-- A range's text. -/
def rngT (f t : Nat) : List UInt8 := addrT f ++ 45 :: addrT t
/-- Three pieces. -/
theorem three (l m : List UInt8) (c : UInt8) : ((⟨l.toArray⟩ : ByteArray) ++ ⟨#[c]⟩ ++ ⟨m.toArray⟩) = ⟨(l ++ c :: m).toArray⟩ := by
  apply str_eq; rw [str_app, str_app]; simp

set_option maxRecDepth 100000 in
set_option maxHeartbeats 1000000 in
/-- prefix.RangeText. -/
theorem rtext_any (f t : Nat) (w : World) (hf : f ≤ t) (ht : t < 4294967296) (hT : Tb w) : Calls Tryz.prog 28 #[.agg #[.int .u32 f, .int .u32 t]] w fun e w' => e = .returned (.string ⟨(rngT f t).toArray⟩) ∧ Below w.heap.size w w' := by
  have hrt : decide (f ≤ t) = true := by simpa using hf
  obtain ⟨A, hA⟩ : ∃ A, A = (⟨(addrT f).toArray⟩ : ByteArray) := ⟨_, rfl⟩
  obtain ⟨D, hD⟩ : ∃ D, D = (⟨(addrT t).toArray⟩ : ByteArray) := ⟨_, rfl⟩
  have zA : A.size ≤ 15 := by rw [hA, str_len]; exact addrT_len f
  have zD : D.size ≤ 15 := by rw [hD, str_len]; exact addrT_len t
  have HT := Lib.hid hT
  clear hT
  go_enter Tryz.func28, Tryz.ntmps28
  go_wp2_with fail
  refine (rightRange_any f t _).mono ?_
  rintro e w1 ⟨rfl, b1⟩
  have a0 : At w1 w.heap.size #[.int .u32 f, .int .u32 t] 29 := (At.new w _ _).belows b1
  have hB1 : Below w.heap.size w w1 := ((Below.refl _ w).alloc (Nat.le_refl _) _).trans (b1.mono (by simp))
  have c0 : ∀ x : Sub w1, x.u.cell? ⟨w.heap.size, 0, none⟩ = some (.int .u32 f) := fun x => ((a0.belows x.h).cell 0).trans rfl
  have c1 : ∀ x : Sub w1, x.u.cell? ⟨w.heap.size, 1, none⟩ = some (.int .u32 t) := fun x => ((a0.belows x.h).cell 1).trans rfl
  have k1 : ∀ x : Sub w1, Calls Tryz.prog 44 #[.int .u32 f] x.u fun e w' => e = .returned (.string A) ∧ Below x.u.heap.size x.u w' := fun x => by rw [hA]; exact addr_any f x.u (by omega) (HT.out.below hB1 |>.below x.h)
  have k2 : ∀ x : Sub w1, Calls Tryz.prog 44 #[.int .u32 t] x.u fun e w' => e = .returned (.string D) ∧ Below x.u.heap.size x.u w' := fun x => by rw [hD]; exact addr_any t x.u ht (HT.out.below hB1 |>.below x.h)
  have s1 : ∀ x : Sub w1, (Op.stringOp .add A ⟨#[45]⟩).run Tryz.prog x.u = .ok (.string (A ++ ⟨#[45]⟩)) x.u := fun x => str_add _ _ (by show _ + 1 ≤ _; omega)
  have s2 : ∀ x : Sub w1, (Op.stringOp .add (A ++ ⟨#[45]⟩) D).run Tryz.prog x.u = .ok (.string (A ++ ⟨#[45]⟩ ++ D)) x.u := fun x => str_add _ _ (by rw [dot_size]; omega)
  have HA := Lib.hid hA
  have HD := Lib.hid hD
  clear hA hD b1 a0
  go_wp2_with fail
  refine wp_region_cls (by kernel_rfl) (by kernel_rfl) ?_
  repeat (go_big_quiet_step ((first | (go_at_call 44; with_reducible exact Calls.cls_of (k1 _)) | (go_at_call 44; with_reducible exact Calls.cls_of (k2 _)))))
  refine wpQuiet_nil ?_
  rintro _ ⟨x, rfl⟩
  go_wp2
  go_ret
  refine ⟨?_, hB1.trans (x.h.mono hB1.size)⟩
  have : A ++ ⟨#[45]⟩ ++ D = ⟨(rngT f t).toArray⟩ := by rw [HA.out, HD.out]; exact three _ _ _
  rw [← this]; rfl

set_option maxRecDepth 100000 in
set_option maxHeartbeats 1000000 in
/-- The document's RangeText. -/
theorem rfrtext_any (f t : Nat) (w : World) (hf : f < 4294967296) (ht : t < 4294967296) : Calls Tryz.prog 32 #[.agg #[.int .u32 f, .int .u32 t]] w fun e w' => e = .returned (.string ⟨(rngT f t).toArray⟩) ∧ Below w.heap.size w w' := by
  obtain ⟨A, hA⟩ : ∃ A, A = (⟨(addrT f).toArray⟩ : ByteArray) := ⟨_, rfl⟩
  obtain ⟨D, hD⟩ : ∃ D, D = (⟨(addrT t).toArray⟩ : ByteArray) := ⟨_, rfl⟩
  have zA : A.size ≤ 15 := by rw [hA, str_len]; exact addrT_len f
  have zD : D.size ≤ 15 := by rw [hD, str_len]; exact addrT_len t
  have k1 : ∀ u : World, Calls Tryz.prog 48 #[.int .u32 f] u fun e w' => e = .returned (.string A) ∧ w' = u := fun u => by rw [hA]; exact same_of (raddr_any f u hf)
  have k2 : ∀ u : World, Calls Tryz.prog 48 #[.int .u32 t] u fun e w' => e = .returned (.string D) ∧ w' = u := fun u => by rw [hD]; exact same_of (raddr_any t u ht)
  have s1 : ∀ u : World, (Op.stringOp .add A ⟨#[45]⟩).run Tryz.prog u = .ok (.string (A ++ ⟨#[45]⟩)) u := fun x => str_add _ _ (by show _ + 1 ≤ _; omega)
  have s2 : ∀ u : World, (Op.stringOp .add (A ++ ⟨#[45]⟩) D).run Tryz.prog u = .ok (.string (A ++ ⟨#[45]⟩ ++ D)) u := fun x => str_add _ _ (by rw [dot_size]; omega)
  have HA := Lib.hid hA
  have HD := Lib.hid hD
  clear hA hD
  go_enter Tryz.func32, Tryz.ntmps32
  go_wp2_with fail
  go_quiet (first | (go_at_call 48; with_reducible exact Calls.quiet_of_same (k1 _)) | (go_at_call 48; with_reducible exact Calls.quiet_of_same (k2 _)))
  go_wp2
  go_ret
  refine ⟨?_, bdrewN ((Below.refl _ _).alloc (Nat.le_refl _) _) _⟩
  have : A ++ ⟨#[45]⟩ ++ D = ⟨(rngT f t).toArray⟩ := by rw [HA.out, HD.out]; exact three _ _ _
  rw [← this]; rfl
end Go.Proofs.YtmpgfmedldnhjaaGreatDoor
