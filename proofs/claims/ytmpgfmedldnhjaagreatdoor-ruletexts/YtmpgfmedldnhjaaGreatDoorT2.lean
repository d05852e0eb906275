/- Contracts: strconv.Itoa, prefix.Addr, the document's Addr. -/
import Derived.Test.YtmpgfmedldnhjaaGreatDoorT1
import Derived.Test.YtmpgfmedldnhjaaGreatDoorB0
namespace Go.Proofs.YtmpgfmedldnhjaaGreatDoor
open Go.RowKit

theorem tabIs_below {P : Program} {w w' : World} {name : String} {k : IntKind} {zs : List Int} (h : Lib.TabIs P w name k zs) (hb : Below w.heap.size w w') : Lib.TabIs P w' name k zs := by
  unfold Lib.TabIs World.var? at *
  cases hg : P.globalNamed name with
  | none => simp [hg] at h
  | some g =>
    simp only [hg, Option.bind_some] at h ⊢
    have hl : g < w.heap.size := by
      apply Nat.lt_of_not_le; intro hle
      rw [Array.getElem?_eq_none hle] at h; cases h
    rw [hb.block g hl]; exact h
/-- What bytesOf answers. -/
def BytesOut (a : Nat) (w : World) (e : Ending) (w' : World) : Prop := ∃ b0 b1 b2 b3 : Nat, e = .returned (.agg #[.int .u8 b0, .int .u8 b1, .int .u8 b2, .int .u8 b3]) ∧ b0 ≤ 255 ∧ b1 ≤ 255 ∧ b2 ≤ 255 ∧ b3 ≤ 255 ∧
  Hid (b0 = a / 16777216 % 256 ∧ b1 = a / 65536 % 256 ∧ b2 = a / 256 % 256 ∧ b3 = a % 256) ∧ Below w.heap.size w w'
theorem bytesOf_any (a : Nat) (w : World) (ha : a < 4294967296) : Calls Tryz.prog 60 #[.int .u32 a] w (BytesOut a w) := by
  go_enter Tryz.func60, Tryz.ntmps60
  go_wp2
  refine bodyPost_ret (v := .agg #[.int .u8 ((a : Int) / 16777216), .int .u8 ((a : Int) / 65536 % 256), .int .u8 ((a : Int) / 256 % 256), .int .u8 ((a : Int) % 256)]) (by simp [results, Tryz.results60, go_sem]) rfl ?_
  refine ⟨a / 16777216 % 256, a / 65536 % 256, a / 256 % 256, a % 256, ?_, by omega, by omega, by omega, by omega, Lib.hid ⟨rfl, rfl, rfl, rfl⟩, (Below.refl _ _).alloc (Nat.le_refl _) _⟩
  rw [show ((a : Int) / 16777216) = ((a / 16777216 % 256 : Nat) : Int) by omega, show ((a : Int) / 65536 % 256) = ((a / 65536 % 256 : Nat) : Int) by omega, show ((a : Int) / 256 % 256) = ((a / 256 % 256 : Nat) : Int) by omega, show ((a : Int) % 256) = ((a % 256 : Nat) : Int) by omega]

/-- The texts of the first k of four bytes. -/
def pcs (b0 b1 b2 b3 : Nat) : Nat → List UInt8
  | 0 => []
  | 1 => Lib.decDigits b0
  | 2 => Lib.decDigits b0 ++ 46 :: Lib.decDigits b1
  | 3 => Lib.decDigits b0 ++ 46 :: (Lib.decDigits b1 ++ 46 :: Lib.decDigits b2)
  | _ => Lib.decDigits b0 ++ 46 :: (Lib.decDigits b1 ++ 46 :: (Lib.decDigits b2 ++ 46 :: Lib.decDigits b3))
theorem dd_le3 {b : Nat} (h : b ≤ 255) : (Lib.decDigits b).length ≤ 3 := by
  rw [Lib.decDigits_length]
  by_cases h1 : b < 10
  · rw [Lib.nDigits_small h1]; omega
  · rw [Lib.nDigits_big h1]
    by_cases h2 : b / 10 < 10
    · rw [Lib.nDigits_small h2]; omega
    · rw [Lib.nDigits_big h2, Lib.nDigits_small (by omega)]; omega
theorem pcs_len {b0 b1 b2 b3 : Nat} (h0 : b0 ≤ 255) (h1 : b1 ≤ 255) (h2 : b2 ≤ 255) (h3 : b3 ≤ 255) (k : Nat) : (pcs b0 b1 b2 b3 k).length ≤ 15 := by
  have := dd_le3 h0; have := dd_le3 h1; have := dd_le3 h2; have := dd_le3 h3
  unfold pcs; split <;> simp <;> omega

theorem str_len (l : List UInt8) : (⟨l.toArray⟩ : ByteArray).size = l.length := by rw [str_size]
theorem idx0 {w : World} (b0 b1 b2 b3 : Nat) : (Instr.index 90 (.agg #[.int .u8 b0, .int .u8 b1, .int .u8 b2, .int .u8 b3]) (.int .i64 0)).run Tryz.prog w = .ok (.int .u8 b0) w := by
  simp [Instr.index, run_underlying Tryz.underlying90, go_sem]
theorem idx1 {w : World} (b0 b1 b2 b3 : Nat) : (Instr.index 90 (.agg #[.int .u8 b0, .int .u8 b1, .int .u8 b2, .int .u8 b3]) (.int .i64 1)).run Tryz.prog w = .ok (.int .u8 b1) w := by
  simp [Instr.index, run_underlying Tryz.underlying90, go_sem]
theorem idx2 {w : World} (b0 b1 b2 b3 : Nat) : (Instr.index 90 (.agg #[.int .u8 b0, .int .u8 b1, .int .u8 b2, .int .u8 b3]) (.int .i64 2)).run Tryz.prog w = .ok (.int .u8 b2) w := by
  simp [Instr.index, run_underlying Tryz.underlying90, go_sem]
theorem idx3 {w : World} (b0 b1 b2 b3 : Nat) : (Instr.index 90 (.agg #[.int .u8 b0, .int .u8 b1, .int .u8 b2, .int .u8 b3]) (.int .i64 3)).run Tryz.prog w = .ok (.int .u8 b3) w := by
  simp [Instr.index, run_underlying Tryz.underlying90, go_sem]

set_option maxRecDepth 100000 in
set_option maxHeartbeats 2000000 in
/-- prefix.Addr. -/
theorem addr_any (a : Nat) (w : World) (ha : a < 4294967296) (hT : Tb w) : Calls Tryz.prog 44 #[.int .u32 a] w fun e w' => e = .returned (.string ⟨(addrT a).toArray⟩) ∧ Below w.heap.size w w' := by
  have HT := Lib.hid hT
  clear hT
  go_enter Tryz.func44, Tryz.ntmps44
  go_wp2_with (go_at_call 60; refine (bytesOf_any a _ ha).mono ?_; rintro e w1 ⟨b0, b1, b2, b3, rfl, l0, l1, l2, l3, HB, bel1⟩)
  go_loopw [3, 8] (fun s i wr => ∃ (k : Nat) (S : ByteArray), i = .int .i64 k ∧ s = .string S ∧ k ≤ 4 ∧ Hid (S.data.toList = pcs b0 b1 b2 b3 k) ∧ Below w.heap.size w wr) (fun _ i _ => 4 - (intOf i).toNat)
  case atStart => exact ⟨0, ⟨#[]⟩, rfl, rfl, by omega, Lib.hid rfl, bel1⟩
  case round =>
    obtain ⟨k, S, rfl, rfl, hk, HS, bel⟩ := hrel
    have HTr : Hid (Tb wr) := HT.out.below bel
    have hsz : S.size ≤ 15 := by rw [str_size, HS.out]; exact pcs_len l0 l1 l2 l3 k
    by_cases h4 : k = 4
    · subst h4
      go_wp2
      go_ret
      refine ⟨?_, bel⟩
      have : S = ⟨(addrT a).toArray⟩ := by
        apply str_eq
        obtain ⟨e0, e1, e2, e3⟩ := HB.out
        rw [str_mk, HS.out, e0, e1, e2, e3]; rfl
      rw [this]; rfl
    · have : k = 0 ∨ k = 1 ∨ k = 2 ∨ k = 3 := by omega
      rcases this with rfl | rfl | rfl | rfl
      · have hi := idx0 (w := wr) b0 b1 b2 b3
        have hd3 := dd_le3 l0
        have hadd : ∀ w2, (Op.stringOp .add S ⟨(Lib.decDigits b0).toArray⟩).run Tryz.prog w2 = .ok (.string (S ++ ⟨(Lib.decDigits b0).toArray⟩)) w2 := fun w2 => str_add _ _ (by have e := str_len (Lib.decDigits b0); omega)
        go_wp2_with (go_at_call 27; refine (itoa_any _ _ (by omega) (by omega) HTr.out).mono ?_; rintro e w2 ⟨rfl, bel2⟩)
        refine ⟨⟨0+1, _, rfl, rfl, by omega, Lib.hid ?_, bel.trans (bel2.mono bel.size)⟩, by simp [intOf]⟩
        rw [str_app, str_mk, HS.out]; simp [pcs]
      · have hi := idx1 (w := wr) b0 b1 b2 b3
        have hd3 := dd_le3 l1
        have hdot := str_add (P := Tryz.prog) (w := wr) S ⟨#[46]⟩ (by show _ + 1 ≤ _; omega)
        have hadd : ∀ w2, (Op.stringOp .add (S ++ ⟨#[46]⟩) ⟨(Lib.decDigits b1).toArray⟩).run Tryz.prog w2 = .ok (.string ((S ++ ⟨#[46]⟩) ++ ⟨(Lib.decDigits b1).toArray⟩)) w2 := fun w2 => str_add _ _ (by rw [str_size, str_size, str_mk, str_app]; simp only [List.length_append]; rw [← str_size]; show _ + 1 + _ ≤ _; omega)
        go_wp2_with (go_at_call 27; refine (itoa_any _ _ (by omega) (by omega) HTr.out).mono ?_; rintro e w2 ⟨rfl, bel2⟩)
        refine ⟨⟨1+1, _, rfl, rfl, by omega, Lib.hid ?_, bel.trans (bel2.mono bel.size)⟩, by simp [intOf]⟩
        rw [str_app, str_app, str_mk, HS.out]; simp [pcs]
      · have hi := idx2 (w := wr) b0 b1 b2 b3
        have hd3 := dd_le3 l2
        have hdot := str_add (P := Tryz.prog) (w := wr) S ⟨#[46]⟩ (by show _ + 1 ≤ _; omega)
        have hadd : ∀ w2, (Op.stringOp .add (S ++ ⟨#[46]⟩) ⟨(Lib.decDigits b2).toArray⟩).run Tryz.prog w2 = .ok (.string ((S ++ ⟨#[46]⟩) ++ ⟨(Lib.decDigits b2).toArray⟩)) w2 := fun w2 => str_add _ _ (by rw [str_size, str_size, str_mk, str_app]; simp only [List.length_append]; rw [← str_size]; show _ + 1 + _ ≤ _; omega)
        go_wp2_with (go_at_call 27; refine (itoa_any _ _ (by omega) (by omega) HTr.out).mono ?_; rintro e w2 ⟨rfl, bel2⟩)
        refine ⟨⟨2+1, _, rfl, rfl, by omega, Lib.hid ?_, bel.trans (bel2.mono bel.size)⟩, by simp [intOf]⟩
        rw [str_app, str_app, str_mk, HS.out]; simp [pcs]
      · have hi := idx3 (w := wr) b0 b1 b2 b3
        have hd3 := dd_le3 l3
        have hdot := str_add (P := Tryz.prog) (w := wr) S ⟨#[46]⟩ (by show _ + 1 ≤ _; omega)
        have hadd : ∀ w2, (Op.stringOp .add (S ++ ⟨#[46]⟩) ⟨(Lib.decDigits b3).toArray⟩).run Tryz.prog w2 = .ok (.string ((S ++ ⟨#[46]⟩) ++ ⟨(Lib.decDigits b3).toArray⟩)) w2 := fun w2 => str_add _ _ (by rw [str_size, str_size, str_mk, str_app]; simp only [List.length_append]; rw [← str_size]; show _ + 1 + _ ≤ _; omega)
        go_wp2_with (go_at_call 27; refine (itoa_any _ _ (by omega) (by omega) HTr.out).mono ?_; rintro e w2 ⟨rfl, bel2⟩)
        refine ⟨⟨3+1, _, rfl, rfl, by omega, Lib.hid ?_, bel.trans (bel2.mono bel.size)⟩, by simp [intOf]⟩
        rw [str_app, str_app, str_mk, HS.out]; simp [pcs]
end Go.Proofs.YtmpgfmedldnhjaaGreatDoor
