/- Contract: the document's 'digits'. -/
import Derived.Test.YtmpgfmedldnhjaaGreatDoorC0
import Derived.Test.YtmpgfmedldnhjaaGreatDoorTPlain
import Derived.Lib.ItoaLen
import Derived.Laws.Strings2
import Derived.Laws.Concat
namespace Go.Proofs.YtmpgfmedldnhjaaGreatDoor
open Go.RowKit

theorem str_add {P : Program} {w : World} (a b : ByteArray) (h : a.size + b.size ≤ 100000) : (Op.stringOp .add a b).run P w = .ok (.string (a ++ b)) w := run_string_add_sum w a b (by omega)
theorem str_app (a b : ByteArray) : (a ++ b).data.toList = a.data.toList ++ b.data.toList := by simp
theorem str_size (a : ByteArray) : a.size = a.data.toList.length := by simp
theorem str_eq {a b : ByteArray} (h : a.data.toList = b.data.toList) : a = b := by
  cases a; cases b
  congr 1
  exact Array.toList_inj.1 h
theorem str_mk (l : List UInt8) : (⟨l.toArray⟩ : ByteArray).data.toList = l := rfl
/-- The byte of a figure. -/
def dch (d : Nat) : UInt8 := UInt8.ofNat (48 + d)
theorem ten_piece : ∀ d : Fin 10, (⟨#[48, 49, 50, 51, 52, 53, 54, 55, 56, 57]⟩ : ByteArray).extract d.val (d.val + 1) = ⟨#[dch d.val]⟩ := by decide +kernel
theorem ten_run {w : World} (k : Nat) : (Instr.slice 9 (.string ⟨#[48, 49, 50, 51, 52, 53, 54, 55, 56, 57]⟩) (some (.int .i64 ((k : Int) % 10))) (some (.int .i64 ((k : Int) % 10 + 1))) none).run Tryz.prog w = .ok (.string ⟨#[dch (k % 10)]⟩) w := by
  rw [run_slice_string w 9 _ .i64 .i64 _ _ Tryz.underlying9 (by omega) (by omega) (by show _ ≤ ((10 : Nat) : Int); omega)]
  have := ten_piece ⟨k % 10, by omega⟩
  simp only at this
  rw [← this, show ((k : Int) % 10).toNat = k % 10 by omega, show ((k : Int) % 10 + 1).toNat = k % 10 + 1 by omega]

/-- The loop of 'digits'. -/
def Dg (n k : Nat) (S : ByteArray) : Prop := (S.data.toList = [] ∧ k = n) ∨ (S.data.toList ≠ [] ∧ k = 0 ∧ Lib.decDigits n = S.data.toList) ∨ (S.data.toList ≠ [] ∧ 0 < k ∧ Lib.decDigits n = Lib.decDigits k ++ S.data.toList)
theorem Dg.step {n k : Nat} {S : ByteArray} (h : Dg n k S) (hs : S.data.toList = [] ∨ 0 < k) : Dg n (k / 10) (⟨#[dch (k % 10)]⟩ ++ S) := by
  have e : (⟨#[dch (k % 10)]⟩ ++ S : ByteArray).data.toList = dch (k % 10) :: S.data.toList := by rw [str_app]; rfl
  have hdd : Lib.decDigits n = Lib.decDigits k ++ S.data.toList := by
    rcases h with ⟨h1, h2⟩ | ⟨h1, h2, _⟩ | ⟨_, _, h3⟩
    · rw [h1, h2]; simp
    · rcases hs with h | h
      · exact absurd h h1
      · omega
    · exact h3
  unfold Dg
  rw [e]
  right
  by_cases hk : k < 10
  · left
    refine ⟨by simp, by omega, ?_⟩
    rw [hdd, Lib.decDigits_one hk, show k % 10 = k by omega]; rfl
  · right
    refine ⟨by simp, by omega, ?_⟩
    rw [hdd, dd_big hk]; simp [dch]
theorem Dg.small {n k : Nat} {S : ByteArray} (h : Dg n k S) (hn : n < 18446744073709551616) : S.size ≤ 20 := by
  have hl := Lib.nDigits_le20 n hn
  rw [← Lib.decDigits_length] at hl
  rw [str_size]
  rcases h with ⟨h1, _⟩ | ⟨_, _, h3⟩ | ⟨_, _, h3⟩
  · rw [h1]; simp
  · rw [h3] at hl; exact hl
  · rw [h3] at hl; simp at hl; simp; omega

set_option maxHeartbeats 1000000 in
/-- The document's digits. -/
theorem digits_any (n : Nat) (w : World) (hn : n < 4294967296000) : Calls Tryz.prog 53 #[.int .i64 n] w fun e w' => e = .returned (.string ⟨(Lib.decDigits n).toArray⟩) ∧ w = w' := by
  go_enter Tryz.func53, Tryz.ntmps53
  go_wp2
  go_loop [0, 3] (fun i s => ∃ (k : Nat) (S : ByteArray), i = .int .i64 k ∧ s = .string S ∧ k ≤ n ∧ Dg n k S) (fun i s => match s with | .string S => if S.size = 0 then n + 1 else (intOf i).toNat | _ => 0)
  case atStart => exact ⟨n, ⟨#[]⟩, rfl, rfl, by omega, .inl ⟨rfl, rfl⟩⟩
  case round =>
    obtain ⟨k, S, rfl, rfl, hk, hd⟩ := hrel
    have hsm := hd.small (by omega)
    have HD := Lib.hid hd
    clear hd
    have hsl := ten_run (w := w) k
    have hadd := str_add (P := Tryz.prog) (w := w) ⟨#[dch (k % 10)]⟩ S (by show 1 + _ ≤ _; omega)
    by_cases hS : S.data.toList = []
    · have d1 : S.toList.isEmpty = true := by rw [ByteArray.toList_eq, hS]; rfl
      have HS := Lib.hid hS
      clear hS
      go_wp2
      go_round
      case rel => exact ⟨k / 10, _, by go_num, rfl, by omega, HD.out.step (.inl HS.out)⟩
      case measure =>
        have e0 : S.size = 0 := by rw [str_size, HS.out]; rfl
        have e1 : (⟨#[dch (k % 10)]⟩ ++ S : ByteArray).size ≠ 0 := by rw [str_size, str_app]; simp
        simp only [e0, e1, if_true, if_false, intOf]; omega
    · have d1 : S.toList.isEmpty = false := by
        rw [ByteArray.toList_eq]
        cases h : S.data.toList with
        | nil => exact absurd h hS
        | cons a l => rfl
      have HS := Lib.hid hS
      clear hS
      by_cases hk0 : 0 < k
      · go_wp2
        go_round
        case rel => exact ⟨k / 10, _, by go_num, rfl, by omega, HD.out.step (.inr hk0)⟩
        case measure =>
          have e0 : S.size ≠ 0 := by rw [str_size]; intro e; exact HS.out (List.eq_nil_of_length_eq_zero e)
          have e1 : (⟨#[dch (k % 10)]⟩ ++ S : ByteArray).size ≠ 0 := by rw [str_size, str_app]; simp
          simp only [e0, e1, if_false, intOf]; omega
      · have hk1 : ¬ 0 < k := hk0
        clear hsl hadd
        go_wp2
        go_ret
        refine ⟨?_, rfl⟩
        have : S = ⟨(Lib.decDigits n).toArray⟩ := by
          apply str_eq
          rcases HD.out with ⟨h, _⟩ | ⟨_, _, h⟩ | ⟨_, h, _⟩
          · exact absurd h HS.out
          · rw [str_mk, h]
          · omega
        rw [← this]; rfl
end Go.Proofs.YtmpgfmedldnhjaaGreatDoor
