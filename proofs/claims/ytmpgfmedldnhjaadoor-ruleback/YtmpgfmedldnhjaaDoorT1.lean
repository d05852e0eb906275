/- Contract: the document's 'digits'. -/
import Derived.Test.YtmpgfmedldnhjaaDoorC0
import Derived.Test.YtmpgfmedldnhjaaDoorTPlain
import Derived.Lib.ItoaLen
import Derived.Laws.Strings2
import Derived.Laws.Concat
namespace Go.Proofs.YtmpgfmedldnhjaaDoor
open Go.RowKit

theorem str_add {P : Program} {w : World} (a b : ByteArray) (h : a.size + b.size ≤ 100000) : (Op.stringOp .add a b).run P w = .ok (.string (a ++ b)) w := run_string_add_sum w a b (by omega)
theorem str_app (a b : ByteArray) : (a ++ b).data.toList = a.data.toList ++ b.data.toList := by simp
theorem str_size (a : ByteArray) : a.size = a.data.toList.length := by simp
theorem str_eq {a b : ByteArray} (h : a.data.toList = b.data.toList) : a = b := by
  cases a; cases b
  congr 1
  exact Array.toList_inj.1 h
theorem str_mk (l : List UInt8) : (⟨l.toArray⟩ : ByteArray).data.toList = l := rfl
/-- The byte of a figure. -/
def dch (d : Nat) : UInt8 := UInt8.ofNat (48 + d)
theorem ten_piece : ∀ d : Fin 10, (⟨#[48, 49, 50, 51, 52, 53, 54, 55, 56, 57]⟩ : ByteArray).extract d.val (d.val + 1) = ⟨#[dch d.val]⟩ := by decide +kernel
theorem ten_run {w : World} (k : Nat) : (Instr.slice 9 (.string ⟨#[48, 49, 50, 51, 52, 53, 54, 55, 56, 57]⟩) (some (.int .i64 ((k : Int) % 10))) (some (.int .i64 ((k : Int) % 10 + 1))) none).run Tryd.prog w = .ok (.string ⟨#[dch (k % 10)]⟩) w := by
  rw [run_slice_string w 9 _ .i64 .i64 _ _ Tryd.underlying9 (by omega) (by omega) (by show _ ≤ ((10 : Nat) : Int); omega)]
  have := ten_piece ⟨k % 10, by omega⟩
  simp only at this
  rw [← this, show ((k : Int) % 10).toNat = k % 10 by omega, show ((k : Int) % 10 + 1).toNat = k % 10 + 1 by omega]

/-- The loop of 'digits'. -/
def Dg (n k : Nat) (S : ByteArray) : Prop := (S.data.toList = [] ∧ k = n) ∨ (S.data.toList ≠ [] ∧ k = 0 ∧ Lib.decDigits n = S.data.toList) ∨ (S.data.toList ≠ [] ∧ 0 < k ∧ Lib.decDigits n = Lib.decDigits k ++ S.data.toList)
theorem Dg.step {n k : Nat} {S : ByteArray} (h : Dg n k S) (hs : S.data.toList = [] ∨ 0 < k) : Dg n (k / 10) (⟨#[dch (k % 10)]⟩ ++ S) := by
  have e : (⟨#[dch (k % 10)]⟩ ++ S : ByteArray).data.toList = dch (k % 10) :: S.data.toList := by rw [str_app]; rfl
  have hdd : Lib.decDigits n = Lib.decDigits k ++ S.data.toList := by
    rcases h with ⟨h1, h2⟩ | ⟨h1, h2, _⟩ | ⟨_, _, h3⟩
    · rw [h1, h2]; simp
    · rcases hs with h | h
      · exact absurd h h1
      · omega
    · exact h3
  unfold Dg
  rw [e]
  right
  by_cases hk : k < 10
  · left
    refine ⟨by simp, by omega, ?_⟩
    rw [hdd, Lib.decDigits_one hk, show k % 10 = k by omega]; rfl
  · right
    refine ⟨by simp, by omega, ?_⟩
    rw [hdd, dd_big hk]; simp [dch]
theorem Dg.small {n k : Nat} {S : ByteArray} (h : Dg n k S) (hn : n < 18446744073709551616) : S.size ≤ 20 := by
  have hl := Lib.nDigits_le20 n hn
  rw [← Lib.decDigits_length] at hl
  rw [str_size]
  rcases h with ⟨h1, _⟩ | ⟨_, _, h3⟩ | ⟨_, _, h3⟩
  · rw [h1]; simp
  · rw [h3] at hl; exact hl
  · rw [h3] at hl; simp at hl; simp; omega

end Go.Proofs.YtmpgfmedldnhjaaDoor
