/- Contracts of num.Open and the reader's methods. -/
import Derived.Test.YtnjghodjpbalcaaW3
namespace Go.Proofs.Ytnjghodjpbalcaa
open Go.RowKit

/-- p is a reader (a block of its own, from 'base' on) at whose place the bytes l lie. -/
def Rdr (w : World) (base g : Nat) (l : List UInt8) : Prop := ∃ A c, base ≤ g ∧ w.heap[g]? = some (.cells #[.slice A l.length c] 51 (0, 0)) ∧ l.length ≤ c ∧ c ≤ maxLen ∧ Rd w g A l

theorem Rdr.kept {w w' : World} {base g : Nat} {l : List UInt8} (h : Rdr w base g l) (hk : ∀ k, k ≤ g → w'.heap[k]? = w.heap[k]?) : Rdr w' base g l := by
  obtain ⟨A, c, h1, h2, h3, h4, h5⟩ := h
  exact ⟨A, c, h1, by rw [hk g (Nat.le_refl _)]; exact h2, h3, h4, h5.keep fun p hp => World.cell?_of_block (hk p.block (by omega))⟩
theorem Rdr.lt {w : World} {base g : Nat} {l : List UInt8} (h : Rdr w base g l) : g < w.heap.size := by
  obtain ⟨A, c, h1, h2, _⟩ := h
  exact (Array.getElem?_eq_some_iff.1 h2).1
theorem Rdr.below {w w' : World} {base g : Nat} {l : List UInt8} (h : Rdr w base g l) (hb : Below w.heap.size w w') : Rdr w' base g l :=
  h.kept fun k hk => hb.block k (by have := h.lt; omega)
theorem Rdr.low {w : World} {base base' g : Nat} {l : List UInt8} (h : Rdr w base g l) (hb : base' ≤ base) : Rdr w base' g l := by
  obtain ⟨A, c, h1, h2⟩ := h
  exact ⟨A, c, by omega, h2⟩

/-- What num.Open leaves. -/
def Opened (l : List UInt8) (w : World) (e : Ending) (w' : World) : Prop := ∃ g, e = .returned (.pointer (some ⟨g, 0, none⟩)) ∧ Rdr w' w.heap.size g l ∧ Below w.heap.size w w'

set_option maxHeartbeats 400000 in
theorem open_any (A : Option Addr) (l : List UInt8) (c : Nat) (w : World) (hr : Rd w w.heap.size A l) (hl : l.length ≤ 100000000) :
    Calls Try.prog 14 #[.slice A l.length c] w (Opened l w) := by
  obtain ⟨i0, hi, hz0, hz1, hz2⟩ := info_parts info5
  go_enter Try.func14, Try.ntmps14
  go_wp2_with (at_builtin; refine wpList_app_own _ rfl (.const (.slice none 0 0)) (.tmp 3) 23 23 rfl w.heap.size 5 i0 _ Try.underlying23 hi hz0 hz1 hz2 rfl _ [] rfl (Own.nil _ _ _) _ l rfl (hr.src Try.underlying23 _) (by simp; omega) (Nat.le_refl _) ?_; intro A1 c1 L1 w1 HL hown hbel)
  go_ret
  have hL : L1 = l := by have := HL.out; simpa using this
  subst hL
  obtain ⟨_, h1, h2, h3⟩ := hown.rd
  refine ⟨w1.heap.size, rfl, ⟨A1, c1, hbel.size, heap_alloc_new w1 _, h1, h2, h3.alloc (Nat.le_refl _) _⟩, hbel.alloc hbel.size _⟩

/-- The number that is taken, if it is at most 'most'. -/
def numAt (l : List UInt8) (most : Nat) : Option (Nat × Nat) := match num1 l with
  | none => none
  | some (v, n) => if v ≤ most then some (v, n) else none
theorem numAt_none {l : List UInt8} {most : Nat} (h : num1 l = none) : numAt l most = none := by simp [numAt, h]
theorem numAt_yes {l : List UInt8} {most v n : Nat} (h : num1 l = some (v, n)) (h2 : v ≤ most) : numAt l most = some (v, n) := by simp [numAt, h, h2]
theorem numAt_no {l : List UInt8} {most v n : Nat} (h : num1 l = some (v, n)) (h2 : ¬ v ≤ most) : numAt l most = none := by simp [numAt, h, h2]

/-- What the reader's Number leaves: the answer, the rest; of old memory the reader's own block alone has turned. -/
def NumOut (l : List UInt8) (most : Nat) (base g : Nat) (w : World) (e : Ending) (w' : World) : Prop :=
  w.grownBy w' (some g) ∧ w'.heap.size = w.heap.size ∧
  match numAt l most with
  | none => e = .returned (.tuple #[.int .u64 0, .int .i64 11]) ∧ Rdr w' base g l
  | some (v, n) => e = .returned (.tuple #[.int .u64 v, .int .i64 0]) ∧ Rdr w' base g (l.drop n)

theorem grownBy_drewN (w : World) (k : Nat) (row : Option Nat) : w.grownBy (w.drewN k) row := ⟨rfl, rfl, rfl, Nat.le_refl _, fun _ _ _ => rfl⟩
theorem grownBy_store (w : World) (k g : Nat) (v : Value) : w.grownBy ((w.drewN k).setCell ⟨g, 0, none⟩ v) (some g) :=
  ⟨rfl, rfl, rfl, by simp [World.setCell], fun j _ hj => (Below.heap_setCell (w.drewN k) ⟨g, 0, none⟩ v j (fun e => hj (by rw [e]))).trans rfl⟩
theorem NumOut.no {l : List UInt8} {most base g : Nat} {w : World} (h : numAt l most = none) (hr : Rdr w base g l) (k : Nat) : NumOut l most base g w (.returned (.tuple #[.int .u64 0, .int .i64 11])) (w.drewN k) :=
  ⟨grownBy_drewN w k _, rfl, by rw [h]; exact ⟨rfl, hr.kept fun _ _ => rfl⟩⟩
theorem NumOut.yes {l : List UInt8} {most base g v n : Nat} {w : World} (h : numAt l most = some (v, n)) (hr : Rdr w base g l) (k : Nat) (A : Option Addr) (c : Nat) (hc : l.length - n ≤ c) (hm : c ≤ maxLen) (hrd : Rd w g A (l.drop n)) :
    NumOut l most base g w (.returned (.tuple #[.int .u64 v, .int .i64 0])) ((w.drewN k).setCell ⟨g, 0, none⟩ (.slice A (l.length - n) c)) := by
  refine ⟨grownBy_store w k g _, by simp [World.setCell], ?_⟩
  rw [h]
  obtain ⟨A0, c0, h1, h2, _⟩ := hr
  refine ⟨rfl, A, c, h1, ?_, by simpa using hc, hm, hrd.keep fun p hp => World.cell?_of_block (Below.heap_setCell (w.drewN k) ⟨g, 0, none⟩ _ p.block (Nat.ne_of_lt hp))⟩
  rw [List.length_drop]
  simp [World.setCell, Array.getElem?_modify, h2]

set_option maxHeartbeats 400000 in
theorem number_any (l : List UInt8) (most base g : Nat) (w : World) (hr : Rdr w base g l) (hm : most < 18446744073709551616) :
    Calls Try.prog 15 #[.pointer (some ⟨g, 0, none⟩), .int .u64 most] w (NumOut l most base g w) := by
  have HR := Lib.hid hr
  obtain ⟨A, c, hb, hg, hc, hcm, hrd⟩ := hr
  have hcell : w.cell? ⟨g, 0, none⟩ = some (.slice A l.length c) := by rw [cell_of_row w g 0 _ 51 (0, 0) hg]; rfl
  have hfr : w.frozen? ⟨g, 0, none⟩ = false := by simp [World.frozen?, hg]
  clear hg hb
  match hN : num1 l with
  | none =>
    have HN := Lib.hid hN
    clear hN
    go_enter Try.func15, Try.ntmps15
    go_wp2_with (go_at_call 21; go_must (refine (first_any A l _ c _ g rfl hrd hc hcm).mono ?_; rintro e w' ⟨⟨k, rfl⟩, hX⟩; rw [HN.out] at hX; subst hX))
    go_ret2
    exact NumOut.no (numAt_none HN.out) HR.out k
  | some (v, n) =>
    have hv := (num1_le hN).2.2
    have HN := Lib.hid hN
    clear hN
    by_cases hle : v ≤ most
    · go_enter Try.func15, Try.ntmps15
      go_wp2_with (go_at_call 21; go_must (refine (first_any A l _ c _ g rfl hrd hc hcm).mono ?_; rintro e w' ⟨⟨k, rfl⟩, hX⟩; rw [HN.out] at hX; obtain ⟨A1, c1, rfl, hc1, hm1, hrd1⟩ := hX))
      go_ret2
      exact NumOut.yes (numAt_yes HN.out hle) HR.out k A1 c1 hc1 hm1 hrd1
    · go_enter Try.func15, Try.ntmps15
      go_wp2_with (go_at_call 21; go_must (refine (first_any A l _ c _ g rfl hrd hc hcm).mono ?_; rintro e w' ⟨⟨k, rfl⟩, hX⟩; rw [HN.out] at hX; obtain ⟨A1, c1, rfl, hc1, hm1, hrd1⟩ := hX))
      go_ret2
      exact NumOut.no (numAt_no HN.out hle) HR.out k

/-- The text that is taken, and how many bytes its number has. -/
def textAt (l : List UInt8) (most : Int) : Option (Nat × Nat) := match num1 l with
  | none => none
  | some (v, n) => if 0 ≤ most ∧ (v : Int) ≤ most ∧ v ≤ l.length - n then some (v, n) else none
theorem textAt_none {l : List UInt8} {most : Int} (h : num1 l = none) : textAt l most = none := by simp [textAt, h]
theorem textAt_yes {l : List UInt8} {most : Int} {v n : Nat} (h : num1 l = some (v, n)) (h2 : 0 ≤ most ∧ (v : Int) ≤ most ∧ v ≤ l.length - n) : textAt l most = some (v, n) := by simp only [textAt, h]; rw [if_pos h2]
theorem textAt_no {l : List UInt8} {most : Int} {v n : Nat} (h : num1 l = some (v, n)) (h2 : ¬ (0 ≤ most ∧ (v : Int) ≤ most ∧ v ≤ l.length - n)) : textAt l most = none := by simp only [textAt, h]; rw [if_neg h2]

def TextOut (l : List UInt8) (most : Int) (base g : Nat) (w : World) (e : Ending) (w' : World) : Prop :=
  w.grownBy w' (some g) ∧ w'.heap.size = w.heap.size ∧
  match textAt l most with
  | none => e = .returned (.tuple #[.string ⟨#[]⟩, .int .i64 11]) ∧ Rdr w' base g l
  | some (v, n) => e = .returned (.tuple #[.string ⟨((l.drop n).take v).toArray⟩, .int .i64 0]) ∧ Rdr w' base g (l.drop (n + v))
theorem TextOut.no {l : List UInt8} {most : Int} {base g : Nat} {w : World} (h : textAt l most = none) (hr : Rdr w base g l) (k : Nat) : TextOut l most base g w (.returned (.tuple #[.string ⟨#[]⟩, .int .i64 11])) (w.drewN k) :=
  ⟨grownBy_drewN w k _, rfl, by rw [h]; exact ⟨rfl, hr.kept fun _ _ => rfl⟩⟩
theorem TextOut.yes {l : List UInt8} {most : Int} {base g v n : Nat} {w : World} (h : textAt l most = some (v, n)) (hr : Rdr w base g l) (k : Nat) (A : Option Addr) (c m : Nat) (hm : m = l.length - n - v) (hc : m ≤ c) (hcm : c ≤ maxLen) (hrd : Rd w g A (l.drop (n + v))) :
    TextOut l most base g w (.returned (.tuple #[.string ⟨((l.drop n).take v).toArray⟩, .int .i64 0])) ((w.drewN k).setCell ⟨g, 0, none⟩ (.slice A m c)) := by
  refine ⟨grownBy_store w k g _, by simp [World.setCell], ?_⟩
  rw [h]
  obtain ⟨A0, c0, h1, h2, _⟩ := hr
  refine ⟨rfl, A, c, h1, ?_, by rw [List.length_drop]; omega, hcm, hrd.keep fun p hp => World.cell?_of_block (Below.heap_setCell (w.drewN k) ⟨g, 0, none⟩ _ p.block (Nat.ne_of_lt hp))⟩
  rw [List.length_drop, show l.length - (n + v) = m from by omega]
  simp [World.setCell, Array.getElem?_modify, h2]

theorem left_any (l : List UInt8) (base g : Nat) (w : World) (hr : Rdr w base g l) :
    Calls Try.prog 19 #[.pointer (some ⟨g, 0, none⟩)] w fun e w' => e = .returned (.int .i64 l.length) ∧ w = w' := by
  obtain ⟨A, c, hb, hg, hc, hcm, hrd⟩ := hr
  have hcell : w.cell? ⟨g, 0, none⟩ = some (.slice A l.length c) := by rw [cell_of_row w g 0 _ 51 (0, 0) hg]; rfl
  clear hg hb hrd
  go_enter Try.func19, Try.ntmps19
  go_wp2
  go_ret
  exact ⟨rfl, rfl⟩
end Go.Proofs.Ytnjghodjpbalcaa
