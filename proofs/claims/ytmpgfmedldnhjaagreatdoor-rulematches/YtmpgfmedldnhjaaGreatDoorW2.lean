/- Plain mathematics: a rule's text, its parts, and back. -/
import Derived.Test.YtmpgfmedldnhjaaGreatDoorW1
import Derived.Test.YtmpgfmedldnhjaaGreatDoorT7
import Derived.Lib.AtoiAll
import Derived.Lib.Split
import Derived.Lib.Join
namespace Go.Proofs.YtmpgfmedldnhjaaGreatDoor
open Go.RowKit Go.Shelf

theorem dd_len : ∀ (k u : Nat), u < 10 ^ (k + 1) → (Lib.decDigits u).length ≤ k + 1
  | 0, u, h => by
    rw [Lib.decDigits, dif_pos (by omega)]; simp
  | k + 1, u, h => by
    by_cases hu : u < 10
    · rw [Lib.decDigits, dif_pos hu]; simp
    · rw [dd_big hu, List.length_append]
      have := dd_len k (u / 10) (by rw [Nat.pow_succ] at h; omega)
      simp only [List.length_cons, List.length_nil]; omega
theorem addrT_le (a : Nat) : (addrT a).length ≤ 15 := by
  unfold addrT
  have h1 := dd_len 2 (a / 16777216 % 256) (by omega)
  have h2 := dd_len 2 (a / 65536 % 256) (by omega)
  have h3 := dd_len 2 (a / 256 % 256) (by omega)
  have h4 := dd_len 2 (a % 256) (by omega)
  simp only [List.length_append, List.length_cons]; omega
theorem addrT_no {c : UInt8} (a : Nat) (hc : fig c = false) (h46 : c ≠ 46) : c ∉ addrT a := by
  unfold addrT
  simp only [List.mem_append, List.mem_cons, not_or]
  exact ⟨no_sep hc, h46, no_sep hc, h46, no_sep hc, h46, no_sep hc⟩
theorem rngT_len (f t : Nat) : (rngT f t).length ≤ 31 := by
  have h1 := addrT_le f
  have h2 := addrT_le t
  unfold rngT; simp only [List.length_append, List.length_cons]; omega
theorem rngT_no (f t : Nat) : (32 : UInt8) ∉ rngT f t := by
  unfold rngT
  simp only [List.mem_append, List.mem_cons, not_or]
  exact ⟨addrT_no f rfl (by decide), by decide, addrT_no t rfl (by decide)⟩
theorem range_back {f t : Nat} (h : f ≤ t) (ht : t < 4294967296) : rangeOf (rngT f t) = some (f, t) := by
  show rangeOf (addrT f ++ 45 :: addrT t) = _
  rw [rg_cut (p := addrT f) (q := addrT t) rfl (addrT_no f rfl (by decide)), addr_back f (by omega), addr_back t ht]
  simp [h]

/-- The word of a kind. -/
def word (k : Int) : List UInt8 := wordsL[k.toNat]?.getD []
/-- A number's figures. -/
def dg (n : Int) : List UInt8 := Lib.decDigits n.toNat
/-- A rule's parts. -/
def partsR (r : Ru) : List (List UInt8) := [dg r.id, dg r.dv, dg r.pr, word r.kd, rngT r.f r.t] ++ (if r.kd = 0 then [dg r.pt] else [])
/-- A rule's text. -/
def textL (r : Ru) : List UInt8 := Lib.join (partsR r) [32]
theorem dg_no (n : Int) : (32 : UInt8) ∉ dg n := no_sep rfl
theorem word_cases {k : Int} (h0 : 0 ≤ k) (h3 : k ≤ 3) : (k = 0 ∧ word k = [102, 111, 114, 119, 97, 114, 100]) ∨ (k = 1 ∧ word k = [100, 114, 111, 112]) ∨ (k = 2 ∧ word k = [112, 101, 114, 109, 105, 116]) ∨ (k = 3 ∧ word k = [100, 101, 110, 121]) := by
  have : k = 0 ∨ k = 1 ∨ k = 2 ∨ k = 3 := by omega
  rcases this with rfl | rfl | rfl | rfl
  · exact Or.inl ⟨rfl, rfl⟩
  · exact Or.inr (Or.inl ⟨rfl, rfl⟩)
  · exact Or.inr (Or.inr (Or.inl ⟨rfl, rfl⟩))
  · exact Or.inr (Or.inr (Or.inr ⟨rfl, rfl⟩))
theorem word_no (k : Int) : (32 : UInt8) ∉ word k := by
  unfold word
  match k.toNat with
  | 0 => decide
  | 1 => decide
  | 2 => decide
  | 3 => decide
  | n + 4 => simp [wordsL]
theorem word_len (k : Int) : (word k).length ≤ 7 := by
  unfold word
  match k.toNat with
  | 0 => decide
  | 1 => decide
  | 2 => decide
  | 3 => decide
  | n + 4 => simp [wordsL]
theorem text_fwd {r : Ru} (h : r.kd = 0) : textL r = dg r.id ++ 32 :: (dg r.dv ++ 32 :: (dg r.pr ++ 32 :: (word r.kd ++ 32 :: (rngT r.f r.t ++ 32 :: dg r.pt)))) := by
  simp [textL, partsR, h, Lib.join, List.intercalate, List.intersperse]
theorem text_oth {r : Ru} (h : ¬ r.kd = 0) : textL r = dg r.id ++ 32 :: (dg r.dv ++ 32 :: (dg r.pr ++ 32 :: (word r.kd ++ 32 :: rngT r.f r.t))) := by
  simp [textL, partsR, h, Lib.join, List.intercalate, List.intersperse]
/-- The parts between the blanks are a rule's parts. -/
theorem parts_text (r : Ru) : partsL 32 (textL r) = partsR r := by
  by_cases h : r.kd = 0
  · rw [text_fwd h, parts_cut _ (dg_no _), parts_cut _ (dg_no _), parts_cut _ (dg_no _), parts_cut _ (word_no _), parts_cut _ (rngT_no _ _), parts_none (dg_no _)]
    simp [partsR, h]
  · rw [text_oth h, parts_cut _ (dg_no _), parts_cut _ (dg_no _), parts_cut _ (dg_no _), parts_cut _ (word_no _), parts_none (rngT_no _ _)]
    simp [partsR, h]
theorem text_len {r : Ru} (h : ruB r = true) : (textL r).length ≤ 80 := by
  obtain ⟨⟨h1, h2⟩, ⟨h3, h4⟩, ⟨h5, h6⟩, h7, h8, h9, h10, h11, h12⟩ := (ruB_iff r).1 h
  have a1 := dd_len 6 r.id.toNat (by omega)
  have a2 := dd_len 0 r.dv.toNat (by omega)
  have a3 := dd_len 3 r.pr.toNat (by omega)
  have a4 := word_len r.kd
  have a5 := rngT_len r.f r.t
  have a6 := dd_len 0 r.pt.toNat (by omega)
  by_cases h : r.kd = 0
  · rw [text_fwd h]; simp only [dg, List.length_append, List.length_cons]; omega
  · rw [text_oth h]; simp only [dg, List.length_append, List.length_cons]; omega
theorem dg_inj {a b : Int} (ha : 0 ≤ a) (hb : 0 ≤ b) (h : dg a = dg b) : a = b := by
  have := dd_inj h; omega
theorem rng_inj {f t f' t' : Nat} (h : f ≤ t) (ht : t < 4294967296) (h' : f' ≤ t') (ht' : t' < 4294967296) (e : rngT f t = rngT f' t') : f = f' ∧ t = t' := by
  have := range_back h ht
  rw [e, range_back h' ht'] at this
  simp at this; exact ⟨this.1.symm, this.2.symm⟩
theorem word_inj {a b : Int} (h0 : 0 ≤ a) (h3 : a ≤ 3) (h0' : 0 ≤ b) (h3' : b ≤ 3) (h : word a = word b) : a = b := by
  rcases word_cases h0 h3 with ⟨e1, e2⟩ | ⟨e1, e2⟩ | ⟨e1, e2⟩ | ⟨e1, e2⟩ <;> rcases word_cases h0' h3' with ⟨f1, f2⟩ | ⟨f1, f2⟩ | ⟨f1, f2⟩ | ⟨f1, f2⟩ <;> rw [e2, f2] at h <;> first | omega | (simp at h)
/-- Two right rules have one text just if they are one. -/
theorem text_inj {r s : Ru} (hr : ruB r = true) (hs : ruB s = true) (wr : r.wf) (ws : s.wf) (e : textL r = textL s) : r = s := by
  have hp : partsR r = partsR s := by rw [← parts_text, e, parts_text]
  obtain ⟨⟨h1, h2⟩, ⟨h3, h4⟩, ⟨h5, h6⟩, h7, h8, h9, h10, h11, h12⟩ := (ruB_iff r).1 hr
  obtain ⟨⟨g1, g2⟩, ⟨g3, g4⟩, ⟨g5, g6⟩, g7, g8, g9, g10, g11, g12⟩ := (ruB_iff s).1 hs
  obtain ⟨_, _, _, _, _, wt, _⟩ := wr
  obtain ⟨_, _, _, _, _, vt, _⟩ := ws
  simp only [partsR, List.cons_append, List.nil_append, List.cons.injEq] at hp
  obtain ⟨p1, p2, p3, p4, p5, p6⟩ := hp
  have q4 := word_inj h7 h8 g7 g8 p4
  obtain ⟨q5, q6⟩ := rng_inj h9 wt g9 vt p5
  rw [Ru.eq_iff]
  refine ⟨dg_inj (by omega) (by omega) p1, dg_inj (by omega) (by omega) p2, dg_inj (by omega) (by omega) p3, q4, q5, q6, ?_⟩
  by_cases h : r.kd = 0
  · rw [if_pos h, if_pos (by omega)] at p6
    simp at p6
    exact dg_inj (by omega) (by omega) p6
  · omega

/-! strconv.Atoi at a number's figures. -/
theorem fold_ge (l : List UInt8) : ∀ acc : Nat, acc ≤ l.foldl (fun n c => 10 * n + (c.toNat - 48)) acc := by
  induction l with
  | nil => intro acc; exact Nat.le_refl _
  | cons c r ih => intro acc; rw [List.foldl_cons]; have := ih (10 * acc + (c.toNat - 48)); omega
theorem parseUint_fold (l : List UInt8) : ∀ acc : Nat, (∀ c ∈ l, fig c = true) → l.foldl (fun n c => 10 * n + (c.toNat - 48)) acc < 9223372036854775808 → Lib.parseUint10 acc l = .ok (l.foldl (fun n c => 10 * n + (c.toNat - 48)) acc) := by
  induction l with
  | nil => intro acc _ _; rfl
  | cons c r ih =>
    intro acc hf hlt
    rw [List.foldl_cons] at hlt ⊢
    have hc := hf c List.mem_cons_self
    simp only [fig, Bool.and_eq_true, decide_eq_true_eq] at hc
    have hge := fold_ge r (10 * acc + (c.toNat - 48))
    unfold Lib.parseUint10
    rw [if_pos hc, if_neg (by omega), if_neg (by omega), show acc * 10 + (c.toNat - 48) = 10 * acc + (c.toNat - 48) by omega]
    exact ih _ (fun x hx => hf x (List.mem_cons_of_mem _ hx)) hlt
theorem atoi_dg {n : Int} (h0 : 0 ≤ n) (h1 : n ≤ 9223372036854775807) : Lib.atoiAll (dg n) = .ok n := by
  have hf := dd_fig n.toNat
  have hv := dd_val n.toNat
  have hne := dd_ne n.toNat
  unfold dg
  generalize Lib.decDigits n.toNat = l at hf hv hne
  unfold val at hv
  have hp := parseUint_fold l 0 hf (by rw [hv]; omega)
  rw [hv] at hp
  cases l with
  | nil => exact absurd rfl hne
  | cons c r =>
    have hc := hf c List.mem_cons_self
    simp only [fig, Bool.and_eq_true, decide_eq_true_eq] at hc
    unfold Lib.atoiAll
    simp only []
    rw [if_neg (by omega)]
    unfold Lib.parseMag
    rw [if_neg (by simp), hp]
    simp only []
    rw [if_neg (by omega), if_neg (by omega), if_neg (by omega)]
    congr 1; omega
theorem atoi_isI {l : List UInt8} {v : Int} (h : Lib.atoiAll l = .ok v) : isI v := by
  unfold Lib.atoiAll at h
  cases l with
  | nil => cases h
  | cons c r =>
    simp only [] at h
    split at h
    · cases h
    · cases h
    · rename_i u hu
      split at h
      · cases h
      · split at h
        · cases h
        · injection h with h
          unfold isI
          split at h <;> omega
theorem sat_isI (l : List UInt8) : isI (Lib.atoiSat l) := by unfold Lib.atoiSat isI; split <;> omega

/-! strings.SplitN at a rule's text. -/
theorem lindex_no {c : UInt8} : ∀ {l : List UInt8}, c ∉ l → Lib.index l [c] = -1
  | [], _ => rfl
  | b :: l, h => by
    simp only [List.mem_cons, not_or] at h
    unfold Lib.index
    rw [lindex_no h.2]
    simp [List.isPrefixOf, h.1]
theorem lindex_yes {c : UInt8} : ∀ {b : List UInt8} (a : List UInt8), c ∉ b → Lib.index (b ++ c :: a) [c] = b.length
  | [], a, _ => by simp [Lib.index, List.isPrefixOf]
  | x :: b, a, h => by
    simp only [List.mem_cons, not_or] at h
    rw [List.cons_append]
    unfold Lib.index
    rw [lindex_yes a h.2]
    have : ¬ ((b.length : Int) = -1) := by omega
    simp [List.isPrefixOf, h.1, this]
theorem splitK_cut {c : UInt8} {b : List UInt8} (k : Nat) (a : List UInt8) (h : c ∉ b) : Lib.splitK [c] 0 (k + 1) (b ++ c :: a) = b :: Lib.splitK [c] 0 k a := by
  have hn : ¬ ((((b.length : Int) == -1)) = true) := by simp
  rw [show Lib.splitK [c] 0 (k + 1) (b ++ c :: a) = if Lib.index (b ++ c :: a) [c] == -1 then [b ++ c :: a] else (b ++ c :: a).take ((Lib.index (b ++ c :: a) [c]).toNat + 0) :: Lib.splitK [c] 0 k ((b ++ c :: a).drop ((Lib.index (b ++ c :: a) [c]).toNat + [c].length)) from rfl]
  rw [lindex_yes a h, if_neg hn]
  simp
theorem splitK_none {c : UInt8} {b : List UInt8} (k : Nat) (h : c ∉ b) : Lib.splitK [c] 0 k b = [b] := by
  cases k with
  | zero => rfl
  | succ k => unfold Lib.splitK; rw [lindex_no h]; rfl
theorem splitK_text (r : Ru) : Lib.splitK [32] 0 5 (textL r) = partsR r := by
  by_cases h : r.kd = 0
  · rw [text_fwd h, splitK_cut _ _ (dg_no _), splitK_cut _ _ (dg_no _), splitK_cut _ _ (dg_no _), splitK_cut _ _ (word_no _), splitK_cut _ _ (rngT_no _ _), splitK_none _ (dg_no _)]
    simp [partsR, h]
  · rw [text_oth h, splitK_cut _ _ (dg_no _), splitK_cut _ _ (dg_no _), splitK_cut _ _ (dg_no _), splitK_cut _ _ (word_no _), splitK_none _ (rngT_no _ _)]
    simp [partsR, h]
theorem splitK_le (sep : List UInt8) : ∀ (k : Nat) (s : List UInt8), ∀ x ∈ Lib.splitK sep 0 k s, x.length ≤ s.length
  | 0, s, x, hx => by simp [Lib.splitK] at hx; subst hx; exact Nat.le_refl _
  | k + 1, s, x, hx => by
    unfold Lib.splitK at hx
    split at hx
    · simp at hx; subst hx; exact Nat.le_refl _
    · rcases List.mem_cons.1 hx with rfl | hx
      · rw [List.length_take]; omega
      · have := splitK_le sep k _ x hx
        rw [List.length_drop] at this; omega
theorem text_long (r : Ru) : 5 ≤ (textL r).length := by
  by_cases h : r.kd = 0
  · rw [text_fwd h]
    have := dd_ne r.id.toNat
    have : 0 < (Lib.decDigits r.id.toNat).length := List.length_pos_iff.2 this
    simp only [dg, List.length_append, List.length_cons]; omega
  · rw [text_oth h]
    have : 0 < (Lib.decDigits r.id.toNat).length := List.length_pos_iff.2 (dd_ne r.id.toNat)
    simp only [dg, List.length_append, List.length_cons]; omega
theorem splitN_text (r : Ru) : Lib.splitK [32] 0 (min 6 ((textL r).length + 1) - 1) (textL r) = partsR r := by
  have := text_long r
  rw [show min 6 ((textL r).length + 1) - 1 = 5 by omega]
  exact splitK_text r
end Go.Proofs.YtmpgfmedldnhjaaGreatDoor
