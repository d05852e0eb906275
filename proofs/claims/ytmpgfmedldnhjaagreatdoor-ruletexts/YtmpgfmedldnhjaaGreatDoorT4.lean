/- Contracts: strings.Cut at one byte; prefix.figures, prefix.ofBytes. -/
import Derived.Test.YtmpgfmedldnhjaaGreatDoorT3
namespace Go.Proofs.YtmpgfmedldnhjaaGreatDoor
open Go.RowKit

theorem index_no {c : UInt8} : ∀ {l : List UInt8}, c ∉ l → Lib.indexByte l c = -1
  | [], _ => rfl
  | x :: l, h => by
    simp only [List.mem_cons, not_or] at h
    have := index_no h.2
    unfold Lib.indexByte
    rw [if_neg (by simpa using fun e => h.1 e.symm), this]; rfl
theorem index_yes {c : UInt8} : ∀ {b : List UInt8} (a : List UInt8), c ∉ b → Lib.indexByte (b ++ c :: a) c = b.length
  | [], a, _ => by simp [Lib.indexByte]
  | x :: b, a, h => by
    simp only [List.mem_cons, not_or] at h
    have := index_yes a h.2
    rw [List.cons_append]
    unfold Lib.indexByte
    rw [if_neg (by simpa using fun e => h.1 e.symm), this]
    simp
theorem split_at (c : UInt8) (l : List UInt8) : c ∉ l ∨ ∃ b a, l = b ++ c :: a ∧ c ∉ b := by
  by_cases h : c ∈ l
  · right
    induction l with
    | nil => simp at h
    | cons x l ih =>
      by_cases hx : x = c
      · exact ⟨[], l, by rw [hx]; rfl, by simp⟩
      · have : c ∈ l := by
          rcases List.mem_cons.1 h with h | h
          · exact absurd h.symm hx
          · exact h
        obtain ⟨b, a, rfl, hb⟩ := ih this
        exact ⟨x :: b, a, rfl, by simp only [List.mem_cons, not_or]; exact ⟨fun e => hx e.symm, hb⟩⟩
  · exact .inl h

theorem cutl_no (s : ByteArray) (c : UInt8) (w : World) (h : c ∉ s.data.toList) : Calls Tryz.prog 81 #[.string s, .string ⟨#[c]⟩] w fun e w' => e = .returned (.tuple #[.string s, .string ⟨#[]⟩, .bool false]) ∧ Below w.heap.size w w' := by
  have hi := index_one s c w
  rw [index_no h] at hi
  clear h
  go_enter Tryz.func81, Tryz.ntmps81
  go_wp2_with (go_at_call 94; refine hi.mono ?_; rintro e w' ⟨rfl, rfl⟩)
  exact bodyPost_ret (results_tmp3 rfl _ _ _) rfl ⟨rfl, Below.refl _ _⟩
theorem cutl_yes (s : ByteArray) (c : UInt8) (w : World) (b a : List UInt8) (hs : s.data.toList = b ++ c :: a) (h : c ∉ b) (hz : s.size ≤ 1000) : Calls Tryz.prog 81 #[.string s, .string ⟨#[c]⟩] w fun e w' => e = .returned (.tuple #[.string ⟨b.toArray⟩, .string ⟨a.toArray⟩, .bool true]) ∧ Below w.heap.size w w' := by
  have hi := index_one s c w
  rw [hs, index_yes a h] at hi
  have hl : s.size = b.length + 1 + a.length := by rw [str_size, hs]; simp; omega
  have hb : b.length ≤ 1000 := by omega
  have r1 : ∀ u, (Instr.slice 9 (.string s) none (some (.int .i64 (b.length : Int))) none).run Tryz.prog u = .ok (.string ⟨b.toArray⟩) u := fun u => by
    rw [run_slice_string_h u 9 s Tryz.underlying9 .i64 _ (by omega) (by omega)]
    congr 2
    apply str_eq
    simp [hs]
  have r2 : ∀ u, (Instr.slice 9 (.string s) (some (.int .i64 ((b.length : Int) + 1))) none none).run Tryz.prog u = .ok (.string ⟨a.toArray⟩) u := fun u => by
    rw [run_slice_string_l u 9 s Tryz.underlying9 .i64 _ (by omega) (by omega)]
    congr 2
    apply str_eq
    rw [show ((b.length : Int) + 1).toNat = b.length + 1 by omega]
    simp [hs]
    exact List.take_of_length_le (by omega)
  have e1 : IntKind.i64.wrap ((b.length : Int) + 1) = (b.length : Int) + 1 := IntWalk.i64_in _ (by omega)
  clear hs hl h
  go_enter Tryz.func81, Tryz.ntmps81
  go_wp2_with (go_at_call 94; refine hi.mono ?_; rintro e w' ⟨rfl, rfl⟩)
  go_quiet (fail)
  go_wp2
  exact bodyPost_ret (results_tmp3 rfl _ _ _) rfl ⟨rfl, bdrewN (Below.refl _ _) _⟩
theorem cut_no (s : ByteArray) (c : UInt8) (w : World) (h : c ∉ s.data.toList) : Calls Tryz.prog 65 #[.string s, .string ⟨#[c]⟩] w fun e w' => e = .returned (.tuple #[.string s, .string ⟨#[]⟩, .bool false]) ∧ Below w.heap.size w w' := by
  have hi := cutl_no s c w h
  clear h
  go_enter Tryz.func65, Tryz.ntmps65
  go_wp2_with (go_at_call 81; refine hi.mono ?_; rintro e w1 ⟨rfl, b1⟩)
  exact bodyPost_ret (results_tmp3 rfl _ _ _) rfl ⟨rfl, b1⟩
theorem cut_yes (s : ByteArray) (c : UInt8) (w : World) (b a : List UInt8) (hs : s.data.toList = b ++ c :: a) (h : c ∉ b) (hz : s.size ≤ 1000) : Calls Tryz.prog 65 #[.string s, .string ⟨#[c]⟩] w fun e w' => e = .returned (.tuple #[.string ⟨b.toArray⟩, .string ⟨a.toArray⟩, .bool true]) ∧ Below w.heap.size w w' := by
  have hi := cutl_yes s c w b a hs h hz
  clear h hs
  go_enter Tryz.func65, Tryz.ntmps65
  go_wp2_with (go_at_call 81; refine hi.mono ?_; rintro e w1 ⟨rfl, b1⟩)
  exact bodyPost_ret (results_tmp3 rfl _ _ _) rfl ⟨rfl, b1⟩

/-- What figures answers. -/
def figV (l : List UInt8) (most : Nat) : Value := match numOf l most with
  | some n => .tuple #[.int .i64 n, .bool true]
  | none => .tuple #[.int .i64 0, .bool false]
theorem take_snoc (s : ByteArray) (k : Nat) (h : k < s.size) : s.data.toList.take (k + 1) = s.data.toList.take k ++ [s[k]] := by
  rw [List.take_succ_eq_append_getElem (by simpa using h)]; rfl
theorem figures_empty (most : Nat) (s : ByteArray) (w : World) (hs : s.data.toList = []) : Calls Tryz.prog 84 #[.string s, .int .i64 most] w fun e w' => e = .returned (figV s.data.toList most) ∧ w = w' := by
  have d1 : s.toList.isEmpty = true := by rw [ByteArray.toList_eq, hs]; rfl
  have hv : figV s.data.toList most = .tuple #[.int .i64 0, .bool false] := by rw [hs]; rfl
  rw [hv]
  clear hs hv
  go_enter Tryz.func84, Tryz.ntmps84
  go_wp2
  go_ret2
  exact ⟨rfl, rfl⟩
theorem figures_nought (most : Nat) (s : ByteArray) (w : World) (hs : 1 < s.size) (hz : s.size ≤ 1000) (h0 : s.data.toList.head? = some 48) : Calls Tryz.prog 84 #[.string s, .int .i64 most] w fun e w' => e = .returned (figV s.data.toList most) ∧ w = w' := by
  have hc : canB s.data.toList = false := by
    have : decide (s.data.toList.length ≤ 1) = false := by apply decide_eq_false; rw [← str_size]; omega
    unfold canB; rw [this, h0]; simp
  have hv : figV s.data.toList most = .tuple #[.int .i64 0, .bool false] := by unfold figV numOf; rw [hc]; rfl
  have d1 : s.toList.isEmpty = false := by
    rw [ByteArray.toList_eq]
    cases h : s.data.toList with
    | nil => rw [h] at h0; cases h0
    | cons a l => rfl
  have hs0 : 0 < s.size := by omega
  have h48 : s[0].toNat = 48 := by
    have : s.data.toList.head? = some s[0] := by
      rw [List.head?_eq_getElem?, List.getElem?_eq_getElem (by rw [← str_size]; omega)]; rfl
    rw [this] at h0
    injection h0 with h0
    rw [h0]; rfl
  rw [hv]
  clear hv hc h0
  go_enter Tryz.func84, Tryz.ntmps84
  go_wp2
  go_ret2
  exact ⟨rfl, rfl⟩
theorem figV_none {l : List UInt8} {most : Nat} (h : numOf l most = none) : figV l most = .tuple #[.int .i64 0, .bool false] := by unfold figV; rw [h]
theorem figV_some {l : List UInt8} {most n : Nat} (h : numOf l most = some n) : figV l most = .tuple #[.int .i64 n, .bool true] := by unfold figV; rw [h]
theorem mem_at (s : ByteArray) (k : Nat) (h : k < s.size) : s[k] ∈ s.data.toList := by
  have : s.data.toList[k]? = some s[k] := by rw [List.getElem?_eq_getElem (by rw [← str_size]; omega)]; rfl
  exact List.mem_of_getElem? this
theorem FI.big {s : ByteArray} {most k : Nat} (h : most < val (s.data.toList.take (k + 1))) : numOf s.data.toList most = none := by
  have := val_mono (s.data.toList.take (k + 1)) (s.data.toList.drop (k + 1))
  rw [List.take_append_drop] at this
  unfold numOf
  rw [show decide (val s.data.toList ≤ most) = false by apply decide_eq_false; omega]
  simp
/-- The loop of figures: the number so far. -/
def FI (s : ByteArray) (most k : Nat) (n : Value) : Prop := ∃ x : Nat, n = .int .i64 x ∧ x ≤ most ∧ Hid (val (s.data.toList.take k) = x ∧ (s.data.toList.take k).all fig = true)
theorem FI.zero (s : ByteArray) (most : Nat) : FI s most 0 (.int .i64 0) := ⟨0, rfl, by omega, Lib.hid ⟨rfl, rfl⟩⟩
theorem FI.step {s : ByteArray} {k x : Nat} (HX : val (s.data.toList.take k) = x ∧ (s.data.toList.take k).all fig = true) (hk : k < s.size) (h1 : 48 ≤ s[k].toNat) (h2 : s[k].toNat ≤ 57) :
    val (s.data.toList.take (k + 1)) = x * 10 + (s[k].toNat - 48) ∧ (s.data.toList.take (k + 1)).all fig = true := by
  rw [take_snoc s k hk, val_snoc, HX.1]
  refine ⟨by omega, ?_⟩
  rw [List.all_append, HX.2]
  simp [fig, h1, h2]
theorem FI.done {s : ByteArray} {most k x : Nat} (h : FI s most k (.int .i64 x)) (hk : s.size ≤ k) (hc : s.data.toList.all fig = true → canB s.data.toList = true) : numOf s.data.toList most = some x := by
  obtain ⟨y, e, hy, H⟩ := h
  injection e with _ e
  have e : x = y := by omega
  subst e
  obtain ⟨h1, h2⟩ := H.out
  rw [List.take_of_length_le (by rw [← str_size]; exact hk)] at h1 h2
  unfold numOf
  rw [hc h2, h1]
  simp [hy]
set_option maxHeartbeats 1000000 in
theorem figures_loop (most : Nat) (s : ByteArray) (w : World) (hm : most ≤ 255) (hs : 0 < s.size) (hz : s.size ≤ 1000) (h0 : s.size ≤ 1 ∨ s.data.toList.head? ≠ some 48) : Calls Tryz.prog 84 #[.string s, .int .i64 most] w fun e w' => e = .returned (figV s.data.toList most) ∧ w = w' := by
  have d1 : s.toList.isEmpty = false := by
    rw [ByteArray.toList_eq]
    cases h : s.data.toList with
    | nil => rw [str_size, h] at hs; simp at hs
    | cons a l => rfl
  have hcan : (s.data.toList.all fig = true) → canB s.data.toList = true := fun ha => by
    unfold canB
    rw [ha]
    rw [ByteArray.toList_eq] at d1
    rw [d1]
    rcases h0 with h | h
    · have : decide (s.data.toList.length ≤ 1) = true := by apply decide_eq_true; rw [← str_size]; exact h
      rw [this]; rfl
    · have : (s.data.toList.head? != some 48) = true := by simpa using h
      rw [this]; simp
  have hd : 1 < s.size → ((s[0].toNat : Int) == 48) = false := fun h1 => by
    rcases h0 with h | h
    · omega
    · rw [beq_eq_false_iff_ne]
      intro e
      apply h
      have : s.data.toList.head? = some s[0] := by
        rw [List.head?_eq_getElem?, List.getElem?_eq_getElem (by rw [← str_size]; omega)]; rfl
      rw [this]
      congr 1
      apply UInt8.toNat_inj.1
      show s[0].toNat = 48
      omega
  have HC := Lib.hid hcan
  have HV : ∀ v, figV s.data.toList most = v → Hid (figV s.data.toList most = v) := fun v h => h
  obtain ⟨V, hV⟩ : ∃ V, figV s.data.toList most = V := ⟨_, rfl⟩
  rw [hV]
  have HVV := Lib.hid hV
  clear hcan HV hV h0
  have body : Calls Tryz.prog 84 #[.string s, .int .i64 most] w fun e w' => e = .returned V ∧ w = w' := by
    by_cases hs1 : 1 < s.size
    · have hd1 := hd hs1
      have hd2 : (s[0].toNat == 48) = false := by rw [beq_eq_false_iff_ne]; rw [beq_eq_false_iff_ne] at hd1; omega
      clear hd
      go_enter Tryz.func84, Tryz.ntmps84
      go_wp2
      go_loop [6, 22] (fun n i => ∃ k : Nat, i = .int .i64 k ∧ k ≤ s.size ∧ FI s most k n) (fun _ i => s.size - (intOf i).toNat)
      case atStart => exact ⟨0, rfl, by omega, FI.zero s most⟩
      case round =>
        obtain ⟨k, rfl, hk, x, rfl, hx, HX⟩ := hrel
        by_cases hlt : k < s.size
        · by_cases h1 : s[k].toNat < 48
          · go_wp2
            go_ret2
            exact ⟨by rw [← HVV.out, figV_none (numOf_none_fig (mem_at s k hlt) (by unfold fig; simp; omega))]; rfl, rfl⟩
          · by_cases h2 : 57 < s[k].toNat
            · go_wp2
              go_ret2
              exact ⟨by rw [← HVV.out, figV_none (numOf_none_fig (mem_at s k hlt) (by unfold fig; simp; omega))]; rfl, rfl⟩
            · have hc := s[k].toNat_lt
              by_cases h3 : most < x * 10 + (s[k].toNat - 48)
              · go_wp2
                go_ret2
                exact ⟨by rw [← HVV.out, figV_none (FI.big (k := k) (by rw [(FI.step HX.out hlt (by omega) (by omega)).1]; omega))]; rfl, rfl⟩
              · go_wp2
                go_round
                case rel => exact ⟨k + 1, by go_num, by omega, x * 10 + (s[k].toNat - 48), by congr 1; omega, by omega, Lib.hid (FI.step HX.out hlt (by omega) (by omega))⟩
                case measure => simp [intOf]; omega
        · go_wp2
          go_ret2
          exact ⟨by rw [← HVV.out, figV_some (FI.done ⟨x, rfl, hx, HX⟩ (by omega) HC.out)]; rfl, rfl⟩
    · clear hd
      go_enter Tryz.func84, Tryz.ntmps84
      go_wp2
      go_loop [6, 22] (fun n i => ∃ k : Nat, i = .int .i64 k ∧ k ≤ s.size ∧ FI s most k n) (fun _ i => s.size - (intOf i).toNat)
      case atStart => exact ⟨0, rfl, by omega, FI.zero s most⟩
      case round =>
        obtain ⟨k, rfl, hk, x, rfl, hx, HX⟩ := hrel
        by_cases hlt : k < s.size
        · by_cases h1 : s[k].toNat < 48
          · go_wp2
            go_ret2
            exact ⟨by rw [← HVV.out, figV_none (numOf_none_fig (mem_at s k hlt) (by unfold fig; simp; omega))]; rfl, rfl⟩
          · by_cases h2 : 57 < s[k].toNat
            · go_wp2
              go_ret2
              exact ⟨by rw [← HVV.out, figV_none (numOf_none_fig (mem_at s k hlt) (by unfold fig; simp; omega))]; rfl, rfl⟩
            · have hc := s[k].toNat_lt
              by_cases h3 : most < x * 10 + (s[k].toNat - 48)
              · go_wp2
                go_ret2
                exact ⟨by rw [← HVV.out, figV_none (FI.big (k := k) (by rw [(FI.step HX.out hlt (by omega) (by omega)).1]; omega))]; rfl, rfl⟩
              · go_wp2
                go_round
                case rel => exact ⟨k + 1, by go_num, by omega, x * 10 + (s[k].toNat - 48), by congr 1; omega, by omega, Lib.hid (FI.step HX.out hlt (by omega) (by omega))⟩
                case measure => simp [intOf]; omega
        · go_wp2
          go_ret2
          exact ⟨by rw [← HVV.out, figV_some (FI.done ⟨x, rfl, hx, HX⟩ (by omega) HC.out)]; rfl, rfl⟩
  exact body
/-- prefix.figures. -/
theorem figures_any (most : Nat) (s : ByteArray) (w : World) (hm : most ≤ 255) (hz : s.size ≤ 1000) : Calls Tryz.prog 84 #[.string s, .int .i64 most] w fun e w' => e = .returned (figV s.data.toList most) ∧ w = w' := by
  by_cases h0 : s.data.toList = []
  · exact figures_empty most s w h0
  · have hs : 0 < s.size := by
      rw [str_size]
      cases h : s.data.toList with
      | nil => exact absurd h h0
      | cons a l => simp
    by_cases h1 : 1 < s.size ∧ s.data.toList.head? = some 48
    · exact figures_nought most s w h1.1 hz h1.2
    · refine figures_loop most s w hm hs hz ?_
      by_cases h2 : 1 < s.size
      · right; intro e; exact h1 ⟨h2, e⟩
      · left; omega
end Go.Proofs.YtmpgfmedldnhjaaGreatDoor
