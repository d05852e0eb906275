/- Contracts: Len, Next, Has. -/
import Derived.Test.YtkglaoagiifejaaDoorS5
import Derived.OwnWalk
import Derived.Maps.AppendAt
namespace Go.Proofs.YtkglaoagiifejaaDoor
open Go.RowKit Go.Shelf

set_option maxRecDepth 100000 in
set_option maxHeartbeats 1000000 in
/-- (*Set).Len. -/
theorem len_any {v : Value} (n : Nat) (p : Nat → Bool) (w : World) (h : IsSet w v n p) : Calls Tryd.prog 24 #[v] w fun e w' => e = .returned (.int .i64 (cnt p n : Nat)) ∧ w = w' := by
  have hn := h.2.1
  have hm := nw_max hn
  have z1 := size_any n p w h
  have w1 := wordsOf_any n w hn
  have HEND := Lib.hid (cnt_same h.1 (nw_le n))
  have HS := Lib.hid h
  obtain ⟨A, rfl⟩ := h.ptr
  clear h
  go_enter Tryd.func24, Tryd.ntmps24
  go_wp2_with (first | (go_at_call 25; refine z1.mono ?_; rintro e w2 ⟨rfl, rfl⟩) | (go_at_call 31; refine w1.mono ?_; rintro e w2 ⟨rfl, rfl⟩))
  go_loopw [3, 8] (fun a i wr => ∃ k : Nat, i = .int .i64 (k : Nat) ∧ a = .int .i64 (cnt p (64 * k) : Nat) ∧ k ≤ nw n ∧ wr = w) (fun _ i _ => nw n - (intOf i).toNat)
  case atStart => exact ⟨0, rfl, rfl, by omega, rfl⟩
  case round =>
    obtain ⟨k, rfl, rfl, hk, rfl⟩ := hrel
    by_cases hlt : k < nw n
    · have hn0 : 0 < n := by unfold nw at hlt; omega
      obtain ⟨B, C, e, hset⟩ := HS.out.blocks hn0
      cases e
      have c1 := (hset.1.cell 1).trans rfl
      have c2 := (hset.2.cell k).trans (ws_get hlt)
      have ho := ones_any (wd p k) wr (wd_lt p k)
      have hw := cnt_word p k
      have s1 : cnt p (64 * k) + ones (wd p k) ≤ 1088 := by have := cnt_le p (64 * (k + 1)); omega
      generalize cnt p (64 * k) = x at *
      generalize ones (wd p k) = z at *
      generalize wd p k = u at *
      have HW := Lib.hid hw
      have i0 : (0 : Int) ≤ (k : Int) := by omega
      have i1 : (k : Int) < (nw n : Int) := by omega
      clear hset hw
      go_wp2_with (go_at_call 38; refine ho.mono ?_; rintro e w2 ⟨rfl, rfl⟩)
      go_roundw
      case rel => exact ⟨k + 1, by go_num, by rw [HW.out]; go_num, by omega, trivial⟩
      case measure => simp [intOf]; omega
    · obtain rfl : k = nw n := by omega
      go_wp2
      go_ret
      refine ⟨ret_int ?_, rfl⟩
      rw [HEND.out]

set_option maxRecDepth 100000 in
set_option maxHeartbeats 1000000 in
/-- (*Set).Next. -/
theorem next_any {v : Value} (n : Nat) (p : Nat → Bool) (i : Int) (w : World) (hi : -9223372036854775808 ≤ i) (hi2 : i ≤ 9223372036854775807) (h : IsSet w v n p) (hT : Tb w) :
    Calls Tryd.prog 14 #[v, .int .i64 i] w fun e w' => ∃ x b, e = .returned (.tuple #[.int .i64 x, .bool b]) ∧ NextIs p i x b ∧ Below w.heap.size w w' := by
  have hn := h.2.1
  have hm := nw_max hn
  have z1 := size_any n p w h
  have w1 := wordsOf_any n w hn
  have HEND : Hid ((∀ j : Nat, j < 64 * nw n → frm p i j = false) → NextIs p i 0 false) := Lib.hid (next_none h.1)
  have HS := Lib.hid h
  have HT := Lib.hid hT
  obtain ⟨A, rfl⟩ := h.ptr
  clear h hT
  go_enter Tryd.func14, Tryd.ntmps14
  go_wp2_with (first | (go_at_call 25; refine z1.mono ?_; rintro e w2 ⟨rfl, rfl⟩) | (go_at_call 31; refine w1.mono ?_; rintro e w2 ⟨rfl, rfl⟩))
  go_loopw [11] (fun a wr => ∃ k : Nat, a = .int .i64 (k : Nat) ∧ k ≤ nw n ∧ Hid (∀ j : Nat, j < 64 * k → frm p i j = false) ∧ Below w.heap.size w wr) (fun a _ => nw n - (intOf a).toNat)
  case atStart => exact ⟨0, rfl, by omega, Lib.hid fun j hj => by omega, Below.refl _ _⟩
  case round =>
    obtain ⟨k, rfl, hk, HP, hbel⟩ := hrel
    by_cases hlt : k < nw n
    · have hn0 : 0 < n := by unfold nw at hlt; omega
      obtain ⟨B, C, e, hset⟩ := (HS.out.belows hbel).blocks hn0
      cases e
      have c1 : wr.cell? ⟨B, 1, none⟩ = some (.slice (some ⟨C, 0, none⟩) (nw n) (nw n)) := (hset.1.cell 1).trans rfl
      have c2 : wr.cell? ⟨C, k, none⟩ = some (.int .u64 (wd p k : Nat)) := (hset.2.cell k).trans (ws_get hlt)
      have hb := fun u : World => below_any i k u hi hi2 (by omega)
      have e1 : bits .andNot .u64 (wd p k : Nat) (wd (blw i) k : Nat) = ((wd (frm p i) k : Nat) : Int) := bits_andNot_wd p (blw i) k
      have HF := Lib.hid (next_found HP.out)
      have HG := Lib.hid (next_step HP.out)
      have ht : Hid (∀ u : World, Tb u → wd (frm p i) k ≠ 0 → Calls Tryd.prog 32 #[.int .u64 (wd (frm p i) k : Nat)] u fun e w' => e = .returned (.int .i64 (Lib.ctz 64 (wd (frm p i) k))) ∧ u = w') := Lib.hid fun u hu h0 => tz64_any _ (wd_lt _ _) h0 u hu
      have hctz : Hid (wd (frm p i) k ≠ 0 → Lib.ctz 64 (wd (frm p i) k) < 64) := Lib.hid fun h0 => (ctz_bit h0 (wd_lt _ _)).1
      generalize Lib.ctz 64 (wd (frm p i) k) = z at *
      generalize wd (frm p i) k = x at *
      generalize wd (blw i) k = x1 at *
      generalize wd p k = x2 at *
      have i0 : (0 : Int) ≤ (k : Int) := by omega
      have i1 : (k : Int) < (nw n : Int) := by omega
      have HTq : Hid (∀ q, Tb (wr.drewN q)) := Lib.hid fun q => HT.out.belows (bdrewN hbel q)
      clear hset HP
      go_wp2_with fail
      go_quiet ((go_at_call 29; exact Calls.quiet_of_same (same_of (hb _))))
      by_cases hx : x = 0
      · subst hx
        go_wp2
        go_roundw
        case rel => exact ⟨k + 1, by go_num, by omega, Lib.hid (HG.out rfl), bdrewN hbel _⟩
        case measure => simp [intOf]; omega
      · have hz := hctz.out hx
        have hx' : ((x : Int) == 0) = false := by simp; omega
        have hx'' : (x == 0) = false := by simpa using hx
        have hcall := fun q => ht.out _ (HTq.out q) hx
        go_wp2_with (go_at_call 32; refine (hcall _).mono ?_; rintro e w2 ⟨rfl, rfl⟩)
        go_ret2
        have hfin := HF.out hx
        rw [Int.mul_comm] at hfin
        exact ⟨_, _, rfl, hfin, bdrewN hbel nq⟩
    · obtain rfl : k = nw n := by omega
      go_wp2
      go_ret2
      exact ⟨_, _, rfl, HEND.out HP.out, hbel⟩

/-- Whether a number is in. -/
def hasP (p : Nat → Bool) (i : Int) : Bool := decide (0 ≤ i) && p i.toNat
set_option maxRecDepth 100000 in
set_option maxHeartbeats 1000000 in
/-- (*Set).Has. -/
theorem has_any {v : Value} (n : Nat) (p : Nat → Bool) (i : Int) (w : World) (hi : -9223372036854775808 ≤ i) (hi2 : i ≤ 9223372036854775807) (h : IsSet w v n p) (hT : Tb w) :
    Calls Tryd.prog 15 #[v, .int .i64 i] w fun e w' => e = .returned (.bool (hasP p i)) ∧ Below w.heap.size w w' := by
  have hx := next_any n p i w hi hi2 h hT
  obtain ⟨A, rfl⟩ := h.ptr
  clear h hT
  go_enter Tryd.func15, Tryd.ntmps15
  go_wp2_with fail
  refine hx.mono ?_
  rintro e w1 ⟨x, b, rfl, hnx, b1⟩
  have hh := next_has hnx
  have HH : Hid ((b && decide (x = i)) = hasP p i) := Lib.hid hh
  clear hh hnx
  cases b with
  | false =>
    go_wp2
    go_ret
    exact ⟨ret_bool (by rw [← HH.out]; simp), b1⟩
  | true =>
    by_cases he : x = i
    · subst he
      go_wp2
      go_ret
      exact ⟨ret_bool (by rw [← HH.out]; simp), b1⟩
    · have he1 : (x == i) = false := by simpa using he
      have he2 : decide (x = i) = false := by simpa using he
      go_wp2
      go_ret
      exact ⟨ret_bool (by rw [← HH.out]; simp [he]), b1⟩

theorem info3 : (Tryd.prog.info? 3).map (fun i => (i.zero, i.size, i.bytes)) = some (some (.int .i64 0), 1, 8) := by kernel_rfl
theorem row_succ {W : World} {base : Nat} {e : TypeId} {size : Nat} {v : Value} {k : Nat} {xs : List Value} (h : W.ownsRow base e size v (k + 1) xs) : ∃ g cap, v = .slice (some ⟨g, 0, none⟩) (k + 1) cap := by
  rcases h.2 with ⟨_, h0⟩ | ⟨g, cap, cur, e, _⟩
  · omega
  · exact ⟨g, cap, e⟩
theorem row_belows {W W' : World} {base : Nat} {e : TypeId} {size : Nat} {v : Value} {k : Nat} {xs : List Value} (h : W.ownsRow base e size v k xs) (hb : Below W.heap.size W W') : W'.ownsRow base e size v k xs := by
  refine h.kept (row := none) ⟨hb.os, hb.tape, hb.output, hb.size, fun k hk _ => hb.block k hk⟩ ?_
  cases hv : v.ownBlock with
  | none => exact .inl rfl
  | some g => exact .inr (by simp)
/-- The list so far. -/
def LI (w : World) (p : Nat → Bool) (n a : Nat) (v : Value) (x : Int) (b : Bool) (W : World) : Prop := NextIs p (a : Int) x b ∧ a ≤ n ∧ W.ownsRow w.heap.size 3 1 v (lst p a).length (nats (lst p a)) ∧ Below w.heap.size w W
def moreOf : Value → Nat
  | .bool true => 1
  | _ => 0
theorem nats_len (L : List Nat) : (nats L).length = L.length := by simp [nats]
set_option maxRecDepth 100000 in
set_option maxHeartbeats 2000000 in
/-- (*Set).List. -/
theorem list_any {v : Value} (n : Nat) (p : Nat → Bool) (w : World) (h : IsSet w v n p) (hT : Tb w) :
    Calls Tryd.prog 23 #[v] w fun e w' => ∃ v', e = .returned v' ∧ IsV w' v' (nats (lst p n)) ∧ Below w.heap.size w w' := by
  have hn := h.2.1
  have hl := len_any n p w h
  have hcl := cnt_le p n
  obtain ⟨i0, hi, hz0, hz1, hz2⟩ := info_parts info3
  have HS : Hid (∀ u, Below w.heap.size w u → IsSet u v n p) := Lib.hid fun u hu => h.belows hu
  have HT : Hid (∀ u, Below w.heap.size w u → Tb u) := Lib.hid fun u hu => hT.belows hu
  have HSUP := Lib.hid h.1
  obtain ⟨A, rfl⟩ := h.ptr
  clear h hT
  generalize cnt p n = N at *
  go_enter Tryd.func23, Tryd.ntmps23
  go_wp2_with (first | (go_at_call 24; refine hl.mono ?_; rintro e w1 ⟨rfl, rfl⟩) | (at_make; refine wpList_make_own _ rfl _ _ 22 rfl w.heap.size 3 i0 (.int .i64 0) 1 Tryd.underlying22 hi hz0 hz1 .i64 .i64 (N : Int) N rfl rfl rfl (by rw [hz2]; omega) (by simp only [maxLen]; omega) (Nat.le_refl _) ?_; intro w2 hrow hgrow))
  have b2 : Below w.heap.size w w2 := ⟨hgrow.os, hgrow.tape, hgrow.output, hgrow.size, fun k hk => hgrow.block k hk (by simp)⟩
  refine (next_any n p 0 w2 (by omega) (by omega) (HS.out _ b2) (HT.out _ b2)).mono ?_
  rintro e w3 ⟨x, b, rfl, hnx, b3⟩
  have HI0 : Hid (LI w p n 0 (.slice (some ⟨w.heap.size, 0, none⟩) 0 N) x b w3) := Lib.hid ⟨hnx, by omega, row_belows hrow b3, b2.trans (b3.mono b2.size)⟩
  clear hnx hrow hgrow b2 b3
  go_wp2
  go_loopw [3, 4, 5] (fun l i m wr => ∃ (a : Nat) (x : Int) (b : Bool) (g cap : Nat), l = .slice (some ⟨g, 0, none⟩) (lst p a).length cap ∧ i = .int .i64 x ∧ m = .bool b ∧ Hid (LI w p n a l x b wr)) (fun _ i m _ => moreOf m * (n + 1 - (intOf i).toNat))
  case atStart => exact ⟨0, x, b, w.heap.size, N, rfl, rfl, rfl, HI0⟩
  case round =>
    obtain ⟨a, x, b, g, cap, rfl, rfl, rfl, HI⟩ := hrel
    obtain ⟨hnx, ha, hrow, hb⟩ := HI.out
    rcases hnx with ⟨rfl, k, rfl, hp, hak, hgap⟩ | ⟨rfl, rfl, hnone⟩
    · have hkn : k < n := by
        by_cases hk : k < n
        · exact hk
        · have := HSUP.out k (by omega); rw [this] at hp; cases hp
      have HL := Lib.hid (lst_next (p := p) (a := a) (k := k) (by omega) hp fun j h1 h2 => hgap j (by omega) h2)
      have hlen : (lst p a).length ≤ 1024 := by rw [lst_len]; have := cnt_le p a; omega
      clear hgap hp HI
      generalize hQ : lst p a = Q at *
      clear hQ
      go_wp2_with (at_builtin; refine wpList_append_own _ rfl (.tmp 22) (.tmp 24) 22 rfl w.heap.size 3 i0 (.int .i64 0) 1 8 Tryd.underlying22 hi hz0 hz1 hz2 rfl (by decide) _ _ _ rfl (hrow.alloc _) ⟨wr.heap.size, 0, none⟩ 1 1 [.int .i64 (k : Nat)] rfl rfl (cell_one_new _ _ _) (by simp [Value.oneCell']) (by simp only [maxLen]; omega) (by omega) (by have := hb.size; simp; omega) ?_; intro v' w4 hown' hgrow _; obtain ⟨g', cap', rfl⟩ := row_succ hown')
      have b4 : Below w.heap.size w w4 := (hb.alloc hb.size _).grown hgrow (by have := hb.size; simp; omega) (fun k hk => (hrow.lt k hk).1)
      refine (next_any n p ((k : Int) + 1) w4 (by omega) (by omega) (HS.out _ b4) (HT.out _ b4)).mono ?_
      rintro e w5 ⟨y, b, rfl, hny, b5⟩
      have hown5 := row_belows hown' b5
      have HI5 : Hid (LI w p n (k + 1) (.slice (some ⟨g', 0, none⟩) (Q.length + 1) cap') y b w5) := Lib.hid ⟨hny, by omega, by rw [← HL.out]; simpa [nats] using hown5, b4.trans (b5.mono b4.size)⟩
      have HM : Hid (b = true → (k : Int) < y) := Lib.hid fun hbt => by
        rcases hny with ⟨_, k', rfl, _, h1, _⟩ | ⟨h0, _⟩
        · push_cast at h1; omega
        · rw [h0] at hbt; cases hbt
      clear hny hown5 hown' hgrow b5 b4
      go_wp2
      go_roundw
      case rel => exact ⟨k + 1, y, b, g', cap', by rw [← HL.out]; simp, rfl, rfl, HI5⟩
      case measure =>
        cases b with
        | false => simp [intOf, moreOf]; omega
        | true => have := HM.out rfl; simp [intOf, moreOf]; omega
    · have HR : Hid (IsV wr (.slice (some ⟨g, 0, none⟩) (lst p a).length cap) (nats (lst p n))) := Lib.hid (by
        have he := lst_end ha (fun j hj => hnone j (by omega))
        rw [← he]
        have := isV_of_row (cs := nats (lst p a)) (by rw [nats_len]; exact hrow)
        exact this)
      clear hnone hrow HI
      go_wp2
      go_ret
      exact ⟨_, rfl, HR.out, hb⟩
end Go.Proofs.YtkglaoagiifejaaDoor
