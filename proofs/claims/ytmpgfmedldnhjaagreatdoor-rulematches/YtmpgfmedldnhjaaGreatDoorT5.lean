/- Contracts: prefix.ofBytes, prefix.ParseAddr. -/
import Derived.Test.YtmpgfmedldnhjaaGreatDoorT4
namespace Go.Proofs.YtmpgfmedldnhjaaGreatDoor
open Go.RowKit

/-- The address of four bytes. -/
def four (b0 b1 b2 b3 : Nat) : Nat := 256 * (256 * (256 * b0 + b1) + b2) + b3
theorem or_add (x k y : Nat) (h : y < 2 ^ k) : (x * 2 ^ k) ||| y = x * 2 ^ k + y := by
  rw [Nat.mul_comm]; exact (Nat.two_pow_add_eq_or_of_lt h x).symm
theorem four_bits (b0 b1 b2 b3 : Nat) (h0 : b0 ≤ 255) (h1 : b1 ≤ 255) (h2 : b2 ≤ 255) (h3 : b3 ≤ 255) :
    bits BinOp.or IntKind.u32 (bits BinOp.or IntKind.u32 (bits BinOp.or IntKind.u32 ((b0 : Int) * 16777216) ((b1 : Int) * 65536)) ((b2 : Int) * 256)) (b3 : Int) = ((four b0 b1 b2 b3 : Nat) : Int) := by
  have e0 : ((b0 : Int) * 16777216) = ((b0 * 16777216 : Nat) : Int) := by omega
  have e1 : ((b1 : Int) * 65536) = ((b1 * 65536 : Nat) : Int) := by omega
  have e2 : ((b2 : Int) * 256) = ((b2 * 256 : Nat) : Int) := by omega
  have f1 : b0 * 16777216 ||| b1 * 65536 = b0 * 16777216 + b1 * 65536 := or_add b0 24 (b1 * 65536) (by omega)
  have f2 : (b0 * 16777216 + b1 * 65536) ||| b2 * 256 = b0 * 16777216 + b1 * 65536 + b2 * 256 := by
    have := or_add (b0 * 256 + b1) 16 (b2 * 256) (by omega)
    rw [show (b0 * 256 + b1) * 2 ^ 16 = b0 * 16777216 + b1 * 65536 by omega] at this
    exact this
  have f3 : (b0 * 16777216 + b1 * 65536 + b2 * 256) ||| b3 = b0 * 16777216 + b1 * 65536 + b2 * 256 + b3 := by
    have := or_add (b0 * 65536 + b1 * 256 + b2) 8 b3 (by omega)
    rw [show (b0 * 65536 + b1 * 256 + b2) * 2 ^ 8 = b0 * 16777216 + b1 * 65536 + b2 * 256 by omega] at this
    exact this
  rw [e0, e1, e2, bits_or_u32_nat _ _ (by omega) (by omega), f1, bits_or_u32_nat _ _ (by omega) (by omega), f2, bits_or_u32_nat _ _ (by omega) (by omega), f3]
  unfold four; omega
set_option maxHeartbeats 1000000 in
theorem ofBytes_any (b0 b1 b2 b3 : Nat) (w : World) (h0 : b0 ≤ 255) (h1 : b1 ≤ 255) (h2 : b2 ≤ 255) (h3 : b3 ≤ 255) :
    Calls Tryz.prog 85 #[.agg #[.int .u8 b0, .int .u8 b1, .int .u8 b2, .int .u8 b3]] w fun e w' => e = .returned (.int .u32 (four b0 b1 b2 b3 : Nat)) ∧ Below w.heap.size w w' := by
  go_enter Tryz.func85, Tryz.ntmps85
  go_wp2
  go_ret
  exact ⟨ret_int (four_bits b0 b1 b2 b3 h0 h1 h2 h3), (Below.refl _ _).alloc (Nat.le_refl _) _⟩

theorem figs_none {most : Nat} {l : List UInt8} (s : ByteArray) (w : World) (hs : s.data.toList = l) (hm : most ≤ 255) (hz : s.size ≤ 1000) (h : numOf l most = none) : Calls Tryz.prog 84 #[.string s, .int .i64 most] w fun e w' => e = .returned (.tuple #[.int .i64 0, .bool false]) ∧ w = w' := by
  subst hs
  have := figures_any most s w hm hz
  rwa [figV_none h] at this
theorem figs_some {most n : Nat} {l : List UInt8} (s : ByteArray) (w : World) (hs : s.data.toList = l) (hm : most ≤ 255) (hz : s.size ≤ 1000) (h : numOf l most = some n) : Calls Tryz.prog 84 #[.string s, .int .i64 most] w fun e w' => e = .returned (.tuple #[.int .i64 n, .bool true]) ∧ w = w' := by
  subst hs
  have := figures_any most s w hm hz
  rwa [figV_some h] at this

/-- What ParseAddr answers. -/
def paV (l : List UInt8) : Value := match addrOf l with
  | some a => .tuple #[.int .u32 a, .int .i64 0]
  | none => .tuple #[.int .u32 0, .int .i64 21]
theorem paV_none {l : List UInt8} (h : addrOf l = none) : paV l = .tuple #[.int .u32 0, .int .i64 21] := by unfold paV; rw [h]
theorem paV_some {l : List UInt8} {a : Nat} (h : addrOf l = some a) : paV l = .tuple #[.int .u32 a, .int .i64 0] := by unfold paV; rw [h]
theorem pa_num {l p : List UInt8} {pre rest : List (List UInt8)} (h : partsL 46 l = pre ++ p :: rest) (hn : numOf p 255 = none) : addrOf l = none := by
  unfold addrOf
  rw [if_neg]
  rintro ⟨_, h2⟩
  have := h2 p (by rw [h]; simp)
  rw [hn] at this; cases this
theorem pa_len {l : List UInt8} (h : (partsL 46 l).length ≠ 4) : addrOf l = none := by
  unfold addrOf
  rw [if_neg (fun h' => h h'.1)]
theorem pa_four {l : List UInt8} {b0 b1 b2 b3 : Nat} (h : partsL 46 l = [Lib.decDigits b0, Lib.decDigits b1, Lib.decDigits b2, Lib.decDigits b3]) (h0 : b0 ≤ 255) (h1 : b1 ≤ 255) (h2 : b2 ≤ 255) (h3 : b3 ≤ 255) : addrOf l = some (four b0 b1 b2 b3) := by
  unfold addrOf
  rw [h, if_pos ⟨rfl, by simp [numOf_dd, h0, h1, h2, h3]⟩]
  simp [addrV, numOf_dd, h0, h1, h2, h3, four]
theorem plen (c : UInt8) (l : List UInt8) : 1 ≤ (partsL c l).length := by
  cases h : partsL c l with
  | nil => exact absurd h (parts_ne c l)
  | cons a b => simp

/-- What has been read of an address's text behind k rounds. -/
def PI (l : List UInt8) (S : ByteArray) (b0 b1 b2 b3 : Nat) : Nat → Prop
  | 0 => partsL 46 l = partsL 46 S.data.toList
  | 1 => partsL 46 l = Lib.decDigits b0 :: partsL 46 S.data.toList
  | 2 => partsL 46 l = Lib.decDigits b0 :: Lib.decDigits b1 :: partsL 46 S.data.toList
  | 3 => partsL 46 l = Lib.decDigits b0 :: Lib.decDigits b1 :: Lib.decDigits b2 :: partsL 46 S.data.toList
  | _ => partsL 46 l = [Lib.decDigits b0, Lib.decDigits b1, Lib.decDigits b2, Lib.decDigits b3]
def PA (l : List UInt8) (w : World) (k : Nat) (S : ByteArray) (wr : World) : Prop := ∃ b0 b1 b2 b3 : Nat, b0 ≤ 255 ∧ b1 ≤ 255 ∧ b2 ≤ 255 ∧ b3 ≤ 255 ∧ At wr w.heap.size #[.int .u8 b0, .int .u8 b1, .int .u8 b2, .int .u8 b3] 90 ∧ Below w.heap.size w wr ∧ S.size ≤ 1000 ∧ PI l S b0 b1 b2 b3 k

set_option maxRecDepth 100000 in
set_option maxHeartbeats 4000000 in
/-- prefix.ParseAddr. -/
theorem parseAddr_any (s : ByteArray) (w : World) (hz : s.size ≤ 1000) : Calls Tryz.prog 67 #[.string s] w fun e w' => e = .returned (paV s.data.toList) ∧ Below w.heap.size w w' := by
  obtain ⟨l, hl⟩ : ∃ l, s.data.toList = l := ⟨_, rfl⟩
  obtain ⟨V, hV⟩ : ∃ V, paV l = V := ⟨_, rfl⟩
  rw [hl, hV]
  have HL := Lib.hid hl
  have HV := Lib.hid hV
  clear hl hV
  go_enter Tryz.func67, Tryz.ntmps67
  go_wp2
  go_loopw [0, 11] (fun s i wr => ∃ (k : Nat) (S : ByteArray), i = .int .i64 k ∧ s = .string S ∧ k ≤ 4 ∧ PA l w k S wr) (fun _ i _ => 4 - (intOf i).toNat)
  case atStart => exact ⟨0, s, rfl, rfl, by omega, 0, 0, 0, 0, by omega, by omega, by omega, by omega, At.new w _ _, (Below.refl _ _).alloc (Nat.le_refl _) _, hz, by show _ = _; rw [HL.out]⟩
  case round =>
    obtain ⟨k, S, rfl, rfl, hk, b0, b1, b2, b3, l0, l1, l2, l3, hat, bel, hsz, hpi⟩ := hrel
    have HAT := Lib.hid hat
    have HPI := Lib.hid hpi
    have hws := hat.lt
    clear hat hpi
    have : k = 0 ∨ k = 1 ∨ k = 2 ∨ k = 3 ∨ k = 4 := by omega
    rcases this with rfl | rfl | rfl | rfl | rfl
    · rcases split_at 46 S.data.toList with hno | ⟨p, q, hs, hp⟩
      · have HP := Lib.hid (parts_none hno)
        have hcut := cut_no S 46 wr hno
        clear hno
        cases hnum : numOf S.data.toList 255 with
        | none =>
          have HN := Lib.hid hnum
          clear hnum
          go_wp2_with (first | (go_at_call 65; refine hcut.mono ?_; rintro e w1 ⟨rfl, bel1⟩) | (go_at_call 84; refine (figs_none (most := 255) S _ rfl (by omega) hsz HN.out).mono ?_; rintro e w2 ⟨rfl, rfl⟩))
          go_ret2
          exact ⟨by rw [← HV.out, paV_none (pa_num (pre := []) (rest := []) (by rw [show _ = _ from HPI.out, HP.out]; rfl) HN.out)]; rfl, bel.trans (bel1.mono bel.size)⟩
        | some n =>
          have hn := (numOf_some hnum).2
          have HN := Lib.hid hnum
          clear hnum
          go_wp2_with (first | (go_at_call 65; refine hcut.mono ?_; rintro e w1 ⟨rfl, bel1⟩) | (go_at_call 84; refine (figs_some (most := 255) S _ rfl (by omega) hsz HN.out).mono ?_; rintro e w2 ⟨rfl, rfl⟩))
          go_ret2
          exact ⟨by rw [← HV.out, paV_none (pa_len (by rw [show _ = _ from HPI.out, HP.out]; simp))]; rfl, bel.trans (bel1.mono bel.size)⟩
      · have hq : q.length ≤ 1000 := by have h := congrArg List.length hs; rw [← str_size] at h; simp at h; omega
        have hp1 : p.length ≤ 1000 := by have h := congrArg List.length hs; rw [← str_size] at h; simp at h; omega
        have HP := Lib.hid (show partsL 46 S.data.toList = p :: partsL 46 q by rw [hs]; exact parts_cut q hp)
        have hcut := cut_yes S 46 wr p q hs hp hsz
        clear hs hp
        cases hnum : numOf p 255 with
        | none =>
          have HN := Lib.hid hnum
          clear hnum
          go_wp2_with (first | (go_at_call 65; refine hcut.mono ?_; rintro e w1 ⟨rfl, bel1⟩) | (go_at_call 84; refine (figs_none (most := 255) ⟨p.toArray⟩ _ rfl (by omega) (by rw [str_len]; exact hp1) HN.out).mono ?_; rintro e w2 ⟨rfl, rfl⟩))
          go_ret2
          exact ⟨by rw [← HV.out, paV_none (pa_num (pre := []) (by rw [show _ = _ from HPI.out, HP.out]; rfl) HN.out)]; rfl, bel.trans (bel1.mono bel.size)⟩
        | some n =>
          have hn := (numOf_some hnum).2
          have HN := Lib.hid hnum
          clear hnum
          go_wp2_with (first | (go_at_call 65; refine hcut.mono ?_; rintro e w1 ⟨rfl, bel1⟩; have hst : w1.cell? ⟨w.heap.size, 0, none⟩ = some (.int .u8 b0) := (((HAT.out.belows bel1).cell 0).trans rfl); have hfz := (HAT.out.belows bel1).frozen 0) | (go_at_call 84; refine (figs_some (most := 255) ⟨p.toArray⟩ _ rfl (by omega) (by rw [str_len]; exact hp1) HN.out).mono ?_; rintro e w2 ⟨rfl, rfl⟩))
          refine ⟨⟨0+1, ⟨q.toArray⟩, rfl, rfl, by omega, n, b1, b2, b3, hn, l1, l2, l3, (HAT.out.belows bel1).set0 0 (.int .u8 n), (bel.trans (bel1.mono bel.size)).setCell (by simp) _, by rw [str_len]; exact hq, by show _ = _; rw [show _ = _ from HPI.out, HP.out, (numOf_some HN.out).1]⟩, by simp [intOf]⟩
    · rcases split_at 46 S.data.toList with hno | ⟨p, q, hs, hp⟩
      · have HP := Lib.hid (parts_none hno)
        have hcut := cut_no S 46 wr hno
        clear hno
        cases hnum : numOf S.data.toList 255 with
        | none =>
          have HN := Lib.hid hnum
          clear hnum
          go_wp2_with (first | (go_at_call 65; refine hcut.mono ?_; rintro e w1 ⟨rfl, bel1⟩) | (go_at_call 84; refine (figs_none (most := 255) S _ rfl (by omega) hsz HN.out).mono ?_; rintro e w2 ⟨rfl, rfl⟩))
          go_ret2
          exact ⟨by rw [← HV.out, paV_none (pa_num (pre := [Lib.decDigits b0]) (rest := []) (by rw [show _ = _ from HPI.out, HP.out]; rfl) HN.out)]; rfl, bel.trans (bel1.mono bel.size)⟩
        | some n =>
          have hn := (numOf_some hnum).2
          have HN := Lib.hid hnum
          clear hnum
          go_wp2_with (first | (go_at_call 65; refine hcut.mono ?_; rintro e w1 ⟨rfl, bel1⟩) | (go_at_call 84; refine (figs_some (most := 255) S _ rfl (by omega) hsz HN.out).mono ?_; rintro e w2 ⟨rfl, rfl⟩))
          go_ret2
          exact ⟨by rw [← HV.out, paV_none (pa_len (by rw [show _ = _ from HPI.out, HP.out]; simp))]; rfl, bel.trans (bel1.mono bel.size)⟩
      · have hq : q.length ≤ 1000 := by have h := congrArg List.length hs; rw [← str_size] at h; simp at h; omega
        have hp1 : p.length ≤ 1000 := by have h := congrArg List.length hs; rw [← str_size] at h; simp at h; omega
        have HP := Lib.hid (show partsL 46 S.data.toList = p :: partsL 46 q by rw [hs]; exact parts_cut q hp)
        have hcut := cut_yes S 46 wr p q hs hp hsz
        clear hs hp
        cases hnum : numOf p 255 with
        | none =>
          have HN := Lib.hid hnum
          clear hnum
          go_wp2_with (first | (go_at_call 65; refine hcut.mono ?_; rintro e w1 ⟨rfl, bel1⟩) | (go_at_call 84; refine (figs_none (most := 255) ⟨p.toArray⟩ _ rfl (by omega) (by rw [str_len]; exact hp1) HN.out).mono ?_; rintro e w2 ⟨rfl, rfl⟩))
          go_ret2
          exact ⟨by rw [← HV.out, paV_none (pa_num (pre := [Lib.decDigits b0]) (by rw [show _ = _ from HPI.out, HP.out]; rfl) HN.out)]; rfl, bel.trans (bel1.mono bel.size)⟩
        | some n =>
          have hn := (numOf_some hnum).2
          have HN := Lib.hid hnum
          clear hnum
          go_wp2_with (first | (go_at_call 65; refine hcut.mono ?_; rintro e w1 ⟨rfl, bel1⟩; have hst : w1.cell? ⟨w.heap.size, 1, none⟩ = some (.int .u8 b1) := (((HAT.out.belows bel1).cell 1).trans rfl); have hfz := (HAT.out.belows bel1).frozen 1) | (go_at_call 84; refine (figs_some (most := 255) ⟨p.toArray⟩ _ rfl (by omega) (by rw [str_len]; exact hp1) HN.out).mono ?_; rintro e w2 ⟨rfl, rfl⟩))
          refine ⟨⟨1+1, ⟨q.toArray⟩, rfl, rfl, by omega, b0, n, b2, b3, l0, hn, l2, l3, (HAT.out.belows bel1).set0 1 (.int .u8 n), (bel.trans (bel1.mono bel.size)).setCell (by simp) _, by rw [str_len]; exact hq, by show _ = _; rw [show _ = _ from HPI.out, HP.out, (numOf_some HN.out).1]⟩, by simp [intOf]⟩
    · rcases split_at 46 S.data.toList with hno | ⟨p, q, hs, hp⟩
      · have HP := Lib.hid (parts_none hno)
        have hcut := cut_no S 46 wr hno
        clear hno
        cases hnum : numOf S.data.toList 255 with
        | none =>
          have HN := Lib.hid hnum
          clear hnum
          go_wp2_with (first | (go_at_call 65; refine hcut.mono ?_; rintro e w1 ⟨rfl, bel1⟩) | (go_at_call 84; refine (figs_none (most := 255) S _ rfl (by omega) hsz HN.out).mono ?_; rintro e w2 ⟨rfl, rfl⟩))
          go_ret2
          exact ⟨by rw [← HV.out, paV_none (pa_num (pre := [Lib.decDigits b0, Lib.decDigits b1]) (rest := []) (by rw [show _ = _ from HPI.out, HP.out]; rfl) HN.out)]; rfl, bel.trans (bel1.mono bel.size)⟩
        | some n =>
          have hn := (numOf_some hnum).2
          have HN := Lib.hid hnum
          clear hnum
          go_wp2_with (first | (go_at_call 65; refine hcut.mono ?_; rintro e w1 ⟨rfl, bel1⟩) | (go_at_call 84; refine (figs_some (most := 255) S _ rfl (by omega) hsz HN.out).mono ?_; rintro e w2 ⟨rfl, rfl⟩))
          go_ret2
          exact ⟨by rw [← HV.out, paV_none (pa_len (by rw [show _ = _ from HPI.out, HP.out]; simp))]; rfl, bel.trans (bel1.mono bel.size)⟩
      · have hq : q.length ≤ 1000 := by have h := congrArg List.length hs; rw [← str_size] at h; simp at h; omega
        have hp1 : p.length ≤ 1000 := by have h := congrArg List.length hs; rw [← str_size] at h; simp at h; omega
        have HP := Lib.hid (show partsL 46 S.data.toList = p :: partsL 46 q by rw [hs]; exact parts_cut q hp)
        have hcut := cut_yes S 46 wr p q hs hp hsz
        clear hs hp
        cases hnum : numOf p 255 with
        | none =>
          have HN := Lib.hid hnum
          clear hnum
          go_wp2_with (first | (go_at_call 65; refine hcut.mono ?_; rintro e w1 ⟨rfl, bel1⟩) | (go_at_call 84; refine (figs_none (most := 255) ⟨p.toArray⟩ _ rfl (by omega) (by rw [str_len]; exact hp1) HN.out).mono ?_; rintro e w2 ⟨rfl, rfl⟩))
          go_ret2
          exact ⟨by rw [← HV.out, paV_none (pa_num (pre := [Lib.decDigits b0, Lib.decDigits b1]) (by rw [show _ = _ from HPI.out, HP.out]; rfl) HN.out)]; rfl, bel.trans (bel1.mono bel.size)⟩
        | some n =>
          have hn := (numOf_some hnum).2
          have HN := Lib.hid hnum
          clear hnum
          go_wp2_with (first | (go_at_call 65; refine hcut.mono ?_; rintro e w1 ⟨rfl, bel1⟩; have hst : w1.cell? ⟨w.heap.size, 2, none⟩ = some (.int .u8 b2) := (((HAT.out.belows bel1).cell 2).trans rfl); have hfz := (HAT.out.belows bel1).frozen 2) | (go_at_call 84; refine (figs_some (most := 255) ⟨p.toArray⟩ _ rfl (by omega) (by rw [str_len]; exact hp1) HN.out).mono ?_; rintro e w2 ⟨rfl, rfl⟩))
          refine ⟨⟨2+1, ⟨q.toArray⟩, rfl, rfl, by omega, b0, b1, n, b3, l0, l1, hn, l3, (HAT.out.belows bel1).set0 2 (.int .u8 n), (bel.trans (bel1.mono bel.size)).setCell (by simp) _, by rw [str_len]; exact hq, by show _ = _; rw [show _ = _ from HPI.out, HP.out, (numOf_some HN.out).1]⟩, by simp [intOf]⟩
    · rcases split_at 46 S.data.toList with hno | ⟨p, q, hs, hp⟩
      · have HP := Lib.hid (parts_none hno)
        have hcut := cut_no S 46 wr hno
        clear hno
        cases hnum : numOf S.data.toList 255 with
        | none =>
          have HN := Lib.hid hnum
          clear hnum
          go_wp2_with (first | (go_at_call 65; refine hcut.mono ?_; rintro e w1 ⟨rfl, bel1⟩) | (go_at_call 84; refine (figs_none (most := 255) S _ rfl (by omega) hsz HN.out).mono ?_; rintro e w2 ⟨rfl, rfl⟩))
          go_ret2
          exact ⟨by rw [← HV.out, paV_none (pa_num (pre := [Lib.decDigits b0, Lib.decDigits b1, Lib.decDigits b2]) (rest := []) (by rw [show _ = _ from HPI.out, HP.out]; rfl) HN.out)]; rfl, bel.trans (bel1.mono bel.size)⟩
        | some n =>
          have hn := (numOf_some hnum).2
          have HN := Lib.hid hnum
          clear hnum
          go_wp2_with (first | (go_at_call 65; refine hcut.mono ?_; rintro e w1 ⟨rfl, bel1⟩; have hst : w1.cell? ⟨w.heap.size, 3, none⟩ = some (.int .u8 b3) := (((HAT.out.belows bel1).cell 3).trans rfl); have hfz := (HAT.out.belows bel1).frozen 3) | (go_at_call 84; refine (figs_some (most := 255) S _ rfl (by omega) hsz HN.out).mono ?_; rintro e w2 ⟨rfl, rfl⟩))
          refine ⟨⟨3+1, ⟨#[]⟩, rfl, rfl, by omega, b0, b1, b2, n, l0, l1, l2, hn, (HAT.out.belows bel1).set0 3 (.int .u8 n), (bel.trans (bel1.mono bel.size)).setCell (by simp) _, by decide, by show _ = _; rw [show _ = _ from HPI.out, HP.out, (numOf_some HN.out).1]⟩, by simp [intOf]⟩
      · have hq : q.length ≤ 1000 := by have h := congrArg List.length hs; rw [← str_size] at h; simp at h; omega
        have hp1 : p.length ≤ 1000 := by have h := congrArg List.length hs; rw [← str_size] at h; simp at h; omega
        have HP := Lib.hid (show partsL 46 S.data.toList = p :: partsL 46 q by rw [hs]; exact parts_cut q hp)
        have hcut := cut_yes S 46 wr p q hs hp hsz
        clear hs hp
        cases hnum : numOf p 255 with
        | none =>
          have HN := Lib.hid hnum
          clear hnum
          go_wp2_with (first | (go_at_call 65; refine hcut.mono ?_; rintro e w1 ⟨rfl, bel1⟩) | (go_at_call 84; refine (figs_none (most := 255) ⟨p.toArray⟩ _ rfl (by omega) (by rw [str_len]; exact hp1) HN.out).mono ?_; rintro e w2 ⟨rfl, rfl⟩))
          go_ret2
          exact ⟨by rw [← HV.out, paV_none (pa_num (pre := [Lib.decDigits b0, Lib.decDigits b1, Lib.decDigits b2]) (by rw [show _ = _ from HPI.out, HP.out]; rfl) HN.out)]; rfl, bel.trans (bel1.mono bel.size)⟩
        | some n =>
          have hn := (numOf_some hnum).2
          have HN := Lib.hid hnum
          clear hnum
          go_wp2_with (first | (go_at_call 65; refine hcut.mono ?_; rintro e w1 ⟨rfl, bel1⟩) | (go_at_call 84; refine (figs_some (most := 255) ⟨p.toArray⟩ _ rfl (by omega) (by rw [str_len]; exact hp1) HN.out).mono ?_; rintro e w2 ⟨rfl, rfl⟩))
          go_ret2
          exact ⟨by rw [← HV.out, paV_none (pa_len (by have := plen 46 q; rw [show _ = _ from HPI.out, HP.out]; simp only [List.length_cons]; omega))]; rfl, bel.trans (bel1.mono bel.size)⟩
    · have c0 : wr.cell? ⟨w.heap.size, 0, none⟩ = some (.int .u8 b0) := (HAT.out.cell 0).trans rfl
      have c1 : wr.cell? ⟨w.heap.size, 1, none⟩ = some (.int .u8 b1) := (HAT.out.cell 1).trans rfl
      have c2 : wr.cell? ⟨w.heap.size, 2, none⟩ = some (.int .u8 b2) := (HAT.out.cell 2).trans rfl
      have c3 : wr.cell? ⟨w.heap.size, 3, none⟩ = some (.int .u8 b3) := (HAT.out.cell 3).trans rfl
      go_wp2_with (go_at_call 85; refine (ofBytes_any b0 b1 b2 b3 _ l0 l1 l2 l3).mono ?_; rintro e w1 ⟨rfl, bel1⟩)
      go_ret2
      exact ⟨by rw [← HV.out, paV_some (pa_four HPI.out l0 l1 l2 l3)]; rfl, bel.trans (bel1.mono bel.size)⟩
end Go.Proofs.YtmpgfmedldnhjaaGreatDoor
