/- Contracts of num.Open, num.first and the reader's methods. -/
import Derived.Test.YtnjghodjpbalcaaW2
namespace Go.Proofs.Ytnjghodjpbalcaa
open Go.RowKit

theorem or_byte (a b : Nat) (hb : b < 256) : bits .or .u64 (IntKind.u64.wrap ((a : Int) * 256)) (b : Int) = ((a * 256 % 18446744073709551616 + b : Nat) : Int) := by
  have e : IntKind.u64.wrap ((a : Int) * 256) = ((a * 256 % 18446744073709551616 : Nat) : Int) := by
    rw [IntKind.wrap_u64]
    omega
  rw [e, u64_or_nat _ _ (by omega) (by omega)]
  congr 1
  have h1 : a * 256 % 18446744073709551616 = (a % 72057594037927936) <<< 8 := by rw [Nat.shiftLeft_eq]; omega
  rw [h1, ← Nat.shiftLeft_add_eq_or_of_lt (by simpa using hb)]

/-- What num.first leaves. -/
def FirstOut (l : List UInt8) (w : World) (B : Nat) (e : Ending) (w' : World) : Prop :=
  (∃ k, w' = w.drewN k) ∧
  match num1 l with
  | none => e = .returned (.tuple #[.int .u64 0, .slice none 0 0, .bool false])
  | some (v, n) => ∃ A c, e = .returned (.tuple #[.int .u64 v, .slice A (l.length - n) c, .bool true]) ∧ l.length - n ≤ c ∧ c ≤ maxLen ∧ Rd w B A (l.drop n)
theorem FirstOut.no {l : List UInt8} {w : World} {B : Nat} (h : num1 l = none) (k : Nat) : FirstOut l w B (.returned (.tuple #[.int .u64 0, .slice none 0 0, .bool false])) (w.drewN k) :=
  ⟨⟨k, rfl⟩, by rw [h]⟩
theorem FirstOut.yes {l : List UInt8} {w : World} {B v n : Nat} (h : num1 l = some (v, n)) (k : Nat) (A : Option Addr) (c m : Nat) (V : Int) (hV : V = v) (hm : m = l.length - n) (hc : l.length - n ≤ c) (hc2 : c ≤ maxLen) (hr : Rd w B A (l.drop n)) :
    FirstOut l w B (.returned (.tuple #[.int .u64 V, .slice A m c, .bool true])) (w.drewN k) :=
  ⟨⟨k, rfl⟩, by rw [h]; subst hm hV; exact ⟨A, c, rfl, hc, hc2, hr⟩⟩

set_option maxHeartbeats 400000 in
theorem first_nil (A : Option Addr) (c : Nat) (w : World) (B : Nat) :
    Calls Try.prog 21 #[.slice A 0 c] w (FirstOut [] w B) := by
  go_enter Try.func21, Try.ntmps21
  go_wp2
  go_ret3
  exact FirstOut.no rfl 0

set_option maxHeartbeats 400000 in
theorem first_low (A : Option Addr) (b : UInt8) (r : List UInt8) (c : Nat) (w : World) (B : Nat) (hr : Rd w B A (b :: r)) (hb : b.toNat < 240) (hc : r.length + 1 ≤ c) (hm : c ≤ maxLen) :
    Calls Try.prog 21 #[.slice A (r.length + 1) c] w (FirstOut (b :: r) w B) := by
  have HR := hr.cut (k := 1) (cap := c) (by simp) hc
  obtain ⟨ad, rfl, _, hcell⟩ := hr (by simp)
  have h0 : w.cell? ad = some (.int .u8 b.toNat) := hcell 0 b rfl
  clear hcell hr
  have hm : c ≤ 9223372036854775807 := hm
  have H1 := Lib.hid (num1_low r hb)
  by_cases h1 : c = 1
  · subst h1
    have HR := Lib.hid HR
    go_enter Try.func21, Try.ntmps21
    go_wp2
    go_quiet (fail)
    go_wp2
    go_ret3
    exact FirstOut.yes H1.out nq _ _ _ _ rfl (by simp; omega) (by simpa using hc) (by simp [maxLen]) HR.out
  · rw [if_neg h1] at HR
    have HR := Lib.hid HR
    go_enter Try.func21, Try.ntmps21
    go_wp2
    go_quiet (fail)
    go_wp2
    go_ret3
    exact FirstOut.yes H1.out nq _ _ _ _ rfl (by simp) (by simp; omega) (by simp [maxLen]; omega) HR.out

set_option maxRecDepth 100000 in
set_option maxHeartbeats 400000 in
theorem first_short (A : Option Addr) (b : UInt8) (r : List UInt8) (c : Nat) (w : World) (B : Nat) (hr : Rd w B A (b :: r)) (hb : ¬ b.toNat < 240) (hs : r.length < b.toNat - 239) (hc : r.length + 1 ≤ c) (hm : c ≤ maxLen) :
    Calls Try.prog 21 #[.slice A (r.length + 1) c] w (FirstOut (b :: r) w B) := by
  obtain ⟨ad, rfl, _, hcell⟩ := hr (by simp)
  have h0 : w.cell? ad = some (.int .u8 b.toNat) := hcell 0 b rfl
  clear hcell hr
  have hm : c ≤ 9223372036854775807 := hm
  have H1 := Lib.hid (num1_short r hb hs)
  have hb8 : b.toNat < 256 := b.toNat_lt
  go_enter Try.func21, Try.ntmps21
  go_wp2
  go_ret3
  exact FirstOut.no H1.out 0

set_option maxRecDepth 100000 in
set_option maxHeartbeats 1000000 in
theorem first_high (A : Option Addr) (b : UInt8) (r : List UInt8) (c : Nat) (w : World) (B : Nat) (hr : Rd w B A (b :: r)) (hb : ¬ b.toNat < 240) (hs : ¬ r.length < b.toNat - 239) (hc : r.length + 1 ≤ c) (hm : c ≤ maxLen) :
    Calls Try.prog 21 #[.slice A (r.length + 1) c] w (FirstOut (b :: r) w B) := by
  have hr' := Lib.hid hr
  obtain ⟨ad, rfl, _, hcell⟩ := hr (by simp)
  have h0 : w.cell? ad = some (.int .u8 b.toNat) := hcell 0 b rfl
  have HC := Lib.hid hcell
  clear hcell hr
  have hm : c ≤ 9223372036854775807 := hm
  have hb8 : b.toNat < 256 := b.toNat_lt
  go_enter Try.func21, Try.ntmps21
  go_wp2
  go_loop [6, 31] (fun v i => ∃ k : Nat, k ≤ b.toNat - 239 ∧ i = .int .i64 (k : Nat) ∧ v = .int .u64 (vm (r.take k))) (fun _ i => b.toNat - 239 - (intOf i).toNat)
  case atStart => exact ⟨0, Nat.zero_le _, rfl, rfl⟩
  case round =>
    obtain ⟨k, hk, rfl, rfl⟩ := hrel
    have hv := vm_lt (r.take k)
    by_cases hlt : k < b.toNat - 239
    · have hkr : k < r.length := by omega
      have hck : w.cell? (ad.add (1 + k)) = some (.int .u8 r[k].toNat) := HC.out (1 + k) r[k] (by rw [Nat.add_comm]; simp)
      have hcb : r[k].toNat < 256 := r[k].toNat_lt
      go_wp2
      go_round
      case rel => 
        refine ⟨k + 1, by omega, by go_num, ?_⟩
        rw [or_byte _ _ hcb, List.take_succ_eq_append_getElem hkr, vm_snoc]
      case measure => simp [intOf]; omega
    · have hk : k = b.toNat - 239 := by omega
      subst hk
      by_cases h1 : vm (r.take (b.toNat - 239)) < 240
      · have H1 := Lib.hid (num1_bad r hb hs (.inl h1))
        go_wp2
        go_ret3
        exact FirstOut.no H1.out 0
      · by_cases h2 : bw (vm (r.take (b.toNat - 239))) < b.toNat - 239
        · have H1 := Lib.hid (num1_bad r hb hs (.inr h2))
          go_wp2_with (go_at_call 20; refine (width_any _ _ (by omega) (by omega)).mono ?_; rintro e w' ⟨rfl, rfl⟩)
          go_ret3
          exact FirstOut.no H1.out 0
        · have H1 := Lib.hid (num1_high r hb hs (by omega))
          go_wp2_with (go_at_call 20; refine (width_any _ _ (by omega) (by omega)).mono ?_; rintro e w' ⟨rfl, rfl⟩)
          have HR := hr'.out.cut (k := b.toNat - 239 + 1) (cap := c) (by simp; omega) hc
          by_cases h3 : c = b.toNat - 239 + 1
          · rw [if_pos h3] at HR
            have HR := Lib.hid HR
            have e3 : (c : Int) = 1 + (b.toNat - 239) := by omega
            go_quiet (fail)
            go_wp2
            go_ret3
            exact FirstOut.yes H1.out nq _ _ _ _ rfl (by simp; omega) (by simp; omega) (by simp [maxLen]; omega) HR.out
          · rw [if_neg h3] at HR
            have HR := Lib.hid HR
            go_quiet (fail)
            go_wp2
            go_ret3
            exact FirstOut.yes H1.out nq _ _ _ _ rfl (by simp; omega) (by simp; omega) (by simp [maxLen]; omega) (by rw [Nat.add_comm 1]; exact HR.out)

theorem first_any (A : Option Addr) (l : List UInt8) (n c : Nat) (w : World) (B : Nat) (hn : n = l.length) (hr : Rd w B A l) (hc : l.length ≤ c) (hm : c ≤ maxLen) :
    Calls Try.prog 21 #[.slice A n c] w (FirstOut l w B) := by
  subst hn
  match l, hr, hc with
  | [], _, _ => exact first_nil A c w B
  | b :: r, hr, hc =>
    by_cases h1 : b.toNat < 240
    · exact first_low A b r c w B hr h1 hc hm
    · by_cases h2 : r.length < b.toNat - 239
      · exact first_short A b r c w B hr h1 h2 hc hm
      · exact first_high A b r c w B hr h1 h2 hc hm
end Go.Proofs.Ytnjghodjpbalcaa
