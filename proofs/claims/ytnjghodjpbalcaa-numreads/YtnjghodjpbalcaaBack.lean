/- NumBack's walk. -/
import Derived.Test.YtnjghodjpbalcaaFew
import Derived.Test.YtnjghodjpbalcaaActs
import Derived.Test.YtnjghodjpbalcaaSeg
import Derived.Test.YtnjghodjpbalcaaBackPlain
namespace Go.Proofs.Ytnjghodjpbalcaa
open Go.RowKit

/-- The bytes of one act, and of acts. -/
def pack1 (a : ActV) : List UInt8 := if a.s.size ≤ 400 then enc a.n ++ encT a.s.data.toList else []
def pack (l : List ActV) : List UInt8 := l.flatMap pack1
theorem pack_take (l : List ActV) (k : Nat) (x : ActV) (h : l[k]? = some x) : pack (l.take (k + 1)) = pack (l.take k) ++ pack1 x := by
  have hk : k < l.length := (List.getElem?_eq_some_iff.1 h).1
  rw [List.take_succ_eq_append_getElem hk]
  have : l[k] = x := (List.getElem?_eq_some_iff.1 h).2
  simp [pack, this]

theorem pack_drop (l : List ActV) (K j : Nat) (x : ActV) (h : l[j]? = some x) (hj : j < K) : pack ((l.take K).drop j) = pack1 x ++ pack ((l.take K).drop (j + 1)) := by
  have h1 : (l.take K)[j]? = some x := by rw [List.getElem?_take, if_pos hj]; exact h
  obtain ⟨h2, h3⟩ := List.getElem?_eq_some_iff.1 h1
  rw [List.drop_eq_getElem_cons h2, h3]
  simp [pack]
theorem pack_end (l : List ActV) (K : Nat) : pack ((l.take K).drop K) = [] := by
  rw [List.drop_of_length_le (by simp; omega)]
  rfl

/-- The first loop's relation. -/
def Rel1 (l : List ActV) (w : World) (v i : Value) (wr : World) : Prop :=
  ∃ k A5 c5 L5, i = .int .i64 ((k : Nat) : Int) ∧ k ≤ 60 ∧ k ≤ l.length ∧ v = .slice A5 (L5 : List UInt8).length c5 ∧ L5.length ≤ k * 1000 ∧ Hid (L5 = pack (l.take k)) ∧ L5.length ≤ c5 ∧ Rd wr wr.heap.size A5 L5 ∧ Below w.heap.size w wr

/-- The second loop's relation: what is left to be read. -/
def Rel2 (l : List ActV) (w : World) (g K : Nat) (i : Value) (wr : World) : Prop :=
  ∃ k R, i = .int .i64 ((k : Nat) : Int) ∧ k ≤ K ∧ Hid (R = pack ((l.take K).drop k)) ∧ R.length ≤ 100000 ∧ Rdr wr w.heap.size g R ∧ Below w.heap.size w wr

theorem number_back {g base n : Nat} {R' : List UInt8} {w : World} (hr : Rdr w base g (enc n ++ R')) (hn : n < 18446744073709551616) :
    Calls Try.prog 15 #[.pointer (some ⟨g, 0, none⟩), .int .u64 n] w fun e w' => e = .returned (.tuple #[.int .u64 n, .int .i64 0]) ∧ Rdr w' base g R' ∧ w.grownBy w' (some g) ∧ w'.heap.size = w.heap.size := by
  refine (number_any _ n base g w hr hn).mono ?_
  rintro e w' ⟨h1, h2, h3⟩
  rw [numAt_yes (num1_enc n R' hn) (Nat.le_refl _)] at h3
  exact ⟨h3.1, by have := h3.2; rwa [List.drop_left] at this, h1, h2⟩
theorem text_back {g base : Nat} {s : ByteArray} {R' : List UInt8} {w : World} (hr : Rdr w base g (encT s.data.toList ++ R')) (hs : s.size ≤ 400) (hR : R'.length ≤ 100000) :
    Calls Try.prog 17 #[.pointer (some ⟨g, 0, none⟩), .int .i64 s.size] w fun e w' => e = .returned (.tuple #[.string s, .int .i64 0]) ∧ Rdr w' base g R' ∧ w.grownBy w' (some g) ∧ w'.heap.size = w.heap.size := by
  have hlen : s.data.toList.length = s.size := by simp
  have he := enc_len s.size (by omega)
  have hl : (encT s.data.toList ++ R').length = (enc s.size).length + s.size + R'.length := by simp [encT]; omega
  refine (rtext_any _ s.size base g w hr (by omega) (by omega) (by rw [hl]; omega)).mono ?_
  rintro e w' ⟨h1, h2, h3⟩
  have e1 : num1 (encT s.data.toList ++ R') = some (s.size, (enc s.size).length) := by
    unfold encT
    rw [hlen, List.append_assoc, num1_enc _ _ (by omega)]
  rw [textAt_yes e1 ⟨by omega, by omega, by rw [hl]; omega⟩] at h3
  have e2 : (encT s.data.toList ++ R').drop (enc s.size).length = s.data.toList ++ R' := by
    unfold encT
    rw [hlen, List.append_assoc, List.drop_left]
  have e3 : (encT s.data.toList ++ R').drop ((enc s.size).length + s.size) = R' := by
    rw [← List.drop_drop, e2, ← hlen, List.drop_left]
  dsimp only at h3
  rw [e2, e3] at h3
  have e4 : (⟨((s.data.toList ++ R').take s.size).toArray⟩ : ByteArray) = s := by
    rw [← hlen, List.take_left]
  rw [e4] at h3
  exact ⟨h3.1, h3.2, h1, h2⟩

theorem number_none {g base : Nat} {b : List UInt8} {w : World} (hr : Rdr w base g b) (h : num1 b = none) :
    Calls Try.prog 15 #[.pointer (some ⟨g, 0, none⟩), .int .u64 18446744073709551615] w fun e w' => e = .returned (.tuple #[.int .u64 0, .int .i64 11]) ∧ Rdr w' base g b ∧ w.grownBy w' (some g) ∧ w'.heap.size = w.heap.size := by
  refine (number_any _ 18446744073709551615 base g w hr (by omega)).mono ?_
  rintro e w' ⟨h1, h2, h3⟩
  rw [numAt_none h] at h3
  exact ⟨h3.1, h3.2, h1, h2⟩
theorem number_some {g base v n : Nat} {b : List UInt8} {w : World} (hr : Rdr w base g b) (h : num1 b = some (v, n)) :
    Calls Try.prog 15 #[.pointer (some ⟨g, 0, none⟩), .int .u64 18446744073709551615] w fun e w' => e = .returned (.tuple #[.int .u64 v, .int .i64 0]) ∧ (∃ Rb, Hid (Rb = b.drop n) ∧ Rdr w' base g Rb) ∧ w.grownBy w' (some g) ∧ w'.heap.size = w.heap.size := by
  refine (number_any _ 18446744073709551615 base g w hr (by omega)).mono ?_
  rintro e w' ⟨h1, h2, h3⟩
  have := (num1_le h).2.2
  rw [numAt_yes h (by omega)] at h3
  exact ⟨h3.1, ⟨_, rfl, h3.2⟩, h1, h2⟩
theorem left_quiet {w : World} {x : Sub w} {g base : Nat} {l : List UInt8} (hr : Rdr w base g l) : Calls Try.prog 19 #[.pointer (some ⟨g, 0, none⟩)] x.u fun e w'' => e = .returned (.int .i64 l.length) ∧ ∃ y : Sub w, w'' = y.u :=
  Calls.cls_of ((left_any l base g x.u (hr.below x.h)).mono fun _ _ ⟨he, hw⟩ => ⟨he, hw ▸ Below.refl _ _⟩)

def Post (w : World) (e : Ending) (w' : World) : Prop := e = .returned (.bool true) ∧ Below w.heap.size w w'

set_option maxRecDepth 100000 in
set_option maxHeartbeats 4000000 in
theorem back_walk (A : Option Addr) (c : Nat) (l : List ActV) (Bb : Option Addr) (cb : Nat) (b : List UInt8) (w : World) (hr : ActsAt w w.heap.size A l) (hc : l.length ≤ c) (hcm : c ≤ maxLen)
    (hb : Rd w w.heap.size Bb b) (hcb : b.length ≤ cb) (hcbm : cb ≤ maxLen) :
    Calls Try.prog 5 #[.slice A l.length c, .slice Bb b.length cb] w (Post w) := by
  have hll : l.length ≤ 9223372036854775807 := by have : c ≤ 9223372036854775807 := hcm; omega
  have hbl : b.length ≤ 9223372036854775807 := by have : cb ≤ 9223372036854775807 := hcbm; omega
  have HR := Lib.hid hr
  have HB := Lib.hid hb
  clear hr hb
  go_enter Try.func5, Try.ntmps5
  go_wp2
  go_loopw [5, 6] (fun v i wr => Rel1 l w v i wr) (fun _ i _ => 60 - (intOf i).toNat)
  case atStart => exact ⟨0, none, 0, [], rfl, by omega, by omega, rfl, by simp, by show [] = pack []; rfl, by simp, Rd.nil _ _ _, Below.refl _ _⟩
  case round =>
    obtain ⟨k, A5, c5, L5, rfl, hk60, hkl, rfl, hlen, HL, hc5, r5, hbel⟩ := hrel
    have hsz := hbel.size
    by_cases hlt : k < l.length ∧ k < 60
    · obtain ⟨h1, h2⟩ := hlt
      obtain ⟨ad, x, rfl, hx, hB, hact⟩ := (HR.out.below hbel).get h1
      have HX := Lib.hid hx
      obtain ⟨xk, xl, xn, xm, xs⟩ := x
      obtain ⟨e1, e2, e3, e4, e5, _, bn, _, bs⟩ := hact
      dsimp only at e1 e2 e3 e4 e5 bn bs
      have bs : xs.size ≤ 9223372036854775807 := bs
      clear hx
      by_cases hS : xs.size ≤ 400
      · go_upto_region 6 with (fail)
        have f3 : ∀ x : Sub wr, x.u.cell? ⟨(ad.add (k * 5)).block, (ad.add (k * 5)).off + 2, none⟩ = some (.int .u64 xn) := fun x => (x.h.cell (by exact Nat.lt_of_lt_of_le hB hsz)).trans e3
        have f5 : ∀ x : Sub wr, x.u.cell? ⟨(ad.add (k * 5)).block, (ad.add (k * 5)).off + 4, none⟩ = some (.string xs) := fun x => (x.h.cell (by exact Nat.lt_of_lt_of_le hB hsz)).trans e5
        clear e1 e2 e3 e4 e5
        refine wp_region_seg 6 8 (by kernel_rfl) (by kernel_rfl) rfl (by kernel_rfl) (by kernel_rfl) ?_
        show wpQuiet _ _ _ _ [_, _, _, _, _, _] _
        repeat (go_big_quiet_step (fail))
        refine wpQuiet_nil ?_
        intro u hu
        refine held_more 5 3 7 (by kernel_rfl) (by kernel_rfl) (by kernel_rfl) hu ?_
        show wpQuiet _ _ _ _ [_, _, _, _, _] _
        repeat (go_big_quiet_step (fail))
        refine wpQuiet_nil ?_
        intro u2 hu2
        refine held_call (k := 6) (ys := #[.slice A5 L5.length c5, .int .u64 xn]) (by kernel_rfl) rfl (by kernel_rfl) rfl Try.func9 (by kernel_rfl) (by kernel_rfl) hu2 (by simp only [List.map_toArray, List.map_cons, List.map_nil, Act.eval]; rfl) (fun v => rfl) ?_
        refine (put_any A5 L5 c5 xn u2 ((r5.below hu2).more hu2.size) hc5 (by omega) bn).mono ?_
        rintro e wA ⟨AA, cA, LA, rfl, HA, oA, bA⟩
        refine ⟨_, rfl, bA, ?_⟩
        obtain ⟨_, hcA, _, rA⟩ := oA.rd
        have hlA : LA.length ≤ k * 1000 + 9 := by have h1 := congrArg List.length HA.out; have := (enc_len xn bn).2; simp at h1; omega
        refine held_call (k := 12) (ys := #[.slice AA LA.length cA, .string xs]) (by kernel_rfl) rfl (by kernel_rfl) rfl Try.func10 (by kernel_rfl) (by kernel_rfl) (Below.refl _ _) (by simp only [List.map_toArray, List.map_cons, List.map_nil, Act.eval]; rfl) (fun v => rfl) ?_
        refine (text_any AA LA cA xs wA rA hcA (by omega) (by omega)).mono ?_
        rintro e wT ⟨AT, cT, LT, rfl, HT, oT, bT⟩
        refine ⟨_, rfl, bT, ?_⟩
        obtain ⟨_, hcT, _, rT⟩ := oT.rd
        have hlT : LT.length ≤ k * 1000 + 9 + 409 := by have h1 := congrArg List.length HT.out; have := (enc_len xs.size (by omega)).2; simp [encT] at h1; omega
        have bWT : Below w.heap.size w wT := hbel.trans (((hu2.trans (bA.mono hu2.size)).mono hsz).trans (bT.mono (Nat.le_trans hsz (Nat.le_trans hu2.size bA.size))))
        refine held_more 1 0 13 (by kernel_rfl) (by kernel_rfl) (by kernel_rfl) (Below.refl _ _) ?_
        show wpQuiet _ _ _ _ [_] ⟨List.toArray (_ :: _ :: _ :: _ :: _ :: _ :: _ :: _ :: _ :: _ :: _ :: _ :: _ :: _ :: _ :: _ :: _ :: _ :: _ :: _ :: _ :: _ :: _ :: _ :: _ :: _ :: _ :: _ :: _ :: _ :: _ :: _ :: _ :: _ :: _ :: _ :: _ :: _ :: _ :: _ :: _ :: _ :: _ :: _ :: _ :: _ :: _ :: _ :: _ :: _ :: _ :: _ :: _ :: _ :: _ :: _ :: _ :: _ :: _ :: _ :: _ :: _ :: _ :: _ :: _ :: _ :: _ :: _ :: _ :: _ :: _ :: _ :: _ :: _ :: _ :: _ :: _ :: _ :: _ :: _ :: _ :: _ :: _ :: _ :: _ :: _ :: _ :: _ :: _ :: _ :: _ :: _ :: _ :: _ :: _ :: _ :: _ :: _ :: _ :: _ :: _ :: _ :: _ :: _ :: _ :: _ :: _ :: _ :: _ :: _ :: _ :: _ :: _ :: _ :: _ :: _ :: _ :: _ :: _ :: _ :: _ :: _ :: _ :: _ :: _ :: _ :: _ :: _ :: _ :: _ :: _ :: _ :: _ :: _ :: _ :: _ :: _ :: _ :: _ :: _ :: _ :: _ :: _ :: _ :: _ :: _ :: _ :: _ :: []), _⟩
        repeat (go_big_quiet_step (fail))
        refine wpQuiet_nil ?_
        intro u3 hu3
        refine held_end (by kernel_rfl) ?_
        clear f3 f5 oA oT
        go_wp2
        go_roundw
        case rel =>
          refine ⟨k + 1, AT, cT, LT, by go_num, by omega, by omega, rfl, by omega, ?_, hcT, (rT.below hu3).more hu3.size, bWT.trans (hu3.mono bWT.size)⟩
          show LT = _
          rw [pack_take l k _ HX.out, HT.out, HA.out, HL.out]
          simp [pack1, hS]
        case measure => simp [intOf]; omega
      · go_wp2
        go_roundw
        case rel =>
          refine ⟨k + 1, A5, c5, L5, by go_num, by omega, by omega, rfl, by omega, ?_, hc5, r5, hbel⟩
          show L5 = _
          rw [pack_take l k _ HX.out, HL.out]
          simp [pack1, hS]
        case measure => simp [intOf]; omega
    · have hlK : pack (l.take k) = L5 := HL.out.symm
      have HK := Lib.hid hlK
      rcases (show k = l.length ∨ (k < l.length ∧ k = 60) from by omega) with h | ⟨h, h'⟩
      all_goals
        clear hlt hlK
        go_wp2_with fail
        refine (open_any A5 L5 c5 wr r5 (by omega)).mono ?_
        rintro e wO ⟨g, rfl, hrd, bO⟩
        have bWO : Below w.heap.size w wO := hbel.trans (bO.mono hsz)
        go_wp2
        go_loopw [8] (fun i wr' => Rel2 l w g k i wr') (fun i _ => 60 - (intOf i).toNat)
        case atStart => exact ⟨0, L5, rfl, by omega, by show _ = _; rw [List.drop_zero, HK.out], by omega, hrd.low hsz, bWO⟩
        case round =>
          clear HL hrd bO
          obtain ⟨j, R, rfl, hj, HRj, hRl, hrdr, hbel2⟩ := hrel
          have hsz2 := hbel2.size
          have hgs := hrdr.lt
          by_cases hlt2 : j < k
          · have hjl : j < l.length := by omega
            obtain ⟨ad, x, rfl, hx, hB, hact⟩ := (HR.out.below hbel2).get hjl
            have HX := Lib.hid hx
            obtain ⟨xk, xl, xn, xm, xs⟩ := x
            obtain ⟨e1, e2, e3, e4, e5, _, bn, _, bs⟩ := hact
            dsimp only at e1 e2 e3 e4 e5 bn bs
            have bs : xs.size ≤ 9223372036854775807 := bs
            clear hx
            by_cases hS : 400 < xs.size
            · go_wp2
              go_roundw
              case rel =>
                refine ⟨j + 1, R, by go_num, by omega, ?_, hRl, hrdr.below ((Below.refl _ _).alloc (Nat.le_refl _) _), hbel2.alloc hsz2 _⟩
                show _ = _
                rw [HRj.out, pack_drop l k j _ HX.out hlt2]
                have : ¬ xs.size ≤ 400 := by omega
                simp [pack1, this]
              case measure => simp [intOf]; omega
            · obtain ⟨R', hR'⟩ : ∃ R', R' = pack ((l.take k).drop (j + 1)) := ⟨_, rfl⟩
              have hRe : R = enc xn ++ (encT xs.data.toList ++ R') := by
                have : xs.size ≤ 400 := by omega
                rw [HRj.out, pack_drop l k j _ HX.out hlt2, hR']
                simp [pack1, this]
              have HRe := Lib.hid hRe
              have HR' := Lib.hid hR'
              have hR'l : R'.length ≤ 100000 := by have h1 := congrArg List.length hRe; simp at h1; omega
              have hrdr1 : Rdr (wr.alloc (.cells #[.int .i64 xk, .int .i64 xl, .int .u64 xn, .int .u64 xm, .string xs] 26)) w.heap.size g (enc xn ++ (encT xs.data.toList ++ R')) := by
                rw [← hRe]; exact hrdr.below ((Below.refl _ _).alloc (Nat.le_refl _) _)
              clear hRe hR' HRj hrdr
              go_wp2_with fail
              refine (number_back hrdr1 bn).mono ?_
              rintro e wN ⟨rfl, hrdr2, gN, sN⟩
              have c4N : wN.cell? ⟨wr.heap.size, 4, none⟩ = some (.string xs) := gN.cell (by simp) (by simp; omega)
              have c2N : wN.cell? ⟨wr.heap.size, 2, none⟩ = some (.int .u64 xn) := gN.cell (by simp) (by simp; omega)
              go_wp2_with fail
              refine (text_back hrdr2 (by omega) hR'l).mono ?_
              rintro e wM ⟨rfl, hrdr3, gM, sM⟩
              have c4M : wM.cell? ⟨wr.heap.size, 4, none⟩ = some (.string xs) := gM.cell c4N (by simp; omega)
              have c2M : wM.cell? ⟨wr.heap.size, 2, none⟩ = some (.int .u64 xn) := gM.cell c2N (by simp; omega)
              have hbase : w.heap.size ≤ g := by obtain ⟨_, _, h, _⟩ := hrdr3; exact h
              have bM : Below w.heap.size w wM := ((hbel2.alloc hsz2 _).trans (below_of_grown gN (by simp; omega) hbase)).trans (below_of_grown gM (by rw [sN]; simp; omega) hbase)
              have hbb : (xs.toList == xs.toList) = true := by simp
              have hb2 : ((xn : Int) == (xn : Int)) = true := by simp
              clear c4N c2N e1 e2 e3 e4 e5 gN gM hrdr1 hrdr2
              go_wp2_with fail
              go_roundw
              case rel => exact ⟨j + 1, R', by go_num, by omega, HR', hR'l, hrdr3, bM⟩
              case measure => simp [intOf]; omega
          · obtain rfl : j = k := by omega
            have hR0 : R = [] := by rw [HRj.out, pack_end]
            subst hR0
            have hb := HB.out.below hbel2
            clear HRj hRl HR HK HB hlt2
            go_wp2_with fail
            refine (left_any [] _ g wr hrdr).mono ?_
            rintro e w' ⟨rfl, rfl⟩
            by_cases hb4 : 400 < b.length
            · go_wp2_with fail
              refine (alive_any wr).mono ?_
              rintro e wX ⟨rfl, bX⟩
              go_wp2
              go_ret
              exact ⟨rfl, hbel2.trans (bX.mono hsz2)⟩
            · go_wp2_with fail
              refine (open_any Bb b cb wr (hb.more hsz2) (by omega)).mono ?_
              rintro e wQ ⟨g2, rfl, hq, bQ⟩
              have hbase : wr.heap.size ≤ g2 := by obtain ⟨_, _, h, _⟩ := hq; exact h
              have bWQ := hbel2.trans (bQ.mono hsz2)
              match hN : num1 b with
              | none =>
                go_wp2_with fail
                refine (number_none hq hN).mono ?_
                rintro e wN ⟨rfl, hq2, gN, sN⟩
                have bN : Below w.heap.size w wN := bWQ.trans (below_of_grown gN bWQ.size (by omega))
                go_wp2_with fail
                refine (alive_any wN).mono ?_
                rintro e wX ⟨rfl, bX⟩
                go_wp2_with fail
                refine (left_any b _ g2 wX (hq2.below bX)).mono ?_
                rintro e w' ⟨rfl, rfl⟩
                have hbb : ((b.length : Int) == (b.length : Int)) = true := by simp
                go_wp2
                go_ret
                exact ⟨rfl, bN.trans (bX.mono bN.size)⟩
              | some (v, n) =>
                have hv := (num1_le hN).2.2
                have hn := (num1_le hN).2.1
                obtain ⟨q1, q2⟩ := enc_num1 hN
                go_wp2_with fail
                refine (number_some hq hN).mono ?_
                rintro e wN ⟨rfl, ⟨Rb, HRb, hq2⟩, gN, sN⟩
                have bN : Below w.heap.size w wN := bWQ.trans (below_of_grown gN bWQ.size (by omega))
                have Hq1 := Lib.hid q1
                have Hq2 := Lib.hid q2
                clear q1 q2 hN
                go_wp2_with fail
                refine (put_nil v wN hv).mono ?_
                rintro e wP ⟨AP, cP, LP, rfl, HP, oP, bP⟩
                obtain ⟨_, _, _, rP⟩ := oP.rd
                have bWP : Below w.heap.size w wP := bN.trans (bP.mono bN.size)
                have hlP : LP.length = n := by rw [HP.out, ← Hq1.out]
                have hRb : Rb.length = b.length - n := by rw [HRb.out, List.length_drop]
                have heq : ((LP.length : Int) == (b.length : Int) - (Rb.length : Int)) = true := by rw [beq_iff_eq, hlP, hRb]; omega
                have hple : LP.length ≤ b.length := by omega
                have hRbl : Rb.length ≤ b.length := by omega
                have hb400 : b.length ≤ 400 := by omega
                have hrP : Rd wP wP.heap.size Bb b := ((hb.below (Below.trans (bQ.mono hsz2) ((below_of_grown gN bWQ.size (by omega)).trans (bP.mono bN.size)))).more bWP.size)
                have hc1 : ∀ x : Sub wP, Sem.run Try.prog (convert 23 9 (.slice AP LP.length cP)) x.u = .ok (.string ⟨LP.toArray⟩) x.u := fun x => conv_any x.u _ AP LP cP (rP.below x.h)
                have hc2 : ∀ x : Sub wP, Sem.run Try.prog (convert 23 9 (.slice Bb LP.length cb)) x.u = .ok (.string ⟨LP.toArray⟩) x.u := fun x => by
                  have h1 := conv_any x.u _ Bb (b.take n) cb ((hrP.below x.h).take n)
                  have h2 : b.take n = LP := by rw [HP.out]; exact Hq2.out
                  rw [h2] at h1
                  exact h1
                have hq3 := hq2.below bP
                generalize (⟨LP.toArray⟩ : ByteArray) = SP at hc1 hc2
                have hss : (SP.toList == SP.toList) = true := by simp
                clear hlP hRb gN hq hq2 oP rP hrP hb hrdr
                go_wp2_with fail
                have hwr : IntKind.i64.wrap ((b.length : Int) - (Rb.length : Int)) = (b.length : Int) - (Rb.length : Int) := IntWalk.i64_in _ (by omega)
                refine wp_region_cls (by kernel_rfl) (by kernel_rfl) ?_
                repeat (go_big_quiet_step ((first | (go_at_call 13; exact Calls.cls_of (alive_any _)) | (go_at_call 19; exact left_quiet hq3))))
                refine wpQuiet_nil ?_
                rintro _ ⟨x, rfl⟩
                go_wp2
                go_ret
                exact ⟨rfl, bWP.trans (x.h.mono bWP.size)⟩
end Go.Proofs.Ytnjghodjpbalcaa
