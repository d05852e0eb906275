/- Contracts: same; an act of a script upon a tree and the document's pairs. -/
import Derived.Test.YtiknelhfdcmkjaaA1
import Derived.Test.YtiknelhfdcmkjaaR2
namespace Go.Proofs.Ytiknelhfdcmkjaa
open Go.RowKit

set_option maxRecDepth 100000 in
set_option maxHeartbeats 1000000 in
theorem same_any {tv lv : Value} (L : List (Int × Int)) (w : World) (ht : IsTree w tv L) (hz : IsP w lv L) : Calls Try.prog 11 #[tv, lv] w fun e w' => e = .returned (.bool true) ∧ Below w.heap.size w w' := by
  have hlen := ht.up.2
  have HT := Lib.hid ht
  have HZ := Lib.hid hz
  obtain ⟨p, rfl⟩ := ht.ptr
  obtain ⟨A, c, rfl, n1, m1, z1⟩ := hz
  clear ht z1
  go_enter Try.func11, Try.ntmps11
  go_wp2_with fail
  refine (pairs_any L w HT.out).mono ?_
  rintro e w1 ⟨v1, rfl, ⟨A1, c1, rfl, n2, m2, z2⟩, b1⟩
  have HZ2 : Hid (∀ W, Below w1.heap.size w1 W → Ps W A1 L) := Lib.hid fun W hW => z2.belows hW
  have HZ1 : Hid (∀ W, Below w1.heap.size w1 W → Ps W A L) := Lib.hid fun W hW => by
    obtain ⟨A', c', e, _, _, z⟩ := (HZ.out.belows b1).belows hW
    injection e with e1 e2 e3
    subst e1
    exact z
  clear z2
  go_wp2_with fail
  refine (len_any L w1 (HT.out.belows b1)).mono ?_
  rintro e w2 ⟨rfl, rfl⟩
  go_wp2
  go_loopw [6] (fun i wr => ∃ j : Nat, i = .int .i64 j ∧ j ≤ L.length ∧ Hid (Below w1.heap.size w1 wr)) (fun i _ => L.length - (intOf i).toNat)
  case atStart => exact ⟨0, rfl, by omega, Lib.hid (Below.refl _ _)⟩
  case round =>
    obtain ⟨j, rfl, hj, HB⟩ := hrel
    by_cases hl : j < L.length
    · obtain ⟨g, o, e1, _, hc⟩ := HZ1.out _ HB.out (by omega)
      obtain ⟨g2, o2, e2, _, hc2⟩ := HZ2.out _ HB.out (by omega)
      subst e1 e2
      obtain ⟨q1, q2⟩ := hc j hl
      obtain ⟨q3, q4⟩ := hc2 j hl
      clear hc hc2
      generalize L[j] = x at q1 q2 q3 q4
      have i1 : (j : Int) < (L.length : Int) := by omega
      have d1 : (x.1 != x.1) = false := by simp
      have d2 : (x.2 != x.2) = false := by simp
      go_wp2
      go_quiet (fail)
      go_wp2
      go_roundw
      case rel => exact ⟨j + 1, by go_num, by omega, Lib.hid (bdrewN HB.out _)⟩
      case measure => simp [intOf]; omega
    · obtain rfl : j = L.length := by omega
      go_wp2
      go_ret
      exact ⟨rfl, b1.trans (HB.out.mono b1.size)⟩

theorem At.held {W W' : World} {B Bh : Nat} {cs cs' : Array Value} {t : TypeId} (h : At W B cs t) (hA : At W Bh cs' 28) (ht : t ≠ 28) (hg : W.grownBy W' (some Bh)) : At W' B cs t :=
  h.kept hg fun e => by
    injection e with e
    subst e
    have := (show W.heap[B]? = _ from h).symm.trans hA
    injection this with this
    injection this with _ this
    exact ht this
theorem IsT.held {W W' : World} {Bh : Nat} {cs' : Array Value} (hA : At W Bh cs' 28) (hg : W.grownBy W' (some Bh)) : ∀ {v : Value} {t : Bt}, IsT W v t → IsT W' v t
  | _, .nil, h => h
  | _, .node _ _ _, ⟨B, vl, vr, e, ha, hl, hr⟩ => ⟨B, vl, vr, e, ha.held hA (by decide) hg, IsT.held hA hg hl, IsT.held hA hg hr⟩
theorem IsTree1.held {W W' : World} {Bh : Nat} {cs' : Array Value} {v : Value} {L : List (Int × Int)} (h : IsTree1 W v L) (hA : At W Bh cs' 28) (hg : W.grownBy W' (some Bh)) : IsTree1 W' v L := by
  obtain ⟨h1, h2, B, vn, t, e, ha, hi, he, hf⟩ := h
  exact ⟨h1, h2, B, vn, t, e, ha.held hA (by decide) hg, hi.held hA hg, he, hf⟩
theorem IsP.held {W W' : World} {Bh : Nat} {cs' : Array Value} {v : Value} {L : List (Int × Int)} (h : IsP W v L) (hA : At W Bh cs' 28) (hg : W.grownBy W' (some Bh)) : IsP W' v L := by
  obtain ⟨A, c, e, h1, h2, h3⟩ := h
  refine ⟨A, c, e, h1, h2, h3.kept fun g cur t hgc ht => hg.block g (Array.getElem?_eq_some_iff.1 hgc).1 fun e => ?_⟩
  injection e with e
  subst e
  have := hgc.symm.trans hA
  injection this with this
  injection this with _ this
  exact ht this
/-- A tree, and the document's pairs. -/
def Hd (W : World) (Bh : Nat) (L : List (Int × Int)) : Prop := ∃ (B : Nat) (A : Option Addr) (n c : Nat), At W Bh #[.pointer (some ⟨B, 0, none⟩), .slice A n c] 28 ∧ IsTree1 W (.pointer (some ⟨B, 0, none⟩)) L ∧ IsP W (.slice A n c) L
theorem Hd.belows {W W' : World} {Bh : Nat} {L : List (Int × Int)} (h : Hd W Bh L) (hb : Below W.heap.size W W') : Hd W' Bh L := by
  obtain ⟨B, A, n, c, h1, h2, h3⟩ := h
  exact ⟨B, A, n, c, h1.belows hb, h2.belows hb, h3.belows hb⟩
def Did (W : World) (Bh : Nat) (e : Ending) (W' : World) : Prop := e = .returned (.bool true) ∧ ∃ L', Hd W' Bh L' ∧ W.grownBy W' (some Bh)
theorem grown_set (W : World) (B j : Nat) (v : Value) : W.grownBy (W.setCell ⟨B, j, none⟩ v) (some B) := ⟨rfl, rfl, rfl, by simp, fun k _ hne => Below.heap_setCell W _ v k (fun e => hne (by rw [e]))⟩
/-- Behind the two stores. -/
theorem hd_stored {W : World} {Bh B B0 : Nat} {v0 : Value} {A : Option Addr} {n c : Nat} {L : List (Int × Int)} (hA : At W Bh #[.pointer (some ⟨B0, 0, none⟩), v0] 28) (ht : IsTree1 W (.pointer (some ⟨B, 0, none⟩)) L) (hp : IsP W (.slice A n c) L) :
    Hd ((W.setCell ⟨Bh, 0, none⟩ (.pointer (some ⟨B, 0, none⟩))).setCell ⟨Bh, 1, none⟩ (.slice A n c)) Bh L ∧ W.grownBy ((W.setCell ⟨Bh, 0, none⟩ (.pointer (some ⟨B, 0, none⟩))).setCell ⟨Bh, 1, none⟩ (.slice A n c)) (some Bh) := by
  have hA2 := (hA.set0 0 (.pointer (some ⟨B, 0, none⟩))).set0 1 (.slice A n c)
  have hg : W.grownBy ((W.setCell ⟨Bh, 0, none⟩ (.pointer (some ⟨B, 0, none⟩))).setCell ⟨Bh, 1, none⟩ (.slice A n c)) (some Bh) := World.grownBy.trans (grown_set _ _ _ _) (grown_set _ _ _ _)
  exact ⟨⟨B, A, n, c, hA2, ht.held hA hg, hp.held hA hg⟩, hg⟩
set_option maxRecDepth 100000 in
set_option maxHeartbeats 2000000 in
theorem hput_any (Bh : Nat) (k v : Int) (L : List (Int × Int)) (w : World) (h : Hd w Bh L) : Calls Try.prog 27 #[.pointer (some ⟨Bh, 0, none⟩), .int .u64 k, .int .i64 v] w (Did w Bh) := by
  obtain ⟨B, A, n, c, hA, ht, hp⟩ := h
  have hu := Lib.hid ht.any.up
  have HT := Lib.hid ht
  have HP := Lib.hid hp
  have c0 := (hA.cell 0).trans rfl
  clear ht hp
  by_cases hfull : getL L k = none ∧ L.length = 1024
  · have HF := Lib.hid hfull
    clear hfull
    go_enter Try.func27, Try.ntmps27
    go_wp2_with fail
    refine (put_full L k v w HT.out.any HF.out.1 HF.out.2).mono ?_
    rintro e w1 ⟨rfl, b1⟩
    have hA1 := hA.belows b1
    have c1 := (hA1.cell 1).trans rfl
    go_wp2_with fail
    refine (rput_full L k v w1 hu.out.1 (HP.out.belows b1) HF.out.1 HF.out.2).mono ?_
    rintro e w2 ⟨rfl, b2⟩
    have bb2 := b1.trans (b2.mono b1.size)
    go_wp2
    go_ret
    exact ⟨rfl, L, ⟨B, A, n, c, hA.belows bb2, HT.out.belows bb2, HP.out.belows bb2⟩, (grown_none bb2).but _⟩
  · have hok : getL L k ≠ none ∨ L.length < 1024 := by
      have := hu.out.2
      by_cases h1 : getL L k = none
      · exact .inr (by have : L.length ≠ 1024 := fun e => hfull ⟨h1, e⟩; omega)
      · exact .inl h1
    have HF := Lib.hid hok
    clear hfull hok
    go_enter Try.func27, Try.ntmps27
    go_wp2_with fail
    refine (put_ok L k v w HT.out.any HF.out).mono ?_
    rintro e w1 ⟨v1, rfl, t1, b1⟩
    obtain ⟨B1, rfl⟩ := t1.ptr
    have hA1 := hA.belows b1
    have c1 := (hA1.cell 1).trans rfl
    go_wp2_with fail
    refine (rput_ok L k v w1 hu.out.1 (HP.out.belows b1) hu.out.2 HF.out).mono ?_
    rintro e w2 ⟨v2, rfl, ⟨A2, c2, rfl, p2⟩, b2⟩
    have P2 : IsP w2 (.slice A2 (putL L k v).length c2) (putL L k v) := ⟨A2, c2, rfl, p2⟩
    have bb2 := b1.trans (b2.mono b1.size)
    have hA2 := hA1.belows b2
    obtain ⟨q1, q2⟩ := hd_stored hA2 (t1.belows b2) P2
    have HQ := Lib.hid (And.intro q1 q2)
    have HB := Lib.hid bb2
    have d0 := (hA2.cell 0).trans rfl
    have d1 := (hA2.cell 1).trans rfl
    have f0 := hA2.frozen 0
    have f1 := hA2.frozen 1
    clear q1 q2 P2 p2 c0 c1 t1 b1 b2 bb2
    go_wp2
    go_ret
    exact ⟨rfl, _, HQ.out.1, World.grownBy.trans ((grown_none HB.out).but _) HQ.out.2⟩
end Go.Proofs.Ytiknelhfdcmkjaa
