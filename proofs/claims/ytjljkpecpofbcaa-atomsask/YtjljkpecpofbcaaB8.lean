/- Contract of a table: Ranges. -/
import Derived.Test.YtjljkpecpofbcaaB7
namespace Go.Proofs.Ytjljkpecpofbcaa
open Go.RowKit Go.Shelf

/-- The range of a key. -/
def spanN (k : Int) : Nat × Nat := ((k / 4294967296).toNat, (k % 4294967296).toNat)
theorem spanN_key {r : Nat × Nat} (h : r.2 < 4294967296) : spanN (keyI r) = r := by
  unfold spanN keyI
  refine Prod.ext ?_ ?_ <;> simp only <;> omega
/-- Ranges, rising, each once, that are just those of L. -/
def RsL (l L : List (Nat × Nat)) : Prop := (l.map keyI).Pairwise (· < ·) ∧ ∀ r, r ∈ l ↔ r ∈ L
theorem map_keyI_inj : ∀ {l m : List (Nat × Nat)}, (∀ r ∈ l, r.2 < 4294967296) → (∀ r ∈ m, r.2 < 4294967296) → l.map keyI = m.map keyI → l = m
  | [], [], _, _, _ => rfl
  | [], b :: m, _, _, h => by simp at h
  | a :: l, [], _, _, h => by simp at h
  | a :: l, b :: m, h1, h2, h => by
    rw [List.map_cons, List.map_cons] at h
    injection h with e1 e2
    rw [keyI_inj (h1 a (by simp)) (h2 b (by simp)) e1, map_keyI_inj (fun r hr => h1 r (by simp [hr])) (fun r hr => h2 r (by simp [hr])) e2]
theorem RsL.u32 {l L : List (Nat × Nat)} (h : RsL l L) (hL : RL L) : ∀ r ∈ l, r.2 < 4294967296 := fun r hr => (hL.1 r ((h.2 r).1 hr)).2
theorem RsL.eq {l m L : List (Nat × Nat)} (hL : RL L) (h1 : RsL l L) (h2 : RsL m L) : l = m := by
  refine map_keyI_inj (h1.u32 hL) (h2.u32 hL) (rise_eq h1.1 h2.1 fun a => ?_)
  rw [List.mem_map, List.mem_map]
  simp only [h1.2, h2.2]
theorem RsL.perm {l L M : List (Nat × Nat)} (h : RsL l L) (hp : ∀ r, r ∈ L ↔ r ∈ M) : RsL l M := ⟨h.1, fun r => (h.2 r).trans (hp r)⟩
theorem rsL_of {R : List (Int × Int)} {L : List (Nat × Nat)} (hL : RL L) (h : Tal R (nR L)) : RsL (R.map fun p => spanN p.1) L ∧ ∀ p ∈ R, 0 ≤ p.1 ∧ p.1 < 18446744073709551616 := by
  have hk : ∀ p ∈ R, ∃ r ∈ L, p.1 = keyI r := fun p hp => by
    have := (h.mem p.1).1 (List.mem_map.2 ⟨p, hp, rfl⟩)
    unfold nR at this
    obtain ⟨r, hr, e⟩ := List.mem_map.1 (List.count_pos_iff.1 this)
    exact ⟨r, hr, e.symm⟩
  have e : (R.map fun p => spanN p.1).map keyI = R.map (·.1) := by
    rw [List.map_map]
    refine List.map_congr_left fun p hp => ?_
    obtain ⟨r, hr, e⟩ := hk p hp
    simp only [Function.comp, e, spanN_key (hL.1 r hr).2]
  refine ⟨⟨by rw [e]; exact h.rise, fun r => ?_⟩, fun p hp => ?_⟩
  · rw [List.mem_map]
    constructor
    · rintro ⟨p, hp, rfl⟩
      obtain ⟨r, hr, e⟩ := hk p hp
      rw [e, spanN_key (hL.1 r hr).2]; exact hr
    · intro hr
      have : keyI r ∈ R.map (·.1) := (h.mem _).2 (by unfold nR; exact List.count_pos_iff.2 (List.mem_map.2 ⟨r, hr, rfl⟩))
      obtain ⟨p, hp, e⟩ := List.mem_map.1 this
      exact ⟨p, hp, by rw [e, spanN_key (hL.1 r hr).2]⟩
  · obtain ⟨r, hr, e⟩ := hk p hp
    have := hL.1 r hr
    rw [e]; unfold keyI; omega
theorem spanAt_any (k : Int) (w : World) (h0 : 0 ≤ k) (h1 : k < 18446744073709551616) : Calls Try.prog 31 #[.int .u64 k] w fun e w' => e = .returned (.agg #[.int .u32 ((spanN k).1 : Nat), .int .u32 ((spanN k).2 : Nat)]) ∧ Below w.heap.size w w' := by
  have e1 : ((spanN k).1 : Int) = k / 4294967296 := by unfold spanN; simp only; omega
  have e2 : ((spanN k).2 : Int) = k % 4294967296 := by unfold spanN; simp only; omega
  rw [e1, e2]
  clear e1 e2
  go_enter Try.func31, Try.ntmps31
  go_wp2
  exact bodyPost_ret (v := .agg #[.int .u32 (k / 4294967296), .int .u32 (k % 4294967296)]) (by simp [results, Try.results31, go_sem]) rfl ⟨rfl, (Below.refl _ w).alloc (Nat.le_refl _) _⟩
theorem zcells_take {l : List (Nat × Nat)} {k : Nat} (hk : k < l.length) : zcells (l.take (k + 1)) = zcells (l.take k) ++ [.int .u32 l[k].1, .int .u32 l[k].2] := by
  rw [List.take_succ_eq_append_getElem hk, zcells_snoc]
theorem own_belows {w w' : World} {base e size n : Nat} {v : Value} {xs : List Value} (h : w.ownsRow base e size v n xs) (hb : Below w.heap.size w w') : w'.ownsRow base e size v n xs := h.kept (grown_none hb) (Classical.em _)
/-- Where the loop over the pairs stands. -/
def RI (W0 : World) (l : List (Nat × Nat)) (k : Nat) (v : Value) (W : World) : Prop := W.ownsRow W0.heap.size 32 2 v k (zcells (l.take k)) ∧ Below W0.heap.size W0 W
/-- What Ranges answers. -/
def RngOut (w : World) (L : List (Nat × Nat)) (e : Ending) (w' : World) : Prop := ∃ v l, e = .returned v ∧ RsL l L ∧ IsZ w' v l ∧ Below w.heap.size w w'
set_option maxRecDepth 100000 in
set_option maxHeartbeats 2000000 in
theorem ranges_any {v : Value} (L : List (Nat × Nat)) (w : World) (h : IsTab0 w v L) : Calls Try.prog 15 #[v] w (RngOut w L) := by
  obtain ⟨i0, hi, hz0, hz1, hz2⟩ := info_parts info32
  have hs := some_any L w h
  obtain ⟨p, rfl⟩ := h.ptr
  clear h
  go_enter Try.func15, Try.ntmps15
  go_wp2_with fail
  refine hs.mono ?_
  rintro e w1 ⟨v1, rfl, ⟨hL, B, vr, vc, R, C, rfl, hB, ir, ic, tr, tc⟩, b1⟩
  obtain ⟨pr, rfl⟩ := ir.ptr
  have c0 := (hB.cell 0).trans rfl
  have HRS := Lib.hid (rsL_of hL tr)
  have hlen := ir.up.2
  have HR := Lib.hid ir
  clear hs hB ic tr tc hL ir
  go_wp2_with fail
  refine (pairs_any R w1 HR.out).mono ?_
  rintro e w2 ⟨v2, rfl, ⟨A2, cc2, rfl, n2, m2, z2⟩, b2⟩
  have bb2 := b1.trans (b2.mono b1.size)
  obtain ⟨w3, hmk, hown, hgrow⟩ := run_makeSlice_owned (P := Try.prog) w2 w2.heap.size 26 32 i0 _ 2 Try.underlying26 hi hz0 hz1 .i64 .i64 R.length (by omega) (by rw [hz2]; omega) (by simp only [maxLen]; omega) (Nat.le_refl _)
  have b3 : Below w2.heap.size w2 w3 := ⟨hgrow.os, hgrow.tape, hgrow.output, hgrow.size, fun k hk => hgrow.block k hk (by simp)⟩
  have HP : Hid (∀ W, Below w2.heap.size w2 W → Ps W A2 R) := Lib.hid fun W hW => z2.belows hW
  have HO := Lib.hid (And.intro hown b3)
  have HB2 := Lib.hid bb2
  clear z2 hown hgrow b3 b1 b2 bb2 HR c0
  obtain ⟨l, hl⟩ : ∃ l, l = R.map fun p => spanN p.1 := ⟨_, rfl⟩
  rw [← hl] at HRS
  have hll : l.length = R.length := by rw [hl]; simp
  have hget : ∀ k (hk : k < R.length) (hk' : k < l.length), l[k] = spanN R[k].1 := fun k hk hk' => by subst hl; simp
  have HGET := Lib.hid hget
  clear hget hl
  have HLL := Lib.hid hll
  clear hll
  go_wp2_with fail
  go_loopw [4, 18] (fun lv i wr => ∃ k : Nat, i = .int .i64 k ∧ k ≤ R.length ∧ Hid (RI w2 l k lv wr)) (fun _ i _ => R.length - (intOf i).toNat)
  case atStart => exact ⟨0, rfl, by omega, Lib.hid ⟨by simpa [zcells] using HO.out.1, HO.out.2⟩⟩
  case round =>
    obtain ⟨k, rfl, hk, HI⟩ := hrel
    obtain ⟨hrow, hb⟩ := HI.out
    by_cases hlt : k < R.length
    · obtain ⟨g, o, rfl, _, hc⟩ := HP.out wr hb (by omega)
      obtain ⟨q0, q1⟩ := hc k hlt
      have hx := HRS.out.2 R[k] (List.getElem_mem hlt)
      have hlk : k < l.length := by have := HLL.out; omega
      have hz := zcells_take hlk
      rw [HGET.out k hlt hlk] at hz
      generalize R[k] = x at q0 q1 hx hz
      have HZ := Lib.hid hz
      have HROW := Lib.hid hrow
      have HB := Lib.hid hb
      clear hc hz hrow hb HI hlk
      obtain ⟨s1, hs1⟩ : ∃ s1, s1 = (spanN x.1).1 := ⟨_, rfl⟩
      obtain ⟨s2, hs2⟩ : ∃ s2, s2 = (spanN x.1).2 := ⟨_, rfl⟩
      have HSP : Hid (∀ W : World, Calls Try.prog 31 #[.int .u64 x.1] W fun e w' => e = .returned (.agg #[.int .u32 s1, .int .u32 s2]) ∧ Below W.heap.size W w') := Lib.hid fun W => by rw [hs1, hs2]; exact spanAt_any x.1 W hx.1 hx.2
      rw [← hs1, ← hs2] at HZ
      clear hs1 hs2 hx
      have i1 : (k : Int) < (R.length : Int) := by omega
      have k0 : (0 : Int) ≤ (k : Int) := by omega
      go_wp2_with fail
      refine (HSP.out _).mono ?_
      rintro e w4 ⟨rfl, b4⟩
      have b4' : Below wr.heap.size wr w4 := ((Below.refl _ wr).alloc (Nat.le_refl _) _).trans (b4.mono (by simp))
      have HR4 := Lib.hid (own_belows HROW.out b4')
      have hB4 := HB.out.trans (b4'.mono HB.out.size)
      have hs4 := hB4.size
      clear b4
      go_wp2_with (at_builtin; refine wpList_append_own _ rfl _ _ 26 rfl w2.heap.size 32 i0 (.agg #[.int .u32 0, .int .u32 0]) 2 8 Try.underlying26 hi hz0 hz1 hz2 rfl (by decide) _ _ _ rfl (HR4.out.alloc _) ⟨w4.heap.size, 0, none⟩ 1 1 [.int .u32 s1, .int .u32 s2] rfl rfl (World.news_of_block (cs := #[.int .u32 s1, .int .u32 s2]) (t := 32) (fr := (0, 0)) (heap_alloc_new w4 _)) (by simp [Value.oneCell']) (by simp only [maxLen]; omega) (by omega) (by simp; omega) ?_; intro v' w5 hown' hgrow _)
      go_roundw
      case rel =>
        refine ⟨k + 1, by go_num, by omega, Lib.hid ⟨by rw [HZ.out]; exact hown', (hB4.alloc hB4.size _).grown hgrow (by simp; omega) (fun j hj => (HR4.out.lt j hj).1)⟩⟩
      case measure => simp [intOf]; omega
    · obtain rfl : k = R.length := by omega
      have hfull : l.take R.length = l := by rw [← HLL.out, List.take_length]
      rw [hfull] at hrow
      have hz : IsZ wr u4 l := isZ_of_row (base := w2.heap.size) (by rw [HLL.out]; exact hrow)
      have HZ := Lib.hid hz
      clear hrow hfull hz HI
      go_wp2
      go_ret
      exact ⟨_, l, rfl, HRS.out.1, HZ.out, HB2.out.trans (hb.mono HB2.out.size)⟩
end Go.Proofs.Ytjljkpecpofbcaa
