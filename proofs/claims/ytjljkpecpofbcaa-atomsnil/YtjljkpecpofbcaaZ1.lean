/- Words: a slice that reads as ranges; append of ranges onto a row of one's own; the document's Same. -/
import Derived.Test.YtjljkpecpofbcaaP4
import Derived.Test.YtjljkpecpofbcaaAPlain
import Derived.Deep.AppendSrc
namespace Go.Proofs.Ytjljkpecpofbcaa
open Go.RowKit Go.Shelf

/-- Ranges as cells. -/
def zcells (l : List (Nat × Nat)) : List Value := l.flatMap fun x => [.int .u32 x.1, .int .u32 x.2]
theorem zcells_snoc (l : List (Nat × Nat)) (x : Nat × Nat) : zcells (l ++ [x]) = zcells l ++ [.int .u32 x.1, .int .u32 x.2] := by simp [zcells]
theorem zcells_append (l m : List (Nat × Nat)) : zcells (l ++ m) = zcells l ++ zcells m := by simp [zcells]
theorem zcells_nil : zcells [] = [] := rfl
theorem zcells_length (l : List (Nat × Nat)) : (zcells l).length = l.length * 2 := by induction l with
  | nil => rfl
  | cons x l ih => simp [zcells] at *; omega
theorem zcells_one (l : List (Nat × Nat)) : ∀ u ∈ zcells l, u.oneCell' = true := by
  intro u hu
  obtain ⟨x, _, h⟩ := List.mem_flatMap.1 hu
  simp at h
  rcases h with rfl | rfl <;> rfl
theorem zcells_at (L : List (Nat × Nat)) (k : Nat) (hk : k < L.length) : (zcells L)[2 * k]? = some (.int .u32 L[k].1) ∧ (zcells L)[2 * k + 1]? = some (.int .u32 L[k].2) := by
  induction L generalizing k with
  | nil => simp at hk
  | cons x L ih =>
    have e : zcells (x :: L) = .int .u32 x.1 :: .int .u32 x.2 :: zcells L := by simp [zcells]
    rw [e]
    match k with
    | 0 => simp
    | k + 1 =>
      have := ih k (by simpa using hk)
      rw [show 2 * (k + 1) = 2 * k + 1 + 1 by omega]
      simpa using this
theorem info32 : (Try.prog.info? 32).map (fun i => (i.zero, i.size, i.bytes)) = some (some (.agg #[.int .u32 0, .int .u32 0]), 2, 8) := by kernel_rfl
/-- The address of a slice that reads as these ranges. -/
def Zs (w : World) (A : Option Addr) (L : List (Nat × Nat)) : Prop := 0 < L.length → ∃ g o, A = some ⟨g, o, none⟩ ∧ g < w.heap.size ∧
  ∀ k (hk : k < L.length), w.cell? ⟨g, o + k * 2, none⟩ = some (.int .u32 L[k].1) ∧ w.cell? ⟨g, o + k * 2 + 1, none⟩ = some (.int .u32 L[k].2)
/-- A value that is a slice of these ranges. -/
def IsZ (w : World) (v : Value) (L : List (Nat × Nat)) : Prop := ∃ A c, v = .slice A L.length c ∧ L.length ≤ c ∧ c ≤ maxLen ∧ Zs w A L
theorem Zs.nil (w : World) (A : Option Addr) : Zs w A [] := fun h => absurd h (by simp)
theorem Zs.below {w w' : World} {A : Option Addr} {L : List (Nat × Nat)} {B : Nat} (h : Zs w A L) (hB : w.heap.size ≤ B) (hb : Below B w w') : Zs w' A L := fun hn => by
  obtain ⟨g, o, e, hg, hc⟩ := h hn
  exact ⟨g, o, e, Nat.lt_of_lt_of_le hg (hb.size), fun k hk => ⟨(hb.cell (p := ⟨g, _, none⟩) (by show g < B; omega)).trans (hc k hk).1, (hb.cell (p := ⟨g, _, none⟩) (by show g < B; omega)).trans (hc k hk).2⟩⟩
theorem Zs.belows {w w' : World} {A : Option Addr} {L : List (Nat × Nat)} (h : Zs w A L) (hb : Below w.heap.size w w') : Zs w' A L := h.below (Nat.le_refl _) hb
theorem IsZ.belows {w w' : World} {v : Value} {L : List (Nat × Nat)} (h : IsZ w v L) (hb : Below w.heap.size w w') : IsZ w' v L := by
  obtain ⟨A, c, e, h1, h2, h3⟩ := h
  exact ⟨A, c, e, h1, h2, h3.belows hb⟩
theorem Zs.drop {w : World} {A : Option Addr} {L : List (Nat × Nat)} (h : Zs w A L) {k cap : Nat} (hc : L.length ≤ cap) : Zs w (if cap = k then A else A.map (·.add (k * 2))) (L.drop k) := by
  intro hn
  have hl : k < L.length := by simp at hn; omega
  obtain ⟨g, o, rfl, hg, hcell⟩ := h (by omega)
  rw [if_neg (by omega)]
  refine ⟨g, o + k * 2, by rw [Option.map_some, add_off], hg, fun j hj => ?_⟩
  have hj' : k + j < L.length := by simp at hj; omega
  have := hcell (k + j) hj'
  simp only [List.getElem_drop]
  rw [show o + k * 2 + j * 2 = o + (k + j) * 2 by omega]
  exact this
/-- What is owned reads. -/
theorem isZ_of_row {w : World} {base : Nat} {v : Value} {L : List (Nat × Nat)} (h : w.ownsRow base 32 2 v L.length (zcells L)) : IsZ w v L := by
  rcases h.2 with ⟨rfl, h0⟩ | ⟨g, cap, cur, rfl, hb, hg, hnc, hm, _⟩
  · obtain rfl := List.eq_nil_of_length_eq_zero h0
    exact ⟨none, 0, rfl, Nat.le_refl _, by simp, Zs.nil _ _⟩
  · refine ⟨_, cap, rfl, hnc, hm, fun _ => ⟨g, 0, rfl, (Array.getElem?_eq_some_iff.1 hg).1, fun k hk => ?_⟩⟩
    obtain ⟨h1, h2⟩ := zcells_at L k hk
    have e1 := World.ownsRow.cells h (g := g) rfl _ _ h1
    have e2 := World.ownsRow.cells h (g := g) rfl _ _ h2
    rw [add_none, Nat.mul_comm] at e1 e2
    rw [Nat.zero_add]
    exact ⟨e1, e2⟩
theorem Zs.news {w : World} {ad : Addr} {L : List (Nat × Nat)} (h : Zs w (some ad) L) : ∀ j u, (zcells L)[j]? = some u → w.cell? (ad.add j) = some u := by
  intro j u hj
  have hlt : j < L.length * 2 := by
    rw [← zcells_length]
    exact (List.getElem?_eq_some_iff.1 hj).1
  obtain ⟨g, o, e, _, hc⟩ := h (by omega)
  cases e
  have hk : j / 2 < L.length := by omega
  obtain ⟨p1, p2⟩ := zcells_at L (j / 2) hk
  obtain ⟨q1, q2⟩ := hc (j / 2) hk
  rw [add_off]
  rcases Nat.mod_two_eq_zero_or_one j with hm | hm
  · rw [show 2 * (j / 2) = j by omega, hj] at p1
    rw [show o + j / 2 * 2 = o + j by omega] at q1
    rw [q1, ← p1]
  · rw [show 2 * (j / 2) + 1 = j by omega, hj] at p2
    rw [show o + j / 2 * 2 + 1 = o + j by omega] at q2
    rw [q2, ← p2]

/-- A row of one's own that is not nil. -/
def Row (w : World) (base : Nat) (v : Value) (L : List (Nat × Nat)) : Prop := w.ownsRow base 32 2 v L.length (zcells L) ∧ ∃ g cap, v = .slice (some ⟨g, 0, none⟩) L.length cap
theorem Row.isZ {w : World} {base : Nat} {v : Value} {L : List (Nat × Nat)} (h : Row w base v L) : IsZ w v L := isZ_of_row h.1
theorem Row.empty (w : World) : Row (w.alloc (.cells #[] 32)) w.heap.size (.slice (some ⟨w.heap.size, 0, none⟩) 0 0) [] :=
  ⟨World.ownsRow_made w #[] 0 (Nat.le_refl _) (Nat.zero_le _) (by simp), _, _, rfl⟩

theorem wpList_app_z {ops : Array Oper} {rest : List Oper} {o : Oper} {a : Act} {Q : Exit → Act → World → Prop} {w : World} (hgd : o.guard = none) (s x : Operand)
    (ho : o.op = .call { callee := .builtin .append, args := #[s, x], argTypes := #[26, 26] })
    (base : Nat) (v : Value) (L : List (Nat × Nat)) (hs : a.eval s = v) (hrow : Row w base v L) (A : Option Addr) (c : Nat) (M : List (Nat × Nat)) (hx : a.eval x = .slice A M.length c) (hM : Zs w A M)
    (hA : A = none → M = []) (hlen : L.length + M.length ≤ 4294967300) (hbase : base ≤ w.heap.size)
    (h : ∀ g cap w', Row w' base (.slice (some ⟨g, 0, none⟩) (L.length + M.length) cap) (L ++ M) → Below base w w' → wpList Try.prog ops Q rest (a.put o.dst (.slice (some ⟨g, 0, none⟩) (L.length + M.length) cap)) w') : wpList Try.prog ops Q (o :: rest) a w := by
  obtain ⟨i0, hi, hz0, hz1, hz2⟩ := info_parts info32
  obtain ⟨hown, g, cap, rfl⟩ := hrow
  cases A with
  | some ad =>
    refine wpList_append_own w hgd s x 26 ho base 32 i0 (.agg #[.int .u32 0, .int .u32 0]) 2 8 Try.underlying26 hi hz0 hz1 hz2 rfl (by decide) _ _ _ hs hown ad M.length c (zcells M) hx (zcells_length M) hM.news (zcells_one M) (by simp only [maxLen]; omega) (by omega) hbase ?_
    intro v' w' h1 h2 h3
    have hnn : v' ≠ .slice none 0 0 := fun e => by have := (h3.1 e).1; cases this
    rcases h1.2 with ⟨e, _⟩ | ⟨g', cap', cur, rfl, _⟩
    · exact absurd e hnn
    · refine h g' cap' w' ⟨?_, g', cap', by simp⟩ ((Below.refl _ _).grown h2 hbase (fun k hk => (hown.lt k hk).1))
      rw [zcells_append]
      simpa using h1
  | none =>
    obtain rfl := hA rfl
    refine wpList_plain hgd fun K hK => ?_
    have hr := run_append_room_src (P := Try.prog) w 26 26 o.type 32 i0 Try.underlying26 hi g 0 L.length cap (.slice none 0 c) 0 [] (by rw [hz1]; exact Src.ofNil w Try.underlying26 c) (by
      rcases hown.2 with ⟨e, _⟩ | ⟨g', cap', cur, e, _, _, hnc, _⟩
      · cases e
      · cases e; exact hnc) (by simp) (by simp)
    unfold Oper.wp execOp
    simp only [ho, resolve, invoke, builtin, Sem.run_bind, Sem.run_pure, Result.andThen_ok, List.map_toArray, List.map_cons, List.map_nil, hs, hx, List.length_nil, hr]
    exact hK _ _ (h g cap w ⟨by simpa using hown, g, cap, by simp⟩ (Below.refl _ _))

set_option maxRecDepth 100000 in
set_option maxHeartbeats 1000000 in
/-- Same, of one list twice. -/
theorem rsame_any {v1 v2 : Value} (L : List (Nat × Nat)) (w : World) (h1 : IsZ w v1 L) (h2 : IsZ w v2 L) : Calls Try.prog 14 #[v1, v2] w fun e w' => e = .returned (.bool true) ∧ Below w.heap.size w w' := by
  obtain ⟨A1, c1, rfl, n1, m1, z1⟩ := h1
  obtain ⟨A2, c2, rfl, n2, m2, z2⟩ := h2
  have hL : L.length ≤ 9223372036854775807 := Nat.le_trans n1 m1
  have H1 := Lib.hid z1
  have H2 := Lib.hid z2
  clear z1 z2
  go_enter Try.func14, Try.ntmps14
  go_wp2
  go_loopw [5] (fun i wr => ∃ k : Nat, i = .int .i64 k ∧ k ≤ L.length ∧ ∃ q, wr = w.drewN q) (fun i _ => L.length - (intOf i).toNat)
  case atStart => exact ⟨0, rfl, by omega, 0, rfl⟩
  case round =>
    obtain ⟨k, rfl, hk, q, rfl⟩ := hrel
    by_cases hlt : k < L.length
    · obtain ⟨g1, o1, e1, _, r1⟩ := H1.out (by omega)
      obtain ⟨g2, o2, e2, _, r2⟩ := H2.out (by omega)
      subst e1 e2
      obtain ⟨c10, c11⟩ := r1 k hlt
      obtain ⟨c20, c21⟩ := r2 k hlt
      clear r1 r2
      generalize L[k] = x at c10 c11 c20 c21
      have i0 : (0 : Int) ≤ (k : Int) := by omega
      have i1 : (k : Int) < (L.length : Int) := by omega
      go_wp2_with fail
      go_quiet (fail)
      go_wp2
      go_roundw
      case rel => exact ⟨k + 1, by go_num, by omega, q + nq, rfl⟩
      case measure => simp [intOf]; omega
    · go_wp2
      go_ret
      exact ⟨rfl, bdrewN (Below.refl _ _) _⟩

end Go.Proofs.Ytjljkpecpofbcaa
