/- Contracts of the document: find, Get, Floor, Ceil; append of pairs onto a row of one's own; parts of a slice. -/
import Derived.Test.YtiknelhfdcmkjaaC0
import Derived.Deep.AppendSrc
namespace Go.Proofs.Ytiknelhfdcmkjaa
open Go.RowKit

theorem size26 (u : World) : (sizeOf (Try.prog.elem 26)).run Try.prog u = .ok 2 u := by kernel_rfl
theorem und26 : Try.prog.underlying 26 = some (.slice (Try.prog.elem 26)) := by kernel_rfl
theorem Ps.none {w : World} {A : Option Addr} {L : List (Int × Int)} (h : Ps w A L) (hA : A = none) : L = [] := by
  cases L with
  | nil => rfl
  | cons r L => obtain ⟨g, o, e, _⟩ := h (by simp); rw [hA] at e; cases e
theorem Ps.take {w : World} {A : Option Addr} {L : List (Int × Int)} (h : Ps w A L) (q : Nat) : Ps w A (L.take q) := fun hn => by
  have hn' : 0 < L.length := by have := List.length_take_le q L; rw [List.length_take] at hn; omega
  obtain ⟨g, o, e, hg, hc⟩ := h hn'
  refine ⟨g, o, e, hg, fun k hk => ?_⟩
  have hk' : k < L.length := by rw [List.length_take] at hk; omega
  simp only [List.getElem_take]
  exact hc k hk'
/-- l[q:]. -/
theorem slice_from (A : Option Addr) (c : Nat) (L : List (Int × Int)) (q : Nat) (hq : q ≤ L.length) (hc : L.length ≤ c) (hm : c ≤ maxLen) : ∃ A2 c2, (∀ u : World, (Instr.slice 26 (.slice A L.length c) (some (.int .i64 (q : Int))) none none).run Try.prog u = .ok (.slice A2 (L.length - q) c2) u) ∧
    L.length - q ≤ c2 ∧ c2 ≤ maxLen ∧ ∀ W, Ps W A L → Ps W A2 (L.drop q) := by
  refine ⟨if c = q then A else A.map (·.add (q * 2)), c - q, fun u => ?_, by omega, by omega, fun W h => h.drop hc⟩
  rw [run_slice_l u 26 A L.length c und26 .i64 q (by omega) (by omega), size26]
  simp [Result.andThen, sliced]
/-- l[:q]. -/
theorem slice_to (A : Option Addr) (c : Nat) (L : List (Int × Int)) (q : Nat) (hq : q ≤ L.length) (hc : L.length ≤ c) (hm : c ≤ maxLen) : ∀ u : World, (Instr.slice 26 (.slice A L.length c) none (some (.int .i64 (q : Int))) none).run Try.prog u = .ok (.slice A q c) u := by
  intro u
  rw [run_slice_h u 26 A L.length c und26 .i64 q (by omega) (by omega), size26]
  simp [Result.andThen, sliced]
  intro h; cases A <;> simp [Addr.add]

theorem Ps.news {w : World} {ad : Addr} {L : List (Int × Int)} (h : Ps w (some ad) L) : ∀ j u, (pcells L)[j]? = some u → w.cell? (ad.add j) = some u := by
  intro j u hj
  have hlt : j < L.length * 2 := by
    rw [← pcells_length]
    exact (List.getElem?_eq_some_iff.1 hj).1
  obtain ⟨g, o, e, _, hc⟩ := h (by omega)
  cases e
  have hk : j / 2 < L.length := by omega
  obtain ⟨p1, p2⟩ := pcells_at L (j / 2) hk
  obtain ⟨q1, q2⟩ := hc (j / 2) hk
  rw [add_off]
  rcases Nat.mod_two_eq_zero_or_one j with hm | hm
  · rw [show 2 * (j / 2) = j by omega, hj] at p1
    rw [show o + j / 2 * 2 = o + j by omega] at q1
    rw [q1, ← p1]
  · rw [show 2 * (j / 2) + 1 = j by omega, hj] at p2
    rw [show o + j / 2 * 2 + 1 = o + j by omega] at q2
    rw [q2, ← p2]

/-- A row of one's own that is not nil. -/
def Row (w : World) (base : Nat) (v : Value) (L : List (Int × Int)) : Prop := w.ownsRow base 47 2 v L.length (pcells L) ∧ ∃ g cap, v = .slice (some ⟨g, 0, none⟩) L.length cap
theorem Row.isP {w : World} {base : Nat} {v : Value} {L : List (Int × Int)} (h : Row w base v L) : IsP w v L := isP_of_row (by decide) h.1
theorem Row.empty (w : World) : Row (w.alloc (.cells #[] 47)) w.heap.size (.slice (some ⟨w.heap.size, 0, none⟩) 0 0) [] :=
  ⟨World.ownsRow_made w #[] 0 (Nat.le_refl _) (Nat.zero_le _) (by simp), _, _, rfl⟩
theorem Row.alloc {w : World} {base : Nat} {v : Value} {L : List (Int × Int)} (h : Row w base v L) (o : Obj) : Row (w.alloc o) base v L := ⟨h.1.alloc o, h.2⟩

theorem wpList_app_z {ops : Array Oper} {rest : List Oper} {o : Oper} {a : Act} {Q : Exit → Act → World → Prop} {w : World} (hgd : o.guard = none) (s x : Operand)
    (ho : o.op = .call { callee := .builtin .append, args := #[s, x], argTypes := #[26, 26] })
    (base : Nat) (v : Value) (L : List (Int × Int)) (hs : a.eval s = v) (hrow : Row w base v L) (A : Option Addr) (n c : Nat) (M : List (Int × Int)) (hx : a.eval x = .slice A n c) (hn : n = M.length) (hM : Ps w A M)
    (hlen : L.length + M.length ≤ 4294967300) (hbase : base ≤ w.heap.size)
    (h : ∀ g cap w', Row w' base (.slice (some ⟨g, 0, none⟩) (L.length + M.length) cap) (L ++ M) → Below base w w' → wpList Try.prog ops Q rest (a.put o.dst (.slice (some ⟨g, 0, none⟩) (L.length + M.length) cap)) w') : wpList Try.prog ops Q (o :: rest) a w := by
  subst hn
  obtain ⟨i0, hi, hz0, hz1, hz2⟩ := info_parts info47
  obtain ⟨hown, g, cap, rfl⟩ := hrow
  have hA : A = .none → M = [] := hM.none
  cases A with
  | some ad =>
    refine wpList_append_own w hgd s x 26 ho base 47 i0 (.agg #[.int .u64 0, .int .i64 0]) 2 16 Try.underlying26 hi hz0 hz1 hz2 rfl (by decide) _ _ _ hs hown ad M.length c (pcells M) hx (pcells_length M) hM.news (pcells_one M) (by simp only [maxLen]; omega) (by omega) hbase ?_
    intro v' w' h1 h2 h3
    have hnn : v' ≠ .slice .none 0 0 := fun e => by have := (h3.1 e).1; cases this
    rcases h1.2 with ⟨e, _⟩ | ⟨g', cap', cur, rfl, _⟩
    · exact absurd e hnn
    · refine h g' cap' w' ⟨?_, g', cap', by simp⟩ ((Below.refl _ _).grown h2 hbase (fun k hk => (hown.lt k hk).1))
      rw [pcells_append]
      simpa using h1
  | none =>
    obtain rfl := hA rfl
    refine wpList_plain hgd fun K hK => ?_
    have hr := run_append_room_src (P := Try.prog) w 26 26 o.type 47 i0 Try.underlying26 hi g 0 L.length cap (.slice .none 0 c) 0 [] (by rw [hz1]; exact Src.ofNil w Try.underlying26 c) (by
      rcases hown.2 with ⟨e, _⟩ | ⟨g', cap', cur, e, _, _, hnc, _⟩
      · cases e
      · cases e; exact hnc) (by simp) (by simp)
    unfold Oper.wp execOp
    simp only [ho, resolve, invoke, builtin, Sem.run_bind, Sem.run_pure, Result.andThen_ok, List.map_toArray, List.map_cons, List.map_nil, hs, hx, List.length_nil, hr]
    exact hK _ _ (h g cap w ⟨by simpa using hown, g, cap, by simp⟩ (Below.refl _ _))

/-- Whether the key is there. -/
def isK (L : List (Int × Int)) (k : Int) : Bool := (getL L k).isSome
set_option maxRecDepth 100000 in
set_option maxHeartbeats 1000000 in
theorem rfind_any {v : Value} (L : List (Int × Int)) (k : Int) (w : World) (hu : Up L) (hz : IsP w v L) : Calls Try.prog 33 #[v, .int .u64 k] w fun e w' => e = .returned (.tuple #[.int .i64 (posL L k : Int), .bool (isK L k)]) ∧ Below w.heap.size w w' := by
  obtain ⟨A, c, rfl, n1, m1, z1⟩ := hz
  simp only [maxLen] at m1
  have hpl := pos_le (k := k) hu
  have hbef : ∀ i (hi : i < posL L k) (hl : i < L.length), (L[i]).1 < k := fun i hi hl => pos_before hu hi hl
  have HB := Lib.hid hbef
  have HIS := Lib.hid (pos_is (k := k) hu)
  have HZ := Lib.hid z1
  clear z1 hbef
  generalize hp : posL L k = p at hpl HB HIS ⊢
  clear hp
  go_enter Try.func33, Try.ntmps33
  go_wp2
  go_loop [6] (fun i => ∃ j : Nat, i = .int .i64 j ∧ j ≤ p) (fun i => L.length - (intOf i).toNat)
  case atStart => exact ⟨0, rfl, by omega⟩
  case round =>
    obtain ⟨j, rfl, hj⟩ := hrel
    by_cases hlt : j < p
    · have hl : j < L.length := by omega
      obtain ⟨g, o, rfl, hg, hc⟩ := HZ.out (by omega)
      have c0 := (hc j hl).1
      have hk := HB.out j hlt hl
      clear hc
      generalize L[j] = x at c0 hk
      have i1 : (j : Int) < (L.length : Int) := by omega
      go_wp2
      go_round
      case rel => exact ⟨j + 1, by go_num, by omega⟩
      case measure => simp [intOf]; omega
    · obtain rfl : j = p := by omega
      rcases HIS.out with ⟨v, hl, e1, e2, _⟩ | ⟨e2, _, e1⟩
      · obtain ⟨g, o, rfl, hg, hc⟩ := HZ.out (by omega)
        have c0 := (hc j hl).1
        rw [e1] at c0
        have c1 : w.cell? ⟨g, o + j * 2, none⟩ = some (.int .u64 k) := c0
        have i1 : (j : Int) < (L.length : Int) := by omega
        have d2 : decide (k < k) = false := by simp
        have HI : Hid (isK L k = true) := Lib.hid (by unfold isK; rw [e2]; rfl)
        clear hc e1 e2 c0
        go_wp2
        go_quiet (fail)
        go_wp2
        go_ret2
        exact ⟨by rw [HI.out]; rfl, bdrewN (Below.refl _ _) _⟩
      · have HI : Hid (isK L k = false) := Lib.hid (by unfold isK; rw [e2]; rfl)
        by_cases hl : j < L.length
        · have hk := e1 hl
          obtain ⟨g, o, rfl, hg, hc⟩ := HZ.out (by omega)
          have c0 := (hc j hl).1
          clear hc e1 e2
          generalize L[j] = x at c0 hk
          have i1 : (j : Int) < (L.length : Int) := by omega
          have d2 : decide (x.1 < k) = false := by simp; omega
          have d3 : (x.1 == k) = false := by simp; omega
          go_wp2
          go_quiet (fail)
          go_wp2
          go_ret2
          exact ⟨by rw [HI.out]; rfl, bdrewN (Below.refl _ _) _⟩
        · obtain rfl : j = L.length := by omega
          clear e1 e2
          have d0 : decide ((L.length : Int) < (L.length : Int)) = false := by simp
          have d1 : decide (L.length < L.length) = false := by simp
          go_wp2
          go_quiet (fail)
          go_wp2
          go_ret2
          exact ⟨by rw [HI.out]; rfl, bdrewN (Below.refl _ _) _⟩
end Go.Proofs.Ytiknelhfdcmkjaa
