/- Words: pieces of a slice of ranges, appended to a row of one's own. -/
import Derived.Test.YtjljkpecpofbcaaB8
namespace Go.Proofs.Ytjljkpecpofbcaa
open Go.RowKit Go.Shelf

theorem size26 (u : World) : (sizeOf (Try.prog.elem 26)).run Try.prog u = .ok 2 u := by kernel_rfl
theorem und26 : Try.prog.underlying 26 = some (.slice (Try.prog.elem 26)) := by kernel_rfl
theorem Zs.none {w : World} {A : Option Addr} {L : List (Nat × Nat)} (h : Zs w A L) (hA : A = none) : L = [] := by
  cases L with
  | nil => rfl
  | cons r L => obtain ⟨g, o, e, _⟩ := h (by simp); rw [hA] at e; cases e
theorem Zs.take {w : World} {A : Option Addr} {L : List (Nat × Nat)} (h : Zs w A L) (q : Nat) : Zs w A (L.take q) := fun hn => by
  have hn' : 0 < L.length := by have := List.length_take_le q L; rw [List.length_take] at hn; omega
  obtain ⟨g, o, e, hg, hc⟩ := h hn'
  refine ⟨g, o, e, hg, fun k hk => ?_⟩
  have hk' : k < L.length := by rw [List.length_take] at hk; omega
  simp only [List.getElem_take]
  exact hc k hk'
/-- l[q:]. -/
theorem slice_from (A : Option Addr) (c : Nat) (L : List (Nat × Nat)) (q : Nat) (hq : q ≤ L.length) (hc : L.length ≤ c) (hm : c ≤ maxLen) : ∃ A2 c2, (∀ u : World, (Instr.slice 26 (.slice A L.length c) (some (.int .i64 (q : Int))) none none).run Try.prog u = .ok (.slice A2 (L.length - q) c2) u) ∧
    L.length - q ≤ c2 ∧ c2 ≤ maxLen ∧ ∀ W, Zs W A L → Zs W A2 (L.drop q) := by
  refine ⟨if c = q then A else A.map (·.add (q * 2)), c - q, fun u => ?_, by omega, by omega, fun W h => h.drop hc⟩
  rw [run_slice_l u 26 A L.length c und26 .i64 q (by omega) (by omega), size26]
  simp [Result.andThen, sliced]
/-- l[:q]. -/
theorem slice_to (A : Option Addr) (c : Nat) (L : List (Nat × Nat)) (q : Nat) (hq : q ≤ L.length) (hc : L.length ≤ c) (hm : c ≤ maxLen) : ∀ u : World, (Instr.slice 26 (.slice A L.length c) none (some (.int .i64 (q : Int))) none).run Try.prog u = .ok (.slice A q c) u := by
  intro u
  rw [run_slice_h u 26 A L.length c und26 .i64 q (by omega) (by omega), size26]
  simp [Result.andThen, sliced]
  intro h; cases A <;> simp [Addr.add]

theorem Row.alloc {w : World} {base : Nat} {v : Value} {L : List (Nat × Nat)} (h : Row w base v L) (o : Obj) : Row (w.alloc o) base v L := ⟨h.1.alloc o, h.2⟩

theorem wpList_app_y {ops : Array Oper} {rest : List Oper} {o : Oper} {a : Act} {Q : Exit → Act → World → Prop} {w : World} (hgd : o.guard = none) (s x : Operand)
    (ho : o.op = .call { callee := .builtin .append, args := #[s, x], argTypes := #[26, 26] })
    (base : Nat) (v : Value) (L : List (Nat × Nat)) (hs : a.eval s = v) (hrow : Row w base v L) (A : Option Addr) (n c : Nat) (M : List (Nat × Nat)) (hx : a.eval x = .slice A n c) (hn : n = M.length) (hM : Zs w A M)
    (hlen : L.length + M.length ≤ 4294967300) (hbase : base ≤ w.heap.size)
    (h : ∀ g cap w', Row w' base (.slice (some ⟨g, 0, none⟩) (L.length + M.length) cap) (L ++ M) → Below base w w' → wpList Try.prog ops Q rest (a.put o.dst (.slice (some ⟨g, 0, none⟩) (L.length + M.length) cap)) w') : wpList Try.prog ops Q (o :: rest) a w := by
  subst hn
  obtain ⟨i0, hi, hz0, hz1, hz2⟩ := info_parts info32
  obtain ⟨hown, g, cap, rfl⟩ := hrow
  have hA : A = .none → M = [] := hM.none
  cases A with
  | some ad =>
    refine wpList_append_own w hgd s x 26 ho base 32 i0 (.agg #[.int .u32 0, .int .u32 0]) 2 8 Try.underlying26 hi hz0 hz1 hz2 rfl (by decide) _ _ _ hs hown ad M.length c (zcells M) hx (zcells_length M) hM.news (zcells_one M) (by simp only [maxLen]; omega) (by omega) hbase ?_
    intro v' w' h1 h2 h3
    have hnn : v' ≠ .slice .none 0 0 := fun e => by have := (h3.1 e).1; cases this
    rcases h1.2 with ⟨e, _⟩ | ⟨g', cap', cur, rfl, _⟩
    · exact absurd e hnn
    · refine h g' cap' w' ⟨?_, g', cap', by simp⟩ ((Below.refl _ _).grown h2 hbase (fun k hk => (hown.lt k hk).1))
      rw [zcells_append]
      simpa using h1
  | none =>
    obtain rfl := hA rfl
    refine wpList_plain hgd fun K hK => ?_
    have hr := run_append_room_src (P := Try.prog) w 26 26 o.type 32 i0 Try.underlying26 hi g 0 L.length cap (.slice .none 0 c) 0 [] (by rw [hz1]; exact Src.ofNil w Try.underlying26 c) (by
      rcases hown.2 with ⟨e, _⟩ | ⟨g', cap', cur, e, _, _, hnc, _⟩
      · cases e
      · cases e; exact hnc) (by simp) (by simp)
    unfold Oper.wp execOp
    simp only [ho, resolve, invoke, builtin, Sem.run_bind, Sem.run_pure, Result.andThen_ok, List.map_toArray, List.map_cons, List.map_nil, hs, hx, List.length_nil, hr]
    exact hK _ _ (h g cap w ⟨by simpa using hown, g, cap, by simp⟩ (Below.refl _ _))

theorem zs_one (w : World) (x : Nat × Nat) : Zs (w.alloc (.cells #[.int .u32 x.1, .int .u32 x.2] 32)) (some ⟨w.heap.size, 0, none⟩) [x] := fun _ =>
  ⟨w.heap.size, 0, rfl, (At.new w #[.int .u32 x.1, .int .u32 x.2] 32).lt, fun k hk => by
    have hA := At.new w #[.int .u32 x.1, .int .u32 x.2] 32
    obtain rfl : k = 0 := by simpa using hk
    exact ⟨(hA.cell 0).trans rfl, (hA.cell 1).trans rfl⟩⟩
end Go.Proofs.Ytjljkpecpofbcaa
