/- Trees that are gathered in a row, with their pairs: what keeps them. -/
import Derived.Test.YtiknelhfdcmkjaaL1
import Derived.Deep.CutBlock
namespace Go.Proofs.Ytiknelhfdcmkjaa
open Go.RowKit

theorem step_app_z {ops : Array Oper} {o : Oper} {a : Act} {w : World} {K : Act → World → Prop} {Q : Exit → Act → World → Prop} {E : Prop} (hgd : o.guard = none) (s x : Operand)
    (ho : o.op = .call { callee := .builtin .append, args := #[s, x], argTypes := #[26, 26] })
    (base : Nat) (v : Value) (L : List (Int × Int)) (hs : a.eval s = v) (hrow : Row w base v L) (A : Option Addr) (n c : Nat) (M : List (Int × Int)) (hx : a.eval x = .slice A n c) (hn : n = M.length) (hM : Ps w A M)
    (hlen : L.length + M.length ≤ 4294967300) (hbase : base ≤ w.heap.size)
    (h : ∀ g cap w', Row w' base (.slice (some ⟨g, 0, none⟩) (L.length + M.length) cap) (L ++ M) → Below base w w' → K (a.put o.dst (.slice (some ⟨g, 0, none⟩) (L.length + M.length) cap)) w') : if Region.wanted o (yielded ops a.tmps) = true then Oper.wp Try.prog o a w K Q else E := by
  rw [if_pos (by simp [Region.wanted, hgd])]
  subst hn
  obtain ⟨i0, hi, hz0, hz1, hz2⟩ := info_parts info47
  obtain ⟨hown, g, cap, rfl⟩ := hrow
  have hA : A = .none → M = [] := hM.none
  cases A with
  | some ad =>
    refine wp_append_own w s x 26 ho base 47 i0 (.agg #[.int .u64 0, .int .i64 0]) 2 16 Try.underlying26 hi hz0 hz1 hz2 rfl (by decide) _ _ _ hs hown ad M.length c (pcells M) hx (pcells_length M) hM.news (pcells_one M) (by simp only [maxLen]; omega) (by omega) hbase ?_
    intro v' w' h1 h2 h3
    have hnn : v' ≠ .slice .none 0 0 := fun e => by have := (h3.1 e).1; cases this
    rcases h1.2 with ⟨e, _⟩ | ⟨g', cap', cur, rfl, _⟩
    · exact absurd e hnn
    · refine h g' cap' w' ⟨?_, g', cap', by simp⟩ ((Below.refl _ _).grown h2 hbase (fun k hk => (hown.lt k hk).1))
      rw [pcells_append]
      simpa using h1
  | none =>
    obtain rfl := hA rfl
    have hr := run_append_room_src (P := Try.prog) w 26 26 o.type 47 i0 Try.underlying26 hi g 0 L.length cap (.slice .none 0 c) 0 [] (by rw [hz1]; exact Src.ofNil w Try.underlying26 c) (by
      rcases hown.2 with ⟨e, _⟩ | ⟨g', cap', cur, e, _, _, hnc, _⟩
      · cases e
      · cases e; exact hnc) (by simp) (by simp)
    unfold Oper.wp execOp
    simp only [ho, resolve, invoke, builtin, Sem.run_bind, Sem.run_pure, Result.andThen_ok, List.map_toArray, List.map_cons, List.map_nil, hs, hx, List.length_nil, hr]
    exact h g cap w ⟨by simpa using hown, g, cap, by simp⟩ (Below.refl _ _)
/-- A copy of pairs, behind none. -/
theorem step_copy {ops : Array Oper} {o : Oper} {a : Act} {w : World} {K : Act → World → Prop} {Q : Exit → Act → World → Prop} {E : Prop} (hgd : o.guard = none) (s x : Operand)
    (ho : o.op = .call { callee := .builtin .append, args := #[s, x], argTypes := #[26, 26] })
    (base : Nat) (v : Value) (hs : a.eval s = v) (hrow : Row w base v []) (A : Option Addr) (c : Nat) (M : List (Int × Int)) (hx : a.eval x = .slice A M.length c) (hM : Ps w A M)
    (hlen : M.length ≤ 4294967300) (hbase : base ≤ w.heap.size)
    (h : ∀ g cap w', Row w' base (.slice (some ⟨g, 0, none⟩) M.length cap) M → Below base w w' → K (a.put o.dst (.slice (some ⟨g, 0, none⟩) M.length cap)) w') : if Region.wanted o (yielded ops a.tmps) = true then Oper.wp Try.prog o a w K Q else E :=
  step_app_z hgd s x ho base v [] hs hrow A M.length c M hx rfl hM (by simpa using hlen) hbase (by simpa using h)
theorem step_append_own {P : Program} {ops : Array Oper} {o : Oper} {a : Act} {w : World} {K : Act → World → Prop} {Q : Exit → Act → World → Prop} {E : Prop} (hg : o.guard = none) (s x : Operand) (t : TypeId)
    (ho : o.op = .call { callee := .builtin .append, args := #[s, x], argTypes := #[t, t] })
    (base : Nat) (e : TypeId) (i : TypeInfo) (z : Value) (size bytes : Nat) (ht : P.underlying t = some (.slice e)) (hi : P.info? e = some i) (hz : i.zero = some z)
    (hsize : i.size = size) (hby : i.bytes = bytes) (hzs : z.cells.size = size) (hsz : 0 < size)
    (v : Value) (n : Nat) (xs : List Value) (hs : a.eval s = v) (hown : w.ownsRow base e size v n xs)
    (ad : Addr) (m c : Nat) (news : List Value) (hx : a.eval x = .slice (some ad) m c) (hl : news.length = m * size) (hnews : ∀ j u, news[j]? = some u → w.cell? (ad.add j) = some u) (h1 : ∀ u ∈ news, u.oneCell' = true)
    (h63 : n + m ≤ maxLen) (hbytes : (n + m) * bytes ≤ 140737488355328) (hbase : base ≤ w.heap.size)
    (h : ∀ v' w', w'.ownsRow base e size v' (n + m) (xs ++ news) → w.grownBy w' v.ownBlock → K (a.put o.dst v') w') : if Region.wanted o (yielded ops a.tmps) = true then Oper.wp P o a w K Q else E := by
  rw [if_pos (by simp [Region.wanted, hg])]
  exact wp_append_own w s x t ho base e i z size bytes ht hi hz hsize hby hzs hsz v n xs hs hown ad m c news hx hl hnews h1 h63 hbytes hbase fun v' w' q1 q2 _ => h v' w' q1 q2
theorem info28 : (Try.prog.info? 28).map (fun i => (i.zero, i.size, i.bytes)) = some (some (.agg #[.pointer none, .slice none 0 0]), 2, 32) := by kernel_rfl
/-- Trees with their pairs, as cells. -/
abbrev HeldT := Nat × Option Addr × Nat × Nat
def hcells (E : List HeldT) : List Value := E.flatMap fun e => [.pointer (some ⟨e.1, 0, none⟩), .slice e.2.1 e.2.2.1 e.2.2.2]
theorem hcells_snoc (E : List HeldT) (e : HeldT) : hcells (E ++ [e]) = hcells E ++ [.pointer (some ⟨e.1, 0, none⟩), .slice e.2.1 e.2.2.1 e.2.2.2] := by simp [hcells]
theorem hcells_at (E : List HeldT) (k : Nat) (hk : k < E.length) : (hcells E)[k * 2]? = some (.pointer (some ⟨E[k].1, 0, none⟩)) ∧ (hcells E)[k * 2 + 1]? = some (.slice E[k].2.1 E[k].2.2.1 E[k].2.2.2) := by
  induction E generalizing k with
  | nil => simp at hk
  | cons x E ih =>
    have e : hcells (x :: E) = .pointer (some ⟨x.1, 0, none⟩) :: .slice x.2.1 x.2.2.1 x.2.2.2 :: hcells E := by simp [hcells]
    rw [e]
    match k with
    | 0 => simp
    | k + 1 =>
      have := ih k (by simpa using hk)
      rw [show (k + 1) * 2 = k * 2 + 1 + 1 by omega]
      simpa using this
/-- A tree that has the pairs that it had. -/
def Kept (W : World) (e : HeldT) : Prop := ∃ L, IsTree1 W (.pointer (some ⟨e.1, 0, none⟩)) L ∧ IsP W (.slice e.2.1 e.2.2.1 e.2.2.2) L
theorem Kept.belows {W W' : World} {e : HeldT} (h : Kept W e) (hb : Below W.heap.size W W') : Kept W' e := by
  obtain ⟨L, h1, h2⟩ := h
  exact ⟨L, h1.belows hb, h2.belows hb⟩
theorem Kept.held {W W' : World} {e : HeldT} {Bh : Nat} {cs' : Array Value} (h : Kept W e) (hA : At W Bh cs' 28) (hg : W.grownBy W' (some Bh)) : Kept W' e := by
  obtain ⟨L, h1, h2⟩ := h
  exact ⟨L, h1.held hA hg, h2.held hA hg⟩
theorem below_of_none {W W' : World} (hg : W.grownBy W' none) : Below W.heap.size W W' := ⟨hg.os, hg.tape, hg.output, hg.size, fun k hk => hg.block k hk (by simp)⟩
/-- What a row of held trees that grows leaves alone. -/
theorem row_cases {W : World} {base n : Nat} {v : Value} {xs : List Value} (h : W.ownsRow base 28 2 v n xs) : v.ownBlock = none ∨ ∃ g cur, v.ownBlock = some g ∧ At W g cur 28 ∧ base ≤ g := by
  rcases h.2 with ⟨rfl, _⟩ | ⟨g, cap, cur, rfl, hb, hg, _⟩
  · exact .inl rfl
  · exact .inr ⟨g, cur, rfl, hg, hb⟩
theorem Kept.row {W W' : World} {base n : Nat} {v : Value} {xs : List Value} {e : HeldT} (h : Kept W e) (hr : W.ownsRow base 28 2 v n xs) (hg : W.grownBy W' v.ownBlock) : Kept W' e := by
  rcases row_cases hr with h0 | ⟨g, cur, h0, hA, _⟩
  · rw [h0] at hg; exact h.belows (below_of_none hg)
  · rw [h0] at hg; exact h.held hA hg
theorem Hd.row {W W' : World} {base n Bh : Nat} {v : Value} {xs : List Value} {L : List (Int × Int)} (h : Hd W Bh L) (hr : W.ownsRow base 28 2 v n xs) (hB : Bh < base) (hg : W.grownBy W' v.ownBlock) : Hd W' Bh L := by
  rcases row_cases hr with h0 | ⟨g, cur, h0, hA, hb⟩
  · rw [h0] at hg; exact h.belows (below_of_none hg)
  · rw [h0] at hg
    obtain ⟨B, A, m, c, h1, h2, h3⟩ := h
    exact ⟨B, A, m, c, h1.kept hg (fun e => by injection e with e; omega), h2.held hA hg, h3.held hA hg⟩
theorem At.row {W W' : World} {base n Bh : Nat} {v : Value} {xs : List Value} {cs : Array Value} {t : TypeId} (h : At W Bh cs t) (hr : W.ownsRow base 28 2 v n xs) (hB : Bh < base) (hg : W.grownBy W' v.ownBlock) : At W' Bh cs t :=
  h.kept hg (fun e => by have := (hr.lt _ e.symm).1; omega)
/-- Where the gathering stands. -/
def Gath (w : World) (Bh : Nat) (v : Value) (E : List HeldT) (W : World) : Prop := (∃ L, Hd W Bh L) ∧ Below w.heap.size w W ∧ W.ownsRow (Bh + 1) 28 2 v E.length (hcells E) ∧ ∀ e ∈ E, Kept W e
theorem Gath.done {w W W' : World} {Bh : Nat} {v : Value} {E : List HeldT} {en : Ending} (h : Gath w Bh v E W) (hB : w.heap.size ≤ Bh) (hd : Did W Bh en W') : Gath w Bh v E W' := by
  obtain ⟨⟨L, B, A, m, c, h1, _⟩, hb, hr, hk⟩ := h
  obtain ⟨_, L', h', hg⟩ := hd
  refine ⟨⟨L', h'⟩, below_grown hb hg hB, hr.kept hg ?_, fun e he => (hk e he).held h1 hg⟩
  right
  intro e
  have := (hr.lt _ e).1
  omega
theorem Gath.belows {w W W' : World} {Bh : Nat} {v : Value} {E : List HeldT} (h : Gath w Bh v E W) (hb : Below W.heap.size W W') : Gath w Bh v E W' := by
  obtain ⟨⟨L, h1⟩, hb0, hr, hk⟩ := h
  exact ⟨⟨L, h1.belows hb⟩, hb0.trans (hb.mono hb0.size), hr.kept (grown_none hb) (by cases v.ownBlock <;> simp), fun e he => (hk e he).belows hb⟩
theorem Gath.more {w W W' : World} {Bh B n c : Nat} {A : Option Addr} {v v' : Value} {E : List HeldT} (h : Gath w Bh v E W) (hB : w.heap.size ≤ Bh) (hn : Kept W (B, A, n, c)) (hg : W.grownBy W' v.ownBlock)
    (hr' : W'.ownsRow (Bh + 1) 28 2 v' (E.length + 1) (hcells E ++ [.pointer (some ⟨B, 0, none⟩), .slice A n c])) : Gath w Bh v' (E ++ [(B, A, n, c)]) W' := by
  obtain ⟨⟨L, h1⟩, hb0, hr, hk⟩ := h
  refine ⟨⟨L, h1.row hr (Nat.lt_succ_self _) hg⟩, hb0.grown hg hb0.size (fun k hk => Nat.le_trans hB (Nat.le_of_succ_le (hr.lt k hk).1)), ?_, fun e he => ?_⟩
  · rw [hcells_snoc, List.length_append]; exact hr'
  · rcases List.mem_append.1 he with he | he
    · exact (hk e he).row hr hg
    · obtain rfl := List.mem_singleton.1 he
      exact hn.row hr hg
end Go.Proofs.Ytiknelhfdcmkjaa
