/- Words: a slice in memory that reads as a list, whatever its elements' cells are; rows of one's own; append. Over any program. -/
import Derived.Test.YtmndgbpfophniaaB0
namespace Go.Proofs.Ytmndgbpfophniaa
open Go.RowKit Go.Shelf

section
variable {α : Type} {n : Nat} {f : α → Array Value}
/-- Elements as cells. -/
def fcs (f : α → Array Value) (L : List α) : List Value := L.flatMap fun r => (f r).toList
theorem fcs_append (L M : List α) : fcs f (L ++ M) = fcs f L ++ fcs f M := by simp [fcs]
theorem fcs_cons (r : α) (L : List α) : fcs f (r :: L) = (f r).toList ++ fcs f L := by simp [fcs]
theorem fcs_length (hf : ∀ r, (f r).size = n) (L : List α) : (fcs f L).length = L.length * n := by
  induction L with
  | nil => simp [fcs]
  | cons x L ih => rw [fcs_cons, List.length_append, ih, Array.length_toList, hf, List.length_cons, Nat.succ_mul]; omega
theorem fcs_at (hf : ∀ r, (f r).size = n) (L : List α) (k j : Nat) (hk : k < L.length) (hj : j < n) : (fcs f L)[k * n + j]? = (f L[k])[j]? := by
  induction L generalizing k with
  | nil => simp at hk
  | cons x L ih =>
    rw [fcs_cons]
    match k with
    | 0 =>
      rw [Nat.zero_mul, Nat.zero_add, List.getElem?_append_left (by rw [Array.length_toList, hf]; exact hj)]
      simp
    | k + 1 =>
      rw [List.getElem?_append_right (by rw [Array.length_toList, hf, Nat.succ_mul]; omega), Array.length_toList, hf, show (k + 1) * n + j - n = k * n + j by rw [Nat.succ_mul]; omega]
      exact ih k (by simpa using hk)
theorem fcs_one (h1 : ∀ r, ∀ u ∈ (f r).toList, u.oneCell' = true) (L : List α) : ∀ u ∈ fcs f L, u.oneCell' = true := by
  intro u hu
  obtain ⟨x, _, h⟩ := List.mem_flatMap.1 hu
  exact h1 x u h
/-- The address of a slice that reads as these. -/
def Fs (n : Nat) (f : α → Array Value) (w : World) (A : Option Addr) (L : List α) : Prop := 0 < L.length → ∃ g o, A = some ⟨g, o, none⟩ ∧ g < w.heap.size ∧
  ∀ k (hk : k < L.length) j, j < n → w.cell? ⟨g, o + k * n + j, none⟩ = (f L[k])[j]?
/-- A value that is a slice of these. -/
def IsF (n : Nat) (f : α → Array Value) (w : World) (v : Value) (L : List α) : Prop := ∃ A c, v = .slice A L.length c ∧ L.length ≤ c ∧ c ≤ maxLen ∧ Fs n f w A L
theorem Fs.nil (w : World) (A : Option Addr) : Fs n f w A [] := fun h => absurd h (by simp)
theorem Fs.below {w w' : World} {A : Option Addr} {L : List α} {B : Nat} (h : Fs n f w A L) (hB : w.heap.size ≤ B) (hb : Below B w w') : Fs n f w' A L := fun hn => by
  obtain ⟨g, o, e, hg, hc⟩ := h hn
  exact ⟨g, o, e, Nat.lt_of_lt_of_le hg hb.size, fun k hk j hj => (hb.cell (p := ⟨g, _, none⟩) (by show g < B; omega)).trans (hc k hk j hj)⟩
theorem Fs.belows {w w' : World} {A : Option Addr} {L : List α} (h : Fs n f w A L) (hb : Below w.heap.size w w') : Fs n f w' A L := h.below (Nat.le_refl _) hb
theorem IsF.belows {w w' : World} {v : Value} {L : List α} (h : IsF n f w v L) (hb : Below w.heap.size w w') : IsF n f w' v L := by
  obtain ⟨A, c, e, h1, h2, h3⟩ := h
  exact ⟨A, c, e, h1, h2, h3.belows hb⟩
/-- One element of a slice. -/
theorem Fs.at {w : World} {A : Option Addr} {L : List α} (h : Fs n f w A L) (k : Nat) (hk : k < L.length) : ∃ g o, A = some ⟨g, o, none⟩ ∧ g < w.heap.size ∧ ∀ j, j < n → w.cell? ⟨g, o + k * n + j, none⟩ = (f L[k])[j]? := by
  obtain ⟨g, o, e, hg, hc⟩ := h (by omega)
  exact ⟨g, o, e, hg, hc k hk⟩
/-- What is owned reads. -/
theorem isF_of_row (hf : ∀ r, (f r).size = n) {w : World} {base : Nat} {e : TypeId} {v : Value} {L : List α} (h : w.ownsRow base e n v L.length (fcs f L)) : IsF n f w v L := by
  rcases h.2 with ⟨rfl, h0⟩ | ⟨g, cap, cur, rfl, hb, hg, hnc, hm, _⟩
  · obtain rfl := List.eq_nil_of_length_eq_zero h0
    exact ⟨none, 0, rfl, Nat.le_refl _, by simp, Fs.nil _ _⟩
  · refine ⟨_, cap, rfl, hnc, hm, fun _ => ⟨g, 0, rfl, (Array.getElem?_eq_some_iff.1 hg).1, fun k hk j hj => ?_⟩⟩
    have h1 := fcs_at hf L k j hk hj
    have h2 : (f L[k])[j]? = some ((f L[k])[j]'(by rw [hf]; exact hj)) := Array.getElem?_eq_getElem _
    rw [h2] at h1 ⊢
    have e1 := World.ownsRow.cells h (g := g) rfl _ _ h1
    rw [add_none] at e1
    rw [Nat.zero_add]
    exact e1
/-- What is made reads. -/
theorem isF_of_at (hf : ∀ r, (f r).size = n) {w : World} {B c : Nat} {L : List α} {cs : Array Value} {T : TypeId} (h : At w B cs T) (hc : cs.toList = fcs f L) (h1 : L.length ≤ c) (h2 : c ≤ maxLen) : IsF n f w (.slice (some ⟨B, 0, none⟩) L.length c) L := by
  refine ⟨_, c, rfl, h1, h2, fun _ => ⟨B, 0, rfl, h.lt, fun k hk j hj => ?_⟩⟩
  rw [Nat.zero_add, h.cell, ← Array.getElem?_toList, hc, fcs_at hf L k j hk hj]
theorem Fs.news (hf : ∀ r, (f r).size = n) {w : World} {ad : Addr} {L : List α} (h : Fs n f w (some ad) L) : ∀ j u, (fcs f L)[j]? = some u → w.cell? (ad.add j) = some u := by
  intro j u hj
  have hlt : j < L.length * n := by
    rw [← fcs_length hf]
    exact (List.getElem?_eq_some_iff.1 hj).1
  have hn : 0 < n := by
    rcases Nat.eq_zero_or_pos n with h0 | h0
    · subst h0; omega
    · exact h0
  have hL : 0 < L.length := by
    rcases Nat.eq_zero_or_pos L.length with h0 | h0
    · rw [h0, Nat.zero_mul] at hlt; omega
    · exact h0
  obtain ⟨g, o, e, _, hc⟩ := h hL
  cases e
  have hk : j / n < L.length := Nat.div_lt_of_lt_mul (by rw [Nat.mul_comm]; exact hlt)
  have hm : j % n < n := Nat.mod_lt _ hn
  have p := fcs_at hf L (j / n) (j % n) hk hm
  have q := hc (j / n) hk (j % n) hm
  have hdm : j / n * n + j % n = j := by rw [Nat.mul_comm]; exact Nat.div_add_mod j n
  rw [hdm, hj] at p
  rw [addr_off, show o + j = o + j / n * n + j % n by rw [Nat.add_assoc, hdm], q, ← p]
/-- New cells of one element. -/
theorem f_new (_ : ∀ r, (f r).size = n) (w : World) (L : List α) (cs : Array Value) (T : TypeId) (hc : cs.toList = fcs f L) : ∀ (j : Nat) (u : Value), (fcs f L)[j]? = some u → (w.alloc (.cells cs T)).cell? ((⟨w.heap.size, 0, none⟩ : Addr).add j) = some u := by
  intro j u h
  rw [add_none, (At.new w cs T).cell j, ← Array.getElem?_toList, hc]
  exact h
theorem row_belows {W W' : World} {base : Nat} {e : TypeId} {size : Nat} {v : Value} {k : Nat} {xs : List Value} (h : W.ownsRow base e size v k xs) (hb : Below W.heap.size W W') : W'.ownsRow base e size v k xs := by
  refine h.kept (row := none) ⟨hb.os, hb.tape, hb.output, hb.size, fun k hk _ => hb.block k hk⟩ ?_
  cases hv : v.ownBlock with
  | none => exact .inl rfl
  | some g => exact .inr (by simp)
/-- A row of one's own that is not nil. -/
def RowF (n : Nat) (f : α → Array Value) (e : TypeId) (w : World) (base : Nat) (v : Value) (L : List α) : Prop := w.ownsRow base e n v L.length (fcs f L) ∧ ∃ g cap, v = .slice (some ⟨g, 0, none⟩) L.length cap
theorem RowF.isF (hf : ∀ r, (f r).size = n) {e : TypeId} {w : World} {base : Nat} {v : Value} {L : List α} (h : RowF n f e w base v L) : IsF n f w v L := isF_of_row hf h.1
theorem RowF.empty (e : TypeId) (w : World) : RowF n f e (w.alloc (.cells #[] e)) w.heap.size (.slice (some ⟨w.heap.size, 0, none⟩) 0 0) [] :=
  ⟨World.ownsRow_made w #[] 0 (Nat.le_refl _) (Nat.zero_le _) (by simp), _, _, rfl⟩
/-- Append of a slice, nil or not, onto a row of one's own that is not nil. -/
theorem wpList_app_f {P : Program} {T e : TypeId} {z : Value} {by' : Nat} (hf : ∀ r, (f r).size = n) (h1 : ∀ r, ∀ u ∈ (f r).toList, u.oneCell' = true) (ht : P.underlying T = some (.slice e)) (hinfo : (P.info? e).map (fun i => (i.zero, i.size, i.bytes)) = some (some z, n, by')) (hzs : z.cells.size = n) (hn : 0 < n)
    {ops : Array Oper} {rest : List Oper} {o : Oper} {a : Act} {Q : Exit → Act → World → Prop} {w : World} (hgd : o.guard = none) (s x : Operand)
    (ho : o.op = .call { callee := .builtin .append, args := #[s, x], argTypes := #[T, T] })
    (base : Nat) (v : Value) (L : List α) (hs : a.eval s = v) (hrow : RowF n f e w base v L) (A : Option Addr) (c : Nat) (M : List α) (hx : a.eval x = .slice A M.length c) (hM : Fs n f w A M)
    (hA : A = none → M = []) (hlen : L.length + M.length ≤ maxLen) (hby : (L.length + M.length) * by' ≤ 140737488355328) (hbase : base ≤ w.heap.size)
    (h : ∀ g cap w', RowF n f e w' base (.slice (some ⟨g, 0, none⟩) (L.length + M.length) cap) (L ++ M) → Below base w w' → wpList P ops Q rest (a.put o.dst (.slice (some ⟨g, 0, none⟩) (L.length + M.length) cap)) w') : wpList P ops Q (o :: rest) a w := by
  obtain ⟨i0, hi, hz0, hz1, hz2⟩ := info_parts hinfo
  obtain ⟨hown, g, cap, rfl⟩ := hrow
  cases A with
  | some ad =>
    refine wpList_append_own w hgd s x T ho base e i0 z n by' ht hi hz0 hz1 hz2 hzs hn _ _ _ hs hown ad M.length c (fcs f M) hx (fcs_length hf M) (hM.news hf) (fcs_one h1 M) hlen hby hbase ?_
    intro v' w' h1 h2 h3
    have hnn : v' ≠ .slice none 0 0 := fun e => by have := (h3.1 e).1; cases this
    rcases h1.2 with ⟨e, _⟩ | ⟨g', cap', cur, rfl, _⟩
    · exact absurd e hnn
    · refine h g' cap' w' ⟨?_, g', cap', by simp⟩ ((Below.refl _ _).grown h2 hbase (fun k hk => (hown.lt k hk).1))
      rw [fcs_append]
      simpa using h1
  | none =>
    obtain rfl := hA rfl
    refine wpList_plain hgd fun K hK => ?_
    have hr := run_append_room_src (P := P) w T T o.type e i0 ht hi g 0 L.length cap (.slice none 0 c) 0 [] (by rw [hz1]; exact Src.ofNil w ht c) (by
      rcases hown.2 with ⟨e, _⟩ | ⟨g', cap', cur, e, _, _, hnc, _⟩
      · cases e
      · cases e; exact hnc) (by simp) (by simp)
    unfold Oper.wp execOp
    simp only [ho, resolve, invoke, builtin, Sem.run_bind, Sem.run_pure, Result.andThen_ok, List.map_toArray, List.map_cons, List.map_nil, hs, hx, List.length_nil, hr]
    exact hK _ _ (h g cap w ⟨by simpa using hown, g, cap, by simp⟩ (Below.refl _ _))
/-- Append of new elements onto a row of one's own, nil or not. -/
theorem wpList_app_new {P : Program} {T e : TypeId} {z : Value} {by' : Nat} (hf : ∀ r, (f r).size = n) (h1 : ∀ r, ∀ u ∈ (f r).toList, u.oneCell' = true) (ht : P.underlying T = some (.slice e)) (hinfo : (P.info? e).map (fun i => (i.zero, i.size, i.bytes)) = some (some z, n, by')) (hzs : z.cells.size = n) (hn : 0 < n)
    {ops : Array Oper} {rest : List Oper} {o : Oper} {a : Act} {Q : Exit → Act → World → Prop} {w : World} (hgd : o.guard = none) (s x : Operand)
    (ho : o.op = .call { callee := .builtin .append, args := #[s, x], argTypes := #[T, T] })
    (base : Nat) (v : Value) (L : List α) (hs : a.eval s = v) (hrow : w.ownsRow base e n v L.length (fcs f L)) (ad : Addr) (c : Nat) (M : List α) (hx : a.eval x = .slice (some ad) M.length c) (hM : ∀ j u, (fcs f M)[j]? = some u → w.cell? (ad.add j) = some u)
    (hlen : L.length + M.length ≤ maxLen) (hby : (L.length + M.length) * by' ≤ 140737488355328) (hbase : base ≤ w.heap.size)
    (h : ∀ v' w', w'.ownsRow base e n v' (L ++ M).length (fcs f (L ++ M)) → Below base w w' → wpList P ops Q rest (a.put o.dst v') w') : wpList P ops Q (o :: rest) a w := by
  obtain ⟨i0, hi, hz0, hz1, hz2⟩ := info_parts hinfo
  refine wpList_append_own w hgd s x T ho base e i0 z n by' ht hi hz0 hz1 hz2 hzs hn _ _ _ hs hrow ad M.length c (fcs f M) hx (fcs_length hf M) hM (fcs_one h1 M) hlen hby hbase ?_
  intro v' w' g1 g2 _
  refine h v' w' (by rw [fcs_append, List.length_append]; exact g1) ((Below.refl _ _).grown g2 hbase (fun k hk => (hrow.lt k hk).1))
end
end Go.Proofs.Ytmndgbpfophniaa
