/- Contracts: append of ranges onto a row of one's own; slices.Clone; the sort. -/
import Derived.Test.YtonhmppobdbidaaG6
import Derived.Test.YtonhmppobdbidaaShelf
import Derived.Shelf.SlSortCmp.NoneTotal
import Derived.Deep.AppendSrc
namespace Go.Proofs.Ytonhmppobdbidaa
open Go.RowKit Go.Shelf

theorem Zs.news {w : World} {ad : Addr} {L : List (Nat × Nat)} (h : Zs w (some ad) L) : ∀ j u, (pcells L)[j]? = some u → w.cell? (ad.add j) = some u := by
  intro j u hj
  have hlt : j < L.length * 2 := by
    rw [← pcells_length]
    exact (List.getElem?_eq_some_iff.1 hj).1
  obtain ⟨g, o, e, _, hc⟩ := h (by omega)
  cases e
  have hk : j / 2 < L.length := by omega
  obtain ⟨p1, p2⟩ := pcells_at L (j / 2) hk
  obtain ⟨q1, q2⟩ := hc (j / 2) hk
  rw [add_off]
  rcases Nat.mod_two_eq_zero_or_one j with hm | hm
  · rw [show 2 * (j / 2) = j by omega, hj] at p1
    rw [show o + j / 2 * 2 = o + j by omega] at q1
    rw [q1, ← p1]
  · rw [show 2 * (j / 2) + 1 = j by omega, hj] at p2
    rw [show o + j / 2 * 2 + 1 = o + j by omega] at q2
    rw [q2, ← p2]

/-- A row of one's own that is not nil. -/
def Row (w : World) (base : Nat) (v : Value) (L : List (Nat × Nat)) : Prop := w.ownsRow base 33 2 v L.length (pcells L) ∧ ∃ g cap, v = .slice (some ⟨g, 0, none⟩) L.length cap
theorem Row.isZ {w : World} {base : Nat} {v : Value} {L : List (Nat × Nat)} (h : Row w base v L) : IsZ w v L := isZ_of_row h.1
theorem Row.empty (w : World) : Row (w.alloc (.cells #[] 33)) w.heap.size (.slice (some ⟨w.heap.size, 0, none⟩) 0 0) [] :=
  ⟨World.ownsRow_made w #[] 0 (Nat.le_refl _) (Nat.zero_le _) (by simp), _, _, rfl⟩

theorem wpList_app_z {ops : Array Oper} {rest : List Oper} {o : Oper} {a : Act} {Q : Exit → Act → World → Prop} {w : World} (hgd : o.guard = none) (s x : Operand)
    (ho : o.op = .call { callee := .builtin .append, args := #[s, x], argTypes := #[22, 22] })
    (base : Nat) (v : Value) (L : List (Nat × Nat)) (hs : a.eval s = v) (hrow : Row w base v L) (A : Option Addr) (c : Nat) (M : List (Nat × Nat)) (hx : a.eval x = .slice A M.length c) (hM : Zs w A M)
    (hA : A = none → M = []) (hlen : L.length + M.length ≤ 4294967300) (hbase : base ≤ w.heap.size)
    (h : ∀ g cap w', Row w' base (.slice (some ⟨g, 0, none⟩) (L.length + M.length) cap) (L ++ M) → Below base w w' → wpList Try.prog ops Q rest (a.put o.dst (.slice (some ⟨g, 0, none⟩) (L.length + M.length) cap)) w') : wpList Try.prog ops Q (o :: rest) a w := by
  obtain ⟨i0, hi, hz0, hz1, hz2⟩ := info_parts info33
  obtain ⟨hown, g, cap, rfl⟩ := hrow
  cases A with
  | some ad =>
    refine wpList_append_own w hgd s x 22 ho base 33 i0 (.agg #[.int .u32 0, .int .u32 0]) 2 8 Try.underlying22 hi hz0 hz1 hz2 rfl (by decide) _ _ _ hs hown ad M.length c (pcells M) hx (pcells_length M) hM.news (pcells_one M) (by simp only [maxLen]; omega) (by omega) hbase ?_
    intro v' w' h1 h2 h3
    have hnn : v' ≠ .slice none 0 0 := fun e => by have := (h3.1 e).1; cases this
    rcases h1.2 with ⟨e, _⟩ | ⟨g', cap', cur, rfl, _⟩
    · exact absurd e hnn
    · refine h g' cap' w' ⟨?_, g', cap', by simp⟩ ((Below.refl _ _).grown h2 hbase (fun k hk => (hown.lt k hk).1))
      rw [pcells_append]
      simpa using h1
  | none =>
    obtain rfl := hA rfl
    refine wpList_plain hgd fun K hK => ?_
    have hr := run_append_room_src (P := Try.prog) w 22 22 o.type 33 i0 Try.underlying22 hi g 0 L.length cap (.slice none 0 c) 0 [] (by rw [hz1]; exact Src.ofNil w Try.underlying22 c) (by
      rcases hown.2 with ⟨e, _⟩ | ⟨g', cap', cur, e, _, _, hnc, _⟩
      · cases e
      · cases e; exact hnc) (by simp) (by simp)
    unfold Oper.wp execOp
    simp only [ho, resolve, invoke, builtin, Sem.run_bind, Sem.run_pure, Result.andThen_ok, List.map_toArray, List.map_cons, List.map_nil, hs, hx, List.length_nil, hr]
    exact hK _ _ (h g cap w ⟨by simpa using hown, g, cap, by simp⟩ (Below.refl _ _))

theorem clone_any {v : Value} (L : List (Nat × Nat)) (w : World) (hlen : L.length ≤ 4294967300) (hz : IsZ w v L) : Calls Try.prog 29 #[v] w fun e w' => ∃ v', e = .returned v' ∧ ((v' = .slice none 0 0 ∧ L = []) ∨ Row w' w.heap.size v' L) ∧ Below w.heap.size w w' := by
  obtain ⟨A, c, rfl, n1, m1, z⟩ := hz
  have q22 : ∀ (w : World) (a : Option Addr) (n c n' c' : Nat), (binOp .eql 22 (.slice a n c) (.slice none n' c')).run Try.prog w = .ok (.bool a.isNone) w := fun w a n c n' c' => Lib.run_eql_slice_nil w _ _ a n c n' c' Try.underlying22
  cases A with
  | none =>
    have hL : L = [] := by
      cases L with
      | nil => rfl
      | cons r L => obtain ⟨g, o, e, _⟩ := z (by simp); cases e
    subst hL
    go_enter Try.func29, Try.ntmps29
    go_wp2
    go_ret
    exact ⟨_, rfl, .inl (by simp), Below.refl _ _⟩
  | some ad =>
    have HZ := Lib.hid (z.belows ((Below.refl _ w).alloc (Nat.le_refl _) (.cells #[] 33)))
    clear z
    go_enter Try.func29, Try.ntmps29
    go_wp2_with (at_builtin; refine wpList_app_z rfl _ _ rfl w.heap.size _ [] rfl (Row.empty w) _ _ L rfl HZ.out (fun e => by cases e) (by simpa using hlen) (by simp) ?_; intro g cap w1 hrow b1)
    go_ret
    exact ⟨_, rfl, .inr (by simpa using hrow), ((Below.refl _ w).alloc (Nat.le_refl _) _).trans b1⟩

/-- A range's cells. -/
def encN (x : Nat × Nat) : List Value := [.int .u32 x.1, .int .u32 x.2]
theorem closure31 (x y : Nat × Nat) (W : World) : Calls Try.prog 31 #[.agg #[.int .u32 x.1, .int .u32 x.2], .agg #[.int .u32 y.1, .int .u32 y.2]] W fun e w' => e = .returned (.int .i64 (cmpN x.1 y.1)) ∧ ∃ q os', w' = Sort.grow (W.drewN q) os' := by
  have hc := fun u : World => compare_any x.1 y.1 u
  generalize cmpN x.1 y.1 = r at hc ⊢
  go_enter Try.func31, Try.ntmps31
  go_wp2_with (go_at_call 32; refine (hc _).mono ?_; rintro e w1 ⟨rfl, rfl⟩)
  go_ret
  exact ⟨rfl, 0, _, by rw [Sort.alloc_eq_grow, Sort.alloc_eq_grow, Sort.grow_grow]; rfl⟩
theorem cmpN_lt (x y : Nat × Nat) : ltOf (fun x y : Nat × Nat => cmpN x.1 y.1) x y = decide (x.1 < y.1) := by
  unfold ltOf cmpN
  by_cases h1 : x.1 < y.1
  · simp [h1]
  · by_cases h2 : y.1 < x.1 <;> simp [h1, h2]
theorem swoN : Sort.SWO (ltOf fun x y : Nat × Nat => cmpN x.1 y.1) where
  irrefl x := by rw [cmpN_lt]; simp
  trans x y z h1 h2 := by rw [cmpN_lt] at *; simp at *; omega
  ntrans x y z h1 h2 := by rw [cmpN_lt] at *; simp at *; omega

theorem holds_row {w : World} {base g cap : Nat} {L : List (Nat × Nat)} (h : w.ownsRow base 33 2 (.slice (some ⟨g, 0, none⟩) L.length cap) L.length (pcells L)) : Sort.HoldsK encN 2 w g 0 L.toArray := by
  intro j hj
  rw [Sort.size_flatK] at hj
  simp only [List.size_toArray] at hj
  rw [Sort.get_flatK _ _ _ _ (by simpa using hj)]
  have hk : j / 2 < L.length := by omega
  obtain ⟨p1, p2⟩ := pcells_at L (j / 2) hk
  refine ⟨?_, by rw [Nat.zero_add]; exact World.ownsRow.frozenAt h _⟩
  rw [Nat.zero_add, World.ownsRow.cellAt h _ hj]
  have e1 : L.toArray[j / 2]! = L[j / 2] := by simp [hk]
  rw [e1]
  rcases Nat.mod_two_eq_zero_or_one j with hm | hm
  · rw [show 2 * (j / 2) = j by omega] at p1
    rw [p1, hm]; rfl
  · rw [show 2 * (j / 2) + 1 = j by omega] at p2
    rw [p2, hm]; rfl

theorem below_sorted {w : World} {base g n : Nat} {d : Array (Nat × Nat)} {os : Array Obj} (hb : base ≤ g) (hg : g < w.heap.size) : Below base w (sortWorldK encN 2 w g 0 n d os) := by
  refine ⟨rfl, rfl, rfl, size_sortWorldK_c encN 2 w g 0 n d os, fun k hk => ?_⟩
  unfold sortWorldK Sort.grow Sort.putRowK Sort.putRow Sort.mapBlock Sort.ahead
  simp only
  rw [Array.getElem?_append_left (by simp; omega), Array.getElem?_modify, if_neg (by omega)]

/-- What the sort leaves. -/
def Sorted (L M : List (Nat × Nat)) : Prop := M.Perm L ∧ ∀ i j (hi : i < M.length) (hj : j < M.length), i < j → M[i].1 ≤ M[j].1
theorem sort_any {v : Value} {base : Nat} (L : List (Nat × Nat)) (w : World) (hlen : L.length ≤ 4294967300) (hrow : (v = .slice none 0 0 ∧ L = []) ∨ Row w base v L) :
    Calls Try.prog 30 #[v, .func (.func 31) #[] #[]] w fun e w' => e = .returned (.tuple #[]) ∧ ∃ M, Sorted L M ∧ IsZ w' v M ∧ Below base w w' := by
  rcases hrow with ⟨rfl, rfl⟩ | ⟨hown, g, cap, rfl⟩
  · have h := AnyF.slices_SortFunc_none sortR none 0 (.func (.func 31) #[] #[]) w
    refine (show Calls Try.prog 30 _ _ _ from h).mono ?_
    rintro e w' ⟨rfl, rfl⟩
    exact ⟨rfl, [], ⟨List.Perm.refl _, fun i j hi => by simp at hi⟩, ⟨none, 0, rfl, Nat.le_refl _, by simp, Zs.nil _ _⟩, Below.refl _ _⟩
  · have hg : base ≤ g ∧ g < w.heap.size := hown.lt g rfl
    have hcap : L.length ≤ cap ∧ cap ≤ maxLen := by
      rcases hown.2 with ⟨e, _⟩ | ⟨g', cap', cur, e, _, _, hnc, hm, _⟩
      · cases e
      · cases e; exact ⟨hnc, hm⟩
    have hH := holds_row hown
    have eg : ∀ args w, (callFunc 31 args).run Try.prog w = .ok (.enter 31 args) w := enters_of Try.func31 (by kernel_rfl) rfl
    have h := AnyQ.slices_SortFunc sortR 2 Try.isAgg33 Try.sizeOf33 encN (fun _ => rfl) (fun x v hv => by simp [encN] at hv; rcases hv with rfl | rfl <;> rfl) (fun x y => cmpN x.1 y.1) swoN 31 #[] g 0 cap L.toArray w eg
      (fun _ _ _ _ x y => closure31 x y _) hH hg.2 (by simp; omega)
    simp only [List.size_toArray] at h
    refine (show Calls Try.prog 30 _ _ _ from h).mono ?_
    rintro e w' ⟨rfl, d', n, os, hp, hsrt, rfl⟩
    obtain ⟨hsz, _, hperm⟩ := hp
    have hsz' : d'.size = L.length := by simpa using hsz
    have hH' := holdsK_sortWorldK_c encN 2 w g 0 L.toArray d' n os hH hg.2 hsz
    refine ⟨rfl, d'.toList, ⟨?_, fun i j hi hj hij => ?_⟩, ⟨_, cap, by simp [hsz'], by simpa [hsz'] using hcap.1, hcap.2, fun _ => ⟨g, 0, rfl, Nat.lt_of_lt_of_le hg.2 (size_sortWorldK_c encN 2 w g 0 n d' os), fun k hk => ?_⟩⟩, below_sorted hg.1 hg.2⟩
    · have e1 : d'.extract 0 L.length = d' := by rw [← hsz']; simp
      have e2 : L.toArray.extract 0 L.length = L.toArray := by simp
      rw [e1, e2] at hperm
      simpa using hperm
    · have := hsrt i j (by omega) hij (by simpa [hsz'] using hj)
      rw [cmpN_lt] at this
      have hi' : i < d'.size := by simpa using hi
      have hj' : j < d'.size := by simpa using hj
      simp [hi', hj'] at this
      simpa using this
    · have hk' : k < d'.size := by simpa using hk
      obtain ⟨q1, _⟩ := hH'.cell (i := k) (c := 0) hk' (by omega)
      obtain ⟨q2, _⟩ := hH'.cell (i := k) (c := 1) hk' (by omega)
      simp [hk', encN] at q1 q2
      exact ⟨by simpa using q1, by simpa using q2⟩
end Go.Proofs.Ytonhmppobdbidaa
