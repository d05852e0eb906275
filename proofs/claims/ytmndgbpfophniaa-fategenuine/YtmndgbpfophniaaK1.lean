/- Maps in memory as functions: a block that is a map, its keys values of a type of ours, its elements any values. Over any program. -/
import Derived.Test.YtmndgbpfophniaaB0
import Derived.Maps.OwnSet
import Derived.Maps.OwnOps
import Derived.Maps.Views
import Derived.DeepKeys4
namespace Go.Proofs.Ytmndgbpfophniaa
open Go.RowKit Go.Maps

/-- An element as it stands. -/
def rdV (v : Value) : Option (DataW Value × List MemPlace) := some (.held v, [])
section
variable {κ : Type} {P : Program} {k : TypeId} {kv : κ → Value} {ok : κ → Prop}
/-- Block b is a map of s entries (at most n); of the keys that are ok it tells M. -/
def MapAt (P : Program) (k : TypeId) (kv : κ → Value) (ok : κ → Prop) (w : World) (b n s : Nat) (M : κ → Option Value) : Prop :=
  ∃ D : DataW Value, w.ownsMap P k rdV b n D ∧ Maps.size D = s ∧ ∀ x, ok x → ∀ kl, keyOf P k (kv x) = some kl → has D kl = (M x).isSome ∧ ∀ z, D.atKey kl z = ((M x).map DataW.held).getD z
theorem MapAt.made (w : World) : MapAt P k kv ok (w.alloc (.map #[] 0)) w.heap.size 0 0 (fun _ => none) :=
  ⟨.map [], World.ownsMap_made w P k rdV, rfl, fun _ _ _ _ => ⟨rfl, fun _ => rfl⟩⟩
theorem MapAt.heap {w w' : World} {b n s : Nat} {M : κ → Option Value} (h : MapAt P k kv ok w b n s M) (he : w'.heap[b]? = w.heap[b]?) : MapAt P k kv ok w' b n s M := by
  obtain ⟨D, ⟨es, clock, hb, r⟩, h2⟩ := h
  exact ⟨D, ⟨es, clock, he.trans hb, r⟩, h2⟩
theorem MapAt.lt {w : World} {b n s : Nat} {M : κ → Option Value} (h : MapAt P k kv ok w b n s M) : b < w.heap.size := by
  obtain ⟨D, h, _⟩ := h
  exact h.lt
theorem MapAt.belows {w w' : World} {b n s : Nat} {M : κ → Option Value} (h : MapAt P k kv ok w b n s M) (hb : Below w.heap.size w w') : MapAt P k kv ok w' b n s M := h.heap (hb.block b h.lt)
theorem MapAt.same {w : World} {b n s : Nat} {M M' : κ → Option Value} (h : MapAt P k kv ok w b n s M) (he : ∀ x, ok x → M x = M' x) : MapAt P k kv ok w b n s M' := by
  obtain ⟨D, h1, hs, h2⟩ := h
  exact ⟨D, h1, hs, fun x hx kl hk => by rw [← he x hx]; exact h2 x hx kl hk⟩
theorem held_of {o : Option Value} {v z : Value} (h : DataW.held v = (o.map DataW.held).getD (DataW.held z)) : v = o.getD z := by
  cases o with
  | none => injection h
  | some u => injection h
/-- A look-up with 'ok'. -/
theorem MapAt.look_ok {w : World} {b n s : Nat} {M : κ → Option Value} (h : MapAt P k kv ok w b n s M) (K : Keyed P k) {t e : TypeId} (ht : P.underlying t = some (.map k e)) {z : Value} (hz : (zeroValue e).run P w = .ok z w) {x : κ} (hx : ok x) {kl : Lit} (hk : keyOf P k (kv x) = some kl) :
    (Instr.lookup t (.map (some b)) (kv x) true).run P w = .ok (.tuple #[(M x).getD z, .bool (M x).isSome]) w := by
  obtain ⟨D, h1, _, h2⟩ := h
  obtain ⟨a1, a2⟩ := h2 x hx kl hk
  obtain ⟨v, ps, hrun, hv⟩ := h1.look_ok K ht hz (zd := .held z) (zp := []) rfl hk
  unfold rdV at hv
  injection hv with hv
  injection hv with hv _
  rw [a2] at hv
  rw [hrun, a1, held_of hv]
/-- A look-up without. -/
theorem MapAt.look {w : World} {b n s : Nat} {M : κ → Option Value} (h : MapAt P k kv ok w b n s M) (K : Keyed P k) {t e : TypeId} (ht : P.underlying t = some (.map k e)) {z : Value} (hz : (zeroValue e).run P w = .ok z w) {x : κ} (hx : ok x) {kl : Lit} (hk : keyOf P k (kv x) = some kl) :
    (Instr.lookup t (.map (some b)) (kv x) false).run P w = .ok ((M x).getD z) w := by
  obtain ⟨D, h1, _, h2⟩ := h
  obtain ⟨a1, a2⟩ := h2 x hx kl hk
  obtain ⟨v, ps, hrun, hv⟩ := h1.lookup K ht hz (zd := .held z) (zp := []) rfl hk
  unfold rdV at hv
  injection hv with hv
  injection hv with hv _
  rw [a2] at hv
  rw [hrun, held_of hv]
/-- A store. -/
theorem MapAt.put [DecidableEq κ] {w : World} {b n s : Nat} {M : κ → Option Value} (h : MapAt P k kv ok w b n s M) (K : Keyed P k) (hinj : ∀ x y, kv x = kv y → x = y) {t e : TypeId} (ht : P.underlying t = some (.map k e)) (hn : n < maxLen) {x : κ} (hx : ok x) {kl : Lit} (hk : keyOf P k (kv x) = some kl) (v : Value) :
    ∃ w', (Instr.mapUpdate t (.map (some b)) (kv x) v).run P w = .ok () w' ∧ MapAt P k kv ok w' b (n + 1) (if (M x).isSome then s else s + 1) (fun y => if y = x then some v else M y) ∧ w.grownBy w' (some b) := by
  obtain ⟨D, h1, hs, h2⟩ := h
  obtain ⟨w', hrun, r1, r2⟩ := h1.update K ht hn hk (val := v) (d := .held v) (ps := []) rfl
  refine ⟨w', hrun, ⟨_, r1, ?_, fun y hy kl' hk' => ?_⟩, r2⟩
  · rw [size_put (h1.tidy K), (h2 x hx kl hk).1, hs]
  by_cases hyx : y = x
  · subst hyx
    obtain rfl : kl' = kl := Option.some.inj (hk'.symm.trans hk)
    refine ⟨?_, fun z => ?_⟩
    · rw [has_put_same h1.isMap (K.key hk)]; simp
    · rw [atKey_put_same h1.isMap (K.key hk)]; simp
  · have hne : kl' ≠ kl := fun e => hyx (hinj _ _ (K.inj (hk'.trans (congrArg some e)) hk))
    obtain ⟨a1, a2⟩ := h2 y hy kl' hk'
    refine ⟨?_, fun z => ?_⟩
    · rw [has_put_other hne, a1]; simp only [if_neg hyx]
    · rw [atKey_put_other hne, a2]; simp only [if_neg hyx]
section
variable {w : World} {ops : Array Oper} {rest : List Oper} {o : Oper} {a : Act} {Q : Exit → Act → World → Prop}
theorem wpList_map_look_ok {b n s : Nat} {M : κ → Option Value} (hg : o.guard = none) (m x : Operand) (t : TypeId) (hop : o.op = Op.lookup t m x true) (e : TypeId) (K : Keyed P k) (ht : P.underlying t = some (.map k e)) {z : Value} (hz : (zeroValue e).run P w = .ok z w)
    (hm : a.eval m = .map (some b)) (h : MapAt P k kv ok w b n s M) (y : κ) (hy : ok y) (hx : a.eval x = kv y) {kl : Lit} (hk : keyOf P k (kv y) = some kl)
    (hK : wpList P ops Q rest (a.put o.dst (.tuple #[(M y).getD z, .bool (M y).isSome])) w) : wpList P ops Q (o :: rest) a w := by
  refine wpList_plain hg fun K' hK' => ?_
  have hrun := h.look_ok K ht hz hy hk
  unfold Oper.wp
  simp [execOp, hop, hm, hx, hrun, Result.andThen]
  exact hK' _ _ hK
theorem wpList_map_look {b n s : Nat} {M : κ → Option Value} (hg : o.guard = none) (m x : Operand) (t : TypeId) (hop : o.op = Op.lookup t m x false) (e : TypeId) (K : Keyed P k) (ht : P.underlying t = some (.map k e)) {z : Value} (hz : (zeroValue e).run P w = .ok z w)
    (hm : a.eval m = .map (some b)) (h : MapAt P k kv ok w b n s M) (y : κ) (hy : ok y) (hx : a.eval x = kv y) {kl : Lit} (hk : keyOf P k (kv y) = some kl)
    (hK : wpList P ops Q rest (a.put o.dst ((M y).getD z)) w) : wpList P ops Q (o :: rest) a w := by
  refine wpList_plain hg fun K' hK' => ?_
  have hrun := h.look K ht hz hy hk
  unfold Oper.wp
  simp [execOp, hop, hm, hx, hrun, Result.andThen]
  exact hK' _ _ hK
theorem wpList_map_put [DecidableEq κ] {b n s : Nat} {M : κ → Option Value} (hg : o.guard = none) (m x u : Operand) (t : TypeId) (hop : o.op = Op.mapUpdate t m x u) (e : TypeId) (K : Keyed P k) (hinj : ∀ x y, kv x = kv y → x = y) (ht : P.underlying t = some (.map k e)) (hn : n < maxLen)
    (hm : a.eval m = .map (some b)) (h : MapAt P k kv ok w b n s M) (y : κ) (hy : ok y) (v : Value) (hx : a.eval x = kv y) (hu : a.eval u = v) {kl : Lit} (hk : keyOf P k (kv y) = some kl)
    (hK : ∀ w', MapAt P k kv ok w' b (n + 1) (if (M y).isSome then s else s + 1) (fun y' => if y' = y then some v else M y') → w.grownBy w' (some b) → wpList P ops Q rest (a.put o.dst undef) w') : wpList P ops Q (o :: rest) a w := by
  refine wpList_plain hg fun K' hK' => ?_
  obtain ⟨w', hrun, r1, r2⟩ := h.put K hinj ht hn hy hk v
  unfold Oper.wp
  simp [execOp, hop, hm, hx, hu, hrun, Result.andThen]
  exact hK' _ _ (hK w' r1 r2)
/-- A store, as a step of a region that draws. -/
theorem step_map_put [DecidableEq κ] {E : Prop} {K' : Act → World → Prop} {b n s : Nat} {M : κ → Option Value} (hg : o.guard = none) (m x u : Operand) (t : TypeId) (hop : o.op = Op.mapUpdate t m x u) (e : TypeId) (K : Keyed P k) (hinj : ∀ x y, kv x = kv y → x = y) (ht : P.underlying t = some (.map k e)) (hn : n < maxLen)
    (hm : a.eval m = .map (some b)) (h : MapAt P k kv ok w b n s M) (y : κ) (hy : ok y) (v : Value) (hx : a.eval x = kv y) (hu : a.eval u = v) {kl : Lit} (hk : keyOf P k (kv y) = some kl)
    (hK : ∀ w', MapAt P k kv ok w' b (n + 1) (if (M y).isSome then s else s + 1) (fun y' => if y' = y then some v else M y') → w.grownBy w' (some b) → K' (a.put o.dst undef) w') : if Region.wanted o (yielded ops a.tmps) = true then Oper.wp P o a w K' Q else E := by
  rw [if_pos (by simp [Region.wanted, hg])]
  obtain ⟨w', hrun, r1, r2⟩ := h.put K hinj ht hn hy hk v
  unfold Oper.wp
  simp [execOp, hop, hm, hx, hu, hrun, Result.andThen]
  exact hK w' r1 r2
/-- Its length. -/
theorem wpList_map_len {b n s : Nat} {M : κ → Option Value} (hg : o.guard = none) (m : Operand) (t : TypeId) (hop : o.op = Op.call { callee := Callee.builtin Builtin.len, args := #[m], argTypes := #[t] }) (e : TypeId) (ht : P.underlying t = some (.map k e))
    (hm : a.eval m = .map (some b)) (h : MapAt P k kv ok w b n s M) (hK : wpList P ops Q rest (a.put o.dst (.int .i64 s)) w) : wpList P ops Q (o :: rest) a w := by
  obtain ⟨D, h1, rfl, _⟩ := h
  exact wpList_len_own w hg m t hop k e ht _ b n D hm h1 hK
theorem MapAt.run_len {b n s : Nat} {M : κ → Option Value} (h : MapAt P k kv ok w b n s M) {t e : TypeId} (ht : P.underlying t = some (.map k e)) (ty : TypeId) : (Builtin.len_ #[t] ty #[.map (some b)]).run P w = .ok (.int .i64 s) w := by
  obtain ⟨D, h1, rfl, _⟩ := h
  exact h1.len ht ty
end
end
end Go.Proofs.Ytmndgbpfophniaa
