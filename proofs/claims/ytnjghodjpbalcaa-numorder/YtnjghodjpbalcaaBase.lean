/-
  Words of this seat's proofs, over any program: byte lists as cells, a slice that reads as a byte list, an owned byte row, append onto either, bytes to string.
-/
import Derived.WalkKit
import Derived.Deep.AppendSrc
import Derived.Deep.AppendLies
import Derived.Deep.Upon
import Derived.Deep.Draws
import Derived.Laws.BytesString
import Derived.Laws.OwnMore
namespace Go.Proofs.Ytnjghodjpbalcaa
open Go.RowKit

/-- A byte as a cell. -/
def bcell (b : UInt8) : Value := .int .u8 b.toNat
/-- Bytes as cells. -/
def bcells (l : List UInt8) : List Value := l.map bcell
theorem bcells_append (a b : List UInt8) : bcells (a ++ b) = bcells a ++ bcells b := by simp [bcells]
theorem bcells_length (l : List UInt8) : (bcells l).length = l.length := by simp [bcells]
theorem bcells_get (l : List UInt8) (j : Nat) : (bcells l)[j]? = l[j]?.map bcell := by simp [bcells]
theorem bcells_one (l : List UInt8) : ∀ u ∈ bcells l, u.oneCell' = true := by
  intro u hu
  obtain ⟨b, _, rfl⟩ := List.mem_map.1 hu
  rfl
theorem bcells_string (s : ByteArray) : byteCells s = bcells s.data.toList := rfl

/-- The address of a slice that reads as the bytes l, all of it below block B. -/
def Rd (w : World) (B : Nat) (A : Option Addr) (l : List UInt8) : Prop :=
  0 < l.length → ∃ ad, A = some ad ∧ ad.block < B ∧ ∀ j b, l[j]? = some b → w.cell? (ad.add j) = some (bcell b)

section
variable {w w' : World} {B B' : Nat} {A : Option Addr} {l : List UInt8}
theorem Rd.nil (w : World) (B : Nat) (A : Option Addr) : Rd w B A [] := fun h => absurd h (by simp)
theorem addr_block (a : Addr) (n : Nat) : (a.add n).block = a.block := by unfold Addr.add; split <;> rfl
theorem addr_add (a : Addr) (i j : Nat) : (a.add i).add j = a.add (i + j) := by
  unfold Addr.add
  by_cases hi : i = 0 <;> by_cases hj : j = 0 <;> simp [hi, hj, Nat.add_assoc]
theorem Rd.keep (h : Rd w B A l) (hk : ∀ p : Addr, p.block < B → w'.cell? p = w.cell? p) : Rd w' B A l := fun hn => by
  obtain ⟨ad, e, hb, hc⟩ := h hn
  exact ⟨ad, e, hb, fun j b hj => (hk _ (by rw [addr_block]; exact hb)).trans (hc j b hj)⟩
theorem Rd.more (h : Rd w B A l) (hB : B ≤ B') : Rd w B' A l := fun hn => by
  obtain ⟨ad, e, hb, hc⟩ := h hn
  exact ⟨ad, e, by omega, hc⟩
theorem Rd.below (h : Rd w B A l) (hb : Below B w w') : Rd w' B A l := h.keep fun _ hp => hb.cell hp
theorem Rd.drewN (h : Rd w B A l) (k : Nat) : Rd (w.drewN k) B A l := h
theorem Rd.alloc (h : Rd w B A l) (hB : B ≤ w.heap.size) (o : Obj) : Rd (w.alloc o) B A l := h.keep fun p hp => World.cell?_alloc_lt w o p (by omega)
theorem Rd.cut (h : Rd w B A l) {k cap : Nat} (hk : k ≤ l.length) (hc : l.length ≤ cap) :
    Rd w B (if cap = k then A else A.map (·.add k)) (l.drop k) := by
  intro hn
  have hl : k < l.length := by simp at hn; omega
  obtain ⟨ad, rfl, hb, hcell⟩ := h (by omega)
  rw [if_neg (by omega)]
  refine ⟨ad.add k, rfl, by rw [addr_block]; exact hb, fun j b hb' => ?_⟩
  rw [addr_add]
  exact hcell _ b (by rw [← hb', List.getElem?_drop])
theorem Rd.take (h : Rd w B A l) (k : Nat) : Rd w B A (l.take k) := by
  intro hn
  obtain ⟨ad, e, hb, hc⟩ := h (by simp at hn; omega)
  refine ⟨ad, e, hb, fun j b hj => hc j b ?_⟩
  rw [List.getElem?_take] at hj
  split at hj
  · exact hj
  · cases hj
theorem Rd.src {P : Program} {tx e' : TypeId} (h : Rd w B A l) (hk : P.underlying tx = some (.slice e')) (c : Nat) : Src P 1 tx (.slice A l.length c) l.length (bcells l) w := by
  rcases Nat.eq_zero_or_pos l.length with h0 | h0
  · have : l = [] := List.eq_nil_of_length_eq_zero h0
    subst this
    cases A with
    | none => exact Src.ofNil w hk c
    | some a => exact Src.ofSlice w hk a 0 c [] rfl (by simp) (by simp)
  · obtain ⟨ad, rfl, _, hc⟩ := h h0
    refine Src.ofSlice w hk ad _ c _ (by rw [bcells_length]; simp) ?_ (bcells_one l)
    intro j u hu
    rw [bcells_get] at hu
    obtain ⟨b, hb, rfl⟩ := Option.map_eq_some_iff.1 hu
    exact hc j b hb
end

/-- v is a row of the call's own (from block 'base' on) that holds just the bytes l. -/
def Own (w : World) (base : Nat) (e : TypeId) (v : Value) (l : List UInt8) : Prop := w.ownsRow base e 1 v l.length (bcells l)

section
variable {w w' : World} {base B : Nat} {e : TypeId} {v : Value} {l : List UInt8}
theorem Own.nil (w : World) (base : Nat) (e : TypeId) : Own w base e (.slice none 0 0) [] := World.ownsRow_nil w base e 1
theorem Own.form (h : Own w base e v l) : ∃ A c, v = .slice A l.length c ∧ l.length ≤ c ∧ c ≤ maxLen ∧ Rd w w.heap.size A l := by
  rcases h.2 with ⟨rfl, h0⟩ | ⟨g, cap, cur, rfl, hb, hg, hnc, hm, _⟩
  · have : l = [] := List.eq_nil_of_length_eq_zero h0
    subst this
    exact ⟨none, 0, rfl, by simp, by simp, Rd.nil _ _ _⟩
  · refine ⟨some ⟨g, 0, none⟩, cap, rfl, hnc, hm, fun _ => ⟨_, rfl, (Array.getElem?_eq_some_iff.1 hg).1, fun j b hj => ?_⟩⟩
    exact World.ownsRow.cells h (g := g) rfl j _ (by rw [bcells_get, hj]; rfl)
theorem Own.rd {A : Option Addr} {n c : Nat} (h : Own w base e (.slice A n c) l) : n = l.length ∧ l.length ≤ c ∧ c ≤ maxLen ∧ Rd w w.heap.size A l := by
  obtain ⟨A', c', e1, h1, h2, h3⟩ := h.form
  injection e1 with e1 e2 e3
  subst e1 e2 e3
  exact ⟨rfl, h1, h2, h3⟩
theorem Own.at_block (h : Own w base e v l) : ∀ k, v.ownBlock = some k → base ≤ k ∧ k < w.heap.size := World.ownsRow.lt h
theorem Own.below (h : Own w base e v l) (hb : Below w.heap.size w w') : Own w' base e v l := by
  refine ⟨h.1, ?_⟩
  rcases h.2 with h0 | ⟨g, cap, cur, hv, hg0, hg, r⟩
  · exact .inl h0
  · exact .inr ⟨g, cap, cur, hv, hg0, by rw [hb.block g (Array.getElem?_eq_some_iff.1 hg).1]; exact hg, r⟩
theorem Own.alloc (h : Own w base e v l) (o : Obj) : Own (w.alloc o) base e v l := World.ownsRow.alloc h o
theorem Own.low (h : Own w base e v l) {base' : Nat} (hb : base' ≤ base) : Own w base' e v l := by
  refine ⟨h.1, ?_⟩
  rcases h.2 with h0 | ⟨g, cap, cur, hv, hg0, r⟩
  · exact .inl h0
  · exact .inr ⟨g, cap, cur, hv, by omega, r⟩
end

theorem splice_list (L vs : List Value) (v : Value) (o : Nat) (ho : o < L.length) :
    (L.take o ++ v :: L.drop (o + 1)).take (o + 1) ++ vs ++ (L.take o ++ v :: L.drop (o + 1)).drop (o + 1 + vs.length) = L.take o ++ v :: vs ++ L.drop (o + (v :: vs).length) := by
  have ht : (L.take o).length = o := by rw [List.length_take]; omega
  have e1 : (L.take o ++ v :: L.drop (o + 1)).take (o + 1) = L.take o ++ [v] := by
    rw [List.take_append, ht, List.take_of_length_le (l := L.take o) (by omega), show o + 1 - o = 1 from by omega]
    rfl
  have e2 : (L.take o ++ v :: L.drop (o + 1)).drop (o + 1 + vs.length) = L.drop (o + (v :: vs).length) := by
    rw [List.drop_append, ht, List.drop_of_length_le (l := L.take o) (by omega), show o + 1 + vs.length - o = vs.length + 1 from by omega, List.drop_succ_cons, List.drop_drop, List.nil_append, List.length_cons]
    congr 1
    omega
  rw [e1, e2]
  simp

theorem setCells_tape (g : Nat) : ∀ (vs : List Value) (o : Nat) (w : World), (w.setCells g o vs).tape = w.tape
  | [], _, _ => rfl
  | v :: vs, o, w => by show ((w.setCell ⟨g, o, none⟩ v).setCells g (o + 1) vs).tape = _; rw [setCells_tape g vs (o + 1)]; rfl
theorem setCells_size (g : Nat) : ∀ (vs : List Value) (o : Nat) (w : World), w.heap.size ≤ (w.setCells g o vs).heap.size
  | [], _, _ => Nat.le_refl _
  | v :: vs, o, w => by
    show _ ≤ ((w.setCell ⟨g, o, none⟩ v).setCells g (o + 1) vs).heap.size
    exact Nat.le_trans (by simp [World.setCell]) (setCells_size g vs (o + 1) _)

/-- What lies in a row behind stores. -/
theorem setCells_heap (g : Nat) (e : TypeId) : ∀ (vs : List Value) (o : Nat) (cur : Array Value) (w : World), w.heap[g]? = some (.cells cur e (0, 0)) → o + vs.length ≤ cur.size →
    ∃ cur', (w.setCells g o vs).heap[g]? = some (.cells cur' e (0, 0)) ∧ cur'.size = cur.size ∧ cur'.toList = cur.toList.take o ++ vs ++ cur.toList.drop (o + vs.length) := by
  intro vs
  induction vs with
  | nil => intro o cur w h _; exact ⟨cur, h, rfl, by simp⟩
  | cons v vs ih =>
    intro o cur w h hl
    simp only [List.length_cons] at hl
    have h1 : (w.setCell ⟨g, o, none⟩ v).heap[g]? = some (.cells (cur.setIfInBounds o v) e (0, 0)) := by
      simp [World.setCell, Array.getElem?_modify, h]
    obtain ⟨cur', h2, h3, h4⟩ := ih (o + 1) (cur.setIfInBounds o v) _ h1 (by simp; omega)
    refine ⟨cur', h2, by simpa using h3, ?_⟩
    rw [h4]
    have ho : o < cur.toList.length := by simp; omega
    have e1 : (cur.setIfInBounds o v).toList = cur.toList.take o ++ v :: cur.toList.drop (o + 1) := by
      rw [Array.toList_setIfInBounds, List.set_eq_take_append_cons_drop, if_pos ho]
    rw [e1]
    exact splice_list cur.toList vs v o ho

section
variable {P : Program} (w : World)
theorem grown_new (e : TypeId) (base : Nat) (row : Option Nat) (l : List UInt8) (cs : Array Value) (cap : Nat) (hb : base ≤ w.heap.size) (hc : l.length ≤ cap) (hm : cap ≤ maxLen) (hs : cs.size = cap) (ht : cs.toList.take l.length = bcells l) :
    Own (w.drew.alloc (.cells cs e)) base e (.slice (some ⟨w.heap.size, 0, none⟩) l.length cap) l ∧ w.grownBy (w.drew.alloc (.cells cs e)) row :=
  ⟨⟨by rw [bcells_length]; simp, .inr ⟨w.heap.size, cap, cs, rfl, hb, heap_alloc_new w.drew _, hc, hm, by simpa using hs, by simpa using ht⟩⟩,
   ⟨rfl, rfl, rfl, by simp, fun k hk _ => heap_alloc_old w.drew _ hk⟩⟩

theorem cap_fits {n old : Nat} {e : TypeId} (h : n ≤ maxLen) : n ≤ grownCap w n old e ∧ grownCap w n old e ≤ maxLen := ⟨grownCap_ge w n old e, grownCap_le_maxLen w n old e h⟩

/-- append onto a row of the call's own. -/
theorem run_app_own (base : Nat) (t tx ty e : TypeId) (i : TypeInfo) (z : Value) (ht : P.underlying t = some (.slice e)) (hi : P.info? e = some i) (hz : i.zero = some z)
    (hsize : i.size = 1) (hby : i.bytes = 1) (hzs : z.cells.size = 1) (v : Value) (l : List UInt8) (hown : Own w base e v l)
    (x : Value) (m : List UInt8) (hs : Src P 1 tx x m.length (bcells m) w) (hbytes : l.length + m.length ≤ 140737488355328) (hbase : base ≤ w.heap.size) :
    ∃ v' w', (Builtin.append_ #[t, tx] ty #[v, x]).run P w = .ok v' w' ∧ Own w' base e v' (l ++ m) ∧ w.grownBy w' v.ownBlock ∧ (v'.ownBlock = v.ownBlock ∨ v'.ownBlock = some w.heap.size) := by
  have hml : l.length + m.length ≤ maxLen := by simp only [maxLen]; omega
  have hlen : (l ++ m).length = l.length + m.length := by simp
  rcases hown.2 with ⟨rfl, h0⟩ | ⟨g, cap, cur, rfl, hbg, hg, hnc, hcm, hcs, htake⟩
  · have : l = [] := List.eq_nil_of_length_eq_zero h0
    subst this
    rcases Nat.eq_zero_or_pos m.length with hm0 | hm0
    · have : m = [] := List.eq_nil_of_length_eq_zero hm0
      subst this
      refine ⟨.slice none 0 0, w, ?_, Own.nil _ _ _, ⟨rfl, rfl, rfl, Nat.le_refl _, fun _ _ _ => rfl⟩, .inl rfl⟩
      have hl := hs.len
      have hc := hs.cells
      simp only [List.length_nil] at hl hc
      rcases hs.kind with ⟨e', hk⟩ | hk <;> simp [Builtin.append_, run_underlying ht, run_underlying hk, sizeOf, typeInfo, hi, hsize, hl, hc]
    · have hold : (Builtin.firstCells i.size 0 (.slice none 0 0)).run P w.drew = .ok ([] : List Value).toArray w.drew := run_firstCells_none w.drew i.size 0 0 0
      have hr := run_append_grow_src (P := P) w t tx ty e i z ht hi hz none 0 0 [] hold x m.length (bcells m) (by rw [hsize]; exact hs) (by omega) (by simp only [maxLen] at hml; omega) (by rw [hby]; exact growslice_fits (by omega) (by simpa using hbytes))
      simp only [Nat.zero_add, List.nil_append] at hr
      obtain ⟨c1, c2⟩ := cap_fits w (n := m.length) (old := 0) (e := e) (by simpa using hml)
      have hgn := grown_new w e base (Value.ownBlock (.slice none 0 0)) m ((bcells m).toArray ++ Builtin.zeroCells z.cells (grownCap w m.length 0 e - m.length)) (grownCap w m.length 0 e) hbase c1 c2
        (by simp only [Array.size_append, List.size_toArray, size_zeroCells, hzs, bcells_length]; omega) (by simp only [Array.toList_append]; rw [← bcells_length m]; exact List.take_left)
      exact ⟨_, _, hr, by simpa using hgn.1, hgn.2, .inr rfl⟩
  · by_cases hroom : l.length + m.length ≤ cap
    · have hsz : cur.size = cap := by simpa using hcs
      have hr := run_append_room_src (P := P) w t tx ty e i ht hi g 0 l.length cap x m.length (bcells m) (by rw [hsize]; exact hs) hroom
        (by intro j hj; rw [bcells_length] at hj; rw [cell_of_row w g _ cur e (0, 0) hg]; simp [hsize, hsz]; omega) (by intro j hj; simp [World.frozen?, hg])
      rw [hsize] at hr
      simp only [Nat.zero_add, Nat.mul_one] at hr
      obtain ⟨cur', h2, h3, h4⟩ := setCells_heap g e (bcells m) l.length cur w hg (by rw [bcells_length]; omega)
      refine ⟨_, _, hr, ?_, ?_, .inl rfl⟩
      · refine ⟨by rw [bcells_length]; simp, .inr ⟨g, cap, cur', by rw [hlen], hbg, h2, by rw [hlen]; exact hroom, hcm, by rw [h3, hsz]; simp, ?_⟩⟩
        have htk : cur.toList.take l.length = bcells l := by simpa using htake
        rw [h4, htk, bcells_append, hlen, Nat.mul_one]
        have : (bcells l ++ bcells m).length = l.length + m.length := by simp [bcells]
        rw [← this]
        exact List.take_left
      · refine ⟨World.os_setCells _ _ _ _, ?_, World.output_setCells _ _ _ _, ?_, fun k hk hne => World.heap_setCells_other w g _ _ hk (fun e => hne (by simp [Value.ownBlock, e]))⟩
        · exact setCells_tape g (bcells m) l.length w
        · exact setCells_size g (bcells m) l.length w
    · have holds : ∀ j u, (bcells l)[j]? = some u → w.drew.cell? ((⟨g, 0, none⟩ : Addr).add j) = some u := World.ownsRow.cells hown (g := g) rfl
      have hold : (Builtin.firstCells i.size l.length (.slice (some ⟨g, 0, none⟩) l.length cap)).run P w.drew = .ok (bcells l).toArray w.drew :=
        run_firstCells_some w.drew i.size l.length ⟨g, 0, none⟩ l.length cap (bcells l) (by rw [hsize, bcells_length]; simp) holds
      have hr := run_append_grow_src (P := P) w t tx ty e i z ht hi hz (some ⟨g, 0, none⟩) l.length cap (bcells l) hold x m.length (bcells m) (by rw [hsize]; exact hs) (by omega) (by simp only [maxLen] at hml; omega) (by rw [hby]; exact growslice_fits (by omega) (by simpa using hbytes))
      obtain ⟨c1, c2⟩ := cap_fits w (n := l.length + m.length) (old := cap) (e := e) hml
      have hgn := grown_new w e base (Value.ownBlock (.slice (some ⟨g, 0, none⟩) l.length cap)) (l ++ m) ((bcells l ++ bcells m).toArray ++ Builtin.zeroCells z.cells (grownCap w (l.length + m.length) cap e - (l.length + m.length))) (grownCap w (l.length + m.length) cap e) hbase (by rw [hlen]; exact c1) c2
        (by simp only [Array.size_append, List.size_toArray, List.length_append, size_zeroCells, hzs, bcells_length]; omega) (by simp only [Array.toList_append]; rw [← bcells_append, ← bcells_length (l ++ m)]; exact List.take_left)
      rw [hlen] at hgn
      exact ⟨_, _, hr, hgn.1, hgn.2, .inr rfl⟩

/-- append onto whatever slice without room: new memory. -/
theorem run_app_full (t tx ty e : TypeId) (i : TypeInfo) (z : Value) (ht : P.underlying t = some (.slice e)) (hi : P.info? e = some i) (hz : i.zero = some z)
    (hsize : i.size = 1) (hby : i.bytes = 1) (hzs : z.cells.size = 1) (A : Option Addr) (l : List UInt8) (B : Nat) (hr : Rd w B A l)
    (x : Value) (m : List UInt8) (hs : Src P 1 tx x m.length (bcells m) w) (hm : 0 < m.length) (hbytes : l.length + m.length ≤ 140737488355328) :
    ∃ c w', (Builtin.append_ #[t, tx] ty #[.slice A l.length l.length, x]).run P w = .ok (.slice (some ⟨w.heap.size, 0, none⟩) (l ++ m).length c) w' ∧ Own w' w.heap.size e (.slice (some ⟨w.heap.size, 0, none⟩) (l ++ m).length c) (l ++ m) ∧ w.grownBy w' none := by
  have hml : l.length + m.length ≤ maxLen := by simp only [maxLen]; omega
  have hlen : (l ++ m).length = l.length + m.length := by simp
  have hold : (Builtin.firstCells i.size l.length (.slice A l.length l.length)).run P w.drew = .ok (bcells l).toArray w.drew := by
    have := (Rd.src (P := P) (tx := t) hr ht l.length).cellsD
    rw [hsize]; exact this
  have hr := run_append_grow_src (P := P) w t tx ty e i z ht hi hz A l.length l.length (bcells l) hold x m.length (bcells m) (by rw [hsize]; exact hs) (by omega) (by simp only [maxLen] at hml; omega) (by rw [hby]; exact growslice_fits (by omega) (by simpa using hbytes))
  obtain ⟨c1, c2⟩ := cap_fits w (n := l.length + m.length) (old := l.length) (e := e) hml
  have hgn := grown_new w e w.heap.size none (l ++ m) ((bcells l ++ bcells m).toArray ++ Builtin.zeroCells z.cells (grownCap w (l.length + m.length) l.length e - (l.length + m.length))) (grownCap w (l.length + m.length) l.length e) (Nat.le_refl _) (by rw [hlen]; exact c1) c2
    (by simp only [Array.size_append, List.size_toArray, List.length_append, size_zeroCells, hzs, bcells_length]; omega) (by simp only [Array.toList_append]; rw [← bcells_append, ← bcells_length (l ++ m)]; exact List.take_left)
  rw [hlen] at hgn ⊢
  exact ⟨_, _, hr, hgn.1, hgn.2⟩

/-- The conversion of bytes to a string. -/
theorem run_str (src dst e : TypeId) (hs : P.underlying src = some (.slice e)) (he : P.underlying e = some (.int .u8)) (hd : P.underlying dst = some .string)
    (B : Nat) (A : Option Addr) (l : List UInt8) (c : Nat) (hr : Rd w B A l) : (convert src dst (.slice A l.length c)).run P w = .ok (.string ⟨l.toArray⟩) w := by
  rw [run_convert_bytes_string w src dst e A _ c hs he hd]
  rcases Nat.eq_zero_or_pos l.length with h0 | h0
  · have : l = [] := List.eq_nil_of_length_eq_zero h0
    subst this
    cases A with
    | none => simp [Conv.bytesToString]; rfl
    | some a => rw [List.length_nil, run_bytesToString w a 0 c [] (by simp [loadCells, loadCellsFrom])]; rfl
  · obtain ⟨ad, rfl, _, hc⟩ := hr h0
    have hm : bcells l = (l.map fun b => (b.toNat : Int)).map (Value.int .u8) := by simp [bcells, bcell, List.map_map]
    have h1 := run_firstCells_some (P := P) w 1 l.length ad l.length c (bcells l) (by rw [bcells_length]; simp) (by
      intro j u hu
      rw [bcells_get] at hu
      obtain ⟨b, hb, rfl⟩ := Option.map_eq_some_iff.1 hu
      exact hc j b hb)
    have h2 : (loadCells ad l.length).run P w = .ok (bcells l).toArray w := by simpa [Builtin.firstCells] using h1
    rw [hm] at h2
    rw [run_bytesToString w ad l.length c _ h2]
    congr 2
    rw [List.foldl_map]
    have : ∀ (m : List UInt8) (a : ByteArray), m.foldl (fun r b => r.push (UInt8.ofNat ((b.toNat : Int)).toNat)) a = ⟨a.data ++ m.toArray⟩ := by
      intro m
      induction m with
      | nil => intro a; simp
      | cons b m ih =>
        intro a
        rw [List.foldl_cons, ih]
        simp [ByteArray.push]
    rw [this]
    simp

/-- One byte in a new block, as what is appended. -/
theorem src_one {tx e' e : TypeId} (hk : P.underlying tx = some (.slice e')) (b : UInt8) (X : Int) (c : Nat) (hX : X = (b.toNat : Int)) :
    Src P 1 tx (.slice (some ⟨w.heap.size, 0, none⟩) 1 c) [b].length (bcells [b]) (w.alloc (.cells #[.int .u8 X] e)) := by
  subst hX
  refine Src.ofSlice _ hk ⟨w.heap.size, 0, none⟩ 1 c (bcells [b]) (by simp [bcells]) ?_ (bcells_one _)
  intro j u hu
  match j, hu with
  | 0, hu => simp [bcells] at hu; subst hu; simp [Addr.add, bcell]

/-- A literal of one byte is a row of the call's own. -/
theorem own_lit (base : Nat) (e : TypeId) (b : UInt8) (X : Int) (hX : X = (b.toNat : Int)) (hb : base ≤ w.heap.size) : Own (w.alloc (.cells #[.int .u8 X] e)) base e (.slice (some ⟨w.heap.size, 0, none⟩) 1 1) [b] := by
  subst hX
  exact ⟨by simp [bcells], .inr ⟨w.heap.size, 1, #[.int .u8 b.toNat], rfl, hb, heap_alloc_new w _, by simp, by simp [maxLen], by simp, by simp [bcells, bcell]⟩⟩

theorem src_text {tx : TypeId} {w : World} (hk : P.underlying tx = some .string) (s : ByteArray) : Src P 1 tx (.string s) s.data.toList.length (bcells s.data.toList) w := by
  have h := Src.ofString (P := P) w hk s
  have e : s.data.toList.length = s.size := by simp
  rw [e]; exact h

theorem wpList_app_own {ops : Array Oper} {rest : List Oper} {o : Oper} {a : Act} {Q : Exit → Act → World → Prop} (hgd : o.guard = none) (s x : Operand) (t tx : TypeId)
    (ho : o.op = .call { callee := .builtin .append, args := #[s, x], argTypes := #[t, tx] })
    (base : Nat) (e : TypeId) (i : TypeInfo) (z : Value) (ht : P.underlying t = some (.slice e)) (hi : P.info? e = some i) (hz : i.zero = some z)
    (hsize : i.size = 1) (hby : i.bytes = 1) (hzs : z.cells.size = 1) (v : Value) (l : List UInt8) (hs : a.eval s = v) (hown : Own w base e v l)
    (xv : Value) (m : List UInt8) (hx : a.eval x = xv) (hsrc : Src P 1 tx xv m.length (bcells m) w) (hbytes : l.length + m.length ≤ 140737488355328) (hbase : base ≤ w.heap.size)
    (h : ∀ A c L w', Hid (L = l ++ m) → Own w' base e (.slice A L.length c) L → Below base w w' → wpList P ops Q rest (a.put o.dst (.slice A L.length c)) w') : wpList P ops Q (o :: rest) a w := by
  refine wpList_plain hgd fun K hK => ?_
  obtain ⟨v', w', hr, h2, h3, _⟩ := run_app_own (P := P) w base t tx o.type e i z ht hi hz hsize hby hzs v l hown xv m hsrc hbytes hbase
  obtain ⟨A, c, rfl, _, _, _⟩ := h2.form
  unfold Oper.wp execOp
  simp only [ho, resolve, invoke, builtin, Sem.run_bind, Sem.run_pure, Result.andThen_ok, List.map_toArray, List.map_cons, List.map_nil, hs, hx, hr]
  exact hK _ _ (h A c _ w' rfl h2 ((Below.refl _ _).grown h3 hbase (fun k hk => (hown.at_block k hk).1)))

theorem wpList_app_full {ops : Array Oper} {rest : List Oper} {o : Oper} {a : Act} {Q : Exit → Act → World → Prop} (hgd : o.guard = none) (s x : Operand) (t tx : TypeId)
    (ho : o.op = .call { callee := .builtin .append, args := #[s, x], argTypes := #[t, tx] })
    (e : TypeId) (i : TypeInfo) (z : Value) (ht : P.underlying t = some (.slice e)) (hi : P.info? e = some i) (hz : i.zero = some z)
    (hsize : i.size = 1) (hby : i.bytes = 1) (hzs : z.cells.size = 1) (A : Option Addr) (l : List UInt8) (hs : a.eval s = .slice A l.length l.length) (B : Nat) (hrd : Rd w B A l)
    (xv : Value) (m : List UInt8) (hx : a.eval x = xv) (hsrc : Src P 1 tx xv m.length (bcells m) w) (hm : 0 < m.length) (hbytes : l.length + m.length ≤ 140737488355328)
    (h : ∀ A c L w', Hid (L = l ++ m) → Own w' w.heap.size e (.slice A L.length c) L → Below w.heap.size w w' → wpList P ops Q rest (a.put o.dst (.slice A L.length c)) w') : wpList P ops Q (o :: rest) a w := by
  refine wpList_plain hgd fun K hK => ?_
  obtain ⟨c, w', hr, h2, h3⟩ := run_app_full (P := P) w t tx o.type e i z ht hi hz hsize hby hzs A l B hrd xv m hsrc hm hbytes
  unfold Oper.wp execOp
  simp only [ho, resolve, invoke, builtin, Sem.run_bind, Sem.run_pure, Result.andThen_ok, List.map_toArray, List.map_cons, List.map_nil, hs, hx, hr]
  exact hK _ _ (h _ c _ w' rfl h2 ((Below.refl _ _).grown h3 (Nat.le_refl _) (fun k hk => by cases hk)))

/-- append onto a row of the call's own, with where the new row lies. -/
theorem wpList_app_lies {ops : Array Oper} {rest : List Oper} {o : Oper} {a : Act} {Q : Exit → Act → World → Prop} (hgd : o.guard = none) (s x : Operand) (t tx : TypeId)
    (ho : o.op = .call { callee := .builtin .append, args := #[s, x], argTypes := #[t, tx] })
    (base : Nat) (e : TypeId) (i : TypeInfo) (z : Value) (ht : P.underlying t = some (.slice e)) (hi : P.info? e = some i) (hz : i.zero = some z)
    (hsize : i.size = 1) (hby : i.bytes = 1) (hzs : z.cells.size = 1) (v : Value) (l : List UInt8) (hs : a.eval s = v) (hown : Own w base e v l)
    (xv : Value) (m : List UInt8) (hx : a.eval x = xv) (hsrc : Src P 1 tx xv m.length (bcells m) w) (hbytes : l.length + m.length ≤ 140737488355328) (hbase : base ≤ w.heap.size)
    (h : ∀ A c L w', Hid (L = l ++ m) → Own w' base e (.slice A L.length c) L → w.grownBy w' v.ownBlock → (∀ q, A = some q → v.ownBlock = some q.block ∨ q.block = w.heap.size) → wpList P ops Q rest (a.put o.dst (.slice A L.length c)) w') : wpList P ops Q (o :: rest) a w := by
  refine wpList_plain hgd fun K hK => ?_
  obtain ⟨v', w', hr, h2, h3, h4⟩ := run_app_own (P := P) w base t tx o.type e i z ht hi hz hsize hby hzs v l hown xv m hsrc hbytes hbase
  obtain ⟨A, c, rfl, _, _, _⟩ := h2.form
  unfold Oper.wp execOp
  simp only [ho, resolve, invoke, builtin, Sem.run_bind, Sem.run_pure, Result.andThen_ok, List.map_toArray, List.map_cons, List.map_nil, hs, hx, hr]
  refine hK _ _ (h A c _ w' rfl h2 h3 fun q hq => ?_)
  subst hq
  rcases h4 with h4 | h4
  · exact .inl h4.symm
  · right; injection h4
end
end Go.Proofs.Ytnjghodjpbalcaa
