/- Words: rules as plain data and as cells; when two are alike; a slice that reads as rules. -/
import Derived.Test.YtmndgbpfophniaaB0
import Derived.Deep.AppendSrc
import Derived.Shelf.RegionOpen
import Derived.Shelf.SlicesQ.Load
namespace Go.Proofs.Ytmndgbpfophniaa
open Go.RowKit Go.Shelf

/-- A rule. -/
structure Ru where
  id : Int
  dv : Int
  pr : Int
  kd : Int
  f : Nat
  t : Nat
  pt : Int
instance : Inhabited Ru := ⟨⟨0, 0, 0, 0, 0, 0, 0⟩⟩
theorem Ru.eq_iff (a b : Ru) : a = b ↔ a.id = b.id ∧ a.dv = b.dv ∧ a.pr = b.pr ∧ a.kd = b.kd ∧ a.f = b.f ∧ a.t = b.t ∧ a.pt = b.pt := by
  cases a; cases b; simp
instance : DecidableEq Ru := fun a b => decidable_of_iff _ (Ru.eq_iff a b).symm
/-- The rule of no words. -/
def ru0 : Ru := ⟨0, 0, 0, 0, 0, 0, 0⟩
/-- Its numbers fit. -/
def Ru.wf (r : Ru) : Prop := isI r.id ∧ isI r.dv ∧ isI r.pr ∧ isI r.kd ∧ r.f < 4294967296 ∧ r.t < 4294967296 ∧ isI r.pt
theorem ru0_wf : ru0.wf := by simp [Ru.wf, isI, ru0]
/-- A rule's cells. -/
def ruA (r : Ru) : Array Value := #[.int .i64 r.id, .int .i64 r.dv, .int .i64 r.pr, .int .i64 r.kd, .int .u32 r.f, .int .u32 r.t, .int .i64 r.pt]
theorem ruA_mk (a b c d : Int) (f t : Nat) (p : Int) : ruA ⟨a, b, c, d, f, t, p⟩ = #[.int .i64 a, .int .i64 b, .int .i64 c, .int .i64 d, .int .u32 f, .int .u32 t, .int .i64 p] := rfl

theorem fsRu : Try.prog.underlying 63 = some (.struct (Try.prog.fieldsOf 63)) := by kernel_rfl
theorem fsRg : Try.prog.underlying 61 = some (.struct (Try.prog.fieldsOf 61)) := by kernel_rfl
theorem hdRu : Try.prog.stoodInHeld 63 = false := by kernel_rfl
theorem hdRg : Try.prog.stoodInHeld 61 = false := by kernel_rfl
set_option maxRecDepth 100000 in
theorem eq_ru (x y : Ru) (w : World) : (Op.equalIn 10000 63 (.agg (ruA x)) (.agg (ruA y))).run Try.prog w = .ok (decide (x = y)) w := by
  obtain ⟨a, b, c, d, f, t, p⟩ := x
  obtain ⟨a', b', c', d', f', t', p'⟩ := y
  have u1 := Try.underlying63
  have u2 := Try.underlying61
  have hRu := (Option.some.inj (fsRu.symm.trans u1))
  have hRg := (Option.some.inj (fsRg.symm.trans u2))
  injection hRu with hRu
  injection hRg with hRg
  rw [run_equalIn_agg w 9999 _ _ _ fsRu hdRu, hRu]
  simp [ruA_mk, go_sem, Op.eqFields, Ru.eq_iff]
  by_cases h1 : a = a'
  · by_cases h2 : b = b'
    · by_cases h3 : c = c'
      · by_cases h4 : d = d'
        · by_cases h5 : f = f'
          · by_cases h6 : t = t'
            · by_cases h7 : p = p'
              · simp [h1, h2, h3, h4, h5, h6, h7]
              · simp [h1, h2, h3, h4, h5, h6, h7]
            · simp [h1, h2, h3, h4, h5, h6, Int.natCast_inj]
          · simp [h1, h2, h3, h4, h5, Int.natCast_inj]
        · simp [h1, h2, h3, h4]
      · simp [h1, h2, h3]
    · simp [h1, h2]
  · simp [h1]
theorem eql_ru (x y : Ru) (w : World) : (binOp .eql 63 (.agg (ruA x)) (.agg (ruA y))).run Try.prog w = .ok (.bool (decide (x = y))) w := by
  rw [run_eql_struct, eq_ru]; rfl
theorem neq_ru (x y : Ru) (w : World) : (binOp .neq 63 (.agg (ruA x)) (.agg (ruA y))).run Try.prog w = .ok (.bool (!decide (x = y))) w := by
  rw [run_neq_struct, eq_ru]; rfl
theorem gdRu : Try.prog.eqGuardType Try.prog.depth 63 = false := by kernel_rfl

/-- Rules as cells. -/
def rcs (l : List Ru) : List Value := l.flatMap fun r => (ruA r).toList
theorem rcs_append (l m : List Ru) : rcs (l ++ m) = rcs l ++ rcs m := by simp [rcs]
theorem rcs_cons (r : Ru) (l : List Ru) : rcs (r :: l) = (ruA r).toList ++ rcs l := by simp [rcs]
theorem ruA_size (r : Ru) : (ruA r).toList.length = 7 := rfl
theorem rcs_length (l : List Ru) : (rcs l).length = l.length * 7 := by
  induction l with
  | nil => rfl
  | cons x l ih => rw [rcs_cons, List.length_append, ih, ruA_size, List.length_cons]; omega
theorem rcs_one (l : List Ru) : ∀ u ∈ rcs l, u.oneCell' = true := by
  intro u hu
  obtain ⟨x, _, h⟩ := List.mem_flatMap.1 hu
  simp [ruA] at h
  rcases h with rfl | rfl | rfl | rfl | rfl | rfl | rfl <;> rfl
theorem rcs_at (L : List Ru) (k j : Nat) (hk : k < L.length) (hj : j < 7) : (rcs L)[k * 7 + j]? = (ruA L[k])[j]? := by
  induction L generalizing k with
  | nil => simp at hk
  | cons x L ih =>
    rw [rcs_cons]
    match k with
    | 0 =>
      rw [Nat.zero_mul, Nat.zero_add, List.getElem?_append_left (by rw [ruA_size]; exact hj)]
      simp
    | k + 1 =>
      rw [List.getElem?_append_right (by rw [ruA_size]; omega), ruA_size, show (k + 1) * 7 + j - 7 = k * 7 + j by omega]
      exact ih k (by simpa using hk)
/-- The address of a slice that reads as these rules. -/
def Rs (w : World) (A : Option Addr) (L : List Ru) : Prop := 0 < L.length → ∃ g o, A = some ⟨g, o, none⟩ ∧ g < w.heap.size ∧
  ∀ k (hk : k < L.length) j, j < 7 → w.cell? ⟨g, o + k * 7 + j, none⟩ = (ruA L[k])[j]?
/-- A value that is a slice of these rules. -/
def IsR (w : World) (v : Value) (L : List Ru) : Prop := ∃ A c, v = .slice A L.length c ∧ L.length ≤ c ∧ c ≤ maxLen ∧ Rs w A L
theorem Rs.nil (w : World) (A : Option Addr) : Rs w A [] := fun h => absurd h (by simp)
theorem Rs.below {w w' : World} {A : Option Addr} {L : List Ru} {B : Nat} (h : Rs w A L) (hB : w.heap.size ≤ B) (hb : Below B w w') : Rs w' A L := fun hn => by
  obtain ⟨g, o, e, hg, hc⟩ := h hn
  exact ⟨g, o, e, Nat.lt_of_lt_of_le hg hb.size, fun k hk j hj => (hb.cell (p := ⟨g, _, none⟩) (by show g < B; omega)).trans (hc k hk j hj)⟩
theorem Rs.belows {w w' : World} {A : Option Addr} {L : List Ru} (h : Rs w A L) (hb : Below w.heap.size w w') : Rs w' A L := h.below (Nat.le_refl _) hb
theorem IsR.belows {w w' : World} {v : Value} {L : List Ru} (h : IsR w v L) (hb : Below w.heap.size w w') : IsR w' v L := by
  obtain ⟨A, c, e, h1, h2, h3⟩ := h
  exact ⟨A, c, e, h1, h2, h3.belows hb⟩
/-- One rule of a slice, cell by cell. -/
theorem Rs.at {w : World} {A : Option Addr} {L : List Ru} (h : Rs w A L) (k : Nat) (hk : k < L.length) : ∃ g o, A = some ⟨g, o, none⟩ ∧ g < w.heap.size ∧
    w.cell? ⟨g, o + k * 7, none⟩ = some (.int .i64 L[k].id) ∧ w.cell? ⟨g, o + k * 7 + 1, none⟩ = some (.int .i64 L[k].dv) ∧ w.cell? ⟨g, o + k * 7 + 2, none⟩ = some (.int .i64 L[k].pr) ∧
    w.cell? ⟨g, o + k * 7 + 3, none⟩ = some (.int .i64 L[k].kd) ∧ w.cell? ⟨g, o + k * 7 + 4, none⟩ = some (.int .u32 L[k].f) ∧ w.cell? ⟨g, o + k * 7 + 5, none⟩ = some (.int .u32 L[k].t) ∧ w.cell? ⟨g, o + k * 7 + 6, none⟩ = some (.int .i64 L[k].pt) := by
  obtain ⟨g, o, e, hg, hc⟩ := h (by omega)
  exact ⟨g, o, e, hg, hc k hk 0 (by omega), hc k hk 1 (by omega), hc k hk 2 (by omega), hc k hk 3 (by omega), hc k hk 4 (by omega), hc k hk 5 (by omega), hc k hk 6 (by omega)⟩
/-- A rule of a slice is loaded. -/
theorem Rs.load {w : World} {A : Option Addr} {L : List Ru} (h : Rs w A L) (k : Nat) (hk : k < L.length) : ∃ g o, A = some ⟨g, o, none⟩ ∧ g < w.heap.size ∧
    Sem.run Try.prog (loadCellsFrom ⟨g, o + k * 7, none⟩ 0 7 #[]) w = .ok (ruA L[k]) w := by
  obtain ⟨g, o, e, hg, hc⟩ := h (by omega)
  refine ⟨g, o, e, hg, ?_⟩
  have := run_loadCellsFrom_list Try.prog w ⟨g, o + k * 7, none⟩ (ruA L[k]).toList 7 rfl (fun i v hi => by
    rw [Addr.add_lit]
    have hi7 : i < 7 := (List.getElem?_eq_some_iff.1 hi).1
    rw [hc k hk i hi7]
    simpa using hi)
  simpa using this
/-- What is owned reads. -/
theorem isR_of_row {w : World} {base : Nat} {v : Value} {L : List Ru} (h : w.ownsRow base 63 7 v L.length (rcs L)) : IsR w v L := by
  rcases h.2 with ⟨rfl, h0⟩ | ⟨g, cap, cur, rfl, hb, hg, hnc, hm, _⟩
  · obtain rfl := List.eq_nil_of_length_eq_zero h0
    exact ⟨none, 0, rfl, Nat.le_refl _, by simp, Rs.nil _ _⟩
  · refine ⟨_, cap, rfl, hnc, hm, fun _ => ⟨g, 0, rfl, (Array.getElem?_eq_some_iff.1 hg).1, fun k hk j hj => ?_⟩⟩
    have h1 := rcs_at L k j hk hj
    have h2 : (ruA L[k])[j]? = some ((ruA L[k])[j]'(by show j < 7; exact hj)) := Array.getElem?_eq_getElem _
    rw [h2] at h1 ⊢
    have e1 := World.ownsRow.cells h (g := g) rfl _ _ h1
    rw [add_none] at e1
    rw [Nat.zero_add]
    exact e1
end Go.Proofs.Ytmndgbpfophniaa
