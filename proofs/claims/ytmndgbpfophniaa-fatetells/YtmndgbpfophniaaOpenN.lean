/- Arguments: a network. -/
import Derived.Test.YtmndgbpfophniaaOpen
import Derived.Test.YtmndgbpfophniaaF8
namespace Go.Proofs.Ytmndgbpfophniaa
open Go.RowKit Go.Shelf Go.ChangeShapes Go.WideShapes Go.ChangeAt
open Go.ChangeMaps (open_string)

theorem cellsNet : Try.prog.cellsOf 28 = 3 := by kernel_rfl
theorem cellsTopo : Try.prog.cellsOf 25 = 2 := by kernel_rfl
theorem cellsInts : Try.prog.cellsOf 22 = 1 := by kernel_rfl
theorem cellsLinks : Try.prog.cellsOf 23 = 1 := by kernel_rfl
theorem cellsRules : Try.prog.cellsOf 26 = 1 := by kernel_rfl
section
variable {H : Type} {enc : TypeId × Value → H} {W : World}
theorem net_room {d : DataW H} {ts : List TypeId} {ds : List (DataW H)} (h : (DataW.weightsEach Try.prog (28 :: ts) (d :: ds)).all (· ≤ reachBytes) = true) : (d.weights Try.prog 28).all (· ≤ reachBytes) = true := by
  rw [DataW.weightsEach, List.all_append, Bool.and_eq_true] at h
  exact h.1
theorem bytesRule : Try.prog.bytesOf 63 = 48 := by kernel_rfl
set_option maxRecDepth 100000 in
theorem open_net {r : Reach} {b0 : Nat} {v : Value} {d : DataW H} {p : List MemPlace} (hv : Value.okWide Try.prog W r b0 28 v) (h : DataW.Trod enc Try.prog W 0 (fun _ => true) true 28 v d p) (hz : (d.weights Try.prog 28).all (· ≤ reachBytes) = true) :
    ∃ (v0 v1 v2 : Value) (ps : List Int) (ls : List Lk) (L : List Ru), v = .agg #[v0, v1, v2] ∧ IsN W v0 v1 v2 ps ls L ∧ NW ps ls L := by
  obtain ⟨cs, rfl, hsz⟩ := okWide_struct Try.underlying28 hv
  rw [cellsNet] at hsz
  obtain ⟨c0, c1, c2, rfl⟩ := array3 hsz
  obtain ⟨fuel, hf⟩ := h
  obtain ⟨y0, y1, n, hd, _, h6, h7⟩ := trod_struct2 Try.underlying28 hf
  simp only [Value.cells, cellsTopo, cellsRules, List.drop_zero, List.take_succ_cons, List.take_zero, List.drop_succ_cons] at h6 h7
  obtain ⟨z0, z1, n2, _, _, h8, h9⟩ := trod_struct2 Try.underlying25 h6
  simp only [cellsInts, cellsLinks, List.drop_zero, List.take_succ_cons, List.take_zero, List.drop_succ_cons] at h8 h9
  obtain ⟨ps, hP, qP⟩ := open_vec intA_size (by decide) Try.underlying22 cells3 (fun m cs y hy hl => trod_num hy hl) h8
  obtain ⟨ls, hM, qM⟩ := open_vec lkA_size (by decide) Try.underlying23 cellsLink (fun m cs y hy hl => trod_link hy hl) h9
  obtain ⟨A, k, c, e, _⟩ := slice_elems1 Try.underlying26 cellsRule h7
  subst e
  obtain ⟨L, hL, qL⟩ := open_rules (enc := enc) (W := W) (v := .slice A k c) (d := y1.1) (p := y1.2) ⟨n, h7⟩ ⟨_, _, _, rfl⟩
  have hk : L.length = k := by obtain ⟨_, _, e', _⟩ := hL; injection e' with _ h _; exact h.symm
  have hroom : L.length ≤ 4000000000000 := by
    obtain ⟨rfl, _⟩ := Prod.mk.inj hd
    rw [hk]
    rcases Deep.open_slice Try.underlying26 h7 with ⟨hcs, _⟩ | ⟨a, len, cap, m, _, D, Pl, hcs, _, _, _, _, hx, _⟩
    · simp only [List.cons.injEq, and_true] at hcs
      injection hcs with _ h _
      omega
    · simp only [List.cons.injEq, and_true] at hcs
      injection hcs with _ h _
      subst hx
      simp only [DataW.weights, Try.underlying28, Try.underlying26, DataW.weightsEach, List.all_append, List.all_cons, List.map_cons, List.length_map, List.length_range, Bool.and_eq_true, bytesRule, reachBytes] at hz
      have hh := of_decide_eq_true hz.2.1.1
      omega
  exact ⟨c0, c1, _, ps, ls, L, rfl, ⟨⟨hP, hM⟩, hL⟩, ⟨⟨qP, qM⟩, qL, hroom⟩⟩
end
end Go.Proofs.Ytmndgbpfophniaa
