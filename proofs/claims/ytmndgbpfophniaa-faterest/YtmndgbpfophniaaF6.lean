/- Contracts: rule.All. -/
import Derived.Test.YtmndgbpfophniaaF2
import Derived.Test.YtmndgbpfophniaaSF
namespace Go.Proofs.Ytmndgbpfophniaa
open Go.RowKit Go.Shelf

set_option maxRecDepth 100000 in
theorem all1_any (x : Ru) (l : Int) (C : Nat) (W : World) (hA : At W C #[.int .i64 l] 3) :
    Calls Try.prog 41 (#[.agg (ruA x)] ++ #[.pointer (some ⟨C, 0, none⟩)]) W fun e W' => e = .returned (.bool (!ruB x || decide (x.id ≤ l))) ∧ At W' C #[.int .i64 x.id] 3 ∧ Below C W W' := by
  have hC := hA.lt
  have hr := fun u : World => ruright_any x u
  obtain ⟨q, hq⟩ : ∃ q, q = ruB x := ⟨_, rfl⟩
  rw [← hq] at hr ⊢
  clear hq
  obtain ⟨id, dv, pr, kd, f, t, pt⟩ := x
  have A0 := hA.alloc (.cells (ruA ⟨id, dv, pr, kd, f, t, pt⟩) 63)
  have X0 := At.new W (ruA ⟨id, dv, pr, kd, f, t, pt⟩) 63
  rw [ruA_mk] at hr A0 X0 ⊢
  dsimp only
  have fin : ∀ w1, At w1 C #[.int .i64 l] 3 → Below (W.heap.size + 1) (W.alloc (.cells #[.int .i64 id, .int .i64 dv, .int .i64 pr, .int .i64 kd, .int .u32 f, .int .u32 t, .int .i64 pt] 63)) w1 → At (w1.setCell ⟨C, 0, none⟩ (.int .i64 id)) C #[.int .i64 id] 3 ∧ Below C W (w1.setCell ⟨C, 0, none⟩ (.int .i64 id)) := fun w1 A1 b1 =>
    ⟨by have := A1.set0 0 (.int .i64 id); simpa using this, (((Below.refl C W).alloc (by omega) _).trans (b1.mono (by omega))).setCell (p := ⟨C, 0, none⟩) (Nat.le_refl _) _⟩
  show Calls Try.prog 41 #[_, _] W _
  cases q with
  | false =>
    simp only [Bool.not_false, Bool.true_or]
    go_enter Try.func41, Try.ntmps41
    go_wp2_with (go_at_call 42; refine (hr _).mono ?_; rintro e w1 ⟨rfl, b1⟩; have A1 := A0.belows b1; have X1 := X0.belows b1; have x0 := (X1.cell 0).trans rfl; have a0 := (A1.cell 0).trans rfl; have z0 := A1.frozen 0)
    go_ret
    exact ⟨rfl, fin w1 A1 (by simpa using b1)⟩
  | true =>
    simp only [Bool.not_true, Bool.false_or]
    go_enter Try.func41, Try.ntmps41
    go_wp2_with (go_at_call 42; refine (hr _).mono ?_; rintro e w1 ⟨rfl, b1⟩; have A1 := A0.belows b1; have X1 := X0.belows b1; have x0 := (X1.cell 0).trans rfl; have a0 := (A1.cell 0).trans rfl; have z0 := A1.frozen 0)
    go_ret
    exact ⟨rfl, fin w1 A1 (by simpa using b1)⟩

theorem enters_all1 : ∀ args w, (callFunc 41 args).run Try.prog w = .ok (.enter 41 args) w := enters_of Try.func41 (by kernel_rfl) rfl
set_option maxRecDepth 100000 in
/-- rule.All. -/
theorem all_any {v : Value} (L : List Ru) (w : World) (h : IsR w v L) : Calls Try.prog 25 #[v] w fun e w' => e = .returned (.bool (allB L)) ∧ Below w.heap.size w w' := by
  by_cases h40 : L.length ≤ 40
  · have hsteps : Steps 41 #[.pointer (some ⟨w.heap.size, 0, none⟩)] L (wrongAt L) (fun k W => At W w.heap.size #[.int .i64 (lastId L k)] 3) w.heap.size := by
      intro k hk W hI
      have e1 : wrongAt L k = (!ruB L[k] || decide (L[k].id ≤ lastId L k)) := by simp [wrongAt, hk]
      have e2 : lastId L (k + 1) = L[k].id := by simp [lastId, hk]
      rw [e1]
      show Calls Try.prog 41 _ W fun e W' => _ ∧ At W' w.heap.size #[.int .i64 (lastId L (k + 1))] 3 ∧ _
      rw [e2]
      exact all1_any _ _ _ W hI
    have hZ : ∀ W, Below w.heap.size (w.alloc (.cells #[.int .i64 0] 3)) W → IsR W v L := fun W hW => h.belows (((Below.refl _ w).alloc (Nat.le_refl _) _).trans hW)
    have hc := containsFunc_any 41 #[.pointer (some ⟨w.heap.size, 0, none⟩)] enters_all1 L (wrongAt L) _ w.heap.size (w.alloc (.cells #[.int .i64 0] 3)) hsteps (At.new _ _ _) hZ
    obtain ⟨A1, c1, rfl, n1, m1, z1⟩ := h
    clear hsteps hZ z1
    have hgt : ¬ (40 : Int) < (L.length : Int) := by omega
    obtain ⟨q, hq⟩ : ∃ q, q = allB L := ⟨_, rfl⟩
    rw [← hq]
    have HQ : Hid (∀ b : Bool, (b = true ↔ ∃ k, k < L.length ∧ wrongAt L k = true) → (!b) = q) := Lib.hid fun b hb => (allB_of h40 hb).trans hq.symm
    clear hq
    go_enter Try.func25, Try.ntmps25
    go_wp2_with (go_at_call 40; refine hc.mono ?_; rintro e w1 ⟨b, rfl, hb, b1⟩)
    go_ret
    exact ⟨ret_bool (HQ.out b hb), ((Below.refl _ w).alloc (Nat.le_refl _) _).trans b1⟩
  · have e : allB L = false := by unfold allB; rw [decide_eq_false h40, Bool.false_and]
    rw [e]
    obtain ⟨A1, c1, rfl, n1, m1, z1⟩ := h
    clear z1 e
    have hgt : (40 : Int) < (L.length : Int) := by omega
    go_enter Try.func25, Try.ntmps25
    go_wp2
    go_ret
    exact ⟨rfl, Below.refl _ _⟩
end Go.Proofs.Ytmndgbpfophniaa
