/- A range over a function where the rounds, not the function, see to it that it ends. Over any program. -/
import Derived.Test.YtmndgbpfophniaaB0
import Derived.RangeFuncNested
import Derived.RangeFuncBound
import Derived.RangeFuncCalls
import Derived.RangeFuncLeaves
import Derived.Shelf.Abstract
import Derived.OwnWalkIn
import Derived.TacticsInMore
import Derived.LoopNIn
import Derived.LoopIn
import Derived.Maps.OwnIn
import Derived.Sort.QuietTacIn
import Derived.Sort.BigQuietIn
import Derived.Sort.CutIn
namespace Go.Proofs.Ytmndgbpfophniaa
open Go.RowKit Go.Shelf
theorem wide_fn (f : FuncId) : Fence.wide.fn f = True := eq_true trivial
theorem grown_none {W W' : World} (h : Below W.heap.size W W') : W.grownBy W' none := ⟨h.os, h.tape, h.output, h.size, fun k hk _ => h.block k hk⟩

section
variable {F : Fence} {n : Nat} {P : Program} {α : Type}
/-- A function that hands over, one behind another, what 'Nx' names, as long as its caller keeps 'C'; it ends by itself where 'S' holds. -/
def HandsC (F : Fence) (n : Nat) (P : Program) (g : Nat) (lb : Array Value) (en : α → Array Value) (C : List α → World → Prop) (Nx : List α → α → Prop) (S : List α → Prop) : Prop :=
  ∀ (l : Nat) (J Jx : List α → World → Prop) (W : World), AbidesFrom W.heap.size J → (∀ s U, J s U → C s U) → J [] W →
    (∀ s x U, J s U → Nx s x → YieldAt F (n - 1) P l (en x) U fun e U' => (e = .returned (.bool true) ∧ J (s ++ [x]) U') ∨ (e = .returned (.bool false) ∧ Jx (s ++ [x]) U')) →
    CallsIn F n P g (#[.func (.yield l) #[] #[]] ++ lb) W fun e U => (∃ v, e = .returned v) ∧ ((∃ s, S s ∧ J s U) ∨ ∃ s, Jx s U)
/-- The loop's two blocks. -/
def Two (l : Nat) (r : Loop) (W : World) : Prop := W.heap[l + 1]? = some (.loop r) ∧ W.heap[l]? = some (.deferred (some []))
theorem Two.grown {l : Nat} {r : Loop} {W U : World} {row : Option Nat} (h : Two l r W) (hg : W.grownBy U row) (hr : ∀ q, row = some q → ∃ o : Obj, W.heap[q]? = some o ∧ o.isWalk = true) : Two l r U :=
  ⟨(grownBy_keeps hg hr h.1 rfl).trans h.1, (grownBy_keeps hg hr h.2 rfl).trans h.2⟩
theorem Two.keeps {l : Nat} {r : Loop} {W U : World} (h : Two l r W) (hk : KeepsFrom l W U) : Two l r U :=
  ⟨hk.same _ _ (Nat.le_succ l) h.1 rfl, hk.same _ _ (Nat.le_refl l) h.2 rfl⟩
theorem Two.put {l : Nat} {r : Loop} {W : World} (h : Two l r W) (r' : Loop) : Two l r' (W.putObj (l + 1) (.loop r')) :=
  ⟨World.putObj_heap_same (Array.getElem?_eq_some_iff.1 h.1).1, (World.putObj_heap_other (by omega)).trans h.2⟩
/-- What is owned does not see the loop's record. -/
theorem Two.own {β : Type} {l : Nat} {r : Loop} {W : World} (h : Two l r W) {I : β → World → Prop} (hI : OwnFrom l I) {s : β} (hs : I s W) (r' : Loop) : I s (W.putObj (l + 1) (.loop r')) := hI.putObj _ hs (Nat.le_succ l) h.1 rfl
theorem range_c {g : Operand} {ps : Array Tmp} {asg body : Code} {Q : Exit → Act → World → Prop} {a : Act} {w : World}
    (hro : F.round = none) (h1 : 1 ≤ n) {gf : Nat} {lb : Array Value} (hg : a.eval g = .func (.func gf) #[] lb) (hFg : F.fn gf) (eg : ∀ args w, (callFunc gf args).run P w = .ok (.enter gf args) w)
    {en : α → Array Value} {C : List α → World → Prop} {Nx : List α → α → Prop} {S : List α → Prop} (hseq : HandsC F (n - 1) P gf lb en C Nx S) (hps : ∀ x, (en x).size = ps.size)
    (I : List α → World → Prop) (Ix : Code → List α → World → Prop) (hI : OwnFrom w.heap.size I) (hIx : ∀ c, OwnFrom w.heap.size (Ix c)) (hC : ∀ s W, I s W → C s W) (h0 : I [] w) (a₁ : α → Act)
    (hasg : ∀ (l : Nat) (x : α) (W : World) (K : Act → World → Prop), K (a₁ x) W → asg.wpIn (F.inRound l) (n - 1 - 1) P (Exit.then K (fun _ _ _ => False)) { tmps := (ps.zip (en x)).foldl (fun t (p, v) => t.setIfInBounds p v) a.tmps, defers := [] } W)
    (hbody : ∀ (l : Nat) (s : List α) (x : α) (W : World), I s W → Nx s x → body.wpIn (F.inRound l) (n - 1 - 1) P (ownPostG w.heap.size (fun _ _ => True) I Ix (s ++ [x]) W) (a₁ x) W)
    (hdone : ∀ (D : Nat) (s : List α) (W : World), w.heap.size ≤ D → S s → I s W → W.heap[D]? = some (.deferred (some [])) → Q .normal { a with defers := { target := .collected D, args := #[] } :: a.defers } W)
    (hstop : ∀ (D : Nat) (c : Code) (s : List α) (W : World), w.heap.size ≤ D → Ix c s W → W.heap[D]? = some (.deferred (some [])) → c.wpIn F n P Q { a with defers := { target := .collected D, args := #[] } :: a.defers } W) :
    (Code.rangeFunc g ps asg body).wpIn F n P Q a w := by
  refine wpIn_rangeFunc fun fn hfn => ?_
  rw [hro]
  obtain ⟨R, hR⟩ : ∃ R : LoopState → Option Code → Loop, R = fun st pe => { state := st, pending := pe, fn, tmps := a.tmps, params := ps, assign := asg, body, defers := w.heap.size } := ⟨_, rfl⟩
  have hst : ∀ st pe, (R st pe).state = st := fun st pe => by rw [hR]
  have hpe : ∀ st pe, (R st pe).pending = pe := fun st pe => by rw [hR]
  have hbusy : ∀ st pe st', { R st pe with state := st' } = R st' pe := fun st pe st' => by rw [hR]
  have hend : ∀ st pe st' pe', { R st pe with state := st', pending := pe' } = R st' pe' := fun st pe st' pe' => by rw [hR]
  have T1 : Two w.heap.size (R .ready none) ((w.alloc (.deferred (some []))).alloc (.loop (R .ready none))) := by
    refine ⟨?_, (Below.heap_alloc _ _ _ (by simp)).trans (World.alloc_heap_new w _)⟩
    have := World.alloc_heap_new (w.alloc (.deferred (some []))) (.loop (R .ready none))
    rwa [World.size_alloc] at this
  have hi1 : I [] ((w.alloc (.deferred (some []))).alloc (.loop (R .ready none))) := hI.alloc _ (hI.alloc _ h0)
  obtain ⟨W1, hW1⟩ : ∃ W1, W1 = (w.alloc (.deferred (some []))).alloc (.loop (R .ready none)) := ⟨_, rfl⟩
  rw [← hW1] at T1 hi1
  refine ⟨w.heap.size + 1, [{ target := .collected w.heap.size, args := #[] }], W1, { target := .fn (.func gf) lb, args := #[.func (.yield (w.heap.size + 1)) #[] #[]] }, W1, gf,
    #[.func (.yield (w.heap.size + 1)) #[] #[]] ++ lb, W1, ?_, ?_, ?_, ?_, fun _ => h1, ?_⟩
  · rw [hW1, hR]; exact run_enterLoop_outer _ _ _ _ _
  · simp only [resolve, hg]; simp [go_sem]
  · intro f' hf'; simp [Target.leads] at hf'; subst hf'; exact hFg
  · simp [invoke, go_sem, eg]
  clear hW1
  have hsz1 : w.heap.size < W1.heap.size := (Array.getElem?_eq_some_iff.1 T1.2).1
  have hrow : ∀ {A : World} {row : Option Nat}, (∀ q, row = some q → W1.heap.size ≤ q ∧ ∃ o : Obj, A.heap[q]? = some o ∧ o.isWalk = true) → ∀ q, row = some q → w.heap.size ≤ q ∧ ∃ o : Obj, A.heap[q]? = some o ∧ o.isCells = false := fun hr q e => by
    obtain ⟨hq, o, ho, hw⟩ := hr q e
    exact ⟨by omega, o, ho, Obj.not_cells_of_walk hw⟩
  refine (hseq (w.heap.size + 1) (fun s W => I s W ∧ Two w.heap.size (R .ready none) W) (fun s W => ∃ c, Ix c s W ∧ Two w.heap.size (R .done (some c)) W) W1
    (fun s A B row hs hgr hr => ⟨hI s A B row hs.1 hgr (hrow hr), hs.2.grown hgr fun q e => (hr q e).2⟩) (fun s U hs => hC s U hs.1) ⟨hi1, T1⟩ ?_).mono ?_
  · rintro s x W ⟨hi, T⟩ hx
    have hy := run_yield (P := P) (args := en x) T.1 (by rw [hR]; exact hps x)
    rw [hR] at hy
    refine ⟨fn, _, asg, body, hy, roundIn_of_wpIn hfn (hasg _ x W _ ?_)⟩
    have hb := run_beginRound (P := P) T.1 (hst _ _)
    rw [hbusy] at hb
    have T2 := T.put (R .busy none)
    refine ⟨_, hb, wpIn_mono (hbody _ s x _ (T.own hI hi _) hx) ?_⟩
    -- however the body is left, the record is turned
    have fin : ∀ (jump : Option Code) (U : World), KeepsFrom w.heap.size (W.putObj (w.heap.size + 1) (.loop (R .busy none))) U → Two w.heap.size (R .busy none) U ∧
        (Instr.endRound (w.heap.size + 1) jump).run P U = .ok (.bool jump.isNone) (U.putObj (w.heap.size + 1) (.loop (R (if jump.isNone then .ready else .done) jump))) := fun jump U hk => by
      have T3 := T2.keeps hk
      refine ⟨T3, ?_⟩
      have := run_endRound (P := P) jump T3.1
      rwa [hend] at this
    have out : ∀ (c : Code) (U : World), KeepsFrom w.heap.size (W.putObj (w.heap.size + 1) (.loop (R .busy none))) U → Ix c (s ++ [x]) U → ∃ v U', (Instr.endRound (w.heap.size + 1) (some c)).run P U = .ok v U' ∧
        ((Ending.returned v = .returned (.bool true) ∧ I (s ++ [x]) U' ∧ Two w.heap.size (R .ready none) U') ∨ (Ending.returned v = .returned (.bool false) ∧ ∃ c, Ix c (s ++ [x]) U' ∧ Two w.heap.size (R .done (some c)) U')) := fun c U hk hx => by
      obtain ⟨T3, hr⟩ := fin (some c) U hk
      exact ⟨_, _, hr, .inr ⟨rfl, c, T3.own (hIx c) hx _, T3.put _⟩⟩
    intro e a3 U hp
    match e with
    | .normal =>
      obtain ⟨T3, hr⟩ := fin none U hp.1
      exact ⟨_, _, hr, .inl ⟨rfl, T3.own hI hp.2.2 _, T3.put _⟩⟩
    | .ret => exact out .ret U hp.1 hp.2
    | .exit id => exact out (.exit id) U hp.1 hp.2
    | .goto t => exact out (.goto t) U hp.1 hp.2
    | .panic _ => exact hp.elim
    | .outgrown => exact hp.elim
  · rintro e U ⟨⟨v, rfl⟩, ⟨s, hS, hi, T⟩ | ⟨s, c, hx, T⟩⟩
    · refine ⟨none, _, ?_, hdone _ s _ (Nat.le_refl _) hS (T.own hI hi _) (T.put (R .exhausted none)).2⟩
      have := run_endLoop (P := P) T.1 (by rw [hst]; decide)
      rwa [hbusy, hpe] at this
    · refine ⟨some c, _, ?_, hstop _ c s _ (Nat.le_refl _) (T.own (hIx c) hx _) (T.put (R .exhausted (some c))).2⟩
      have := run_endLoop (P := P) T.1 (by rw [hst]; decide)
      rwa [hbusy, hpe] at this
end
end Go.Proofs.Ytmndgbpfophniaa
