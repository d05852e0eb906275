/- Texts of this seat, put together: Cls, Seg, Tail, B0, S1, D7, FW, Pl, Vec, T1, FP, R6, F7, T2, T4, T7, W0, F8, Lb1. -/
import Derived.WalkKit
import Derived.BigQuiet
import Derived.OrdersHeld
import Derived.BigCall
import Derived.StillTail
import Derived.Test.YteboadppighplaaGreatRows
import Derived.Outline
import Derived.Deep.CutRange
import Derived.Deep.DeepCutAuto
import Derived.Deep.RegionWith
import Derived.Deep.LoopGhost
import Derived.Deep.QuietTactic
import Derived.Deep.DeepMust
import Derived.Deep.DeepFit
import Derived.Deep.Light
import Derived.Deep.RegionHeld3
import Derived.IntWalk
import Derived.Lib.Hide
import Derived.Deep.AppendSrc
import Derived.Shelf.RegionOpen
import Derived.Shelf.SlicesQ.Load
import Derived.RangeFuncBox
import Derived.OwnWalk
import Derived.Laws.AppendOwn
import Derived.Maps.AppendAt
import Derived.StillTailTactics
import Derived.ProofKit
/- A region that draws its order, whose operations read what lies below the region's first world and whose callees make memory alone: one walk, in the order of the text, over the class of the worlds that have only grown. -/
namespace Go.Proofs.YteboadppighplaaGreat
open Go.RowKit

/-- A world that has only grown from w on. -/
structure Sub (w : World) where
  u : World
  h : Below w.heap.size w u
instance (w : World) : Inhabited (Sub w) := ⟨⟨w, Below.refl _ _⟩⟩

theorem wp_region_cls {P : Program} {id : Nat} {Q : Exit → Act → World → Prop} {a : Act} {w : World} {l : List Oper} (hm : P.follows .mixedOrders = true) (hB : Region.lexB .any l.toArray = true)
    (h : wpQuiet P l.toArray (fun w' => ∃ x : Sub w, w' = x.u) (fun a' => ∀ w', (∃ x : Sub w, w' = x.u) → Q .normal a' w') l a) : (Code.region id l.toArray true).wp P Q a w :=
  wp_region_quiet (C := fun w' => ∃ x : Sub w, w' = x.u) hm hB ⟨⟨{ w with drawn := w.drawn + 1 }, ⟨rfl, rfl, rfl, Nat.le_refl _, fun _ _ => rfl⟩⟩, rfl⟩ (by simpa using h)

/-- A callee that makes memory alone and hands back one value. -/
theorem Calls.cls_of {P : Program} {f : FuncId} {args : Array Value} {w : World} {x : Sub w} {v : Value}
    (h : Calls P f args x.u fun e w' => e = .returned v ∧ Below x.u.heap.size x.u w') : Calls P f args x.u fun e w'' => e = .returned v ∧ ∃ y : Sub w, w'' = y.u :=
  h.mono fun _ w' ⟨he, hb⟩ => ⟨he, ⟨w', x.h.trans (hb.mono x.h.size)⟩, rfl⟩
end Go.Proofs.YteboadppighplaaGreat
/- A region that draws its order and holds calls that make memory: what reads is taken first, in the order of the text; a call where it alone may come up; behind it the class of worlds is those that have only grown from its end on. Over any program. -/
namespace Go.Proofs.YteboadppighplaaGreat
open Go.RowKit

/-- A post that lets no panic by. -/
def NoP (Q : Exit → Act → World → Prop) : Exit → Act → World → Prop
  | .panic _, _, _ => False
  | e, a, w => Q e a w
theorem NoP.imp {Q : Exit → Act → World → Prop} : ∀ (e : Exit) (a : Act) (w : World), NoP Q e a w → Q e a w := fun e a w h => by
  cases e <;> first | exact h | exact (h : False).elim

/-- An operation that yields a value or halts, and nothing else. -/
def plainB (o : Oper) : Bool := match o.op with
  | .move _ | .assign _ | .pick _ _ _ | .load _ _ | .binOp _ _ _ _ _ | .unOp _ _ _ | .convert _ _ _ | .slice _ _ _ _ _ | .fieldAddr _ _ _ | .field _ _ _ | .indexAddr _ _ _ | .index _ _ _ | .extract _ _ => true
  | .call c => match c.callee with
    | .builtin .len | .builtin .cap | .builtin .min | .builtin .max => true
    | _ => false
  | _ => false

theorem bind_value {P : Program} {s : Sem Value} {w w' : World} {n : Next} (h : (do let x ← s; pure (Next.value x) : Sem Next).run P w = .ok n w') : ∃ v, n = .value v := by
  simp only [Sem.run_bind] at h
  cases hs : s.run P w with
  | ok x w1 => rw [hs] at h; simp [Result.andThen, Sem.run_pure] at h; exact ⟨x, h.1.symm⟩
  | halt x w1 => rw [hs] at h; simp [Result.andThen] at h

theorem only_value {P : Program} {o : Oper} (hp : plainB o = true) {ρ : Operand → Value} {w w' : World} {n : Next} (h : (execOp ρ o).run P w = .ok n w') : ∃ v, n = .value v := by
  unfold plainB at hp
  unfold execOp at h
  cases ho : o.op <;> simp only [ho] at hp h <;> first | (cases hp; done) | exact bind_value h | skip
  · simp [Sem.run_pure] at h; exact ⟨_, h.1.symm⟩
  · simp [Sem.run_pure] at h; exact ⟨_, h.1.symm⟩
  · rename_i c x y
    simp only [Sem.run_bind] at h
    cases hs : (asBool (ρ c)).run P w with
    | ok b w1 => rw [hs] at h; simp [Result.andThen, Sem.run_pure] at h; exact ⟨_, h.1.symm⟩
    | halt b w1 => rw [hs] at h; simp [Result.andThen] at h
  · rename_i c
    simp only [Sem.run_bind] at h
    split at hp <;> first | (cases hp; done) | skip
    all_goals
      rename_i hc
      simp only [resolve, hc, Sem.run_pure, Result.andThen, invoke, builtin] at h
      exact bind_value h

section
variable {P : Program} {ops : Array Oper} {Q : Exit → Act → World → Prop} {md : Region.Mode} {S : World → Prop}

theorem val_of_quiet {o : Oper} (hp : plainB o = true) {a : Act} {v : Value} (h : ∀ w, S w → o.quietAt P a S w v) : ∀ w, S w → (execOp a.eval o).run P w = .ok (.value v) w := by
  intro w hw
  have h1 := h w hw
  unfold Oper.quietAt at h1
  cases hr : (execOp a.eval o).run P w with
  | ok n w' =>
    obtain ⟨u, rfl⟩ := only_value hp hr
    rw [hr] at h1
    simp only [Oper.quietUpon] at h1
    rw [h1.1, h1.2]
  | halt x w' => rw [hr] at h1; simp only [Oper.quietUpon] at h1

theorem quiet_mono {K K' : Act → Prop} (hK : ∀ a, K a → K' a) : ∀ (l : List Oper) (a : Act), wpQuiet P ops S K l a → wpQuiet P ops S K' l a
  | [], a, h => hK a h
  | o :: l, a, h => by
    unfold wpQuiet at h ⊢
    split
    · rename_i hw
      rw [if_pos hw] at h
      exact Oper.quiet_mono (fun a' h' => quiet_mono hK l a' h') h
    · rename_i hw
      rw [if_neg hw] at h
      exact quiet_mono hK l _ h

/-- n operations from number k on may be taken first, one behind the other. -/
def segB (md : Region.Mode) (ops : Array Oper) : Nat → Nat → Array Bool → Bool
  | 0, _, _ => true
  | n + 1, k, listed => (Region.ready md ops listed).contains k && Region.free md ops listed k && ((ops[k]?).map plainB).getD false && segB md ops n (k + 1) (listed.setIfInBounds k true)
def listAll : Nat → Nat → Array Bool → Array Bool
  | 0, _, l => l
  | n + 1, k, l => listAll n (k + 1) (l.setIfInBounds k true)

theorem held_seg (hs : Region.noSelect ops = true) (hQ : ∀ c a w d v, Q (.panic c) (Act.put a d v) w → Q (.panic c) a w) {fuel : Nat} : ∀ (l : List Oper) (k : Nat) (listed : Array Bool) (a : Act) (w : World),
    (∀ j, j < l.length → l[j]? = ops[k + j]?) → segB md ops l.length k listed = true → S w →
    wpQuiet P ops S (fun a' => wpAnyH P md ops Q S fuel (listAll l.length k listed) a' w) l a → wpAnyH P md ops Q S (l.length + fuel) listed a w
  | [], _, _, _, _, _, _, _, h => by simpa [listAll, wpQuiet] using h
  | o :: l, k, listed, a, w, hl, hB, hw, h => by
    have h0 : ops[k]? = some o := by have := hl 0 (by simp); simpa using this.symm
    simp only [List.length_cons, segB, Bool.and_eq_true, h0, Option.map_some, Option.getD_some] at hB
    obtain ⟨⟨⟨hr, hf⟩, hp⟩, hB'⟩ := hB
    have hlen : (o :: l).length + fuel = (l.length + fuel) + 1 := by simp; omega
    rw [hlen]
    have next : ∀ v, YieldsIf P ops S o v a → wpQuiet P ops S (fun a' => wpAnyH P md ops Q S fuel (listAll (o :: l).length k listed) a' w) l (a.put o.dst v) → wpAnyH P md ops Q S (l.length + fuel + 1) listed a w := fun v hy hn =>
      wpAnyH_take h0 hs hf (by simpa using hr) (fun c a w => hQ c a w o.dst v) hy hw
        (held_seg hs hQ l (k + 1) (listed.setIfInBounds k true) (a.put o.dst v) w (fun j hj => by have := hl (j + 1) (by simp; omega); simpa [Nat.add_assoc, Nat.add_comm 1 j] using this) hB' hw hn)
    unfold wpQuiet at h
    by_cases hwant : Region.wanted o (yielded ops a.tmps) = true
    · rw [if_pos hwant] at h
      obtain ⟨v, hv, hn⟩ := h
      exact next v (.inl ⟨hwant, val_of_quiet hp hv⟩) hn
    · rw [if_neg hwant] at h
      exact next undef (.inr ⟨by simpa using hwant, rfl⟩) h

/-- What holds of a narrower class. -/
theorem held_narrow {S' : World → Prop} (hSS : ∀ u, S' u → S u) : ∀ (fuel : Nat) (listed : Array Bool) (a : Act) (w : World), wpAnyH P md ops Q S' fuel listed a w → wpAnyH P md ops Q S fuel listed a w
  | 0, _, _, _, h => h
  | fuel + 1, _, _, _, h => ⟨h.1, fun i hi => wpOp_mono (fun a' w' h' => ⟨hSS _ h'.1, held_narrow hSS fuel _ a' w' h'.2⟩) (h.2 i hi)⟩

/-- A call of a Go function, at its operation. -/
theorem opwp_call {o : Oper} {a : Act} {w : World} {K : Act → World → Prop} {f : FuncId} {fn : Func} {xs : Array Operand} {ats : Array TypeId} (ho : o.op = .call { callee := .value (.func f), args := xs, argTypes := ats })
    (hf : P.funcs[f]? = some fn) (hn : (fn.name == "runtime.NumGoroutine") = false) (hb : fn.body.isNone = false)
    (h : Calls P f (xs.map a.eval) w fun e w' => ∃ v, e = .returned v ∧ K (a.put o.dst v) w') : o.wp P a w K Q := by
  have hrun : (execOp a.eval o).run P w = .ok (.enter f (xs.map a.eval)) w := by
    unfold execOp
    simp only [ho, resolve, Sem.run_bind, Act.eval, Deferred.ofValue, Sem.run_pure, Result.andThen, invoke, callFunc]
    simp [go_sem, hf, hn, hb]
  unfold Oper.wp
  rw [hrun]
  simp only [Oper.upon]
  exact h.mono fun e w' ⟨v, he, hk⟩ => by subst he; exact hk

/-- The class of the worlds that have only grown from w on. -/
def Cl (w : World) : World → Prop := fun w' => ∃ x : Sub w, w' = x.u

/-- A CALL THAT ALONE MAY COME UP: behind it the class is that of the worlds that have only grown from its end on. -/
theorem held_call {w0 u : World} {fuel k : Nat} {listed : Array Bool} {a : Act} {o : Oper} {f : FuncId} {fn : Func} {xs : Array Operand} {ats : Array TypeId} {ys : Array Value} {A2 : Value → Act} (hr : Region.ready md ops listed = [k]) (hk : ops[k]? = some o)
    (hwant : Region.wanted o (yielded ops a.tmps) = true) (ho : o.op = .call { callee := .value (.func f), args := xs, argTypes := ats })
    (hf : P.funcs[f]? = some fn) (hn : (fn.name == "runtime.NumGoroutine") = false) (hb : fn.body.isNone = false) (hu : Below w0.heap.size w0 u) (hys : xs.map a.eval = ys) (hput : ∀ v, a.put o.dst v = A2 v)
    (h : Calls P f ys u fun e w' => ∃ v, e = .returned v ∧ Below u.heap.size u w' ∧ wpAnyH P md ops Q (Cl w') fuel (listed.setIfInBounds k true) (A2 v) w') :
    wpAnyH P md ops Q (Cl w0) (fuel + 1) listed a u := by
  refine wpAnyH_all hr (by simp) fun i hi => ?_
  obtain rfl : i = k := by simpa using hi
  unfold wpOp
  simp only [hk, hwant, if_true]
  refine .inl (opwp_call ho hf hn hb (hys ▸ h.mono ?_))
  rintro e w' ⟨v, he, hbel, hrest⟩
  have h0 : Below w0.heap.size w0 w' := hu.trans (hbel.mono hu.size)
  rw [← hput v] at hrest
  exact ⟨v, he, ⟨⟨w', h0⟩, rfl⟩, held_narrow (fun y ⟨x, hx⟩ => ⟨⟨x.u, h0.trans (x.h.mono h0.size)⟩, hx⟩) _ _ _ _ hrest⟩

/-- THE BEGINNING: the first n operations. -/
theorem wp_region_seg {id : Nat} {a : Act} {w : World} (n fuel : Nat) (hm : P.follows .mixedOrders = true) (hs : Region.noSelect ops = true) (hn : n + fuel = ops.size) (hlen : (ops.toList.take n).length = n)
    (hB : segB .any ops n 0 (Array.replicate ops.size false) = true)
    (h : wpQuiet P ops (fun w' => ∃ x : Sub w, w' = x.u) (fun a' => ∀ u, Below w.heap.size w u → wpAnyH P .any ops (NoP Q) (Cl w) fuel (listAll n 0 (Array.replicate ops.size false)) a' u) (ops.toList.take n) a) : (Code.region id ops true).wp P Q a w := by
  refine Code.wp_mono NoP.imp (wp_region_held (S := Cl w) hm ?_)
  have hb : Below w.heap.size w { w with drawn := w.drawn + 1 } := ⟨rfl, rfl, rfl, Nat.le_refl _, fun _ _ => rfl⟩
  have h1 := held_seg (P := P) (md := .any) (S := Cl w) (fuel := fuel) hs (fun _ _ _ _ _ h => h) (ops.toList.take n) 0 (Array.replicate ops.size false) a { w with drawn := w.drawn + 1 }
    (fun j hj => by rw [hlen] at hj; rw [List.getElem?_take, if_pos hj]; simp) (by rw [hlen]; exact hB) ⟨⟨_, hb⟩, rfl⟩ (by
      rw [hlen]
      exact quiet_mono (fun a' h' => h' _ hb) _ _ h)
  rw [hlen, hn] at h1
  exact h1

/-- BEHIND A CALL: n operations more, from number k on. -/
theorem held_more {w1 u : World} {a : Act} {listed : Array Bool} (n fuel k : Nat) (hs : Region.noSelect ops = true) (hlen : ((ops.toList.drop k).take n).length = n)
    (hB : segB md ops n k listed = true) (hu : Below w1.heap.size w1 u)
    (h : wpQuiet P ops (fun w' => ∃ x : Sub w1, w' = x.u) (fun a' => ∀ u, Below w1.heap.size w1 u → wpAnyH P md ops (NoP Q) (Cl w1) fuel (listAll n k listed) a' u) ((ops.toList.drop k).take n) a) : wpAnyH P md ops (NoP Q) (Cl w1) (n + fuel) listed a u := by
  have h1 := held_seg (P := P) (md := md) (S := Cl w1) (fuel := fuel) hs (fun _ _ _ _ _ h => h) ((ops.toList.drop k).take n) k listed a u
    (fun j hj => by rw [hlen] at hj; rw [List.getElem?_take, if_pos hj, List.getElem?_drop]; simp) (by rw [hlen]; exact hB) ⟨⟨_, hu⟩, rfl⟩ (by
      rw [hlen]
      exact quiet_mono (fun a' h' => h' _ hu) _ _ h)
  rw [hlen] at h1
  exact h1
/-- THE END. -/
theorem held_end {w1 u : World} {a : Act} {listed : Array Bool} (hr : Region.ready md ops listed = []) (h : Q .normal a u) : wpAnyH P md ops (NoP Q) (Cl w1) 0 listed a u := wpAnyH_done hr (show NoP Q .normal a u from h) 0
end
end Go.Proofs.YteboadppighplaaGreat
/- A region that draws its order: reads and calls that make memory first, in any order, over the class of the worlds that have only grown; then a tail that is walked as it stands. -/
namespace Go.Proofs.YteboadppighplaaGreat
open Go.RowKit

section
variable {P : Program} {md : Region.Mode} {ops : Array Oper} {C : World → Prop}
/-- The head's operations in any order, over a class. -/
def headC (P : Program) (md : Region.Mode) (ops : Array Oper) (C : World → Prop) (n : Nat) (L : Array Bool → Act → Prop) : Nat → Array Bool → Act → Prop
  | 0, listed, a => L listed a
  | f + 1, listed, a => Region.ready md ops listed ≠ [] ∧ ∀ i ∈ Region.ready md ops listed, i < n ∧ qOp P ops C i (headC P md ops C n L f (listed.setIfInBounds i true)) a
theorem any_of_head {n g : Nat} {L : Array Bool → Act → Prop} {Q' : Exit → Act → World → Prop} (hL : ∀ listed a, L listed a → ∀ w, C w → wpAny P md ops Q' g listed a w) (f : Nat) : ∀ (listed : Array Bool) (a : Act) (w : World), C w → headC P md ops C n L f listed a → wpAny P md ops Q' (f + g) listed a w := by
  induction f with
  | zero => intro listed a w hw h; rw [Nat.zero_add]; exact hL _ _ h w hw
  | succ f ih =>
    intro listed a w hw h
    rw [show f + 1 + g = (f + g) + 1 by omega]
    exact ⟨fun h0 => absurd h0 h.1, fun i hi => wpOp_of_qOp hw (fun a' w' hw' h' => ih _ a' w' hw' h') (h.2 i hi).2⟩
theorem head_first {n i : Nat} {oi : Oper} {v : Value} {L : Array Bool → Act → Prop} (hi : ops[i]? = some oi) (hsel : ∀ (j : Nat) (o : Oper) cs b, ops[j]? = some o → o.op ≠ .select cs b)
    (hs : Region.sinkB md ops n = true) (hc : Region.chainB md ops n = true) (hn : n < ops.size) (hin : i < n)
    (hdone : ∀ listed a, L listed a → ∀ j ∈ Region.ready md ops listed, n ≤ j) (f : Nat) :
    ∀ (listed : Array Bool) (a : Act), HeadInv md ops n listed →
      (∀ j oj, ops[j]? = some oj → j ≠ i → listed.getD j true = false → (∀ e ∈ oj.after, Region.binds md e = true → e.on ≠ i) → oi.apart ops oj = true) →
      i ∈ Region.ready md ops listed → YieldsIn P ops C oi v a →
      headC P md ops C n L f (listed.setIfInBounds i true) (a.put oi.dst v) → headC P md ops C n L (f + 1) listed a := by
  induction f with
  | zero =>
    intro listed a inv _ hr hy H
    refine ⟨fun h => (by rw [h] at hr; cases hr), fun j hj => ?_⟩
    have hjn : j < n := Nat.lt_of_not_le fun h => tail_waits hs hc hn inv _ i rfl hin (mem_ready.1 hr).1 j h hj
    refine ⟨hjn, ?_⟩
    by_cases hji : j = i
    · subst hji; exact hy.qOp hi H
    · have := hdone _ _ H j (ready_mono hj hji)
      omega
  | succ f ih =>
    intro listed a inv hfree hr hy H
    have hun := (mem_ready.1 hr).1
    refine ⟨fun h => (by rw [h] at hr; cases hr), fun j hj => ?_⟩
    have hjn : j < n := Nat.lt_of_not_le fun h => tail_waits hs hc hn inv _ i rfl hin hun j h hj
    refine ⟨hjn, ?_⟩
    by_cases hji : j = i
    · subst hji; exact hy.qOp hi H
    · obtain ⟨hjun, oj, hoj, hall⟩ := mem_ready.1 hj
      have hnot : ∀ e ∈ oj.after, Region.binds md e = true → e.on ≠ i := fun e he hb heq => by
        have h1 := hall e he hb
        rw [heq, getD_both hun] at h1
        cases h1
      have h2 := qOp_put hoj (hfree j oj hoj hji hjun hnot) (fun cs b => hsel i oi cs b hi) (fun cs b => hsel j oj cs b hoj) hy (H.2 j (ready_mono hj hji)).2
      refine qOp_mono (fun a' h3 => ih (listed.setIfInBounds j true) a' (inv.set hj hjn) ?_ (ready_mono hr (Ne.symm hji)) h3.1 ?_) h2
      · intro k ok hk hki hun' hno
        refine hfree k ok hk hki ?_ hno
        by_cases hjk : j = k
        · subst hjk; exact hjun
        · rw [getD_set_ne true hjk] at hun'; exact hun'
      · rw [Array.setIfInBounds_comm _ _ hji]
        exact h3.2
theorem head_lex {n g : Nat} {Lq : Act → Prop} (hsel : Region.noSelect ops = true) (hs : Region.sinkB md ops n = true) (hc : Region.chainB md ops n = true) (hn : n < ops.size) :
    ∀ (l : List Oper) (k : Nat) (listed : Array Bool) (a : Act), (∀ j, j < l.length → l[j]? = ops[k + j]?) → k + l.length = n → HeadInv md ops n listed →
    Region.lexHead md ops g l.length k listed = true → wpQuiet P ops C Lq l a → headC P md ops C n (fun listed' a' => Region.seqB md ops g n listed' = true ∧ Lq a') l.length listed a
  | [], k, listed, a, _, hk, _, hB, h => by
    obtain rfl : k = n := by simpa using hk
    exact ⟨by simpa [Region.lexHead] using hB, h⟩
  | o :: l, k, listed, a, hl, hk, inv, hB, h => by
    have h0 : ops[k]? = some o := by simpa using (hl 0 (by simp)).symm
    simp only [List.length_cons, Region.lexHead, Bool.and_eq_true] at hB
    simp only [List.length_cons] at hk
    have hr : k ∈ Region.ready md ops listed := by simpa using hB.1.1
    have hq : qOp P ops C k (wpQuiet P ops C Lq l) a := by unfold qOp; simp only [h0]; exact h
    obtain ⟨v, hy, hK⟩ := yieldsIn_of_qOp h0 hq
    refine head_first h0 (Region.noSelect_spec hsel) hs hc hn (by omega) (fun listed' a' hL => seqB_ready hL.1) l.length listed a inv (Region.free_spec h0 hB.1.2) hr hy ?_
    exact head_lex hsel hs hc hn l (k + 1) _ _ (fun j hj => by have := hl (j + 1) (by simp; omega); simpa [Nat.add_assoc, Nat.add_comm 1 j] using this) (by omega) (inv.set hr (by omega)) hB.2 hK
/-- The head over the class, then the tail. -/
theorem wp_region_cls_tail {id : Nat} {Q : Exit → Act → World → Prop} {a : Act} {w : World} {l : List Oper} (n : Nat) (hm : P.follows .mixedOrders = true) (hB : Region.lexTailB .any l.toArray n = true)
    (h : wpQuiet P l.toArray (fun w' => ∃ x : Sub w, w' = x.u) (fun a' => ∀ x : Sub w, wpList P l.toArray Q (l.drop n) a' x.u) (l.take n) a) : (Code.region id l.toArray true).wp P Q a w := by
  simp only [Region.lexTailB, Bool.and_eq_true, decide_eq_true_eq] at hB
  obtain ⟨⟨⟨⟨hsel, hn⟩, hs⟩, hc⟩, hlex⟩ := hB
  have hn' : n < l.length := by simpa using hn
  have htl : (l.take n).length = n := by simp; omega
  have hdl : (l.drop n).length = l.toArray.size - n := by simp
  have inv0 : HeadInv .any l.toArray n (Array.replicate l.toArray.size false) :=
    ⟨by simp, fun j oj _ hl => (by rw [getD_replicate_false] at hl; cases hl), fun t _ ht => getD_in (by simpa using ht) (getD_replicate_false _ _)⟩
  have H := head_lex (md := .any) (g := l.toArray.size - n) hsel hs hc hn (l.take n) 0 _ a (fun j hj => by
    have hj' : j < n := by rw [htl] at hj; exact hj
    simp [hj']) (by simpa using htl) inv0 (by rw [htl]; exact hlex) h
  refine wp_region_any hm ?_
  have := any_of_head (Q' := Q) (g := l.toArray.size - n) (fun listed a' hL u ⟨x, hx⟩ => by
    subst hx
    have := wpAny_of_seq (md := .any) (Q' := Q) (l.drop n) n listed a' x.u (fun j => by simp [List.getElem?_drop]) (by rw [hdl]; exact hL.1) (hL.2 x)
    rwa [hdl] at this) _ _ _ { w with drawn := w.drawn + 1 } ⟨⟨{ w with drawn := w.drawn + 1 }, ⟨rfl, rfl, rfl, Nat.le_refl _, fun _ _ => rfl⟩⟩, rfl⟩ H
  rw [htl, show n + (l.toArray.size - n) = l.toArray.size by omega] at this
  exact this
end
end Go.Proofs.YteboadppighplaaGreat
/- Words of this seat's walks: what a world keeps. -/
namespace Go.Proofs.YteboadppighplaaGreat
open Go.RowKit

theorem bc {W w1 : World} (hb : Below W.heap.size W w1) : (∀ b o, b < W.heap.size → w1.cell? ⟨b, o, none⟩ = W.cell? ⟨b, o, none⟩) ∧ (∀ b o, b < W.heap.size → w1.frozen? ⟨b, o, none⟩ = W.frozen? ⟨b, o, none⟩) :=
  ⟨fun b o h => hb.cell (p := ⟨b, o, none⟩) h, fun b o h => hb.frozen (p := ⟨b, o, none⟩) h⟩

theorem bdrewN {B : Nat} {a w : World} (h : Below B a w) (k : Nat) : Below B a (w.drewN k) := ⟨h.os, h.tape, h.output, h.size, h.block⟩
theorem same_of {P : Program} {f : FuncId} {args : Array Value} {w : World} {v : Value} (h : Calls P f args w fun e w' => e = .returned v ∧ w = w') : Calls P f args w fun e w' => e = .returned v ∧ w' = w := h.mono fun _ _ h => ⟨h.1, h.2.symm⟩
/-- Block B holds just these cells. -/
def At (W : World) (B : Nat) (cs : Array Value) (t : TypeId) : Prop := W.heap[B]? = some (.cells cs t (0, 0))
theorem At.lt {W : World} {B : Nat} {cs : Array Value} {t : TypeId} (h : At W B cs t) : B < W.heap.size := (Array.getElem?_eq_some_iff.1 h).1
theorem At.kept {W W' : World} {row : Option Nat} {B : Nat} {cs : Array Value} {t : TypeId} (h : At W B cs t) (hg : W.grownBy W' row) (hne : some B ≠ row) : At W' B cs t := (hg.block B h.lt hne).trans h
theorem At.cell {W : World} {B : Nat} {cs : Array Value} {t : TypeId} (h : At W B cs t) (j : Nat) : W.cell? ⟨B, j, none⟩ = cs[j]? := cell_of_row W B j cs t _ h
theorem At.frozen {W : World} {B : Nat} {cs : Array Value} {t : TypeId} (h : At W B cs t) (j : Nat) : W.frozen? ⟨B, j, none⟩ = false := by simp [World.frozen?, show W.heap[B]? = _ from h]
theorem At.new (W : World) (cs : Array Value) (t : TypeId) : At (W.alloc (.cells cs t)) W.heap.size cs t := heap_alloc_new W _
theorem At.new1 (W : World) (o : Obj) (cs : Array Value) (t : TypeId) : At ((W.alloc o).alloc (.cells cs t)) (W.heap.size + 1) cs t := by
  have := At.new (W.alloc o) cs t
  rwa [World.size_alloc] at this
theorem At.new2 (W : World) (o o' : Obj) (cs : Array Value) (t : TypeId) : At (((W.alloc o).alloc o').alloc (.cells cs t)) (W.heap.size + 1 + 1) cs t := by
  have := At.new1 (W.alloc o) o' cs t
  rwa [World.size_alloc] at this
theorem At.alloc {W : World} {B : Nat} {cs : Array Value} {t : TypeId} (h : At W B cs t) (o : Obj) : At (W.alloc o) B cs t := h.kept (World.grownBy_alloc W o none) (by simp)
theorem At.drew {W : World} {B : Nat} {cs : Array Value} {t : TypeId} (h : At W B cs t) : At W.drew B cs t := h
theorem At.drewN {W : World} {B : Nat} {cs : Array Value} {t : TypeId} (h : At W B cs t) (k : Nat) : At (W.drewN k) B cs t := h
theorem At.below {W W' : World} {B n : Nat} {cs : Array Value} {t : TypeId} (h : At W B cs t) (hb : Below n W W') (hn : B < n) : At W' B cs t := (hb.block B hn).trans h
theorem At.belows {W W' : World} {B : Nat} {cs : Array Value} {t : TypeId} (h : At W B cs t) (hb : Below W.heap.size W W') : At W' B cs t := h.below hb h.lt
theorem At.set0 {W : World} {B : Nat} {cs : Array Value} {t : TypeId} (h : At W B cs t) (j : Nat) (v : Value) : At (W.setCell ⟨B, j, none⟩ v) B (cs.setIfInBounds j v) t := by
  show (W.heap.modify B _)[B]? = _
  rw [Array.getElem?_modify, show W.heap[B]? = _ from h, if_pos rfl]
  rfl
theorem At.other {W : World} {B : Nat} {cs : Array Value} {t : TypeId} (h : At W B cs t) {B' : Nat} (hne : B ≠ B') (j : Nat) (v : Value) : At (W.setCell ⟨B', j, none⟩ v) B cs t := (Below.heap_setCell W _ v B hne).trans h
theorem ret_int {k : IntKind} {a b : Int} (h : a = b) : Ending.returned (.int k a) = .returned (.int k b) := by rw [h]
theorem ret_bool {a b : Bool} (h : a = b) : Ending.returned (.bool a) = .returned (.bool b) := by rw [h]

theorem add_none (g j : Nat) : (⟨g, 0, none⟩ : Addr).add j = ⟨g, j, none⟩ := by unfold Addr.add; split <;> simp_all
theorem addr_off (g o j : Nat) : (⟨g, o, none⟩ : Addr).add j = ⟨g, o + j, none⟩ := by unfold Addr.add; split <;> simp_all
def isI (x : Int) : Prop := -9223372036854775808 ≤ x ∧ x ≤ 9223372036854775807
theorem grownBy_set (W : World) (b j : Nat) (v : Value) : W.grownBy (W.setCell ⟨b, j, none⟩ v) (some b) :=
  ⟨rfl, rfl, rfl, by simp, fun k _ hk => Below.heap_setCell W ⟨b, j, none⟩ v k fun e => hk (by rw [e])⟩
/-- A row that is not empty has a block. -/
theorem row_some {w : World} {base : Nat} {e : TypeId} {n : Nat} {v : Value} {k : Nat} {xs : List Value} (h : w.ownsRow base e n v k xs) (hk : 0 < k) : ∃ g cap, v = .slice (some ⟨g, 0, none⟩) k cap ∧ base ≤ g ∧ g < w.heap.size := by
  rcases h.2 with ⟨rfl, h0⟩ | ⟨g, cap, cur, rfl, hb, hg, hnc, hm, _⟩
  · omega
  · exact ⟨g, cap, rfl, hb, (Array.getElem?_eq_some_iff.1 hg).1⟩
/-- A row is kept by what is written below its base. -/
theorem row_far {w w' : World} {base b : Nat} {e : TypeId} {n : Nat} {v : Value} {k : Nat} {xs : List Value} (h : w.ownsRow base e n v k xs) (hg : w.grownBy w' (some b)) (hb : b < base) : w'.ownsRow base e n v k xs := by
  refine h.kept hg ?_
  cases hv : v.ownBlock with
  | none => exact .inl rfl
  | some c => exact .inr fun e => by have := (h.lt c hv).1; cases e; omega
/-- How long a slice in a cell is. -/
def lenAt (w : World) (b : Nat) : Nat := match w.cell? ⟨b, 0, none⟩ with
  | some (.slice _ n _) => n
  | _ => 0
theorem lenAt_of {w : World} {b : Nat} {A : Option Addr} {n c : Nat} (h : w.cell? ⟨b, 0, none⟩ = some (.slice A n c)) : lenAt w b = n := by unfold lenAt; rw [h]
end Go.Proofs.YteboadppighplaaGreat
/- Words: rules as plain data and as cells; when two are alike; a slice that reads as rules. -/
namespace Go.Proofs.YteboadppighplaaGreat
open Go.RowKit Go.Shelf

/-- A rule. -/
structure Ru where
  id : Int
  dv : Int
  pr : Int
  kd : Int
  f : Nat
  t : Nat
  pt : Int
instance : Inhabited Ru := ⟨⟨0, 0, 0, 0, 0, 0, 0⟩⟩
theorem Ru.eq_iff (a b : Ru) : a = b ↔ a.id = b.id ∧ a.dv = b.dv ∧ a.pr = b.pr ∧ a.kd = b.kd ∧ a.f = b.f ∧ a.t = b.t ∧ a.pt = b.pt := by
  cases a; cases b; simp
instance : DecidableEq Ru := fun a b => decidable_of_iff _ (Ru.eq_iff a b).symm
/-- The rule of no words. -/
def ru0 : Ru := ⟨0, 0, 0, 0, 0, 0, 0⟩
/-- Its numbers fit. -/
def Ru.wf (r : Ru) : Prop := isI r.id ∧ isI r.dv ∧ isI r.pr ∧ isI r.kd ∧ r.f < 4294967296 ∧ r.t < 4294967296 ∧ isI r.pt
theorem ru0_wf : ru0.wf := by simp [Ru.wf, isI, ru0]
/-- A rule's cells. -/
def ruA (r : Ru) : Array Value := #[.int .i64 r.id, .int .i64 r.dv, .int .i64 r.pr, .int .i64 r.kd, .int .u32 r.f, .int .u32 r.t, .int .i64 r.pt]
theorem ruA_mk (a b c d : Int) (f t : Nat) (p : Int) : ruA ⟨a, b, c, d, f, t, p⟩ = #[.int .i64 a, .int .i64 b, .int .i64 c, .int .i64 d, .int .u32 f, .int .u32 t, .int .i64 p] := rfl

theorem fsRu : Tryz.prog.underlying 105 = some (.struct (Tryz.prog.fieldsOf 105)) := by kernel_rfl
theorem fsRg : Tryz.prog.underlying 43 = some (.struct (Tryz.prog.fieldsOf 43)) := by kernel_rfl
theorem hdRu : Tryz.prog.stoodInHeld 105 = false := by kernel_rfl
theorem hdRg : Tryz.prog.stoodInHeld 43 = false := by kernel_rfl
set_option maxRecDepth 100000 in
theorem eq_ru (x y : Ru) (w : World) : (Op.equalIn 10000 105 (.agg (ruA x)) (.agg (ruA y))).run Tryz.prog w = .ok (decide (x = y)) w := by
  obtain ⟨a, b, c, d, f, t, p⟩ := x
  obtain ⟨a', b', c', d', f', t', p'⟩ := y
  have u1 := Tryz.underlying105
  have u2 := Tryz.underlying43
  have hRu := (Option.some.inj (fsRu.symm.trans u1))
  have hRg := (Option.some.inj (fsRg.symm.trans u2))
  injection hRu with hRu
  injection hRg with hRg
  rw [run_equalIn_agg w 9999 _ _ _ fsRu hdRu, hRu]
  simp [ruA_mk, go_sem, Op.eqFields, Ru.eq_iff]
  by_cases h1 : a = a'
  · by_cases h2 : b = b'
    · by_cases h3 : c = c'
      · by_cases h4 : d = d'
        · by_cases h5 : f = f'
          · by_cases h6 : t = t'
            · by_cases h7 : p = p'
              · simp [h1, h2, h3, h4, h5, h6, h7]
              · simp [h1, h2, h3, h4, h5, h6, h7]
            · simp [h1, h2, h3, h4, h5, h6, Int.natCast_inj]
          · simp [h1, h2, h3, h4, h5, Int.natCast_inj]
        · simp [h1, h2, h3, h4]
      · simp [h1, h2, h3]
    · simp [h1, h2]
  · simp [h1]
theorem eql_ru (x y : Ru) (w : World) : (binOp .eql 105 (.agg (ruA x)) (.agg (ruA y))).run Tryz.prog w = .ok (.bool (decide (x = y))) w := by
  rw [run_eql_struct, eq_ru]; rfl
theorem neq_ru (x y : Ru) (w : World) : (binOp .neq 105 (.agg (ruA x)) (.agg (ruA y))).run Tryz.prog w = .ok (.bool (!decide (x = y))) w := by
  rw [run_neq_struct, eq_ru]; rfl
theorem gdRu : Tryz.prog.eqGuardType Tryz.prog.depth 105 = false := by kernel_rfl

/-- Rules as cells. -/
def rcs (l : List Ru) : List Value := l.flatMap fun r => (ruA r).toList
theorem rcs_append (l m : List Ru) : rcs (l ++ m) = rcs l ++ rcs m := by simp [rcs]
theorem rcs_cons (r : Ru) (l : List Ru) : rcs (r :: l) = (ruA r).toList ++ rcs l := by simp [rcs]
theorem ruA_size (r : Ru) : (ruA r).toList.length = 7 := rfl
theorem rcs_length (l : List Ru) : (rcs l).length = l.length * 7 := by
  induction l with
  | nil => rfl
  | cons x l ih => rw [rcs_cons, List.length_append, ih, ruA_size, List.length_cons]; omega
theorem rcs_one (l : List Ru) : ∀ u ∈ rcs l, u.oneCell' = true := by
  intro u hu
  obtain ⟨x, _, h⟩ := List.mem_flatMap.1 hu
  simp [ruA] at h
  rcases h with rfl | rfl | rfl | rfl | rfl | rfl | rfl <;> rfl
theorem rcs_at (L : List Ru) (k j : Nat) (hk : k < L.length) (hj : j < 7) : (rcs L)[k * 7 + j]? = (ruA L[k])[j]? := by
  induction L generalizing k with
  | nil => simp at hk
  | cons x L ih =>
    rw [rcs_cons]
    match k with
    | 0 =>
      rw [Nat.zero_mul, Nat.zero_add, List.getElem?_append_left (by rw [ruA_size]; exact hj)]
      simp
    | k + 1 =>
      rw [List.getElem?_append_right (by rw [ruA_size]; omega), ruA_size, show (k + 1) * 7 + j - 7 = k * 7 + j by omega]
      exact ih k (by simpa using hk)
/-- The address of a slice that reads as these rules. -/
def Rs (w : World) (A : Option Addr) (L : List Ru) : Prop := 0 < L.length → ∃ g o, A = some ⟨g, o, none⟩ ∧ g < w.heap.size ∧
  ∀ k (hk : k < L.length) j, j < 7 → w.cell? ⟨g, o + k * 7 + j, none⟩ = (ruA L[k])[j]?
/-- A value that is a slice of these rules. -/
def IsR (w : World) (v : Value) (L : List Ru) : Prop := ∃ A c, v = .slice A L.length c ∧ L.length ≤ c ∧ c ≤ maxLen ∧ Rs w A L
theorem Rs.nil (w : World) (A : Option Addr) : Rs w A [] := fun h => absurd h (by simp)
theorem Rs.below {w w' : World} {A : Option Addr} {L : List Ru} {B : Nat} (h : Rs w A L) (hB : w.heap.size ≤ B) (hb : Below B w w') : Rs w' A L := fun hn => by
  obtain ⟨g, o, e, hg, hc⟩ := h hn
  exact ⟨g, o, e, Nat.lt_of_lt_of_le hg hb.size, fun k hk j hj => (hb.cell (p := ⟨g, _, none⟩) (by show g < B; omega)).trans (hc k hk j hj)⟩
theorem Rs.belows {w w' : World} {A : Option Addr} {L : List Ru} (h : Rs w A L) (hb : Below w.heap.size w w') : Rs w' A L := h.below (Nat.le_refl _) hb
theorem IsR.belows {w w' : World} {v : Value} {L : List Ru} (h : IsR w v L) (hb : Below w.heap.size w w') : IsR w' v L := by
  obtain ⟨A, c, e, h1, h2, h3⟩ := h
  exact ⟨A, c, e, h1, h2, h3.belows hb⟩
/-- One rule of a slice, cell by cell. -/
theorem Rs.at {w : World} {A : Option Addr} {L : List Ru} (h : Rs w A L) (k : Nat) (hk : k < L.length) : ∃ g o, A = some ⟨g, o, none⟩ ∧ g < w.heap.size ∧
    w.cell? ⟨g, o + k * 7, none⟩ = some (.int .i64 L[k].id) ∧ w.cell? ⟨g, o + k * 7 + 1, none⟩ = some (.int .i64 L[k].dv) ∧ w.cell? ⟨g, o + k * 7 + 2, none⟩ = some (.int .i64 L[k].pr) ∧
    w.cell? ⟨g, o + k * 7 + 3, none⟩ = some (.int .i64 L[k].kd) ∧ w.cell? ⟨g, o + k * 7 + 4, none⟩ = some (.int .u32 L[k].f) ∧ w.cell? ⟨g, o + k * 7 + 5, none⟩ = some (.int .u32 L[k].t) ∧ w.cell? ⟨g, o + k * 7 + 6, none⟩ = some (.int .i64 L[k].pt) := by
  obtain ⟨g, o, e, hg, hc⟩ := h (by omega)
  exact ⟨g, o, e, hg, hc k hk 0 (by omega), hc k hk 1 (by omega), hc k hk 2 (by omega), hc k hk 3 (by omega), hc k hk 4 (by omega), hc k hk 5 (by omega), hc k hk 6 (by omega)⟩
/-- A rule of a slice is loaded. -/
theorem Rs.load {w : World} {A : Option Addr} {L : List Ru} (h : Rs w A L) (k : Nat) (hk : k < L.length) : ∃ g o, A = some ⟨g, o, none⟩ ∧ g < w.heap.size ∧
    Sem.run Tryz.prog (loadCellsFrom ⟨g, o + k * 7, none⟩ 0 7 #[]) w = .ok (ruA L[k]) w := by
  obtain ⟨g, o, e, hg, hc⟩ := h (by omega)
  refine ⟨g, o, e, hg, ?_⟩
  have := run_loadCellsFrom_list Tryz.prog w ⟨g, o + k * 7, none⟩ (ruA L[k]).toList 7 rfl (fun i v hi => by
    rw [Addr.add_lit]
    have hi7 : i < 7 := (List.getElem?_eq_some_iff.1 hi).1
    rw [hc k hk i hi7]
    simpa using hi)
  simpa using this
/-- What is owned reads. -/
theorem isR_of_row {w : World} {base : Nat} {v : Value} {L : List Ru} (h : w.ownsRow base 105 7 v L.length (rcs L)) : IsR w v L := by
  rcases h.2 with ⟨rfl, h0⟩ | ⟨g, cap, cur, rfl, hb, hg, hnc, hm, _⟩
  · obtain rfl := List.eq_nil_of_length_eq_zero h0
    exact ⟨none, 0, rfl, Nat.le_refl _, by simp, Rs.nil _ _⟩
  · refine ⟨_, cap, rfl, hnc, hm, fun _ => ⟨g, 0, rfl, (Array.getElem?_eq_some_iff.1 hg).1, fun k hk j hj => ?_⟩⟩
    have h1 := rcs_at L k j hk hj
    have h2 : (ruA L[k])[j]? = some ((ruA L[k])[j]'(by show j < 7; exact hj)) := Array.getElem?_eq_getElem _
    rw [h2] at h1 ⊢
    have e1 := World.ownsRow.cells h (g := g) rfl _ _ h1
    rw [add_none] at e1
    rw [Nat.zero_add]
    exact e1
end Go.Proofs.YteboadppighplaaGreat
/- Plain mathematics: right rules, in a row. -/
namespace Go.Proofs.YteboadppighplaaGreat
open Go.RowKit Go.Shelf

/-- Whether a number lies between two. -/
def wn (n a b : Int) : Bool := decide (a ≤ n) && decide (n ≤ b)
/-- The last port of a kind. -/
def lastP (kd : Int) : Int := if kd = 0 then 3 else 0
/-- Whether a rule is right. -/
def ruB (r : Ru) : Bool := wn r.id 1 1048576 && (wn r.dv 0 7 && (wn r.pr 0 1024 && (decide (0 ≤ r.kd) && (decide (r.kd ≤ 3) && (decide (r.f ≤ r.t) && wn r.pt 0 (lastP r.kd))))))
/-- The ID ahead of a place. -/
def lastId (L : List Ru) : Nat → Int
  | 0 => 0
  | k + 1 => (L[k]?.getD ru0).id
/-- Whether a rule is wrong where it stands. -/
def wrongAt (L : List Ru) (k : Nat) : Bool := !ruB (L[k]?.getD ru0) || decide ((L[k]?.getD ru0).id ≤ lastId L k)
/-- Whether rules are right. -/
def allB (L : List Ru) : Bool := decide (L.length ≤ 40) && (List.range L.length).all fun k => !wrongAt L k
theorem allB_of {L : List Ru} {b : Bool} (h40 : L.length ≤ 40) (hb : b = true ↔ ∃ k, k < L.length ∧ wrongAt L k = true) : (!b) = allB L := by
  unfold allB
  rw [decide_eq_true h40, Bool.true_and]
  cases b with
  | true =>
    obtain ⟨k, hk, hw⟩ := hb.1 rfl
    symm
    rw [Bool.not_true, List.all_eq_false]
    exact ⟨k, List.mem_range.2 hk, by simp [hw]⟩
  | false =>
    symm
    rw [Bool.not_false, List.all_eq_true]
    intro k hk
    cases hw : wrongAt L k with
    | false => rfl
    | true => have := hb.2 ⟨k, List.mem_range.1 hk, hw⟩; cases this
/-- A right rule. -/
theorem ruB_iff (r : Ru) : ruB r = true ↔ (1 ≤ r.id ∧ r.id ≤ 1048576) ∧ (0 ≤ r.dv ∧ r.dv ≤ 7) ∧ (0 ≤ r.pr ∧ r.pr ≤ 1024) ∧ 0 ≤ r.kd ∧ r.kd ≤ 3 ∧ r.f ≤ r.t ∧ 0 ≤ r.pt ∧ r.pt ≤ 3 ∧ (r.kd = 0 ∨ r.pt = 0) := by
  unfold ruB wn lastP
  by_cases h : r.kd = 0
  · simp [h, and_assoc]
  · rw [if_neg h]
    simp only [Bool.and_eq_true, decide_eq_true_eq]
    constructor
    · rintro ⟨⟨h1, h2⟩, ⟨h3, h4⟩, ⟨h5, h6⟩, h7, h8, h9, h10, h11⟩
      omega
    · rintro ⟨⟨h1, h2⟩, ⟨h3, h4⟩, ⟨h5, h6⟩, h7, h8, h9, h10, h11, h12⟩
      have := h12.resolve_left h
      omega
/-- Right rules, at most 40, with rising IDs. -/
structure RR (L : List Ru) : Prop where
  len : L.length ≤ 40
  right : ∀ r ∈ L, ruB r = true
  up : ∀ i j (hi : i < L.length) (hj : j < L.length), i < j → L[i].id < L[j].id
theorem allB_iff (L : List Ru) : allB L = true ↔ L.length ≤ 40 ∧ ∀ k (hk : k < L.length), ruB L[k] = true ∧ lastId L k < L[k].id := by
  unfold allB
  rw [Bool.and_eq_true, decide_eq_true_eq, List.all_eq_true]
  refine and_congr Iff.rfl ⟨fun h k hk => ?_, fun h k hk => ?_⟩
  · have := h k (List.mem_range.2 hk)
    simpa [wrongAt, hk] using this
  · have hk := List.mem_range.1 hk
    have := h k hk
    simpa [wrongAt, hk] using this
theorem rr_of {L : List Ru} (h : allB L = true) : RR L := by
  obtain ⟨h1, h2⟩ := (allB_iff L).1 h
  refine ⟨h1, fun r hr => ?_, ?_⟩
  · obtain ⟨k, hk, rfl⟩ := List.getElem_of_mem hr
    exact (h2 k hk).1
  · intro i j hi hj hij
    induction j with
    | zero => omega
    | succ j ih =>
      have h3 := (h2 (j + 1) hj).2
      have e : lastId L (j + 1) = (L[j]'(by omega)).id := by simp [lastId, show j < L.length by omega]
      rw [e] at h3
      by_cases hj2 : i = j
      · subst hj2; exact h3
      · exact Int.lt_trans (ih (by omega) (by omega)) h3
theorem RR.one {L : List Ru} (h : RR L) {x y : Ru} (hx : x ∈ L) (hy : y ∈ L) (e : x.id = y.id) : x = y := by
  obtain ⟨i, hi, rfl⟩ := List.getElem_of_mem hx
  obtain ⟨j, hj, rfl⟩ := List.getElem_of_mem hy
  rcases Nat.lt_trichotomy i j with h1 | h1 | h1
  · have := h.up i j hi hj h1; omega
  · subst h1; rfl
  · have := h.up j i hj hi h1; omega
end Go.Proofs.YteboadppighplaaGreat
/- Plain mathematics: the first of rules. -/
namespace Go.Proofs.YteboadppighplaaGreat
open Go.RowKit Go.Shelf

/-- Whether the one comes first. -/
def aheadB (x y : Ru) : Bool := decide (y.pr < x.pr) || (decide (x.pr = y.pr) && decide (x.id < y.id))
/-- Whether a rule is a device's, of two kinds, and takes an address. -/
def takesB (r : Ru) (d one oth : Int) (a : Nat) : Bool := decide (r.dv = d) && ((decide (r.kd = one) || decide (r.kd = oth)) && (decide (r.f ≤ a) && decide (a ≤ r.t)))
/-- The first of the rules that are asked: one step. -/
def stepF (p : Ru → Bool) (o : Option Ru) (r : Ru) : Option Ru := if p r && (o.isNone || aheadB r (o.getD ru0)) then some r else o
def firstL (p : Ru → Bool) (L : List Ru) : Option Ru := L.foldl (stepF p) none
theorem firstL_snoc (p : Ru → Bool) (L : List Ru) (k : Nat) (hk : k < L.length) : firstL p (L.take (k + 1)) = stepF p (firstL p (L.take k)) L[k] := by
  unfold firstL; rw [List.take_succ_eq_append_getElem hk, List.foldl_append]; rfl
def firstV (o : Option Ru) : Value := .tuple #[.agg (ruA (o.getD ru0)), .bool o.isSome]
/-- Where a loop of first stands. -/
def FirI (p : Ru → Bool) (L : List Ru) (w : World) (i b : Value) (k : Nat) (W : World) : Prop := i = .int .i64 k ∧ b = .bool (firstL p (L.take k)).isSome ∧ k ≤ L.length ∧ Below w.heap.size w W ∧
  At W w.heap.size (ruA ru0) 105 ∧ At W (w.heap.size + 1) (ruA ((firstL p (L.take k)).getD ru0)) 105
/-- A rule is written over a block. -/
def fillW (W : World) (B : Nat) (r : Ru) : World := (((((((W.setCell ⟨B, 0, none⟩ (.int .i64 r.id)).setCell ⟨B, 1, none⟩ (.int .i64 r.dv)).setCell ⟨B, 2, none⟩ (.int .i64 r.pr)).setCell ⟨B, 3, none⟩ (.int .i64 r.kd)).setCell ⟨B, 4, none⟩ (.int .u32 r.f)).setCell ⟨B, 5, none⟩ (.int .u32 r.t)).setCell ⟨B, 6, none⟩ (.int .i64 r.pt))
theorem At.fill {W : World} {B : Nat} {y : Ru} {T : TypeId} (h : At W B (ruA y) T) (r : Ru) : At (fillW W B r) B (ruA r) T := by
  have := ((((((h.set0 0 (.int .i64 r.id)).set0 1 (.int .i64 r.dv)).set0 2 (.int .i64 r.pr)).set0 3 (.int .i64 r.kd)).set0 4 (.int .u32 r.f)).set0 5 (.int .u32 r.t)).set0 6 (.int .i64 r.pt)
  unfold fillW
  simpa [ruA] using this
theorem At.fillo {W : World} {B B' : Nat} {cs : Array Value} {T : TypeId} (h : At W B' cs T) (hne : B' ≠ B) (r : Ru) : At (fillW W B r) B' cs T :=
  ((((((h.other hne 0 _).other hne 1 _).other hne 2 _).other hne 3 _).other hne 4 _).other hne 5 _).other hne 6 _
theorem below_fill {n B : Nat} {a W : World} (h : Below n a W) (hB : n ≤ B) (r : Ru) : Below n a (fillW W B r) :=
  ((((((h.setCell (p := ⟨B, 0, none⟩) hB _).setCell (p := ⟨B, 1, none⟩) hB _).setCell (p := ⟨B, 2, none⟩) hB _).setCell (p := ⟨B, 3, none⟩) hB _).setCell (p := ⟨B, 4, none⟩) hB _).setCell (p := ⟨B, 5, none⟩) hB _).setCell (p := ⟨B, 6, none⟩) hB _
theorem rd0 : ruA ru0 = #[.int .i64 0, .int .i64 0, .int .i64 0, .int .i64 0, .int .u32 0, .int .u32 0, .int .i64 0] := rfl

/-- Two kinds of a device that take an address. -/
def tk (d one oth : Int) (a : Nat) (r : Ru) : Bool := takesB r d one oth a
theorem ahead_iff (a b : Ru) : aheadB a b = true ↔ (b.pr < a.pr ∨ (a.pr = b.pr ∧ a.id < b.id)) := by
  simp [aheadB]
theorem ahead_no (a b : Ru) : aheadB a b = false ↔ ¬ (b.pr < a.pr ∨ (a.pr = b.pr ∧ a.id < b.id)) := by
  rw [← ahead_iff]; cases aheadB a b <;> simp
theorem foldF_some (p : Ru → Bool) (L : List Ru) : ∀ b : Ru, ∃ x, L.foldl (stepF p) (some b) = some x ∧ (x = b ∨ (x ∈ L ∧ p x = true)) ∧ aheadB b x = false ∧ ∀ r ∈ L, p r = true → aheadB r x = false := by
  induction L with
  | nil => intro b; exact ⟨b, rfl, Or.inl rfl, by rw [ahead_no]; omega, by simp⟩
  | cons r L ih =>
    intro b
    rw [List.foldl_cons]
    by_cases h : p r = true ∧ aheadB r b = true
    · have e : stepF p (some b) r = some r := by simp [stepF, h.1, h.2]
      rw [e]
      obtain ⟨x, e1, h1, h2, h3⟩ := ih r
      refine ⟨x, e1, ?_, ?_, ?_⟩
      · rcases h1 with rfl | ⟨h1, h1'⟩
        · exact Or.inr ⟨List.mem_cons_self, h.1⟩
        · exact Or.inr ⟨List.mem_cons_of_mem _ h1, h1'⟩
      · have := (ahead_iff _ _).1 h.2
        rw [ahead_no] at h2 ⊢
        omega
      · intro s hs hp
        rcases List.mem_cons.1 hs with rfl | hs
        · exact h2
        · exact h3 s hs hp
    · have e : stepF p (some b) r = some b := by
        cases hp : p r with
        | false => simp [stepF, hp]
        | true => have : aheadB r b = false := by cases ha : aheadB r b with
                  | false => rfl
                  | true => exact absurd ⟨hp, ha⟩ h
                  simp [stepF, hp, this]
      rw [e]
      obtain ⟨x, e1, h1, h2, h3⟩ := ih b
      refine ⟨x, e1, ?_, h2, ?_⟩
      · rcases h1 with rfl | ⟨h1, h1'⟩
        · exact Or.inl rfl
        · exact Or.inr ⟨List.mem_cons_of_mem _ h1, h1'⟩
      · intro s hs hp
        rcases List.mem_cons.1 hs with rfl | hs
        · have ha : aheadB s b = false := by cases ha : aheadB s b with
            | false => rfl
            | true => exact absurd ⟨hp, ha⟩ h
          rw [ahead_no] at h2 ha ⊢
          omega
        · exact h3 s hs hp
/-- The first is among them, and none is ahead of it; there is none just if none is asked. -/
theorem firstL_is (p : Ru → Bool) (L : List Ru) : (firstL p L = none ∧ ∀ r ∈ L, p r = false) ∨ ∃ x, firstL p L = some x ∧ x ∈ L ∧ p x = true ∧ ∀ r ∈ L, p r = true → aheadB r x = false := by
  unfold firstL
  induction L with
  | nil => exact Or.inl ⟨rfl, by simp⟩
  | cons r L ih =>
    rw [List.foldl_cons]
    cases hp : p r with
    | false =>
      have e : stepF p none r = none := by simp [stepF, hp]
      rw [e]
      rcases ih with ⟨h1, h2⟩ | ⟨x, h1, h2, h3, h4⟩
      · refine Or.inl ⟨h1, fun s hs => ?_⟩
        rcases List.mem_cons.1 hs with rfl | hs
        · exact hp
        · exact h2 s hs
      · refine Or.inr ⟨x, h1, List.mem_cons_of_mem _ h2, h3, fun s hs hps => ?_⟩
        rcases List.mem_cons.1 hs with rfl | hs
        · rw [hp] at hps; cases hps
        · exact h4 s hs hps
    | true =>
      have e : stepF p none r = some r := by simp [stepF, hp]
      rw [e]
      obtain ⟨x, e1, h1, h2, h3⟩ := foldF_some p L r
      refine Or.inr ⟨x, e1, ?_, ?_, ?_⟩
      · rcases h1 with rfl | ⟨h1, h1'⟩
        · exact List.mem_cons_self
        · exact List.mem_cons_of_mem _ h1
      · rcases h1 with rfl | ⟨h1, h1'⟩
        · exact hp
        · exact h1'
      · intro s hs hps
        rcases List.mem_cons.1 hs with rfl | hs
        · exact h2
        · exact h3 s hs hps
theorem firstL_filter (q p : Ru → Bool) (L : List Ru) (h : ∀ r, q r = true → p r = true) : firstL q (L.filter p) = firstL q L := by
  unfold firstL
  generalize (none : Option Ru) = o
  induction L generalizing o with
  | nil => rfl
  | cons r L ih =>
    rw [List.foldl_cons]
    cases hp : p r with
    | false =>
      rw [List.filter_cons_of_neg (by rw [hp]; simp)]
      have hq : q r = false := by cases hq : q r with
        | false => rfl
        | true => have := h r hq; rw [hp] at this; cases this
      have e : stepF q o r = o := by simp [stepF, hq]
      rw [e]; exact ih o
    | true => rw [List.filter_cons_of_pos hp, List.foldl_cons]; exact ih _
theorem firstL_congr (q p : Ru → Bool) (L : List Ru) (h : ∀ r ∈ L, q r = p r) : firstL q L = firstL p L := by
  unfold firstL
  generalize (none : Option Ru) = o
  induction L generalizing o with
  | nil => rfl
  | cons r L ih =>
    rw [List.foldl_cons, List.foldl_cons]
    have e : stepF q o r = stepF p o r := by unfold stepF; rw [h r List.mem_cons_self]
    rw [e]
    exact ih (fun s hs => h s (List.mem_cons_of_mem _ hs)) _

theorem firstL_none (p : Ru → Bool) (L : List Ru) (h : ∀ r ∈ L, p r = false) : firstL p L = none := by
  rcases firstL_is p L with ⟨h1, _⟩ | ⟨x, h1, h2, h3, _⟩
  · exact h1
  · rw [h x h2] at h3; cases h3
theorem RR.find {L : List Ru} (h : RR L) {x : Ru} (hx : x ∈ L) : firstL (fun r => decide (r.id = x.id)) L = some x := by
  rcases firstL_is (fun r => decide (r.id = x.id)) L with ⟨_, h2⟩ | ⟨y, h1, h2, h3, _⟩
  · have := h2 x hx; simp at this
  · rw [h1, h.one h2 hx (by simpa using h3)]
end Go.Proofs.YteboadppighplaaGreat
/- Plain mathematics: topologies: ports, who is joined, which are free, who is reached. -/
namespace Go.Proofs.YteboadppighplaaGreat

/-- A port. -/
structure Pt where
  d : Int
  p : Int
instance : Inhabited Pt := ⟨⟨0, 0⟩⟩
theorem Pt.eq_iff (a b : Pt) : a = b ↔ a.d = b.d ∧ a.p = b.p := by
  cases a; cases b; simp
instance : DecidableEq Pt := fun a b => decidable_of_iff _ (Pt.eq_iff a b).symm
/-- A link. -/
structure Lk where
  a : Pt
  b : Pt
instance : Inhabited Lk := ⟨⟨default, default⟩⟩
theorem Lk.eq_iff (x y : Lk) : x = y ↔ x.a = y.a ∧ x.b = y.b := by
  cases x; cases y; simp
instance : DecidableEq Lk := fun a b => decidable_of_iff _ (Lk.eq_iff a b).symm

/-- Is there such a port? -/
def hasT (ps : List Int) (p : Pt) : Bool := decide (0 ≤ p.d) && (decide (p.d < (ps.length : Int)) && (decide (0 ≤ p.p) && decide (p.p < ps[p.d.toNat]?.getD 0)))
/-- The ports of links, in their order. -/
def ends (ls : List Lk) : List Pt := ls.flatMap fun l => [l.a, l.b]
theorem ends_cons (l : Lk) (ls : List Lk) : ends (l :: ls) = l.a :: l.b :: ends ls := rfl
theorem ends_append (l m : List Lk) : ends (l ++ m) = ends l ++ ends m := by simp [ends]
theorem ends_length (ls : List Lk) : (ends ls).length = 2 * ls.length := by
  induction ls with
  | nil => rfl
  | cons l ls ih => rw [ends_cons]; simp only [List.length_cons, ih]; omega
theorem mem_ends {ls : List Lk} {p : Pt} : p ∈ ends ls ↔ ∃ l ∈ ls, l.a = p ∨ l.b = p := by
  simp only [ends, List.mem_flatMap, List.mem_cons, List.mem_nil_iff, or_false]
  exact ⟨fun ⟨l, h1, h2⟩ => ⟨l, h1, h2.imp Eq.symm Eq.symm⟩, fun ⟨l, h1, h2⟩ => ⟨l, h1, h2.imp Eq.symm Eq.symm⟩⟩
/-- A right topology. -/
structure RT (ps : List Int) (ls : List Lk) : Prop where
  n1 : 1 ≤ ps.length
  n8 : ps.length ≤ 8
  l16 : ls.length ≤ 16
  ports : ∀ x ∈ ps, 1 ≤ x ∧ x ≤ 4
  has : ∀ p ∈ ends ls, hasT ps p = true
  nodup : (ends ls).Nodup
/-- Is it right? -/
def rightT (ps : List Int) (ls : List Lk) : Bool := decide (1 ≤ ps.length) && (decide (ps.length ≤ 8) && (decide (ls.length ≤ 16) && (ps.all (fun x => decide (1 ≤ x) && decide (x ≤ 4)) && ((ends ls).all (hasT ps) && decide (ends ls).Nodup))))
theorem rightT_iff (ps : List Int) (ls : List Lk) : rightT ps ls = true ↔ RT ps ls := by
  simp only [rightT, Bool.and_eq_true, decide_eq_true_eq, List.all_eq_true]
  exact ⟨fun ⟨h1, h2, h3, h4, h5, h6⟩ => ⟨h1, h2, h3, h4, h5, h6⟩, fun h => ⟨h.n1, h.n8, h.l16, h.ports, h.has, h.nodup⟩⟩

/-- The port to which a port is joined. -/
def nextT : List Lk → Pt → Option Pt
  | [], _ => none
  | l :: r, p => if l.a = p then some l.b else if l.b = p then some l.a else nextT r p
theorem nextT_none {ls : List Lk} {p : Pt} : nextT ls p = none ↔ p ∉ ends ls := by
  induction ls with
  | nil => simp [nextT, ends]
  | cons l ls ih =>
    rw [ends_cons]
    unfold nextT
    by_cases h1 : l.a = p
    · simp [h1]
    · by_cases h2 : l.b = p
      · simp [h1, h2]
      · rw [if_neg h1, if_neg h2, ih]
        simp [Ne.symm h1, Ne.symm h2]
theorem nextT_some {ls : List Lk} {p q : Pt} (h : nextT ls p = some q) : ∃ l ∈ ls, (l.a = p ∧ l.b = q) ∨ (l.b = p ∧ l.a = q) := by
  induction ls with
  | nil => cases h
  | cons l ls ih =>
    unfold nextT at h
    by_cases h1 : l.a = p
    · rw [if_pos h1] at h; cases h; exact ⟨l, List.mem_cons_self, .inl ⟨h1, rfl⟩⟩
    · rw [if_neg h1] at h
      by_cases h2 : l.b = p
      · rw [if_pos h2] at h; cases h; exact ⟨l, List.mem_cons_self, .inr ⟨h2, rfl⟩⟩
      · rw [if_neg h2] at h
        obtain ⟨m, hm, hh⟩ := ih h
        exact ⟨m, List.mem_cons_of_mem _ hm, hh⟩
theorem nextT_of {ls : List Lk} {p q : Pt} (hn : (ends ls).Nodup) (h : ∃ l ∈ ls, (l.a = p ∧ l.b = q) ∨ (l.b = p ∧ l.a = q)) : nextT ls p = some q := by
  induction ls with
  | nil => obtain ⟨l, hl, _⟩ := h; cases hl
  | cons l ls ih =>
    rw [ends_cons, List.nodup_cons, List.nodup_cons] at hn
    obtain ⟨n1, n2, n3⟩ := hn
    obtain ⟨m, hm, hh⟩ := h
    unfold nextT
    rcases List.mem_cons.1 hm with rfl | hm
    · rcases hh with ⟨h1, h2⟩ | ⟨h1, h2⟩
      · rw [if_pos h1, h2]
      · have hne : m.a ≠ p := fun e => n1 (by rw [e, ← h1]; exact List.mem_cons_self)
        rw [if_neg hne, if_pos h1, h2]
    · have hp : p ∈ ends ls := mem_ends.2 ⟨m, hm, hh.imp (·.1) (·.1)⟩
      have ha : l.a ≠ p := fun e => n1 (by rw [e]; exact List.mem_cons_of_mem _ hp)
      have hb : l.b ≠ p := fun e => n2 (by rw [e]; exact hp)
      rw [if_neg ha, if_neg hb]
      exact ih n3 ⟨m, hm, hh⟩
theorem ends_apart {ls : List Lk} (hn : (ends ls).Nodup) {l : Lk} (hl : l ∈ ls) : l.a ≠ l.b := by
  induction ls with
  | nil => cases hl
  | cons m ls ih =>
    rw [ends_cons, List.nodup_cons, List.nodup_cons] at hn
    rcases List.mem_cons.1 hl with rfl | hl
    · exact fun e => hn.1 (by rw [e]; exact List.mem_cons_self)
    · exact ih hn.2.2 hl
/-- Both ways. -/
theorem nextT_both {ls : List Lk} (hn : (ends ls).Nodup) {p q : Pt} (h : nextT ls p = some q) : nextT ls q = some p ∧ q ≠ p ∧ p ∈ ends ls ∧ q ∈ ends ls := by
  obtain ⟨l, hl, hh⟩ := nextT_some h
  refine ⟨nextT_of hn ⟨l, hl, ?_⟩, ?_, mem_ends.2 ⟨l, hl, ?_⟩, mem_ends.2 ⟨l, hl, ?_⟩⟩
  · rcases hh with ⟨h1, h2⟩ | ⟨h1, h2⟩
    · exact .inr ⟨h2, h1⟩
    · exact .inl ⟨h2, h1⟩
  · have := ends_apart hn hl
    rcases hh with ⟨h1, h2⟩ | ⟨h1, h2⟩
    · rw [← h1, ← h2]; exact Ne.symm this
    · rw [← h1, ← h2]; exact this
  · exact hh.imp (·.1) (·.1)
  · rcases hh with ⟨h1, h2⟩ | ⟨h1, h2⟩
    · exact .inr h2
    · exact .inl h2

/-- All ports of a device. -/
def portsOf (ps : List Int) (i : Nat) : List Pt := (List.range (ps[i]?.getD 0).toNat).map fun k : Nat => (⟨(i : Int), (k : Int)⟩ : Pt)
/-- All ports, by device, then by port. -/
def allP (ps : List Int) : List Pt := (List.range ps.length).flatMap (portsOf ps)
/-- The ports that are joined to none. -/
def edgesT (ps : List Int) (ls : List Lk) : List Pt := (allP ps).filter fun p => (nextT ls p).isNone
theorem mem_allP {ps : List Int} {p : Pt} : p ∈ allP ps ↔ hasT ps p = true := by
  obtain ⟨d, q⟩ := p
  simp only [allP, portsOf, List.mem_flatMap, List.mem_range, List.mem_map, hasT, Bool.and_eq_true, decide_eq_true_eq, Pt.mk.injEq]
  constructor
  · rintro ⟨i, hi, k, hk, rfl, rfl⟩
    refine ⟨by omega, by omega, by omega, ?_⟩
    simp only [Int.toNat_natCast]
    omega
  · rintro ⟨h1, h2, h3, h4⟩
    exact ⟨d.toNat, by omega, q.toNat, by omega, by omega, by omega⟩
theorem allP_nodup (ps : List Int) : (allP ps).Nodup := by
  unfold allP
  rw [List.Nodup, List.pairwise_flatMap]
  refine ⟨fun i _ => ?_, ?_⟩
  · unfold portsOf
    rw [List.pairwise_map]
    refine List.Pairwise.imp ?_ List.nodup_range
    intro a b hab e
    simp only [Pt.mk.injEq] at e
    omega
  · refine List.Pairwise.imp ?_ List.nodup_range
    intro i j hij x hx y hy hxy
    subst hxy
    obtain ⟨k, _, e1⟩ := List.mem_map.1 hx
    obtain ⟨m, _, e2⟩ := List.mem_map.1 hy
    have e := congrArg Pt.d (e1.trans e2.symm)
    have e' : (i : Int) = (j : Int) := e
    omega
theorem mem_edges {ps : List Int} {ls : List Lk} {p : Pt} : p ∈ edgesT ps ls ↔ hasT ps p = true ∧ nextT ls p = none := by
  simp only [edgesT, List.mem_filter, mem_allP, Option.isNone_iff_eq_none]
/-- All ports are those of the links, and the others. -/
theorem edges_count {ps : List Int} {ls : List Lk} (h : RT ps ls) : (allP ps).length = (edgesT ps ls).length + 2 * ls.length := by
  have e1 : (allP ps).length = (edgesT ps ls).length + ((allP ps).filter fun p => !(nextT ls p).isNone).length := by
    unfold edgesT
    generalize allP ps = l
    induction l with
    | nil => rfl
    | cons x l ih =>
      cases hx : (nextT ls x).isNone with
      | true =>
        rw [List.filter_cons_of_pos (p := fun p => (nextT ls p).isNone) hx, List.filter_cons_of_neg (p := fun p => !(nextT ls p).isNone) (by simp [hx]), List.length_cons, List.length_cons, ih]; omega
      | false =>
        rw [List.filter_cons_of_neg (p := fun p => (nextT ls p).isNone) (by simp [hx]), List.filter_cons_of_pos (p := fun p => !(nextT ls p).isNone) (by simp [hx]), List.length_cons, List.length_cons, ih]; omega
  have e2 : ((allP ps).filter fun p => !(nextT ls p).isNone).length = (ends ls).length := by
    apply List.Perm.length_eq
    refine (List.perm_ext_iff_of_nodup ((allP_nodup ps).filter _) h.nodup).2 fun p => ?_
    simp only [List.mem_filter, mem_allP, Bool.not_eq_true', Option.isNone_eq_false_iff]
    constructor
    · rintro ⟨_, hs⟩
      apply Classical.byContradiction
      intro hn
      rw [nextT_none.2 hn] at hs; cases hs
    · intro hp
      refine ⟨h.has p hp, ?_⟩
      cases hq : nextT ls p with
      | none => exact absurd hp (nextT_none.1 hq)
      | some q => rfl
  rw [e1, e2, ends_length]

/-! Who is reached. -/
/-- Two devices are joined. -/
def jn (ls : List Lk) (x y : Int) : Prop := ∃ l ∈ ls, (l.a.d = x ∧ l.b.d = y) ∨ (l.b.d = x ∧ l.a.d = y)
theorem jn_symm {ls : List Lk} {x y : Int} (h : jn ls x y) : jn ls y x := by
  obtain ⟨l, hl, hh⟩ := h
  exact ⟨l, hl, hh.elim (fun h => .inr ⟨h.2, h.1⟩) (fun h => .inl ⟨h.2, h.1⟩)⟩
/-- One comes from a to another one. -/
inductive Rch (ls : List Lk) (a : Int) : Int → Prop
  | refl : Rch ls a a
  | step {x y : Int} : Rch ls a x → jn ls x y → Rch ls a y
theorem Rch.trans {ls : List Lk} {a b c : Int} (h : Rch ls a b) (h' : Rch ls b c) : Rch ls a c := by
  induction h' with
  | refl => exact h
  | step _ hj ih => exact ih.step hj
theorem Rch.symm {ls : List Lk} {a b : Int} (h : Rch ls a b) : Rch ls b a := by
  induction h with
  | refl => exact .refl
  | step _ hj ih => exact (Rch.refl.step (jn_symm hj)).trans ih
/-- A set that holds a, and with each device all that are joined to it, holds all that are reached. -/
theorem Rch.within {ls : List Lk} {a b : Int} {S : Int → Prop} (h : Rch ls a b) (ha : S a) (hc : ∀ x y, S x → jn ls x y → S y) : S b := by
  induction h with
  | refl => exact ha
  | step _ hj ih => exact hc _ _ ih hj

/-- One link is gone through: both its devices, if one of them. -/
def rlx (S : Int → Bool) (l : Lk) : Int → Bool := fun i => if i = l.a.d ∨ i = l.b.d then S l.a.d || S l.b.d else S i
/-- All links, one behind the other. -/
def rnd (ls : List Lk) (S : Int → Bool) : Int → Bool := ls.foldl rlx S
/-- So many rounds. -/
def rnds (ls : List Lk) (S : Int → Bool) : Nat → Int → Bool
  | 0 => S
  | r + 1 => rnd ls (rnds ls S r)
theorem rlx_mono (S : Int → Bool) (l : Lk) {i : Int} (h : S i = true) : rlx S l i = true := by
  unfold rlx
  by_cases hi : i = l.a.d ∨ i = l.b.d
  · rw [if_pos hi]
    rcases hi with rfl | rfl <;> simp [h]
  · rw [if_neg hi]; exact h
theorem rnd_mono (ls : List Lk) (S : Int → Bool) {i : Int} (h : S i = true) : rnd ls S i = true := by
  unfold rnd
  induction ls generalizing S with
  | nil => exact h
  | cons l ls ih => exact ih _ (rlx_mono S l h)
theorem rlx_le {S T : Int → Bool} (h : ∀ i, S i = true → T i = true) (l : Lk) : ∀ i, rlx S l i = true → rlx T l i = true := by
  intro i
  unfold rlx
  split
  · rw [Bool.or_eq_true, Bool.or_eq_true]; exact Or.imp (h _) (h _)
  · exact h i
/-- Behind a round a link that was met holds both its devices, if one of them was held ahead of it. -/
theorem rnd_link {ls : List Lk} {S : Int → Bool} {l : Lk} (hl : l ∈ ls) (h : S l.a.d = true ∨ S l.b.d = true) : rnd ls S l.a.d = true ∧ rnd ls S l.b.d = true := by
  unfold rnd
  induction ls generalizing S with
  | nil => cases hl
  | cons m ls ih =>
    rw [List.foldl_cons]
    rcases List.mem_cons.1 hl with rfl | hl
    · have ha : rlx S l l.a.d = true := by unfold rlx; rw [if_pos (.inl rfl), Bool.or_eq_true]; exact h
      have hb : rlx S l l.b.d = true := by unfold rlx; rw [if_pos (.inr rfl), Bool.or_eq_true]; exact h
      exact ⟨rnd_mono ls _ ha, rnd_mono ls _ hb⟩
    · exact ih hl (h.imp (rlx_mono S m) (rlx_mono S m))
/-- No link parts a set. -/
def Shut (ls : List Lk) (S : Int → Bool) : Prop := ∀ l ∈ ls, S l.a.d = S l.b.d
theorem rlx_shut {S : Int → Bool} {l : Lk} (h : S l.a.d = S l.b.d) : rlx S l = S := by
  funext i
  unfold rlx
  by_cases hi : i = l.a.d ∨ i = l.b.d
  · rw [if_pos hi]
    rcases hi with rfl | rfl
    · rw [← h, Bool.or_self]
    · rw [h, Bool.or_self]
  · rw [if_neg hi]
theorem rnd_shut {ls : List Lk} {S : Int → Bool} (h : Shut ls S) : rnd ls S = S := by
  unfold rnd
  induction ls with
  | nil => rfl
  | cons l ls ih =>
    rw [List.foldl_cons, rlx_shut (h l List.mem_cons_self)]
    exact ih fun m hm => h m (List.mem_cons_of_mem _ hm)
/-- How many of n devices. -/
def cntS (n : Nat) (S : Int → Bool) : Nat := ((List.range n).filter fun i : Nat => S i).length
theorem cnt_le (n : Nat) (S : Int → Bool) : cntS n S ≤ n := by
  unfold cntS
  have := List.length_filter_le (fun i : Nat => S i) (List.range n)
  simpa using this
theorem cnt_more {n : Nat} {S T : Int → Bool} (hle : ∀ i, S i = true → T i = true) {j : Nat} (hj : j < n) (hS : S j = false) (hT : T j = true) : cntS n S < cntS n T := by
  induction n with
  | zero => omega
  | succ n ih =>
    have e : ∀ U : Int → Bool, cntS (n + 1) U = cntS n U + (if U n then 1 else 0) := fun U => by
      unfold cntS
      rw [List.range_succ, List.filter_append, List.length_append]
      cases h : U n <;> simp [h]
    rw [e, e]
    by_cases hjn : j = n
    · subst hjn
      have hle' : cntS j S ≤ cntS j T := by
        clear ih e hj hS hT
        induction j with
        | zero => exact Nat.le_refl _
        | succ m ih =>
          have e : ∀ U : Int → Bool, cntS (m + 1) U = cntS m U + (if U m then 1 else 0) := fun U => by
            unfold cntS
            rw [List.range_succ, List.filter_append, List.length_append]
            cases h : U m <;> simp [h]
          rw [e, e]
          cases h : S m with
          | false => simp; omega
          | true => rw [hle _ h]; simp; omega
      rw [hS, hT]; simp; omega
    · have := ih (by omega)
      cases h : S n with
      | false => simp; omega
      | true => rw [hle _ h]; simp; omega
/-- The devices of the links are among n. -/
def InN (n : Nat) (ls : List Lk) : Prop := ∀ l ∈ ls, (0 ≤ l.a.d ∧ l.a.d < n) ∧ (0 ≤ l.b.d ∧ l.b.d < n)
theorem rnds_grow {n : Nat} {ls : List Lk} (hN : InN n ls) (S : Int → Bool) (r : Nat) : Shut ls (rnds ls S r) ∨ cntS n S + r ≤ cntS n (rnds ls S r) := by
  induction r with
  | zero => exact .inr (Nat.le_refl _)
  | succ r ih =>
    by_cases hs : Shut ls (rnds ls S r)
    · left
      show Shut ls (rnd ls (rnds ls S r))
      rw [rnd_shut hs]; exact hs
    · right
      have ih := ih.resolve_left hs
      have hex : ∃ l ∈ ls, rnds ls S r l.a.d ≠ rnds ls S r l.b.d := by
        apply Classical.byContradiction
        intro hno
        apply hs
        intro l hl
        apply Classical.byContradiction
        intro hne
        exact hno ⟨l, hl, hne⟩
      obtain ⟨l, hl, hne⟩ := hex
      obtain ⟨⟨a0, a1⟩, b0, b1⟩ := hN l hl
      have hlt : cntS n (rnds ls S r) < cntS n (rnd ls (rnds ls S r)) := by
        cases ha : rnds ls S r l.a.d with
        | true =>
          cases hb : rnds ls S r l.b.d with
          | true => rw [ha, hb] at hne; exact absurd rfl hne
          | false =>
            obtain ⟨k, hk⟩ := Int.eq_ofNat_of_zero_le b0
            rw [hk] at hb b1
            refine cnt_more (j := k) (fun i h => rnd_mono ls _ h) (by omega) hb ?_
            rw [← hk]; exact (rnd_link hl (.inl ha)).2
        | false =>
          cases hb : rnds ls S r l.b.d with
          | false => rw [ha, hb] at hne; exact absurd rfl hne
          | true =>
            obtain ⟨k, hk⟩ := Int.eq_ofNat_of_zero_le a0
            rw [hk] at ha a1
            refine cnt_more (j := k) (fun i h => rnd_mono ls _ h) (by omega) ha ?_
            rw [← hk]; exact (rnd_link hl (.inr hb)).1
      show cntS n S + (r + 1) ≤ cntS n (rnd ls (rnds ls S r))
      omega
theorem rnds_mono (ls : List Lk) (S : Int → Bool) (r : Nat) {i : Int} (h : S i = true) : rnds ls S r i = true := by
  induction r with
  | zero => exact h
  | succ r ih => exact rnd_mono ls _ ih
/-- What is held is reached. -/
theorem rlx_sound {ls : List Lk} {a : Int} {S : Int → Bool} (h : ∀ i, S i = true → Rch ls a i) {l : Lk} (hl : l ∈ ls) : ∀ i, rlx S l i = true → Rch ls a i := by
  intro i hi
  unfold rlx at hi
  by_cases hc : i = l.a.d ∨ i = l.b.d
  · rw [if_pos hc, Bool.or_eq_true] at hi
    have ha : Rch ls a l.a.d := hi.elim (h _) fun hb => (h _ hb).step ⟨l, hl, .inr ⟨rfl, rfl⟩⟩
    rcases hc with rfl | rfl
    · exact ha
    · exact ha.step ⟨l, hl, .inl ⟨rfl, rfl⟩⟩
  · rw [if_neg hc] at hi; exact h i hi
theorem rnd_sound {ls ms : List Lk} {a : Int} (hm : ∀ l ∈ ms, l ∈ ls) {S : Int → Bool} (h : ∀ i, S i = true → Rch ls a i) : ∀ i, rnd ms S i = true → Rch ls a i := by
  unfold rnd
  induction ms generalizing S with
  | nil => exact h
  | cons l ms ih => exact ih (fun m hm' => hm m (List.mem_cons_of_mem _ hm')) (rlx_sound h (hm l List.mem_cons_self))
theorem rnds_sound {ls : List Lk} {a : Int} {S : Int → Bool} (h : ∀ i, S i = true → Rch ls a i) (r : Nat) : ∀ i, rnds ls S r i = true → Rch ls a i := by
  induction r with
  | zero => exact h
  | succ r ih => exact rnd_sound (fun l hl => hl) ih
/-- One device. -/
def oneS (a : Int) : Int → Bool := fun i => decide (i = a)
/-- As many rounds as there are devices tell who is reached. -/
theorem rnds_reach {n : Nat} {ls : List Lk} (hN : InN n ls) {a b : Int} (ha : 0 ≤ a ∧ a < n) : rnds ls (oneS a) n b = true ↔ Rch ls a b := by
  constructor
  · exact rnds_sound (fun i hi => by simp [oneS] at hi; subst hi; exact .refl) n b
  · intro h
    have hsh : Shut ls (rnds ls (oneS a) n) := by
      rcases rnds_grow hN (oneS a) n with h | h
      · exact h
      · have h1 := cnt_le n (rnds ls (oneS a) n)
        have h2 : 0 < cntS n (oneS a) := by
          obtain ⟨k, rfl⟩ := Int.eq_ofNat_of_zero_le ha.1
          have : 0 ≤ cntS n (fun _ => false) := Nat.zero_le _
          have := cnt_more (n := n) (S := fun _ => false) (T := oneS (k : Int)) (j := k) (fun i h => by cases h) (by omega) rfl (by simp [oneS])
          omega
        omega
    refine h.within (S := fun i => rnds ls (oneS a) n i = true) (rnds_mono ls _ n (by simp [oneS])) ?_
    rintro x y hx ⟨l, hl, ⟨rfl, rfl⟩ | ⟨rfl, rfl⟩⟩
    · rw [← hsh l hl]; exact hx
    · rw [hsh l hl]; exact hx
theorem RT.inN {ps : List Int} {ls : List Lk} (h : RT ps ls) : InN ps.length ls := by
  intro l hl
  have h1 := h.has l.a (mem_ends.2 ⟨l, hl, .inl rfl⟩)
  have h2 := h.has l.b (mem_ends.2 ⟨l, hl, .inr rfl⟩)
  simp only [hasT, Bool.and_eq_true, decide_eq_true_eq] at h1 h2
  exact ⟨⟨h1.1, h1.2.1⟩, h2.1, h2.2.1⟩
end Go.Proofs.YteboadppighplaaGreat
/- Words: a slice in memory that reads as a list, whatever its elements' cells are; rows of one's own; append. Over any program. -/
namespace Go.Proofs.YteboadppighplaaGreat
open Go.RowKit Go.Shelf

section
variable {α : Type} {n : Nat} {f : α → Array Value}
/-- Elements as cells. -/
def fcs (f : α → Array Value) (L : List α) : List Value := L.flatMap fun r => (f r).toList
theorem fcs_append (L M : List α) : fcs f (L ++ M) = fcs f L ++ fcs f M := by simp [fcs]
theorem fcs_cons (r : α) (L : List α) : fcs f (r :: L) = (f r).toList ++ fcs f L := by simp [fcs]
theorem fcs_length (hf : ∀ r, (f r).size = n) (L : List α) : (fcs f L).length = L.length * n := by
  induction L with
  | nil => simp [fcs]
  | cons x L ih => rw [fcs_cons, List.length_append, ih, Array.length_toList, hf, List.length_cons, Nat.succ_mul]; omega
theorem fcs_at (hf : ∀ r, (f r).size = n) (L : List α) (k j : Nat) (hk : k < L.length) (hj : j < n) : (fcs f L)[k * n + j]? = (f L[k])[j]? := by
  induction L generalizing k with
  | nil => simp at hk
  | cons x L ih =>
    rw [fcs_cons]
    match k with
    | 0 =>
      rw [Nat.zero_mul, Nat.zero_add, List.getElem?_append_left (by rw [Array.length_toList, hf]; exact hj)]
      simp
    | k + 1 =>
      rw [List.getElem?_append_right (by rw [Array.length_toList, hf, Nat.succ_mul]; omega), Array.length_toList, hf, show (k + 1) * n + j - n = k * n + j by rw [Nat.succ_mul]; omega]
      exact ih k (by simpa using hk)
theorem fcs_one (h1 : ∀ r, ∀ u ∈ (f r).toList, u.oneCell' = true) (L : List α) : ∀ u ∈ fcs f L, u.oneCell' = true := by
  intro u hu
  obtain ⟨x, _, h⟩ := List.mem_flatMap.1 hu
  exact h1 x u h
/-- The address of a slice that reads as these. -/
def Fs (n : Nat) (f : α → Array Value) (w : World) (A : Option Addr) (L : List α) : Prop := 0 < L.length → ∃ g o, A = some ⟨g, o, none⟩ ∧ g < w.heap.size ∧
  ∀ k (hk : k < L.length) j, j < n → w.cell? ⟨g, o + k * n + j, none⟩ = (f L[k])[j]?
/-- A value that is a slice of these. -/
def IsF (n : Nat) (f : α → Array Value) (w : World) (v : Value) (L : List α) : Prop := ∃ A c, v = .slice A L.length c ∧ L.length ≤ c ∧ c ≤ maxLen ∧ Fs n f w A L
theorem Fs.nil (w : World) (A : Option Addr) : Fs n f w A [] := fun h => absurd h (by simp)
theorem Fs.below {w w' : World} {A : Option Addr} {L : List α} {B : Nat} (h : Fs n f w A L) (hB : w.heap.size ≤ B) (hb : Below B w w') : Fs n f w' A L := fun hn => by
  obtain ⟨g, o, e, hg, hc⟩ := h hn
  exact ⟨g, o, e, Nat.lt_of_lt_of_le hg hb.size, fun k hk j hj => (hb.cell (p := ⟨g, _, none⟩) (by show g < B; omega)).trans (hc k hk j hj)⟩
theorem Fs.belows {w w' : World} {A : Option Addr} {L : List α} (h : Fs n f w A L) (hb : Below w.heap.size w w') : Fs n f w' A L := h.below (Nat.le_refl _) hb
theorem IsF.belows {w w' : World} {v : Value} {L : List α} (h : IsF n f w v L) (hb : Below w.heap.size w w') : IsF n f w' v L := by
  obtain ⟨A, c, e, h1, h2, h3⟩ := h
  exact ⟨A, c, e, h1, h2, h3.belows hb⟩
/-- One element of a slice. -/
theorem Fs.at {w : World} {A : Option Addr} {L : List α} (h : Fs n f w A L) (k : Nat) (hk : k < L.length) : ∃ g o, A = some ⟨g, o, none⟩ ∧ g < w.heap.size ∧ ∀ j, j < n → w.cell? ⟨g, o + k * n + j, none⟩ = (f L[k])[j]? := by
  obtain ⟨g, o, e, hg, hc⟩ := h (by omega)
  exact ⟨g, o, e, hg, hc k hk⟩
/-- What is owned reads. -/
theorem isF_of_row (hf : ∀ r, (f r).size = n) {w : World} {base : Nat} {e : TypeId} {v : Value} {L : List α} (h : w.ownsRow base e n v L.length (fcs f L)) : IsF n f w v L := by
  rcases h.2 with ⟨rfl, h0⟩ | ⟨g, cap, cur, rfl, hb, hg, hnc, hm, _⟩
  · obtain rfl := List.eq_nil_of_length_eq_zero h0
    exact ⟨none, 0, rfl, Nat.le_refl _, by simp, Fs.nil _ _⟩
  · refine ⟨_, cap, rfl, hnc, hm, fun _ => ⟨g, 0, rfl, (Array.getElem?_eq_some_iff.1 hg).1, fun k hk j hj => ?_⟩⟩
    have h1 := fcs_at hf L k j hk hj
    have h2 : (f L[k])[j]? = some ((f L[k])[j]'(by rw [hf]; exact hj)) := Array.getElem?_eq_getElem _
    rw [h2] at h1 ⊢
    have e1 := World.ownsRow.cells h (g := g) rfl _ _ h1
    rw [add_none] at e1
    rw [Nat.zero_add]
    exact e1
/-- What is made reads. -/
theorem isF_of_at (hf : ∀ r, (f r).size = n) {w : World} {B c : Nat} {L : List α} {cs : Array Value} {T : TypeId} (h : At w B cs T) (hc : cs.toList = fcs f L) (h1 : L.length ≤ c) (h2 : c ≤ maxLen) : IsF n f w (.slice (some ⟨B, 0, none⟩) L.length c) L := by
  refine ⟨_, c, rfl, h1, h2, fun _ => ⟨B, 0, rfl, h.lt, fun k hk j hj => ?_⟩⟩
  rw [Nat.zero_add, h.cell, ← Array.getElem?_toList, hc, fcs_at hf L k j hk hj]
theorem Fs.news (hf : ∀ r, (f r).size = n) {w : World} {ad : Addr} {L : List α} (h : Fs n f w (some ad) L) : ∀ j u, (fcs f L)[j]? = some u → w.cell? (ad.add j) = some u := by
  intro j u hj
  have hlt : j < L.length * n := by
    rw [← fcs_length hf]
    exact (List.getElem?_eq_some_iff.1 hj).1
  have hn : 0 < n := by
    rcases Nat.eq_zero_or_pos n with h0 | h0
    · subst h0; omega
    · exact h0
  have hL : 0 < L.length := by
    rcases Nat.eq_zero_or_pos L.length with h0 | h0
    · rw [h0, Nat.zero_mul] at hlt; omega
    · exact h0
  obtain ⟨g, o, e, _, hc⟩ := h hL
  cases e
  have hk : j / n < L.length := Nat.div_lt_of_lt_mul (by rw [Nat.mul_comm]; exact hlt)
  have hm : j % n < n := Nat.mod_lt _ hn
  have p := fcs_at hf L (j / n) (j % n) hk hm
  have q := hc (j / n) hk (j % n) hm
  have hdm : j / n * n + j % n = j := by rw [Nat.mul_comm]; exact Nat.div_add_mod j n
  rw [hdm, hj] at p
  rw [addr_off, show o + j = o + j / n * n + j % n by rw [Nat.add_assoc, hdm], q, ← p]
/-- New cells of one element. -/
theorem f_new (_ : ∀ r, (f r).size = n) (w : World) (L : List α) (cs : Array Value) (T : TypeId) (hc : cs.toList = fcs f L) : ∀ (j : Nat) (u : Value), (fcs f L)[j]? = some u → (w.alloc (.cells cs T)).cell? ((⟨w.heap.size, 0, none⟩ : Addr).add j) = some u := by
  intro j u h
  rw [add_none, (At.new w cs T).cell j, ← Array.getElem?_toList, hc]
  exact h
theorem row_belows {W W' : World} {base : Nat} {e : TypeId} {size : Nat} {v : Value} {k : Nat} {xs : List Value} (h : W.ownsRow base e size v k xs) (hb : Below W.heap.size W W') : W'.ownsRow base e size v k xs := by
  refine h.kept (row := none) ⟨hb.os, hb.tape, hb.output, hb.size, fun k hk _ => hb.block k hk⟩ ?_
  cases hv : v.ownBlock with
  | none => exact .inl rfl
  | some g => exact .inr (by simp)
/-- A row of one's own that is not nil. -/
def RowF (n : Nat) (f : α → Array Value) (e : TypeId) (w : World) (base : Nat) (v : Value) (L : List α) : Prop := w.ownsRow base e n v L.length (fcs f L) ∧ ∃ g cap, v = .slice (some ⟨g, 0, none⟩) L.length cap
theorem RowF.isF (hf : ∀ r, (f r).size = n) {e : TypeId} {w : World} {base : Nat} {v : Value} {L : List α} (h : RowF n f e w base v L) : IsF n f w v L := isF_of_row hf h.1
theorem RowF.empty (e : TypeId) (w : World) : RowF n f e (w.alloc (.cells #[] e)) w.heap.size (.slice (some ⟨w.heap.size, 0, none⟩) 0 0) [] :=
  ⟨World.ownsRow_made w #[] 0 (Nat.le_refl _) (Nat.zero_le _) (by simp), _, _, rfl⟩
/-- Append of a slice, nil or not, onto a row of one's own that is not nil. -/
theorem wpList_app_f {P : Program} {T e : TypeId} {z : Value} {by' : Nat} (hf : ∀ r, (f r).size = n) (h1 : ∀ r, ∀ u ∈ (f r).toList, u.oneCell' = true) (ht : P.underlying T = some (.slice e)) (hinfo : (P.info? e).map (fun i => (i.zero, i.size, i.bytes)) = some (some z, n, by')) (hzs : z.cells.size = n) (hn : 0 < n)
    {ops : Array Oper} {rest : List Oper} {o : Oper} {a : Act} {Q : Exit → Act → World → Prop} {w : World} (hgd : o.guard = none) (s x : Operand)
    (ho : o.op = .call { callee := .builtin .append, args := #[s, x], argTypes := #[T, T] })
    (base : Nat) (v : Value) (L : List α) (hs : a.eval s = v) (hrow : RowF n f e w base v L) (A : Option Addr) (c : Nat) (M : List α) (hx : a.eval x = .slice A M.length c) (hM : Fs n f w A M)
    (hA : A = none → M = []) (hlen : L.length + M.length ≤ maxLen) (hby : (L.length + M.length) * by' ≤ 140737488355328) (hbase : base ≤ w.heap.size)
    (h : ∀ g cap w', RowF n f e w' base (.slice (some ⟨g, 0, none⟩) (L.length + M.length) cap) (L ++ M) → Below base w w' → wpList P ops Q rest (a.put o.dst (.slice (some ⟨g, 0, none⟩) (L.length + M.length) cap)) w') : wpList P ops Q (o :: rest) a w := by
  obtain ⟨i0, hi, hz0, hz1, hz2⟩ := info_parts hinfo
  obtain ⟨hown, g, cap, rfl⟩ := hrow
  cases A with
  | some ad =>
    refine wpList_append_own w hgd s x T ho base e i0 z n by' ht hi hz0 hz1 hz2 hzs hn _ _ _ hs hown ad M.length c (fcs f M) hx (fcs_length hf M) (hM.news hf) (fcs_one h1 M) hlen hby hbase ?_
    intro v' w' h1 h2 h3
    have hnn : v' ≠ .slice none 0 0 := fun e => by have := (h3.1 e).1; cases this
    rcases h1.2 with ⟨e, _⟩ | ⟨g', cap', cur, rfl, _⟩
    · exact absurd e hnn
    · refine h g' cap' w' ⟨?_, g', cap', by simp⟩ ((Below.refl _ _).grown h2 hbase (fun k hk => (hown.lt k hk).1))
      rw [fcs_append]
      simpa using h1
  | none =>
    obtain rfl := hA rfl
    refine wpList_plain hgd fun K hK => ?_
    have hr := run_append_room_src (P := P) w T T o.type e i0 ht hi g 0 L.length cap (.slice none 0 c) 0 [] (by rw [hz1]; exact Src.ofNil w ht c) (by
      rcases hown.2 with ⟨e, _⟩ | ⟨g', cap', cur, e, _, _, hnc, _⟩
      · cases e
      · cases e; exact hnc) (by simp) (by simp)
    unfold Oper.wp execOp
    simp only [ho, resolve, invoke, builtin, Sem.run_bind, Sem.run_pure, Result.andThen_ok, List.map_toArray, List.map_cons, List.map_nil, hs, hx, List.length_nil, hr]
    exact hK _ _ (h g cap w ⟨by simpa using hown, g, cap, by simp⟩ (Below.refl _ _))
/-- Append of new elements onto a row of one's own, nil or not. -/
theorem wpList_app_new {P : Program} {T e : TypeId} {z : Value} {by' : Nat} (hf : ∀ r, (f r).size = n) (h1 : ∀ r, ∀ u ∈ (f r).toList, u.oneCell' = true) (ht : P.underlying T = some (.slice e)) (hinfo : (P.info? e).map (fun i => (i.zero, i.size, i.bytes)) = some (some z, n, by')) (hzs : z.cells.size = n) (hn : 0 < n)
    {ops : Array Oper} {rest : List Oper} {o : Oper} {a : Act} {Q : Exit → Act → World → Prop} {w : World} (hgd : o.guard = none) (s x : Operand)
    (ho : o.op = .call { callee := .builtin .append, args := #[s, x], argTypes := #[T, T] })
    (base : Nat) (v : Value) (L : List α) (hs : a.eval s = v) (hrow : w.ownsRow base e n v L.length (fcs f L)) (ad : Addr) (c : Nat) (M : List α) (hx : a.eval x = .slice (some ad) M.length c) (hM : ∀ j u, (fcs f M)[j]? = some u → w.cell? (ad.add j) = some u)
    (hlen : L.length + M.length ≤ maxLen) (hby : (L.length + M.length) * by' ≤ 140737488355328) (hbase : base ≤ w.heap.size)
    (h : ∀ v' w', w'.ownsRow base e n v' (L ++ M).length (fcs f (L ++ M)) → Below base w w' → wpList P ops Q rest (a.put o.dst v') w') : wpList P ops Q (o :: rest) a w := by
  obtain ⟨i0, hi, hz0, hz1, hz2⟩ := info_parts hinfo
  refine wpList_append_own w hgd s x T ho base e i0 z n by' ht hi hz0 hz1 hz2 hzs hn _ _ _ hs hrow ad M.length c (fcs f M) hx (fcs_length hf M) hM (fcs_one h1 M) hlen hby hbase ?_
  intro v' w' g1 g2 _
  refine h v' w' (by rw [fcs_append, List.length_append]; exact g1) ((Below.refl _ _).grown g2 hbase (fun k hk => (hrow.lt k hk).1))
end
end Go.Proofs.YteboadppighplaaGreat
/- Words: topologies in memory; ports, links as cells; when two are alike. The document's Has. -/
namespace Go.Proofs.YteboadppighplaaGreat
open Go.RowKit Go.Shelf

def intA (x : Int) : Array Value := #[.int .i64 x]
def ptA (p : Pt) : Array Value := #[.int .i64 p.d, .int .i64 p.p]
def lkA (l : Lk) : Array Value := #[.int .i64 l.a.d, .int .i64 l.a.p, .int .i64 l.b.d, .int .i64 l.b.p]
theorem intA_size (x : Int) : (intA x).size = 1 := rfl
theorem ptA_size (p : Pt) : (ptA p).size = 2 := rfl
theorem lkA_size (l : Lk) : (lkA l).size = 4 := rfl
theorem ptA_one (p : Pt) : ∀ u ∈ (ptA p).toList, u.oneCell' = true := by
  intro u hu; simp [ptA] at hu; rcases hu with rfl | rfl <;> rfl
/-- A topology in memory. -/
def IsT (w : World) (vp vl : Value) (ps : List Int) (ls : List Lk) : Prop := IsF 1 intA w vp ps ∧ IsF 4 lkA w vl ls
theorem IsT.belows {w w' : World} {vp vl : Value} {ps : List Int} {ls : List Lk} (h : IsT w vp vl ps ls) (hb : Below w.heap.size w w') : IsT w' vp vl ps ls := ⟨h.1.belows hb, h.2.belows hb⟩

theorem infoPt : (Tryz.prog.info? 55).map (fun i => (i.zero, i.size, i.bytes)) = some (some (.agg (ptA ⟨0, 0⟩)), 2, 16) := by kernel_rfl
theorem fsPt : Tryz.prog.underlying 55 = some (.struct (Tryz.prog.fieldsOf 55)) := by kernel_rfl
theorem hdPt : Tryz.prog.stoodInHeld 55 = false := by kernel_rfl
set_option maxRecDepth 100000 in
theorem eq_pt (x y : Pt) (w : World) : (Op.equalIn 10000 55 (.agg (ptA x)) (.agg (ptA y))).run Tryz.prog w = .ok (decide (x = y)) w := by
  obtain ⟨a, b⟩ := x
  obtain ⟨a', b'⟩ := y
  have u1 := Tryz.underlying55
  have hPt := (Option.some.inj (fsPt.symm.trans u1))
  injection hPt with hPt
  rw [run_equalIn_agg w 9999 _ _ _ fsPt hdPt, hPt]
  simp [ptA, go_sem, Op.eqFields, Pt.eq_iff]
  by_cases h1 : a = a'
  · by_cases h2 : b = b' <;> simp [h1, h2]
  · simp [h1]
theorem eql_pt (x y : Pt) (w : World) : (binOp .eql 55 (.agg (ptA x)) (.agg (ptA y))).run Tryz.prog w = .ok (.bool (decide (x = y))) w := by
  rw [run_eql_struct, eq_pt]; rfl
theorem neq_pt (x y : Pt) (w : World) : (binOp .neq 55 (.agg (ptA x)) (.agg (ptA y))).run Tryz.prog w = .ok (.bool (!decide (x = y))) w := by
  rw [run_neq_struct, eq_pt]; rfl

set_option maxRecDepth 100000 in
set_option maxHeartbeats 1000000 in
/-- The document's Has. -/
theorem rhas_any {vp vl : Value} (ps : List Int) (ls : List Lk) (p : Pt) (w : World) (h : IsT w vp vl ps ls) : Calls Tryz.prog 79 #[.agg #[vp, vl], .agg (ptA p)] w fun e w' => e = .returned (.bool (hasT ps p)) ∧ Below w.heap.size w w' := by
  obtain ⟨⟨A1, c1, rfl, n1, m1, z1⟩, ⟨A2, c2, rfl, n2, m2, _⟩⟩ := h
  have hL : ps.length ≤ 9223372036854775807 := Nat.le_trans n1 m1
  obtain ⟨d, q⟩ := p
  have bf : ∀ k, Below w.heap.size w (((w.alloc (.cells #[.slice A1 ps.length c1, .slice A2 ls.length c2] 25)).alloc (.cells #[.int .i64 d, .int .i64 q] 55)).drewN k) := fun k => bdrewN (((Below.refl _ w).alloc (Nat.le_refl _) _).alloc (by simp) _) k
  unfold hasT ptA
  dsimp only
  by_cases h0 : 0 ≤ d
  · have e0 : decide (0 ≤ d) = true := decide_eq_true h0
    by_cases h1 : d < (ps.length : Int)
    · have e1 : decide (d < (ps.length : Int)) = true := decide_eq_true h1
      obtain ⟨k, rfl⟩ := Int.eq_ofNat_of_zero_le h0
      have hk : k < ps.length := by omega
      obtain ⟨g, o, rfl, hg, hc⟩ := z1.at k hk
      have c0 : w.cell? ⟨g, o + k, none⟩ = some (.int .i64 ps[k]) := by have := hc 0 (by decide); simpa [intA] using this
      have eg : ps[(k : Int).toNat]?.getD 0 = ps[k] := by simp [hk]
      rw [eg]
      generalize ps[k] = x at c0 ⊢
      clear z1 hc eg
      by_cases h2 : 0 ≤ q
      · have e2 : decide (0 ≤ q) = true := decide_eq_true h2
        rw [e0, e1, e2]
        simp only [Bool.true_and]
        have c1 : ((w.alloc (.cells #[.slice (some ⟨g, o, none⟩) ps.length c1, .slice A2 ls.length c2] 25)).alloc (.cells #[.int .i64 k, .int .i64 q] 55)).cell? ⟨g, o + k, none⟩ = some (.int .i64 x) := ((bf 0).cell (p := ⟨g, o + k, none⟩) hg).trans c0
        go_enter Tryz.func79, Tryz.ntmps79
        go_wp2_with fail
        go_quiet (fail)
        go_wp2
        go_ret
        exact ⟨rfl, bf _⟩
      · have e2 : decide (0 ≤ q) = false := decide_eq_false h2
        rw [e0, e1, e2]
        simp only [Bool.true_and, Bool.false_and]
        go_enter Tryz.func79, Tryz.ntmps79
        go_wp2_with fail
        go_quiet (fail)
        go_wp2
        go_ret
        exact ⟨rfl, bf _⟩
    · have e1 : decide (d < (ps.length : Int)) = false := decide_eq_false h1
      rw [e0, e1]
      simp only [Bool.true_and, Bool.false_and]
      clear z1
      go_enter Tryz.func79, Tryz.ntmps79
      go_wp2_with fail
      go_quiet (fail)
      go_wp2
      go_ret
      exact ⟨rfl, bf _⟩
  · have e0 : decide (0 ≤ d) = false := decide_eq_false h0
    rw [e0]
    simp only [Bool.false_and]
    clear z1
    go_enter Tryz.func79, Tryz.ntmps79
    go_wp2_with fail
    go_quiet (fail)
    go_wp2
    go_ret
    exact ⟨rfl, bf _⟩
end Go.Proofs.YteboadppighplaaGreat
/- Plain mathematics: what becomes of a packet at a device, and its trace. -/
namespace Go.Proofs.YteboadppighplaaGreat
open Go.RowKit Go.Shelf

/-- Does a device deny an address? -/
def denB (L : List Ru) (d : Int) (a : Nat) : Bool := (firstL (tk d 2 3 a) L).isSome && decide (((firstL (tk d 2 3 a) L).getD ru0).kd = 3)
/-- What is matched: its fate's number, and the port. -/
def goP (ls : List Lk) (d : Int) : Option Ru → Int × Pt
  | none => (0, ⟨0, 0⟩)
  | some r => if r.kd = 1 then (1, ⟨0, 0⟩) else if (nextT ls ⟨d, r.pt⟩).isSome then (4, ⟨d, r.pt⟩) else (3, ⟨d, r.pt⟩)
/-- What becomes of a packet at a device. -/
def stepN (ls : List Lk) (L : List Ru) (d : Int) (a : Nat) : Int × Pt := if denB L d a then (2, ⟨0, 0⟩) else goP ls d (firstL (tk d 0 1 a) L)
theorem stepN_den {ls : List Lk} {L : List Ru} {d : Int} {a : Nat} (h : denB L d a = true) : stepN ls L d a = (2, ⟨0, 0⟩) := by unfold stepN; rw [h]; rfl
theorem stepN_go {ls : List Lk} {L : List Ru} {d : Int} {a : Nat} (h : denB L d a = false) : stepN ls L d a = goP ls d (firstL (tk d 0 1 a) L) := by unfold stepN; rw [h]; rfl
theorem goP_drop {ls : List Lk} {d : Int} {r : Ru} (h : r.kd = 1) : goP ls d (some r) = (1, ⟨0, 0⟩) := if_pos h
theorem goP_on {ls : List Lk} {d : Int} {r : Ru} (h : r.kd ≠ 1) {q : Pt} (hn : nextT ls ⟨d, r.pt⟩ = some q) : goP ls d (some r) = (4, ⟨d, r.pt⟩) := by
  show (if r.kd = 1 then _ else if (nextT ls ⟨d, r.pt⟩).isSome then _ else _) = _
  rw [if_neg h, hn]; rfl
theorem goP_out {ls : List Lk} {d : Int} {r : Ru} (h : r.kd ≠ 1) (hn : nextT ls ⟨d, r.pt⟩ = none) : goP ls d (some r) = (3, ⟨d, r.pt⟩) := by
  show (if r.kd = 1 then _ else if (nextT ls ⟨d, r.pt⟩).isSome then _ else _) = _
  rw [if_neg h, hn]; rfl
/-- The ways there are. -/
theorem stepN_is (ls : List Lk) (L : List Ru) (d : Int) (a : Nat) :
    (0 ≤ (stepN ls L d a).1 ∧ (stepN ls L d a).1 ≤ 2 ∧ (stepN ls L d a).2 = ⟨0, 0⟩) ∨ (stepN ls L d a).2.d = d ∧
      ((stepN ls L d a).1 = 3 ∧ nextT ls (stepN ls L d a).2 = none ∨ (stepN ls L d a).1 = 4 ∧ ∃ q, nextT ls (stepN ls L d a).2 = some q) := by
  cases hd : denB L d a with
  | true => rw [stepN_den hd]; exact .inl ⟨by simp, by simp, rfl⟩
  | false =>
    rw [stepN_go hd]
    cases firstL (tk d 0 1 a) L with
    | none => exact .inl ⟨Int.le_refl _, by show (0 : Int) ≤ 2; omega, rfl⟩
    | some r =>
      by_cases h : r.kd = 1
      · rw [goP_drop h]; exact .inl ⟨by simp, by simp, rfl⟩
      · cases hn : nextT ls ⟨d, r.pt⟩ with
        | none => rw [goP_out h hn]; exact .inr ⟨rfl, .inl ⟨rfl, hn⟩⟩
        | some q => rw [goP_on h hn]; exact .inr ⟨rfl, .inr ⟨rfl, q, hn⟩⟩
/-- Where it goes on to. -/
def onTo (ls : List Lk) (L : List Ru) (d : Int) (a : Nat) : Int := ((nextT ls (stepN ls L d a).2).getD ⟨0, 0⟩).d
/-- A trace: the devices, the fate, the port. -/
structure Tc where
  ds : List Int
  ft : Int
  out : Pt
theorem Tc.eq_iff (x y : Tc) : x = y ↔ x.ds = y.ds ∧ x.ft = y.ft ∧ x.out = y.out := by cases x; cases y; simp
instance : DecidableEq Tc := fun a b => decidable_of_iff _ (Tc.eq_iff a b).symm
/-- The trace from a device on, behind those that it came to ahead. -/
def trc (ls : List Lk) (L : List Ru) (a : Nat) : Nat → List Int → Int → Tc
  | 0, s, d => ⟨s ++ [d], 4, ⟨0, 0⟩⟩
  | n + 1, s, d => if d ∈ s then ⟨s ++ [d], 4, ⟨0, 0⟩⟩ else if (stepN ls L d a).1 = 4 then trc ls L a n (s ++ [d]) (onTo ls L d a) else ⟨s ++ [d], (stepN ls L d a).1, (stepN ls L d a).2⟩
theorem trc_in {ls : List Lk} {L : List Ru} {a n : Nat} {s : List Int} {d : Int} (h : d ∈ s) : trc ls L a (n + 1) s d = ⟨s ++ [d], 4, ⟨0, 0⟩⟩ := by unfold trc; rw [if_pos h]
theorem trc_end {ls : List Lk} {L : List Ru} {a n : Nat} {s : List Int} {d : Int} (h : d ∉ s) (h4 : (stepN ls L d a).1 ≠ 4) : trc ls L a (n + 1) s d = ⟨s ++ [d], (stepN ls L d a).1, (stepN ls L d a).2⟩ := by unfold trc; rw [if_neg h, if_neg h4]
theorem trc_on {ls : List Lk} {L : List Ru} {a n : Nat} {s : List Int} {d : Int} (h : d ∉ s) (h4 : (stepN ls L d a).1 = 4) : trc ls L a (n + 1) s d = trc ls L a n (s ++ [d]) (onTo ls L d a) := by
  show (if d ∈ s then _ else if (stepN ls L d a).1 = 4 then _ else _) = _
  rw [if_neg h, if_pos h4]
/-- Is there such a device? -/
def inD (ps : List Int) (d : Int) : Prop := 0 ≤ d ∧ d < (ps.length : Int)
instance (ps : List Int) (d : Int) : Decidable (inD ps d) := inferInstanceAs (Decidable (_ ∧ _))
theorem onTo_in {ps : List Int} {ls : List Lk} (hR : RT ps ls) {L : List Ru} {d : Int} {a : Nat} (h4 : (stepN ls L d a).1 = 4) : inD ps (onTo ls L d a) := by
  rcases stepN_is ls L d a with ⟨h1, h2, _⟩ | ⟨_, ⟨h3, _⟩ | ⟨_, q, hq⟩⟩
  · omega
  · omega
  · unfold onTo
    rw [hq]
    obtain ⟨_, _, _, hm⟩ := nextT_both hR.nodup hq
    have := hR.has q hm
    simp only [hasT, Bool.and_eq_true, decide_eq_true_eq] at this
    exact ⟨this.1, this.2.1⟩
/-- Devices, each once, are at most as many as there are. -/
theorem nodup_room {n : Nat} {s : List Int} (hn : s.Nodup) (hs : ∀ x ∈ s, 0 ≤ x ∧ x < (n : Int)) : s.length ≤ n := by
  have hm : ((List.range n).map fun i : Nat => (i : Int)).Nodup := by
    rw [List.Nodup, List.pairwise_map]
    exact List.Pairwise.imp (fun h e => h (by omega)) List.nodup_range
  have hp : s.Perm (((List.range n).map fun i : Nat => (i : Int)).filter fun x => decide (x ∈ s)) := by
    refine (List.perm_ext_iff_of_nodup hn (hm.filter _)).2 fun x => ?_
    simp only [List.mem_filter, List.mem_map, List.mem_range, decide_eq_true_eq]
    constructor
    · intro hx
      obtain ⟨h0, h1⟩ := hs x hx
      exact ⟨⟨x.toNat, by omega, by omega⟩, hx⟩
    · exact fun h => h.2
  have h := List.length_filter_le (fun x => decide (x ∈ s)) ((List.range n).map fun i : Nat => (i : Int))
  rw [← hp.length_eq] at h
  simpa using h
/-- More fuel than devices is fuel enough. -/
theorem trc_more {ps : List Int} {ls : List Lk} (hR : RT ps ls) {L : List Ru} {a : Nat} : ∀ (n m : Nat) (s : List Int) (d : Int), s.Nodup → (∀ x ∈ s, inD ps x) → inD ps d → ps.length ≤ n + s.length → ps.length ≤ m + s.length → trc ls L a (n + 1) s d = trc ls L a (m + 1) s d := by
  intro n
  induction n with
  | zero =>
    intro m s d hs hi hd hn hm
    by_cases hds : d ∈ s
    · rw [trc_in hds, trc_in hds]
    · have := nodup_room (n := ps.length) (s := d :: s) (List.nodup_cons.2 ⟨hds, hs⟩) (by
        intro x hx
        rcases List.mem_cons.1 hx with rfl | hx
        · exact hd
        · exact hi x hx)
      simp at this; omega
  | succ n ih =>
    intro m s d hs hi hd hn hm
    by_cases hds : d ∈ s
    · rw [trc_in hds, trc_in hds]
    · by_cases h4 : (stepN ls L d a).1 = 4
      · rw [trc_on hds h4, trc_on hds h4]
        have hsn : (s ++ [d]).Nodup := by
          rw [List.nodup_append]
          exact ⟨hs, by simp, fun x hx y hy => by simp at hy; subst hy; exact fun e => hds (e ▸ hx)⟩
        have hsi : ∀ x ∈ s ++ [d], inD ps x := by
          intro x hx
          rcases List.mem_append.1 hx with hx | hx
          · exact hi x hx
          · simp at hx; subst hx; exact hd
        have hroom := nodup_room (n := ps.length) hsn hsi
        match m with
        | 0 => simp at hroom; omega
        | m + 1 => exact ih m _ _ hsn hsi (onTo_in hR h4) (by simp; omega) (by simp; omega)
      · rw [trc_end hds h4, trc_end hds h4]
/-- The trace from a device on. -/
def trcN (ps : List Int) (ls : List Lk) (L : List Ru) (a : Nat) (d : Int) : Tc := trc ls L a (ps.length + 1) [] d
end Go.Proofs.YteboadppighplaaGreat
/- Contracts: the document's within, Right, All. -/
namespace Go.Proofs.YteboadppighplaaGreat
open Go.RowKit Go.Shelf

theorem rwithin_any (n b : Int) (w : World) : Calls Tryz.prog 100 #[.int .i64 n, .int .i64 b] w fun e w' => e = .returned (.bool (wn n 0 b)) ∧ w = w' := by
  by_cases h : 0 ≤ n
  · have d1 : decide (0 ≤ n) = true := decide_eq_true h
    unfold wn; rw [d1, Bool.true_and]
    go_enter Tryz.func100, Tryz.ntmps100
    go_wp2
    go_ret
    exact ⟨rfl, rfl⟩
  · have d1 : decide (0 ≤ n) = false := decide_eq_false h
    unfold wn; rw [d1, Bool.false_and]
    go_enter Tryz.func100, Tryz.ntmps100
    go_wp2
    go_ret
    exact ⟨rfl, rfl⟩
/-- Whether a rule is right, as the document reckons it. -/
def dB (id dv pr kd : Int) (f t : Nat) (pt : Int) : Bool := ((((wn (wrap64 (id - 1)) 0 1048575 && wn dv 0 7) && (wn pr 0 1024 && wn kd 0 3)) && wn pt 0 3) && decide (f ≤ t)) && (decide (kd = 0) || decide (pt = 0))
set_option maxRecDepth 100000 in
set_option maxHeartbeats 2000000 in
theorem rright_raw (id dv pr kd : Int) (f t : Nat) (pt : Int) (w : World) : Calls Tryz.prog 80 #[.agg #[.int .i64 id, .int .i64 dv, .int .i64 pr, .int .i64 kd, .int .u32 f, .int .u32 t, .int .i64 pt]] w fun e w' => e = .returned (.bool (dB id dv pr kd f t pt)) ∧ Below w.heap.size w w' := by
  unfold dB
  cases h1 : wn (wrap64 (id - 1)) 0 1048575 with
  | false =>
    cases h3 : wn pr 0 1024 with
    | false =>
      cases h5 : wn pt 0 3 with
      | false =>
        go_enter Tryz.func80, Tryz.ntmps80
        go_wp2_with (go_at_call 100; refine (rwithin_any _ _ _).mono ?_; rintro e w1 ⟨rfl, rfl⟩)
        go_ret
        exact ⟨rfl, (Below.refl _ _).alloc (Nat.le_refl _) _⟩
      | true =>
        go_enter Tryz.func80, Tryz.ntmps80
        go_wp2_with (go_at_call 100; refine (rwithin_any _ _ _).mono ?_; rintro e w1 ⟨rfl, rfl⟩)
        go_ret
        exact ⟨rfl, (Below.refl _ _).alloc (Nat.le_refl _) _⟩
    | true =>
      cases h4 : wn kd 0 3 with
      | false =>
        cases h5 : wn pt 0 3 with
        | false =>
          go_enter Tryz.func80, Tryz.ntmps80
          go_wp2_with (go_at_call 100; refine (rwithin_any _ _ _).mono ?_; rintro e w1 ⟨rfl, rfl⟩)
          go_ret
          exact ⟨rfl, (Below.refl _ _).alloc (Nat.le_refl _) _⟩
        | true =>
          go_enter Tryz.func80, Tryz.ntmps80
          go_wp2_with (go_at_call 100; refine (rwithin_any _ _ _).mono ?_; rintro e w1 ⟨rfl, rfl⟩)
          go_ret
          exact ⟨rfl, (Below.refl _ _).alloc (Nat.le_refl _) _⟩
      | true =>
        cases h5 : wn pt 0 3 with
        | false =>
          go_enter Tryz.func80, Tryz.ntmps80
          go_wp2_with (go_at_call 100; refine (rwithin_any _ _ _).mono ?_; rintro e w1 ⟨rfl, rfl⟩)
          go_ret
          exact ⟨rfl, (Below.refl _ _).alloc (Nat.le_refl _) _⟩
        | true =>
          go_enter Tryz.func80, Tryz.ntmps80
          go_wp2_with (go_at_call 100; refine (rwithin_any _ _ _).mono ?_; rintro e w1 ⟨rfl, rfl⟩)
          go_ret
          exact ⟨rfl, (Below.refl _ _).alloc (Nat.le_refl _) _⟩
  | true =>
    cases h2 : wn dv 0 7 with
    | false =>
      cases h3 : wn pr 0 1024 with
      | false =>
        cases h5 : wn pt 0 3 with
        | false =>
          go_enter Tryz.func80, Tryz.ntmps80
          go_wp2_with (go_at_call 100; refine (rwithin_any _ _ _).mono ?_; rintro e w1 ⟨rfl, rfl⟩)
          go_ret
          exact ⟨rfl, (Below.refl _ _).alloc (Nat.le_refl _) _⟩
        | true =>
          go_enter Tryz.func80, Tryz.ntmps80
          go_wp2_with (go_at_call 100; refine (rwithin_any _ _ _).mono ?_; rintro e w1 ⟨rfl, rfl⟩)
          go_ret
          exact ⟨rfl, (Below.refl _ _).alloc (Nat.le_refl _) _⟩
      | true =>
        cases h4 : wn kd 0 3 with
        | false =>
          cases h5 : wn pt 0 3 with
          | false =>
            go_enter Tryz.func80, Tryz.ntmps80
            go_wp2_with (go_at_call 100; refine (rwithin_any _ _ _).mono ?_; rintro e w1 ⟨rfl, rfl⟩)
            go_ret
            exact ⟨rfl, (Below.refl _ _).alloc (Nat.le_refl _) _⟩
          | true =>
            go_enter Tryz.func80, Tryz.ntmps80
            go_wp2_with (go_at_call 100; refine (rwithin_any _ _ _).mono ?_; rintro e w1 ⟨rfl, rfl⟩)
            go_ret
            exact ⟨rfl, (Below.refl _ _).alloc (Nat.le_refl _) _⟩
        | true =>
          cases h5 : wn pt 0 3 with
          | false =>
            go_enter Tryz.func80, Tryz.ntmps80
            go_wp2_with (go_at_call 100; refine (rwithin_any _ _ _).mono ?_; rintro e w1 ⟨rfl, rfl⟩)
            go_ret
            exact ⟨rfl, (Below.refl _ _).alloc (Nat.le_refl _) _⟩
          | true =>
            go_enter Tryz.func80, Tryz.ntmps80
            go_wp2_with (go_at_call 100; refine (rwithin_any _ _ _).mono ?_; rintro e w1 ⟨rfl, rfl⟩)
            go_ret
            exact ⟨rfl, (Below.refl _ _).alloc (Nat.le_refl _) _⟩
    | true =>
      cases h3 : wn pr 0 1024 with
      | false =>
        cases h5 : wn pt 0 3 with
        | false =>
          go_enter Tryz.func80, Tryz.ntmps80
          go_wp2_with (go_at_call 100; refine (rwithin_any _ _ _).mono ?_; rintro e w1 ⟨rfl, rfl⟩)
          go_ret
          exact ⟨rfl, (Below.refl _ _).alloc (Nat.le_refl _) _⟩
        | true =>
          go_enter Tryz.func80, Tryz.ntmps80
          go_wp2_with (go_at_call 100; refine (rwithin_any _ _ _).mono ?_; rintro e w1 ⟨rfl, rfl⟩)
          go_ret
          exact ⟨rfl, (Below.refl _ _).alloc (Nat.le_refl _) _⟩
      | true =>
        cases h4 : wn kd 0 3 with
        | false =>
          cases h5 : wn pt 0 3 with
          | false =>
            go_enter Tryz.func80, Tryz.ntmps80
            go_wp2_with (go_at_call 100; refine (rwithin_any _ _ _).mono ?_; rintro e w1 ⟨rfl, rfl⟩)
            go_ret
            exact ⟨rfl, (Below.refl _ _).alloc (Nat.le_refl _) _⟩
          | true =>
            go_enter Tryz.func80, Tryz.ntmps80
            go_wp2_with (go_at_call 100; refine (rwithin_any _ _ _).mono ?_; rintro e w1 ⟨rfl, rfl⟩)
            go_ret
            exact ⟨rfl, (Below.refl _ _).alloc (Nat.le_refl _) _⟩
        | true =>
          cases h5 : wn pt 0 3 with
          | false =>
            go_enter Tryz.func80, Tryz.ntmps80
            go_wp2_with (go_at_call 100; refine (rwithin_any _ _ _).mono ?_; rintro e w1 ⟨rfl, rfl⟩)
            go_ret
            exact ⟨rfl, (Below.refl _ _).alloc (Nat.le_refl _) _⟩
          | true =>
            cases h6 : decide (f ≤ t) with
            | false =>
              have h6i : decide ((f : Int) ≤ (t : Int)) = false := by rw [← h6]; congr 1; simp
              go_enter Tryz.func80, Tryz.ntmps80
              go_wp2_with (go_at_call 100; refine (rwithin_any _ _ _).mono ?_; rintro e w1 ⟨rfl, rfl⟩)
              go_ret
              exact ⟨rfl, (Below.refl _ _).alloc (Nat.le_refl _) _⟩
            | true =>
              cases h7 : decide (kd = 0) with
              | false =>
                have h6i : decide ((f : Int) ≤ (t : Int)) = true := by rw [← h6]; congr 1; simp
                have h7i : (kd == 0) = false := by rw [← h7]; rfl
                go_enter Tryz.func80, Tryz.ntmps80
                go_wp2_with (go_at_call 100; refine (rwithin_any _ _ _).mono ?_; rintro e w1 ⟨rfl, rfl⟩)
                go_ret
                exact ⟨rfl, (Below.refl _ _).alloc (Nat.le_refl _) _⟩
              | true =>
                have h6i : decide ((f : Int) ≤ (t : Int)) = true := by rw [← h6]; congr 1; simp
                have h7i : (kd == 0) = true := by rw [← h7]; rfl
                go_enter Tryz.func80, Tryz.ntmps80
                go_wp2_with (go_at_call 100; refine (rwithin_any _ _ _).mono ?_; rintro e w1 ⟨rfl, rfl⟩)
                go_ret
                exact ⟨rfl, (Below.refl _ _).alloc (Nat.le_refl _) _⟩
theorem dB_is (r : Ru) (h : r.wf) : dB r.id r.dv r.pr r.kd r.f r.t r.pt = ruB r := by
  obtain ⟨⟨a1, a2⟩, _, _, _, _, _, _⟩ := h
  have e : wn (wrap64 (r.id - 1)) 0 1048575 = decide (1 ≤ r.id ∧ r.id ≤ 1048576) := by
    by_cases hm : r.id = -9223372036854775808
    · rw [hm, show wrap64 (-9223372036854775808 - 1) = 9223372036854775807 from by unfold wrap64; rfl]
      simp [wn]
    · rw [IntWalk.wrap64_in (r.id - 1) (by omega)]
      unfold wn
      rw [← Bool.decide_and]
      congr 1
      apply propext; omega
  rw [Bool.eq_iff_iff, ruB_iff]
  unfold dB
  rw [e]
  simp only [wn, Bool.and_eq_true, Bool.or_eq_true, decide_eq_true_eq]
  omega
/-- The document's Right. -/
theorem rruright_any (r : Ru) (w : World) (h : r.wf) : Calls Tryz.prog 80 #[.agg (ruA r)] w fun e w' => e = .returned (.bool (ruB r)) ∧ Below w.heap.size w w' := by
  rw [← dB_is r h]
  obtain ⟨id, dv, pr, kd, f, t, pt⟩ := r
  exact rright_raw id dv pr kd f t pt w

set_option maxRecDepth 100000 in
set_option maxHeartbeats 1000000 in
/-- The document's All. -/
theorem rruall_any {v : Value} (L : List Ru) (w : World) (hwf : ∀ r ∈ L, r.wf) (h1 : IsR w v L) : Calls Tryz.prog 60 #[v] w fun e w' => e = .returned (.bool (allB L)) ∧ Below w.heap.size w w' := by
  obtain ⟨A1, c1, rfl, n1, m1, z1⟩ := h1
  have hL : L.length ≤ 9223372036854775807 := Nat.le_trans n1 m1
  have H1 := Lib.hid z1
  have HW : Hid (∀ k (hk : k < L.length) (u : World), Calls Tryz.prog 80 #[.agg (ruA L[k])] u fun e w' => e = .returned (.bool (ruB L[k])) ∧ Below u.heap.size u w') := Lib.hid fun k hk u => rruright_any _ u (hwf _ (List.getElem_mem hk))
  obtain ⟨q, hq⟩ : ∃ q, q = allB L := ⟨_, rfl⟩
  rw [← hq]
  have HQ := Lib.hid hq
  clear z1 hq hwf
  go_enter Tryz.func60, Tryz.ntmps60
  go_wp2
  go_loopw [3] (fun i wr => ∃ k : Nat, i = .int .i64 k ∧ k ≤ L.length ∧ Hid (∀ j (hj : j < L.length), j < k → ruB L[j] = true ∧ lastId L j < L[j].id) ∧ Below w.heap.size w wr) (fun i _ => L.length - (intOf i).toNat)
  case atStart => exact ⟨0, rfl, by omega, Lib.hid (fun j _ hj => by omega), Below.refl _ _⟩
  case round =>
    obtain ⟨k, rfl, hk, HK, hb⟩ := hrel
    by_cases hlt : k < L.length
    · have hcall := HW.out k hlt wr
      have hz := H1.out.belows hb
      obtain ⟨g1, o1, e1, hg, r0, r1, r2, r3, r4, r5, r6⟩ := hz.at k hlt
      subst e1
      have HX : Hid (ruB L[k] = true → lastId L k < L[k].id → ∀ j (h1 : j < L.length), j < k + 1 → ruB L[j] = true ∧ lastId L j < L[j].id) := Lib.hid fun e e' j h1 hj => by
        by_cases hjk : j = k
        · subst hjk; exact ⟨e, e'⟩
        · exact HK.out j h1 (by omega)
      have HY : Hid (ruB L[k] = false ∨ ¬ lastId L k < L[k].id → q = false) := Lib.hid fun e => by
        rw [HQ.out, ← Bool.not_eq_true, allB_iff]
        rintro ⟨_, h⟩
        have := h k hlt
        rcases e with e | e
        · rw [e] at this; exact absurd this.1 (by simp)
        · exact e this.2
      have HI : Hid (ruB L[k] = true → 1 ≤ L[k].id) := Lib.hid fun e => ((ruB_iff _).1 e).1.1
      have HZ : Hid (∀ m, k = m + 1 → ∀ u, Below wr.heap.size wr u → u.cell? ⟨g1, o1 + m * 7, none⟩ = some (.int .i64 (lastId L k)) ∧ u.cell? ⟨g1, o1 + k * 7, none⟩ = some (.int .i64 L[k].id)) := Lib.hid fun m hm u hu => by
        obtain ⟨g', o', e', hg', r', _⟩ := hz.at m (by omega)
        cases e'
        have e2 : lastId L k = (L[m]'(by omega)).id := by subst hm; simp [lastId, show m < L.length by omega]
        rw [e2]
        exact ⟨(hu.cell (p := ⟨g1, o1 + m * 7, none⟩) hg').trans r', (hu.cell (p := ⟨g1, o1 + k * 7, none⟩) hg).trans r0⟩
      clear hz HK
      have hl0 : k = 0 → lastId L k = 0 := fun e => by subst e; rfl
      generalize lastId L k = la at HX HY HZ hl0
      generalize L[k] = x at r0 r1 r2 r3 r4 r5 r6 hcall HX HY HI HZ
      have i0 : (0 : Int) ≤ (k : Int) := by omega
      have i1 : (k : Int) < (L.length : Int) := by omega
      cases hr : ruB x with
      | false =>
        have hqf := HY.out (Or.inl hr)
        subst hqf
        rw [hr] at hcall
        clear HX HY HI HZ hl0
        obtain ⟨id, dv, pr, kd, f, t, pt⟩ := x
        rw [ruA_mk] at hcall
        dsimp only at r0 r1 r2 r3 r4 r5 r6
        go_wp2_with (go_at_call 80; refine hcall.mono ?_; rintro e w1 ⟨rfl, b1⟩)
        go_quiet (fail)
        go_wp2
        go_ret
        exact ⟨rfl, bdrewN (hb.trans (b1.mono hb.size)) _⟩
      | true =>
        rw [hr] at hcall
        by_cases hk0 : k = 0
        · have HV : Hid (∀ j (h1 : j < L.length), j < k + 1 → ruB L[j] = true ∧ lastId L j < L[j].id) := Lib.hid (HX.out hr (by have := HI.out hr; rw [hl0 hk0]; omega))
          have hkz : decide ((0 : Int) < (k : Int)) = false := by simp [hk0]
          have hkn : decide (0 < k) = false := by simp [hk0]
          have HK0 := Lib.hid hk0
          clear HX HY HI HZ hl0 hk0 hr
          obtain ⟨id, dv, pr, kd, f, t, pt⟩ := x
          rw [ruA_mk] at hcall
          dsimp only at r0 r1 r2 r3 r4 r5 r6
          go_wp2_with (go_at_call 80; refine hcall.mono ?_; rintro e w1 ⟨rfl, b1⟩)
          go_quiet (fail)
          go_wp2
          go_roundw
          case rel => exact ⟨k + 1, by go_num, by omega, HV, bdrewN (hb.trans (b1.mono hb.size)) _⟩
          case measure => simp [intOf]; omega
        · obtain ⟨m, hm⟩ : ∃ m, k = m + 1 := ⟨k - 1, by omega⟩
          have hwr : IntKind.i64.wrap ((k : Int) - 1) = (m : Int) := by rw [IntWalk.i64_in _ (by omega)]; omega
          have hwr2 : wrap64 ((k : Int) - 1) = (m : Int) := by rw [IntWalk.wrap64_in _ (by omega)]; omega
          have hwr3 : (k : Int) - 1 = (m : Int) := by omega
          have hkz : decide ((0 : Int) < (k : Int)) = true := by simp; omega
          have hkn : decide (0 < k) = true := by simp; omega
          have m0 : (0 : Int) ≤ (m : Int) := by omega
          have m1' : (m : Int) < (L.length : Int) := by omega
          have hcell := HZ.out m hm
          have HM := Lib.hid hm
          by_cases hlast : la < x.id
          · have HV : Hid (∀ j (h1 : j < L.length), j < k + 1 → ruB L[j] = true ∧ lastId L j < L[j].id) := Lib.hid (HX.out hr hlast)
            clear HX HY HI HZ hl0 hk0 hm
            obtain ⟨id, dv, pr, kd, f, t, pt⟩ := x
            rw [ruA_mk] at hcall
            dsimp only at r0 r1 r2 r3 r4 r5 r6 hcell hlast
            have hge : decide (id ≤ la) = false := by simp; omega
            go_wp2_with (go_at_call 80; refine hcall.mono ?_; rintro e w1 ⟨rfl, b1⟩; obtain ⟨cA, cB⟩ := hcell w1 b1; clear hcell)
            go_quiet (fail)
            go_wp2
            go_roundw
            case rel => exact ⟨k + 1, by go_num, by omega, HV, bdrewN (hb.trans (b1.mono hb.size)) _⟩
            case measure => simp [intOf]; omega
          · have hqf := HY.out (Or.inr hlast)
            subst hqf
            clear HX HY HI HZ hl0 hk0 hm
            obtain ⟨id, dv, pr, kd, f, t, pt⟩ := x
            rw [ruA_mk] at hcall
            dsimp only at r0 r1 r2 r3 r4 r5 r6 hcell hlast
            have hge : decide (id ≤ la) = true := by simp; omega
            go_wp2_with (go_at_call 80; refine hcall.mono ?_; rintro e w1 ⟨rfl, b1⟩; obtain ⟨cA, cB⟩ := hcell w1 b1; clear hcell)
            go_quiet (fail)
            go_wp2
            go_ret
            exact ⟨rfl, bdrewN (hb.trans (b1.mono hb.size)) _⟩
    · have hqt : q = decide (L.length ≤ 40) := by
        rw [HQ.out, Bool.eq_iff_iff, allB_iff, decide_eq_true_eq]
        exact ⟨fun h => h.1, fun h => ⟨h, fun k' hk' => HK.out k' hk' (by omega)⟩⟩
      have hqi : q = decide ((L.length : Int) ≤ 40) := by rw [hqt]; congr 1; apply propext; omega
      have HA := Lib.hid hqt
      have HB := Lib.hid hqi
      clear hqt hqi HQ HK
      go_wp2
      go_ret
      refine ⟨?_, hb⟩
      first | exact ret_bool HA.out.symm | exact ret_bool HB.out.symm
end Go.Proofs.YteboadppighplaaGreat
/- Contracts: the document's first, Match, Denies. -/
namespace Go.Proofs.YteboadppighplaaGreat
open Go.RowKit Go.Shelf

/-- Whether a rule is of a device, takes an address, and is of the one table. -/
def dkB (d : Int) (a : Nat) (acl : Bool) (r : Ru) : Bool := decide (r.dv = d) && (decide (r.f ≤ a) && (decide (a ≤ r.t) && ((decide (r.kd = 2) || decide (r.kd = 3)) == acl)))
theorem dk_fwd {d : Int} {a : Nat} (r : Ru) (h : ruB r = true) : dkB d a false r = tk d 0 1 a r := by
  obtain ⟨_, _, _, h0, h3, _⟩ := (ruB_iff r).1 h
  rw [Bool.eq_iff_iff]; simp [dkB, tk, takesB]; omega
theorem dk_acl {d : Int} {a : Nat} (r : Ru) (_ : ruB r = true) : dkB d a true r = tk d 2 3 a r := by
  rw [Bool.eq_iff_iff]; simp [dkB, tk, takesB]; omega

set_option maxRecDepth 100000 in
set_option maxHeartbeats 8000000 in
/-- The document's first. -/
theorem rfirst_any {v : Value} (L : List Ru) (d : Int) (a : Nat) (acl : Bool) (w : World) (h : IsR w v L) : Calls Tryz.prog 105 #[v, .int .i64 d, .int .u32 a, .bool acl] w fun e w' => e = .returned (firstV (firstL (dkB d a acl) L)) ∧ Below w.heap.size w w' := by
  obtain ⟨A1, c1, rfl, n1, m1, z1⟩ := h
  have hL : L.length ≤ 9223372036854775807 := Nat.le_trans n1 m1
  have H1 : Hid (∀ u, Below w.heap.size w u → Rs u A1 L) := Lib.hid fun u hu => z1.belows hu
  clear z1
  obtain ⟨fo, hfo⟩ : ∃ fo, fo = firstL (dkB d a acl) L := ⟨_, rfl⟩
  rw [← hfo]
  have HFO := Lib.hid hfo
  clear hfo
  go_enter Tryz.func105, Tryz.ntmps105
  go_wp2
  go_loopw [11, 12] (fun b i wr => ∃ k : Nat, Hid (FirI (dkB d a acl) L w i b k wr)) (fun _ i => fun _ => L.length - (intOf i).toNat)
  case atStart =>
    refine ⟨0, Lib.hid ⟨rfl, rfl, by omega, ?_, ?_, ?_⟩⟩
    · exact ((Below.refl _ _).alloc (Nat.le_refl _) _).alloc (by simp) _
    · exact (At.new w _ _).alloc _
    · exact At.new1 w _ _ _
  case round =>
    obtain ⟨k, HF⟩ := hrel
    obtain ⟨rfl, rfl, hk, hb, hA, hB⟩ := HF.out
    clear HF
    by_cases hlt : k < L.length
    · have hq := firstL_snoc (dkB d a acl) L k hlt
      obtain ⟨g1, o1, e1, _, r0, r1, r2, r3, r4, r5, r6⟩ := (H1.out wr hb).at k hlt
      subst e1
      have i0 : (0 : Int) ≤ (k : Int) := by omega
      have i1 : (k : Int) < (L.length : Int) := by omega
      generalize L[k] = x at r0 r1 r2 r3 r4 r5 r6 hq
      obtain ⟨id, dv, pr, kd, f, t, pt⟩ := x
      dsimp only at r0 r1 r2 r3 r4 r5 r6
      have hs1 : w.heap.size + 1 < wr.heap.size := hB.lt
      have hs0 : w.heap.size < wr.heap.size := by omega
      generalize ho : firstL (dkB d a acl) (L.take k) = o at hq hB ⊢
      clear ho
      have SKIP : Hid (dkB d a acl ⟨id, dv, pr, kd, f, t, pt⟩ = false → firstL (dkB d a acl) (L.take (k + 1)) = o) := Lib.hid fun hp => by rw [hq]; unfold stepF; rw [hp]; rfl
      have TAKE : Hid (dkB d a acl ⟨id, dv, pr, kd, f, t, pt⟩ = true → firstL (dkB d a acl) (L.take (k + 1)) = if (o.isNone || aheadB ⟨id, dv, pr, kd, f, t, pt⟩ (o.getD ru0)) = true then some ⟨id, dv, pr, kd, f, t, pt⟩ else o) := Lib.hid fun hp => by rw [hq]; unfold stepF; rw [hp]; rfl
      clear hq
      by_cases e2 : kd = 2
      · have p2 : (kd == 2) = true := by simp [e2]
        by_cases h1 : dv = d
        · have q1 : (dv != d) = false := by simp [h1]
          have q1b : (dv == d) = true := by simp [h1]
          by_cases h2 : a < f
          · have q2 : decide ((a : Int) < (f : Int)) = true := by simp; omega
            have q2n : decide (a < f) = true := by simp; omega
            have HN : Hid (firstL (dkB d a acl) (L.take (k + 1)) = o) := Lib.hid (SKIP.out (by simp [dkB] <;> omega))
            clear SKIP TAKE h1 h2 e2
            have i0 : (0 : Int) ≤ (k : Int) := by omega
            go_wp2_with fail
            go_roundw
            case rel => exact ⟨k + 1, Lib.hid ⟨by go_num, by rw [HN.out], by omega, hb.alloc hb.size _, hA.alloc _, by rw [HN.out]; exact hB.alloc _⟩⟩
            case measure => simp [intOf]; omega
          · have q2 : decide ((a : Int) < (f : Int)) = false := by simp; omega
            have q2n : decide (a < f) = false := by simp; omega
            by_cases h3 : t < a
            · have q3 : decide ((t : Int) < (a : Int)) = true := by simp; omega
              have q3n : decide (t < a) = true := by simp; omega
              have HN : Hid (firstL (dkB d a acl) (L.take (k + 1)) = o) := Lib.hid (SKIP.out (by simp [dkB] <;> omega))
              clear SKIP TAKE h1 h2 h3 e2
              have i0 : (0 : Int) ≤ (k : Int) := by omega
              go_wp2_with fail
              go_roundw
              case rel => exact ⟨k + 1, Lib.hid ⟨by go_num, by rw [HN.out], by omega, hb.alloc hb.size _, hA.alloc _, by rw [HN.out]; exact hB.alloc _⟩⟩
              case measure => simp [intOf]; omega
            · have q3 : decide ((t : Int) < (a : Int)) = false := by simp; omega
              have q3n : decide (t < a) = false := by simp; omega
              cases acl with
              | false =>
                have HN : Hid (firstL (dkB d a false) (L.take (k + 1)) = o) := Lib.hid (SKIP.out (by simp [dkB, e2]))
                clear SKIP TAKE h1 h2 h3 e2
                have i0 : (0 : Int) ≤ (k : Int) := by omega
                go_wp2_with fail
                go_roundw
                case rel => exact ⟨k + 1, Lib.hid ⟨by go_num, by rw [HN.out], by omega, hb.alloc hb.size _, hA.alloc _, by rw [HN.out]; exact hB.alloc _⟩⟩
                case measure => simp [intOf]; omega
              | true =>
                have htk : dkB d a true ⟨id, dv, pr, kd, f, t, pt⟩ = true := by simp [dkB, h1, e2] <;> omega
                have TK := TAKE.out htk
                clear SKIP TAKE htk h1 h2 h3 e2
                cases o with
                | none =>
                  have HN : Hid (firstL (dkB d a true) (L.take (k + 1)) = some ⟨id, dv, pr, kd, f, t, pt⟩) := Lib.hid (by rw [TK]; rfl)
                  clear TK
                  rw [show ruA ((none : Option Ru).getD ru0) = ruA ru0 from rfl, rd0] at hB
                  have y0 := (hB.cell 0).trans rfl; have y1 := (hB.cell 1).trans rfl; have y2 := (hB.cell 2).trans rfl; have y3 := (hB.cell 3).trans rfl; have y4 := (hB.cell 4).trans rfl; have y5 := (hB.cell 5).trans rfl; have y6 := (hB.cell 6).trans rfl
                  have z0 := hB.frozen 0; have z1 := hB.frozen 1; have z2 := hB.frozen 2; have z3 := hB.frozen 3; have z4 := hB.frozen 4; have z5 := hB.frozen 5; have z6 := hB.frozen 6
                  go_wp2_with fail
                  refine ⟨⟨k + 1, Lib.hid ⟨by go_num, ?_, by omega, ?_, ?_, ?_⟩⟩, by simp [intOf]; omega⟩
                  · rw [HN.out]; rfl
                  · exact (below_fill hb (by omega) ⟨id, dv, pr, kd, f, t, pt⟩).alloc (by simp [fillW]; omega) _
                  · exact (hA.fillo (by omega) ⟨id, dv, pr, kd, f, t, pt⟩).alloc _
                  · rw [HN.out]; exact (At.fill (y := ru0) hB ⟨id, dv, pr, kd, f, t, pt⟩).alloc _
                | some y =>
                  obtain ⟨id', dv', pr', kd', f', t', pt'⟩ := y
                  rw [show ruA ((some (⟨id', dv', pr', kd', f', t', pt'⟩ : Ru)).getD ru0) = #[.int .i64 id', .int .i64 dv', .int .i64 pr', .int .i64 kd', .int .u32 f', .int .u32 t', .int .i64 pt'] from rfl] at hB
                  rw [show ((some (⟨id', dv', pr', kd', f', t', pt'⟩ : Ru)).isNone || aheadB ⟨id, dv, pr, kd, f, t, pt⟩ ((some (⟨id', dv', pr', kd', f', t', pt'⟩ : Ru)).getD ru0)) = aheadB ⟨id, dv, pr, kd, f, t, pt⟩ ⟨id', dv', pr', kd', f', t', pt'⟩ from rfl] at TK
                  by_cases h6 : pr' < pr
                  · have q6 : decide (pr' < pr) = true := by simp [h6]
                    have HN : Hid (firstL (dkB d a true) (L.take (k + 1)) = some ⟨id, dv, pr, kd, f, t, pt⟩) := Lib.hid (by rw [TK, if_pos ((ahead_iff _ _).2 (by dsimp only; omega))])
                    clear TK h6
                    have y0 := (hB.cell 0).trans rfl; have y1 := (hB.cell 1).trans rfl; have y2 := (hB.cell 2).trans rfl; have y3 := (hB.cell 3).trans rfl; have y4 := (hB.cell 4).trans rfl; have y5 := (hB.cell 5).trans rfl; have y6 := (hB.cell 6).trans rfl
                    have z0 := hB.frozen 0; have z1 := hB.frozen 1; have z2 := hB.frozen 2; have z3 := hB.frozen 3; have z4 := hB.frozen 4; have z5 := hB.frozen 5; have z6 := hB.frozen 6
                    go_wp2_with fail
                    refine ⟨⟨k + 1, Lib.hid ⟨by go_num, ?_, by omega, ?_, ?_, ?_⟩⟩, by simp [intOf]; omega⟩
                    · rw [HN.out]; rfl
                    · exact (below_fill hb (by omega) ⟨id, dv, pr, kd, f, t, pt⟩).alloc (by simp [fillW]; omega) _
                    · exact (hA.fillo (by omega) ⟨id, dv, pr, kd, f, t, pt⟩).alloc _
                    · rw [HN.out]; exact (At.fill (y := ⟨id', dv', pr', kd', f', t', pt'⟩) hB ⟨id, dv, pr, kd, f, t, pt⟩).alloc _
                  · have q6 : decide (pr' < pr) = false := by simp; omega
                    by_cases h7 : pr = pr'
                    · have q7 : (pr == pr') = true := by simp [h7]
                      by_cases h8 : id < id'
                      · have q8 : decide (id < id') = true := by simp [h8]
                        have HN : Hid (firstL (dkB d a true) (L.take (k + 1)) = some ⟨id, dv, pr, kd, f, t, pt⟩) := Lib.hid (by rw [TK, if_pos ((ahead_iff _ _).2 (by dsimp only; omega))])
                        clear TK h6 h7 h8
                        have y0 := (hB.cell 0).trans rfl; have y1 := (hB.cell 1).trans rfl; have y2 := (hB.cell 2).trans rfl; have y3 := (hB.cell 3).trans rfl; have y4 := (hB.cell 4).trans rfl; have y5 := (hB.cell 5).trans rfl; have y6 := (hB.cell 6).trans rfl
                        have z0 := hB.frozen 0; have z1 := hB.frozen 1; have z2 := hB.frozen 2; have z3 := hB.frozen 3; have z4 := hB.frozen 4; have z5 := hB.frozen 5; have z6 := hB.frozen 6
                        go_wp2_with fail
                        refine ⟨⟨k + 1, Lib.hid ⟨by go_num, ?_, by omega, ?_, ?_, ?_⟩⟩, by simp [intOf]; omega⟩
                        · rw [HN.out]; rfl
                        · exact (below_fill hb (by omega) ⟨id, dv, pr, kd, f, t, pt⟩).alloc (by simp [fillW]; omega) _
                        · exact (hA.fillo (by omega) ⟨id, dv, pr, kd, f, t, pt⟩).alloc _
                        · rw [HN.out]; exact (At.fill (y := ⟨id', dv', pr', kd', f', t', pt'⟩) hB ⟨id, dv, pr, kd, f, t, pt⟩).alloc _
                      · have q8 : decide (id < id') = false := by simp; omega
                        have HN : Hid (firstL (dkB d a true) (L.take (k + 1)) = some ⟨id', dv', pr', kd', f', t', pt'⟩) := Lib.hid (by rw [TK, if_neg (by rw [(ahead_no _ _).2 (by dsimp only; omega)]; simp)])
                        clear TK h6 h7 h8
                        have y0 := (hB.cell 0).trans rfl; have y1 := (hB.cell 1).trans rfl; have y2 := (hB.cell 2).trans rfl; have y3 := (hB.cell 3).trans rfl; have y4 := (hB.cell 4).trans rfl; have y5 := (hB.cell 5).trans rfl; have y6 := (hB.cell 6).trans rfl
                        go_wp2_with fail
                        go_roundw
                        case rel => exact ⟨k + 1, Lib.hid ⟨by go_num, (by rw [HN.out] <;> rfl), by omega, hb.alloc hb.size _, hA.alloc _, by rw [HN.out]; exact hB.alloc _⟩⟩
                        case measure => simp [intOf]; omega
                    · have q7 : (pr == pr') = false := by simp [h7]
                      have HN : Hid (firstL (dkB d a true) (L.take (k + 1)) = some ⟨id', dv', pr', kd', f', t', pt'⟩) := Lib.hid (by rw [TK, if_neg (by rw [(ahead_no _ _).2 (by dsimp only; omega)]; simp)])
                      clear TK h6 h7
                      have y0 := (hB.cell 0).trans rfl; have y1 := (hB.cell 1).trans rfl; have y2 := (hB.cell 2).trans rfl; have y3 := (hB.cell 3).trans rfl; have y4 := (hB.cell 4).trans rfl; have y5 := (hB.cell 5).trans rfl; have y6 := (hB.cell 6).trans rfl
                      go_wp2_with fail
                      go_roundw
                      case rel => exact ⟨k + 1, Lib.hid ⟨by go_num, (by rw [HN.out] <;> rfl), by omega, hb.alloc hb.size _, hA.alloc _, by rw [HN.out]; exact hB.alloc _⟩⟩
                      case measure => simp [intOf]; omega
        · have q1 : (dv != d) = true := by simp [h1]
          have q1b : (dv == d) = false := by simp [h1]
          have HN : Hid (firstL (dkB d a acl) (L.take (k + 1)) = o) := Lib.hid (SKIP.out (by simp [dkB, h1]))
          clear SKIP TAKE h1 e2
          have i0 : (0 : Int) ≤ (k : Int) := by omega
          go_wp2_with fail
          go_roundw
          case rel => exact ⟨k + 1, Lib.hid ⟨by go_num, by rw [HN.out], by omega, hb.alloc hb.size _, hA.alloc _, by rw [HN.out]; exact hB.alloc _⟩⟩
          case measure => simp [intOf]; omega
      · have p2 : (kd == 2) = false := by simp [e2]
        by_cases e3 : kd = 3
        · have p3 : (kd == 3) = true := by simp [e3]
          by_cases h1 : dv = d
          · have q1 : (dv != d) = false := by simp [h1]
            have q1b : (dv == d) = true := by simp [h1]
            by_cases h2 : a < f
            · have q2 : decide ((a : Int) < (f : Int)) = true := by simp; omega
              have q2n : decide (a < f) = true := by simp; omega
              have HN : Hid (firstL (dkB d a acl) (L.take (k + 1)) = o) := Lib.hid (SKIP.out (by simp [dkB] <;> omega))
              clear SKIP TAKE h1 h2 e2 e3
              have i0 : (0 : Int) ≤ (k : Int) := by omega
              go_wp2_with fail
              go_roundw
              case rel => exact ⟨k + 1, Lib.hid ⟨by go_num, by rw [HN.out], by omega, hb.alloc hb.size _, hA.alloc _, by rw [HN.out]; exact hB.alloc _⟩⟩
              case measure => simp [intOf]; omega
            · have q2 : decide ((a : Int) < (f : Int)) = false := by simp; omega
              have q2n : decide (a < f) = false := by simp; omega
              by_cases h3 : t < a
              · have q3 : decide ((t : Int) < (a : Int)) = true := by simp; omega
                have q3n : decide (t < a) = true := by simp; omega
                have HN : Hid (firstL (dkB d a acl) (L.take (k + 1)) = o) := Lib.hid (SKIP.out (by simp [dkB] <;> omega))
                clear SKIP TAKE h1 h2 h3 e2 e3
                have i0 : (0 : Int) ≤ (k : Int) := by omega
                go_wp2_with fail
                go_roundw
                case rel => exact ⟨k + 1, Lib.hid ⟨by go_num, by rw [HN.out], by omega, hb.alloc hb.size _, hA.alloc _, by rw [HN.out]; exact hB.alloc _⟩⟩
                case measure => simp [intOf]; omega
              · have q3 : decide ((t : Int) < (a : Int)) = false := by simp; omega
                have q3n : decide (t < a) = false := by simp; omega
                cases acl with
                | false =>
                  have HN : Hid (firstL (dkB d a false) (L.take (k + 1)) = o) := Lib.hid (SKIP.out (by simp [dkB, e3]))
                  clear SKIP TAKE h1 h2 h3 e2 e3
                  have i0 : (0 : Int) ≤ (k : Int) := by omega
                  go_wp2_with fail
                  go_roundw
                  case rel => exact ⟨k + 1, Lib.hid ⟨by go_num, by rw [HN.out], by omega, hb.alloc hb.size _, hA.alloc _, by rw [HN.out]; exact hB.alloc _⟩⟩
                  case measure => simp [intOf]; omega
                | true =>
                  have htk : dkB d a true ⟨id, dv, pr, kd, f, t, pt⟩ = true := by simp [dkB, h1, e3] <;> omega
                  have TK := TAKE.out htk
                  clear SKIP TAKE htk h1 h2 h3 e2 e3
                  cases o with
                  | none =>
                    have HN : Hid (firstL (dkB d a true) (L.take (k + 1)) = some ⟨id, dv, pr, kd, f, t, pt⟩) := Lib.hid (by rw [TK]; rfl)
                    clear TK
                    rw [show ruA ((none : Option Ru).getD ru0) = ruA ru0 from rfl, rd0] at hB
                    have y0 := (hB.cell 0).trans rfl; have y1 := (hB.cell 1).trans rfl; have y2 := (hB.cell 2).trans rfl; have y3 := (hB.cell 3).trans rfl; have y4 := (hB.cell 4).trans rfl; have y5 := (hB.cell 5).trans rfl; have y6 := (hB.cell 6).trans rfl
                    have z0 := hB.frozen 0; have z1 := hB.frozen 1; have z2 := hB.frozen 2; have z3 := hB.frozen 3; have z4 := hB.frozen 4; have z5 := hB.frozen 5; have z6 := hB.frozen 6
                    go_wp2_with fail
                    refine ⟨⟨k + 1, Lib.hid ⟨by go_num, ?_, by omega, ?_, ?_, ?_⟩⟩, by simp [intOf]; omega⟩
                    · rw [HN.out]; rfl
                    · exact (below_fill hb (by omega) ⟨id, dv, pr, kd, f, t, pt⟩).alloc (by simp [fillW]; omega) _
                    · exact (hA.fillo (by omega) ⟨id, dv, pr, kd, f, t, pt⟩).alloc _
                    · rw [HN.out]; exact (At.fill (y := ru0) hB ⟨id, dv, pr, kd, f, t, pt⟩).alloc _
                  | some y =>
                    obtain ⟨id', dv', pr', kd', f', t', pt'⟩ := y
                    rw [show ruA ((some (⟨id', dv', pr', kd', f', t', pt'⟩ : Ru)).getD ru0) = #[.int .i64 id', .int .i64 dv', .int .i64 pr', .int .i64 kd', .int .u32 f', .int .u32 t', .int .i64 pt'] from rfl] at hB
                    rw [show ((some (⟨id', dv', pr', kd', f', t', pt'⟩ : Ru)).isNone || aheadB ⟨id, dv, pr, kd, f, t, pt⟩ ((some (⟨id', dv', pr', kd', f', t', pt'⟩ : Ru)).getD ru0)) = aheadB ⟨id, dv, pr, kd, f, t, pt⟩ ⟨id', dv', pr', kd', f', t', pt'⟩ from rfl] at TK
                    by_cases h6 : pr' < pr
                    · have q6 : decide (pr' < pr) = true := by simp [h6]
                      have HN : Hid (firstL (dkB d a true) (L.take (k + 1)) = some ⟨id, dv, pr, kd, f, t, pt⟩) := Lib.hid (by rw [TK, if_pos ((ahead_iff _ _).2 (by dsimp only; omega))])
                      clear TK h6
                      have y0 := (hB.cell 0).trans rfl; have y1 := (hB.cell 1).trans rfl; have y2 := (hB.cell 2).trans rfl; have y3 := (hB.cell 3).trans rfl; have y4 := (hB.cell 4).trans rfl; have y5 := (hB.cell 5).trans rfl; have y6 := (hB.cell 6).trans rfl
                      have z0 := hB.frozen 0; have z1 := hB.frozen 1; have z2 := hB.frozen 2; have z3 := hB.frozen 3; have z4 := hB.frozen 4; have z5 := hB.frozen 5; have z6 := hB.frozen 6
                      go_wp2_with fail
                      refine ⟨⟨k + 1, Lib.hid ⟨by go_num, ?_, by omega, ?_, ?_, ?_⟩⟩, by simp [intOf]; omega⟩
                      · rw [HN.out]; rfl
                      · exact (below_fill hb (by omega) ⟨id, dv, pr, kd, f, t, pt⟩).alloc (by simp [fillW]; omega) _
                      · exact (hA.fillo (by omega) ⟨id, dv, pr, kd, f, t, pt⟩).alloc _
                      · rw [HN.out]; exact (At.fill (y := ⟨id', dv', pr', kd', f', t', pt'⟩) hB ⟨id, dv, pr, kd, f, t, pt⟩).alloc _
                    · have q6 : decide (pr' < pr) = false := by simp; omega
                      by_cases h7 : pr = pr'
                      · have q7 : (pr == pr') = true := by simp [h7]
                        by_cases h8 : id < id'
                        · have q8 : decide (id < id') = true := by simp [h8]
                          have HN : Hid (firstL (dkB d a true) (L.take (k + 1)) = some ⟨id, dv, pr, kd, f, t, pt⟩) := Lib.hid (by rw [TK, if_pos ((ahead_iff _ _).2 (by dsimp only; omega))])
                          clear TK h6 h7 h8
                          have y0 := (hB.cell 0).trans rfl; have y1 := (hB.cell 1).trans rfl; have y2 := (hB.cell 2).trans rfl; have y3 := (hB.cell 3).trans rfl; have y4 := (hB.cell 4).trans rfl; have y5 := (hB.cell 5).trans rfl; have y6 := (hB.cell 6).trans rfl
                          have z0 := hB.frozen 0; have z1 := hB.frozen 1; have z2 := hB.frozen 2; have z3 := hB.frozen 3; have z4 := hB.frozen 4; have z5 := hB.frozen 5; have z6 := hB.frozen 6
                          go_wp2_with fail
                          refine ⟨⟨k + 1, Lib.hid ⟨by go_num, ?_, by omega, ?_, ?_, ?_⟩⟩, by simp [intOf]; omega⟩
                          · rw [HN.out]; rfl
                          · exact (below_fill hb (by omega) ⟨id, dv, pr, kd, f, t, pt⟩).alloc (by simp [fillW]; omega) _
                          · exact (hA.fillo (by omega) ⟨id, dv, pr, kd, f, t, pt⟩).alloc _
                          · rw [HN.out]; exact (At.fill (y := ⟨id', dv', pr', kd', f', t', pt'⟩) hB ⟨id, dv, pr, kd, f, t, pt⟩).alloc _
                        · have q8 : decide (id < id') = false := by simp; omega
                          have HN : Hid (firstL (dkB d a true) (L.take (k + 1)) = some ⟨id', dv', pr', kd', f', t', pt'⟩) := Lib.hid (by rw [TK, if_neg (by rw [(ahead_no _ _).2 (by dsimp only; omega)]; simp)])
                          clear TK h6 h7 h8
                          have y0 := (hB.cell 0).trans rfl; have y1 := (hB.cell 1).trans rfl; have y2 := (hB.cell 2).trans rfl; have y3 := (hB.cell 3).trans rfl; have y4 := (hB.cell 4).trans rfl; have y5 := (hB.cell 5).trans rfl; have y6 := (hB.cell 6).trans rfl
                          go_wp2_with fail
                          go_roundw
                          case rel => exact ⟨k + 1, Lib.hid ⟨by go_num, (by rw [HN.out] <;> rfl), by omega, hb.alloc hb.size _, hA.alloc _, by rw [HN.out]; exact hB.alloc _⟩⟩
                          case measure => simp [intOf]; omega
                      · have q7 : (pr == pr') = false := by simp [h7]
                        have HN : Hid (firstL (dkB d a true) (L.take (k + 1)) = some ⟨id', dv', pr', kd', f', t', pt'⟩) := Lib.hid (by rw [TK, if_neg (by rw [(ahead_no _ _).2 (by dsimp only; omega)]; simp)])
                        clear TK h6 h7
                        have y0 := (hB.cell 0).trans rfl; have y1 := (hB.cell 1).trans rfl; have y2 := (hB.cell 2).trans rfl; have y3 := (hB.cell 3).trans rfl; have y4 := (hB.cell 4).trans rfl; have y5 := (hB.cell 5).trans rfl; have y6 := (hB.cell 6).trans rfl
                        go_wp2_with fail
                        go_roundw
                        case rel => exact ⟨k + 1, Lib.hid ⟨by go_num, (by rw [HN.out] <;> rfl), by omega, hb.alloc hb.size _, hA.alloc _, by rw [HN.out]; exact hB.alloc _⟩⟩
                        case measure => simp [intOf]; omega
          · have q1 : (dv != d) = true := by simp [h1]
            have q1b : (dv == d) = false := by simp [h1]
            have HN : Hid (firstL (dkB d a acl) (L.take (k + 1)) = o) := Lib.hid (SKIP.out (by simp [dkB, h1]))
            clear SKIP TAKE h1 e2 e3
            have i0 : (0 : Int) ≤ (k : Int) := by omega
            go_wp2_with fail
            go_roundw
            case rel => exact ⟨k + 1, Lib.hid ⟨by go_num, by rw [HN.out], by omega, hb.alloc hb.size _, hA.alloc _, by rw [HN.out]; exact hB.alloc _⟩⟩
            case measure => simp [intOf]; omega
        · have p3 : (kd == 3) = false := by simp [e3]
          by_cases h1 : dv = d
          · have q1 : (dv != d) = false := by simp [h1]
            have q1b : (dv == d) = true := by simp [h1]
            by_cases h2 : a < f
            · have q2 : decide ((a : Int) < (f : Int)) = true := by simp; omega
              have q2n : decide (a < f) = true := by simp; omega
              have HN : Hid (firstL (dkB d a acl) (L.take (k + 1)) = o) := Lib.hid (SKIP.out (by simp [dkB] <;> omega))
              clear SKIP TAKE h1 h2 e2 e3
              have i0 : (0 : Int) ≤ (k : Int) := by omega
              go_wp2_with fail
              go_roundw
              case rel => exact ⟨k + 1, Lib.hid ⟨by go_num, by rw [HN.out], by omega, hb.alloc hb.size _, hA.alloc _, by rw [HN.out]; exact hB.alloc _⟩⟩
              case measure => simp [intOf]; omega
            · have q2 : decide ((a : Int) < (f : Int)) = false := by simp; omega
              have q2n : decide (a < f) = false := by simp; omega
              by_cases h3 : t < a
              · have q3 : decide ((t : Int) < (a : Int)) = true := by simp; omega
                have q3n : decide (t < a) = true := by simp; omega
                have HN : Hid (firstL (dkB d a acl) (L.take (k + 1)) = o) := Lib.hid (SKIP.out (by simp [dkB] <;> omega))
                clear SKIP TAKE h1 h2 h3 e2 e3
                have i0 : (0 : Int) ≤ (k : Int) := by omega
                go_wp2_with fail
                go_roundw
                case rel => exact ⟨k + 1, Lib.hid ⟨by go_num, by rw [HN.out], by omega, hb.alloc hb.size _, hA.alloc _, by rw [HN.out]; exact hB.alloc _⟩⟩
                case measure => simp [intOf]; omega
              · have q3 : decide ((t : Int) < (a : Int)) = false := by simp; omega
                have q3n : decide (t < a) = false := by simp; omega
                cases acl with
                | true =>
                  have HN : Hid (firstL (dkB d a true) (L.take (k + 1)) = o) := Lib.hid (SKIP.out (by simp [dkB, e2, e3]))
                  clear SKIP TAKE h1 h2 h3 e2 e3
                  have i0 : (0 : Int) ≤ (k : Int) := by omega
                  go_wp2_with fail
                  go_roundw
                  case rel => exact ⟨k + 1, Lib.hid ⟨by go_num, by rw [HN.out], by omega, hb.alloc hb.size _, hA.alloc _, by rw [HN.out]; exact hB.alloc _⟩⟩
                  case measure => simp [intOf]; omega
                | false =>
                  have htk : dkB d a false ⟨id, dv, pr, kd, f, t, pt⟩ = true := by simp [dkB, h1, e2, e3] <;> omega
                  have TK := TAKE.out htk
                  clear SKIP TAKE htk h1 h2 h3 e2 e3
                  cases o with
                  | none =>
                    have HN : Hid (firstL (dkB d a false) (L.take (k + 1)) = some ⟨id, dv, pr, kd, f, t, pt⟩) := Lib.hid (by rw [TK]; rfl)
                    clear TK
                    rw [show ruA ((none : Option Ru).getD ru0) = ruA ru0 from rfl, rd0] at hB
                    have y0 := (hB.cell 0).trans rfl; have y1 := (hB.cell 1).trans rfl; have y2 := (hB.cell 2).trans rfl; have y3 := (hB.cell 3).trans rfl; have y4 := (hB.cell 4).trans rfl; have y5 := (hB.cell 5).trans rfl; have y6 := (hB.cell 6).trans rfl
                    have z0 := hB.frozen 0; have z1 := hB.frozen 1; have z2 := hB.frozen 2; have z3 := hB.frozen 3; have z4 := hB.frozen 4; have z5 := hB.frozen 5; have z6 := hB.frozen 6
                    go_wp2_with fail
                    refine ⟨⟨k + 1, Lib.hid ⟨by go_num, ?_, by omega, ?_, ?_, ?_⟩⟩, by simp [intOf]; omega⟩
                    · rw [HN.out]; rfl
                    · exact (below_fill hb (by omega) ⟨id, dv, pr, kd, f, t, pt⟩).alloc (by simp [fillW]; omega) _
                    · exact (hA.fillo (by omega) ⟨id, dv, pr, kd, f, t, pt⟩).alloc _
                    · rw [HN.out]; exact (At.fill (y := ru0) hB ⟨id, dv, pr, kd, f, t, pt⟩).alloc _
                  | some y =>
                    obtain ⟨id', dv', pr', kd', f', t', pt'⟩ := y
                    rw [show ruA ((some (⟨id', dv', pr', kd', f', t', pt'⟩ : Ru)).getD ru0) = #[.int .i64 id', .int .i64 dv', .int .i64 pr', .int .i64 kd', .int .u32 f', .int .u32 t', .int .i64 pt'] from rfl] at hB
                    rw [show ((some (⟨id', dv', pr', kd', f', t', pt'⟩ : Ru)).isNone || aheadB ⟨id, dv, pr, kd, f, t, pt⟩ ((some (⟨id', dv', pr', kd', f', t', pt'⟩ : Ru)).getD ru0)) = aheadB ⟨id, dv, pr, kd, f, t, pt⟩ ⟨id', dv', pr', kd', f', t', pt'⟩ from rfl] at TK
                    by_cases h6 : pr' < pr
                    · have q6 : decide (pr' < pr) = true := by simp [h6]
                      have HN : Hid (firstL (dkB d a false) (L.take (k + 1)) = some ⟨id, dv, pr, kd, f, t, pt⟩) := Lib.hid (by rw [TK, if_pos ((ahead_iff _ _).2 (by dsimp only; omega))])
                      clear TK h6
                      have y0 := (hB.cell 0).trans rfl; have y1 := (hB.cell 1).trans rfl; have y2 := (hB.cell 2).trans rfl; have y3 := (hB.cell 3).trans rfl; have y4 := (hB.cell 4).trans rfl; have y5 := (hB.cell 5).trans rfl; have y6 := (hB.cell 6).trans rfl
                      have z0 := hB.frozen 0; have z1 := hB.frozen 1; have z2 := hB.frozen 2; have z3 := hB.frozen 3; have z4 := hB.frozen 4; have z5 := hB.frozen 5; have z6 := hB.frozen 6
                      go_wp2_with fail
                      refine ⟨⟨k + 1, Lib.hid ⟨by go_num, ?_, by omega, ?_, ?_, ?_⟩⟩, by simp [intOf]; omega⟩
                      · rw [HN.out]; rfl
                      · exact (below_fill hb (by omega) ⟨id, dv, pr, kd, f, t, pt⟩).alloc (by simp [fillW]; omega) _
                      · exact (hA.fillo (by omega) ⟨id, dv, pr, kd, f, t, pt⟩).alloc _
                      · rw [HN.out]; exact (At.fill (y := ⟨id', dv', pr', kd', f', t', pt'⟩) hB ⟨id, dv, pr, kd, f, t, pt⟩).alloc _
                    · have q6 : decide (pr' < pr) = false := by simp; omega
                      by_cases h7 : pr = pr'
                      · have q7 : (pr == pr') = true := by simp [h7]
                        by_cases h8 : id < id'
                        · have q8 : decide (id < id') = true := by simp [h8]
                          have HN : Hid (firstL (dkB d a false) (L.take (k + 1)) = some ⟨id, dv, pr, kd, f, t, pt⟩) := Lib.hid (by rw [TK, if_pos ((ahead_iff _ _).2 (by dsimp only; omega))])
                          clear TK h6 h7 h8
                          have y0 := (hB.cell 0).trans rfl; have y1 := (hB.cell 1).trans rfl; have y2 := (hB.cell 2).trans rfl; have y3 := (hB.cell 3).trans rfl; have y4 := (hB.cell 4).trans rfl; have y5 := (hB.cell 5).trans rfl; have y6 := (hB.cell 6).trans rfl
                          have z0 := hB.frozen 0; have z1 := hB.frozen 1; have z2 := hB.frozen 2; have z3 := hB.frozen 3; have z4 := hB.frozen 4; have z5 := hB.frozen 5; have z6 := hB.frozen 6
                          go_wp2_with fail
                          refine ⟨⟨k + 1, Lib.hid ⟨by go_num, ?_, by omega, ?_, ?_, ?_⟩⟩, by simp [intOf]; omega⟩
                          · rw [HN.out]; rfl
                          · exact (below_fill hb (by omega) ⟨id, dv, pr, kd, f, t, pt⟩).alloc (by simp [fillW]; omega) _
                          · exact (hA.fillo (by omega) ⟨id, dv, pr, kd, f, t, pt⟩).alloc _
                          · rw [HN.out]; exact (At.fill (y := ⟨id', dv', pr', kd', f', t', pt'⟩) hB ⟨id, dv, pr, kd, f, t, pt⟩).alloc _
                        · have q8 : decide (id < id') = false := by simp; omega
                          have HN : Hid (firstL (dkB d a false) (L.take (k + 1)) = some ⟨id', dv', pr', kd', f', t', pt'⟩) := Lib.hid (by rw [TK, if_neg (by rw [(ahead_no _ _).2 (by dsimp only; omega)]; simp)])
                          clear TK h6 h7 h8
                          have y0 := (hB.cell 0).trans rfl; have y1 := (hB.cell 1).trans rfl; have y2 := (hB.cell 2).trans rfl; have y3 := (hB.cell 3).trans rfl; have y4 := (hB.cell 4).trans rfl; have y5 := (hB.cell 5).trans rfl; have y6 := (hB.cell 6).trans rfl
                          go_wp2_with fail
                          go_roundw
                          case rel => exact ⟨k + 1, Lib.hid ⟨by go_num, (by rw [HN.out] <;> rfl), by omega, hb.alloc hb.size _, hA.alloc _, by rw [HN.out]; exact hB.alloc _⟩⟩
                          case measure => simp [intOf]; omega
                      · have q7 : (pr == pr') = false := by simp [h7]
                        have HN : Hid (firstL (dkB d a false) (L.take (k + 1)) = some ⟨id', dv', pr', kd', f', t', pt'⟩) := Lib.hid (by rw [TK, if_neg (by rw [(ahead_no _ _).2 (by dsimp only; omega)]; simp)])
                        clear TK h6 h7
                        have y0 := (hB.cell 0).trans rfl; have y1 := (hB.cell 1).trans rfl; have y2 := (hB.cell 2).trans rfl; have y3 := (hB.cell 3).trans rfl; have y4 := (hB.cell 4).trans rfl; have y5 := (hB.cell 5).trans rfl; have y6 := (hB.cell 6).trans rfl
                        go_wp2_with fail
                        go_roundw
                        case rel => exact ⟨k + 1, Lib.hid ⟨by go_num, (by rw [HN.out] <;> rfl), by omega, hb.alloc hb.size _, hA.alloc _, by rw [HN.out]; exact hB.alloc _⟩⟩
                        case measure => simp [intOf]; omega
          · have q1 : (dv != d) = true := by simp [h1]
            have q1b : (dv == d) = false := by simp [h1]
            have HN : Hid (firstL (dkB d a acl) (L.take (k + 1)) = o) := Lib.hid (SKIP.out (by simp [dkB, h1]))
            clear SKIP TAKE h1 e2 e3
            have i0 : (0 : Int) ≤ (k : Int) := by omega
            go_wp2_with fail
            go_roundw
            case rel => exact ⟨k + 1, Lib.hid ⟨by go_num, by rw [HN.out], by omega, hb.alloc hb.size _, hA.alloc _, by rw [HN.out]; exact hB.alloc _⟩⟩
            case measure => simp [intOf]; omega
    · obtain rfl : k = L.length := by omega
      rw [List.take_length, ← HFO.out] at hB
      rw [List.take_length, ← HFO.out]
      obtain ⟨y, hy⟩ : ∃ y, y = fo.getD ru0 := ⟨_, rfl⟩
      rw [← hy] at hB
      have hV : firstV fo = .tuple #[.agg (ruA y), .bool fo.isSome] := by rw [hy]; rfl
      have HV := Lib.hid hV
      clear hV hy
      generalize fo.isSome = q at HV ⊢
      obtain ⟨id', dv', pr', kd', f', t', pt'⟩ := y
      rw [ruA_mk] at hB
      have Z := At.fill (y := ru0) hA ⟨id', dv', pr', kd', f', t', pt'⟩
      rw [rd0] at hA
      have d0 := (hB.cell 0).trans rfl; have d1 := (hB.cell 1).trans rfl; have d2 := (hB.cell 2).trans rfl; have d3 := (hB.cell 3).trans rfl; have d4 := (hB.cell 4).trans rfl; have d5 := (hB.cell 5).trans rfl; have d6 := (hB.cell 6).trans rfl; have e0 := (hA.cell 0).trans rfl; have e1 := (hA.cell 1).trans rfl; have e2 := (hA.cell 2).trans rfl; have e3 := (hA.cell 3).trans rfl; have e4 := (hA.cell 4).trans rfl; have e5 := (hA.cell 5).trans rfl; have e6 := (hA.cell 6).trans rfl; have z0 := hA.frozen 0; have z1 := hA.frozen 1; have z2 := hA.frozen 2; have z3 := hA.frozen 3; have z4 := hA.frozen 4; have z5 := hA.frozen 5; have z6 := hA.frozen 6
      go_wp2
      refine bodyPost_ret (v := firstV fo) ?_ rfl ⟨rfl, below_fill hb (by omega) ⟨id', dv', pr', kd', f', t', pt'⟩⟩
      unfold fillW ruA at Z
      have y0 := Z.cell 0; have y1 := Z.cell 1; have y2 := Z.cell 2; have y3 := Z.cell 3; have y4 := Z.cell 4; have y5 := Z.cell 5; have y6 := Z.cell 6
      dsimp only at y0 y1 y2 y3 y4 y5 y6
      simp [results, Tryz.results105, go_sem, y0, y1, y2, y3, y4, y5, y6, HV.out, ruA_mk]

set_option maxRecDepth 100000 in
set_option maxHeartbeats 1000000 in
/-- The document's Match, of right rules. -/
theorem rmatch_any {v : Value} (L : List Ru) (d : Int) (a : Nat) (w : World) (hR : RR L) (h : IsR w v L) : Calls Tryz.prog 88 #[v, .int .i64 d, .int .u32 a] w fun e w' => e = .returned (firstV (firstL (tk d 0 1 a) L)) ∧ Below w.heap.size w w' := by
  have b0 : Below w.heap.size w (w.alloc (.cells (ruA ru0) 105)) := (Below.refl _ _).alloc (Nat.le_refl _) _
  have Z0 := At.new w (ruA ru0) 105
  have hf := rfirst_any L d a false _ (h.belows b0)
  rw [firstL_congr (dkB d a false) (tk d 0 1 a) L (fun r hr => dk_fwd r (hR.right r hr))] at hf
  obtain ⟨A1, c1, rfl, n1, m1, z1⟩ := h
  clear z1 hR
  obtain ⟨y, hy⟩ : ∃ y, y = (firstL (tk d 0 1 a) L).getD ru0 := ⟨_, rfl⟩
  have hV : firstV (firstL (tk d 0 1 a) L) = .tuple #[.agg (ruA y), .bool (firstL (tk d 0 1 a) L).isSome] := by rw [hy]; rfl
  rw [hV] at hf ⊢
  generalize (firstL (tk d 0 1 a) L).isSome = q at hf ⊢
  clear hV hy
  obtain ⟨id, dv, pr, kd, f, t, pt⟩ := y
  simp only [ruA_mk] at hf ⊢
  rw [rd0] at hf b0 Z0
  go_enter Tryz.func88, Tryz.ntmps88
  go_wp2_with fail
  refine hf.mono ?_
  rintro e w1 ⟨rfl, b1⟩
  have Z1 := Z0.belows b1
  have B1 := b0.trans (b1.mono b0.size)
  have y0 := (Z1.cell 0).trans rfl; have y1 := (Z1.cell 1).trans rfl; have y2 := (Z1.cell 2).trans rfl; have y3 := (Z1.cell 3).trans rfl; have y4 := (Z1.cell 4).trans rfl; have y5 := (Z1.cell 5).trans rfl; have y6 := (Z1.cell 6).trans rfl
  have z0 := Z1.frozen 0; have z1 := Z1.frozen 1; have z2 := Z1.frozen 2; have z3 := Z1.frozen 3; have z4 := Z1.frozen 4; have z5 := Z1.frozen 5; have z6 := Z1.frozen 6
  go_wp2
  have Z := At.fill (y := ru0) (by rw [rd0]; exact Z1) ⟨id, dv, pr, kd, f, t, pt⟩
  have Y0 := Z.cell 0; have Y1 := Z.cell 1; have Y2 := Z.cell 2; have Y3 := Z.cell 3; have Y4 := Z.cell 4; have Y5 := Z.cell 5; have Y6 := Z.cell 6
  unfold fillW at Y0 Y1 Y2 Y3 Y4 Y5 Y6
  refine bodyPost_ret (v := .tuple #[.agg (ruA ⟨id, dv, pr, kd, f, t, pt⟩), .bool q]) ?_ rfl ⟨rfl, below_fill B1 (Nat.le_refl _) ⟨id, dv, pr, kd, f, t, pt⟩⟩
  simp [ruA] at Y0 Y1 Y2 Y3 Y4 Y5 Y6
  simp [results, Tryz.results88, go_sem, Y0, Y1, Y2, Y3, Y4, Y5, Y6, ruA]
set_option maxRecDepth 100000 in
set_option maxHeartbeats 1000000 in
/-- The document's Denies, of right rules. -/
theorem rdenies_any {v : Value} (L : List Ru) (d : Int) (a : Nat) (w : World) (hR : RR L) (h : IsR w v L) : Calls Tryz.prog 87 #[v, .int .i64 d, .int .u32 a] w fun e w' => e = .returned (.bool ((firstL (tk d 2 3 a) L).isSome && decide (((firstL (tk d 2 3 a) L).getD ru0).kd = 3))) ∧ Below w.heap.size w w' := by
  have hf := rfirst_any L d a true w h
  rw [firstL_congr (dkB d a true) (tk d 2 3 a) L (fun r hr => dk_acl r (hR.right r hr))] at hf
  obtain ⟨A1, c1, rfl, n1, m1, z1⟩ := h
  clear z1 hR
  obtain ⟨y, hy⟩ : ∃ y, y = (firstL (tk d 2 3 a) L).getD ru0 := ⟨_, rfl⟩
  have hV : firstV (firstL (tk d 2 3 a) L) = .tuple #[.agg (ruA y), .bool (firstL (tk d 2 3 a) L).isSome] := by rw [hy]; rfl
  rw [hV] at hf
  rw [← hy]
  generalize (firstL (tk d 2 3 a) L).isSome = q at hf ⊢
  clear hV hy
  obtain ⟨id, dv, pr, kd, f, t, pt⟩ := y
  simp only [ruA_mk] at hf ⊢
  have fin : ∀ w1, Below w.heap.size w w1 → Below w.heap.size w (w1.alloc (.cells #[.int .i64 id, .int .i64 dv, .int .i64 pr, .int .i64 kd, .int .u32 f, .int .u32 t, .int .i64 pt] 105)) := fun w1 b1 => b1.alloc b1.size _
  cases q with
  | false =>
    simp only [Bool.false_and]
    go_enter Tryz.func87, Tryz.ntmps87
    go_wp2_with fail
    refine hf.mono ?_
    rintro e w1 ⟨rfl, b1⟩
    go_wp2
    go_ret
    exact ⟨rfl, fin w1 b1⟩
  | true =>
    simp only [Bool.true_and]
    go_enter Tryz.func87, Tryz.ntmps87
    go_wp2_with fail
    refine hf.mono ?_
    rintro e w1 ⟨rfl, b1⟩
    go_wp2
    go_ret
    exact ⟨rfl, fin w1 b1⟩
end Go.Proofs.YteboadppighplaaGreat
/- Contracts: the document's Next. -/
namespace Go.Proofs.YteboadppighplaaGreat
open Go.RowKit Go.Shelf

/-- What Next answers. -/
def nextV (o : Option Pt) : Value := .tuple #[.agg (ptA (o.getD ⟨0, 0⟩)), .bool o.isSome]
set_option maxRecDepth 100000 in
set_option maxHeartbeats 2000000 in
/-- The document's Next. -/
theorem rnext_any {vp vl : Value} (ps : List Int) (ls : List Lk) (p : Pt) (w : World) (h : IsT w vp vl ps ls) : Calls Tryz.prog 65 #[.agg #[vp, vl], .agg (ptA p)] w fun e w' => e = .returned (nextV (nextT ls p)) ∧ Below w.heap.size w w' := by
  obtain ⟨⟨A1, c1, rfl, n1, m1, _⟩, ⟨A2, c2, rfl, n2, m2, z2⟩⟩ := h
  have hL : ls.length ≤ 9223372036854775807 := Nat.le_trans n2 m2
  have hM : ps.length ≤ 9223372036854775807 := Nat.le_trans n1 m1
  obtain ⟨V, hV⟩ : ∃ V, V = nextT ls p := ⟨_, rfl⟩
  rw [← hV]
  have HV := Lib.hid hV
  clear hV
  have hpA : ptA p = #[.int .i64 p.d, .int .i64 p.p] := rfl
  have D0 := ((At.new w #[.slice A1 ps.length c1, .slice A2 ls.length c2] 25).alloc (.cells (ptA p) 55)).alloc (.cells (ptA ⟨0, 0⟩) 55)
  have P0 := (At.new1 w (.cells #[.slice A1 ps.length c1, .slice A2 ls.length c2] 25) (ptA p) 55).alloc (.cells (ptA ⟨0, 0⟩) 55)
  have R0 := At.new2 w (.cells #[.slice A1 ps.length c1, .slice A2 ls.length c2] 25) (.cells (ptA p) 55) (ptA ⟨0, 0⟩) 55
  have b0 : Below w.heap.size w (((w.alloc (.cells #[.slice A1 ps.length c1, .slice A2 ls.length c2] 25)).alloc (.cells (ptA p) 55)).alloc (.cells (ptA ⟨0, 0⟩) 55)) := (((Below.refl _ w).alloc (Nat.le_refl _) _).alloc (by simp) _).alloc (by simp; omega) _
  have HZ := Lib.hid (z2.belows b0)
  clear z2
  obtain ⟨d, q⟩ := p
  obtain ⟨w0, hw0⟩ : ∃ w0, w0 = (((w.alloc (.cells #[.slice A1 ps.length c1, .slice A2 ls.length c2] 25)).alloc (.cells #[.int .i64 d, .int .i64 q] 55)).alloc (.cells #[.int .i64 0, .int .i64 0] 55)) := ⟨_, rfl⟩
  rw [show ptA ⟨d, q⟩ = #[.int .i64 d, .int .i64 q] from rfl, show ptA ⟨0, 0⟩ = #[.int .i64 0, .int .i64 0] from rfl] at D0 P0 R0 b0 HZ
  rw [← hw0] at D0 P0 R0 b0 HZ
  unfold ptA
  dsimp only
  clear hpA
  go_enter Tryz.func65, Tryz.ntmps65
  go_wp2
  rw [← hw0]
  clear hw0
  have x0 := (D0.cell 0).trans rfl
  have x1 := (D0.cell 1).trans rfl
  have p0 := (P0.cell 0).trans rfl
  have p1 := (P0.cell 1).trans rfl
  go_loopw [6] (fun i wr => ∃ k : Nat, i = .int .i64 k ∧ k ≤ ls.length ∧ Hid (V = nextT (ls.drop k) ⟨d, q⟩) ∧ ∃ n, wr = w0.drewN n) (fun i _ => ls.length - (intOf i).toNat)
  case atStart => exact ⟨0, rfl, by omega, HV, 0, rfl⟩
  case round =>
    obtain ⟨k, rfl, hk, HK, nd, rfl⟩ := hrel
    by_cases hlt : k < ls.length
    · obtain ⟨g, o, e, hg, hc⟩ := HZ.out.at k hlt
      subst e
      have r0 := hc 0 (by decide); have r1 := hc 1 (by decide); have r2 := hc 2 (by decide); have r3 := hc 3 (by decide)
      have HD : Hid (ls.drop k = ls[k] :: ls.drop (k + 1)) := Lib.hid (List.drop_eq_getElem_cons hlt)
      have q1 := eql_pt ls[k].a ⟨d, q⟩
      have q2 := eql_pt ls[k].b ⟨d, q⟩
      have HA : Hid (ls[k].a = ⟨d, q⟩ → V = some ls[k].b) := Lib.hid fun e => by rw [HK.out, HD.out]; unfold nextT; rw [if_pos e]
      have HB : Hid (ls[k].a ≠ ⟨d, q⟩ → ls[k].b = ⟨d, q⟩ → V = some ls[k].a) := Lib.hid fun e e' => by rw [HK.out, HD.out]; unfold nextT; rw [if_neg e, if_pos e']
      have HC : Hid (ls[k].a ≠ ⟨d, q⟩ → ls[k].b ≠ ⟨d, q⟩ → V = nextT (ls.drop (k + 1)) ⟨d, q⟩) := Lib.hid fun e e' => by rw [HK.out, HD.out]; show (if _ then _ else if _ then _ else _) = _; rw [if_neg e, if_neg e']
      clear HD hc
      generalize ls[k] = l at r0 r1 r2 r3 q1 q2 HA HB HC
      obtain ⟨⟨ad, ap⟩, ⟨bd, bp⟩⟩ := l
      simp only [lkA, Nat.add_zero] at r0 r1 r2 r3
      dsimp only at q1 q2 HA HB HC
      have i0 : (0 : Int) ≤ (k : Int) := by omega
      have i1 : (k : Int) < (ls.length : Int) := by omega
      by_cases h1 : (⟨ad, ap⟩ : Pt) = ⟨d, q⟩
      · have HV2 := Lib.hid (HA.out h1)
        rw [decide_eq_true h1] at q1
        unfold ptA at q1
        dsimp only at q1
        clear HA HB HC h1 q2 HK
        go_wp2_with fail
        go_quiet (fail)
        have y0 := (R0.cell 0).trans rfl; have y1 := (R0.cell 1).trans rfl; have z0 := R0.frozen 0; have z1 := R0.frozen 1
        go_wp2
        have Z := fun n : Nat => ((R0.drewN n).set0 0 (.int .i64 bd)).set0 1 (.int .i64 bp)
        have Y0 := fun n : Nat => (Z n).cell 0
        have Y1 := fun n : Nat => (Z n).cell 1
        refine bodyPost_ret (v := .tuple #[.agg #[.int .i64 bd, .int .i64 bp], .bool true]) ?_ rfl ⟨by rw [HV2.out]; rfl, ((bdrewN b0 _).setCell (p := ⟨w.heap.size + 1 + 1, 0, none⟩) (by show w.heap.size ≤ w.heap.size + 1 + 1; omega) _).setCell (p := ⟨w.heap.size + 1 + 1, 1, none⟩) (by show w.heap.size ≤ w.heap.size + 1 + 1; omega) _⟩
        simp at Y0 Y1
        simp [results, Tryz.results65, go_sem, Y0, Y1]
      · rw [decide_eq_false h1] at q1
        unfold ptA at q1 
        dsimp only at q1
        by_cases h2 : (⟨bd, bp⟩ : Pt) = ⟨d, q⟩
        · have HV2 := Lib.hid (HB.out h1 h2)
          rw [decide_eq_true h2] at q2
          unfold ptA at q2
          dsimp only at q2
          clear HA HB HC h1 h2 HK
          go_wp2_with fail
          go_quiet (fail)
          go_wp2_with fail
          go_quiet (fail)
          have y0 := (R0.cell 0).trans rfl; have y1 := (R0.cell 1).trans rfl; have z0 := R0.frozen 0; have z1 := R0.frozen 1
          go_wp2
          have Z := fun n : Nat => ((R0.drewN n).set0 0 (.int .i64 ad)).set0 1 (.int .i64 ap)
          have Y0 := fun n : Nat => (Z n).cell 0
          have Y1 := fun n : Nat => (Z n).cell 1
          refine bodyPost_ret (v := .tuple #[.agg #[.int .i64 ad, .int .i64 ap], .bool true]) ?_ rfl ⟨by rw [HV2.out]; rfl, ((bdrewN b0 _).setCell (p := ⟨w.heap.size + 1 + 1, 0, none⟩) (by show w.heap.size ≤ w.heap.size + 1 + 1; omega) _).setCell (p := ⟨w.heap.size + 1 + 1, 1, none⟩) (by show w.heap.size ≤ w.heap.size + 1 + 1; omega) _⟩
          simp at Y0 Y1
          simp [results, Tryz.results65, go_sem, Y0, Y1]
        · have HV2 := Lib.hid (HC.out h1 h2)
          rw [decide_eq_false h2] at q2
          unfold ptA at q2
          dsimp only at q2
          clear HA HB HC h1 h2 HK
          go_wp2_with fail
          go_quiet (fail)
          go_wp2_with fail
          go_quiet (fail)
          go_wp2
          go_roundw
          case rel => exact ⟨k + 1, by go_num, by omega, HV2, _, rfl⟩
          case measure => simp [intOf]; omega
    · have HV2 : Hid (V = none) := Lib.hid (by rw [HK.out, List.drop_eq_nil_of_le (by omega)]; rfl)
      have hki : ¬ (k : Int) < (ls.length : Int) := by omega
      clear HK
      have y0 := (R0.cell 0).trans rfl; have y1 := (R0.cell 1).trans rfl; have z0 := R0.frozen 0; have z1 := R0.frozen 1
      go_wp2
      have Z := fun n : Nat => ((R0.drewN n).set0 0 (.int .i64 0)).set0 1 (.int .i64 0)
      have Y0 := fun n : Nat => (Z n).cell 0
      have Y1 := fun n : Nat => (Z n).cell 1
      refine bodyPost_ret (v := .tuple #[.agg #[.int .i64 0, .int .i64 0], .bool false]) ?_ rfl ⟨by rw [HV2.out]; rfl, ((bdrewN b0 _).setCell (p := ⟨w.heap.size + 1 + 1, 0, none⟩) (by show w.heap.size ≤ w.heap.size + 1 + 1; omega) _).setCell (p := ⟨w.heap.size + 1 + 1, 1, none⟩) (by show w.heap.size ≤ w.heap.size + 1 + 1; omega) _⟩
      simp at Y0 Y1
      simp [results, Tryz.results65, go_sem, Y0, Y1]
end Go.Proofs.YteboadppighplaaGreat
/- Contracts: the document's Fits, SamePorts, Same; fits of the laws. -/
namespace Go.Proofs.YteboadppighplaaGreat
open Go.RowKit Go.Shelf

/-- Do rules fit, as the document asks? -/
def fitsT (ps : List Int) (L : List Ru) : Bool := L.all fun r => hasT ps ⟨r.dv, r.pt⟩
set_option maxRecDepth 100000 in
set_option maxHeartbeats 2000000 in
/-- The document's Fits. -/
theorem rfits_any {vp vl vr : Value} (ps : List Int) (ls : List Lk) (L : List Ru) (w : World) (h : IsT w vp vl ps ls) (hr : IsR w vr L) : Calls Tryz.prog 61 #[.agg #[vp, vl], vr] w fun e w' => e = .returned (.bool (fitsT ps L)) ∧ Below w.heap.size w w' := by
  have HT : Hid (∀ u, Below w.heap.size w u → IsT u vp vl ps ls) := Lib.hid fun u hu => h.belows hu
  obtain ⟨⟨A1, c1, rfl, n1, m1, _⟩, ⟨A2, c2, rfl, n2, m2, _⟩⟩ := h
  obtain ⟨A3, c3, rfl, n3, m3, z3⟩ := hr
  have hL : L.length ≤ 9223372036854775807 := Nat.le_trans n3 m3
  have HZ : Hid (∀ u, Below w.heap.size w u → Rs u A3 L) := Lib.hid fun u hu => z3.belows hu
  have D0 := At.new w #[.slice A1 ps.length c1, .slice A2 ls.length c2] 25
  have b0 : Below w.heap.size w (w.alloc (.cells #[.slice A1 ps.length c1, .slice A2 ls.length c2] 25)) := (Below.refl _ w).alloc (Nat.le_refl _) _
  obtain ⟨V, hV⟩ : ∃ V, V = fitsT ps L := ⟨_, rfl⟩
  rw [← hV]
  have HV := Lib.hid hV
  clear hV z3
  go_enter Tryz.func61, Tryz.ntmps61
  obtain ⟨w0, hw0⟩ : ∃ w0, w0 = w.alloc (.cells #[.slice A1 ps.length c1, .slice A2 ls.length c2] 25) := ⟨_, rfl⟩
  go_wp2
  rw [← hw0] at D0 b0 ⊢
  clear hw0
  go_loopw [5] (fun i wr => ∃ k : Nat, i = .int .i64 k ∧ k ≤ L.length ∧ Hid (∀ j (hj : j < L.length), j < k → hasT ps ⟨L[j].dv, L[j].pt⟩ = true) ∧ Below w0.heap.size w0 wr) (fun i _ => L.length - (intOf i).toNat)
  case atStart => exact ⟨0, rfl, by omega, Lib.hid (fun j _ hj => by omega), Below.refl _ _⟩
  case round =>
    obtain ⟨k, rfl, hk, HK, hb⟩ := hrel
    by_cases hlt : k < L.length
    · have hbw := b0.trans (hb.mono b0.size)
      obtain ⟨g1, o1, e1, hg, r0, r1, r2, r3, r4, r5, r6⟩ := (HZ.out wr hbw).at k hlt
      subst e1
      have Dr := D0.belows hb
      have kc : ∀ x : Sub wr, Calls Tryz.prog 79 #[.agg #[.slice A1 ps.length c1, .slice A2 ls.length c2], .agg #[.int .i64 L[k].dv, .int .i64 L[k].pt]] x.u fun e w' => e = .returned (.bool (hasT ps ⟨L[k].dv, L[k].pt⟩)) ∧ Below x.u.heap.size x.u w' := fun x => rhas_any ps ls ⟨L[k].dv, L[k].pt⟩ x.u (HT.out _ (hbw.trans (x.h.mono hbw.size)))
      have HX : Hid (hasT ps ⟨L[k].dv, L[k].pt⟩ = true → ∀ j (h1 : j < L.length), j < k + 1 → hasT ps ⟨L[j].dv, L[j].pt⟩ = true) := Lib.hid fun e j h1 hj => by
        by_cases hjk : j = k
        · subst hjk; exact e
        · exact HK.out j h1 (by omega)
      have HY : Hid (hasT ps ⟨L[k].dv, L[k].pt⟩ = false → V = false) := Lib.hid fun e => by
        rw [HV.out, fitsT, List.all_eq_false]
        exact ⟨L[k], List.getElem_mem hlt, by rw [e]; simp⟩
      generalize L[k] = r at r0 r1 r2 r3 r4 r5 r6 kc HX HY
      obtain ⟨id, dv, pr, kd, f, t, pt⟩ := r
      dsimp only at r0 r1 r2 r3 r4 r5 r6 kc HX HY
      have s1 : ∀ x : Sub wr, x.u.cell? ⟨g1, o1 + k * 7 + 1, none⟩ = some (.int .i64 dv) := fun x => (x.h.cell (p := ⟨g1, _, none⟩) hg).trans r1
      have s6 : ∀ x : Sub wr, x.u.cell? ⟨g1, o1 + k * 7 + 6, none⟩ = some (.int .i64 pt) := fun x => (x.h.cell (p := ⟨g1, _, none⟩) hg).trans r6
      have x0 : ∀ x : Sub wr, x.u.cell? ⟨w.heap.size, 0, none⟩ = some (.slice A1 ps.length c1) := fun x => ((Dr.belows x.h).cell 0).trans rfl
      have x1 : ∀ x : Sub wr, x.u.cell? ⟨w.heap.size, 1, none⟩ = some (.slice A2 ls.length c2) := fun x => ((Dr.belows x.h).cell 1).trans rfl
      have i0 : (0 : Int) ≤ (k : Int) := by omega
      have i1 : (k : Int) < (L.length : Int) := by omega
      generalize hasT ps ⟨dv, pt⟩ = q at kc HX HY
      clear r0 r1 r2 r3 r4 r5 r6 HK
      go_upto_region 4 with (fail)
      refine wp_region_cls (by kernel_rfl) (by kernel_rfl) ?_
      repeat (go_big_quiet_step ((go_at_call 79; exact Calls.cls_of (kc _))))
      refine wpQuiet_nil ?_
      rintro w7 ⟨x7, hx⟩
      have b7 := x7.h
      rw [← hx] at b7
      clear hx x7 s1 s6 x0 x1 kc
      cases q with
      | true =>
        have HN := Lib.hid (HX.out rfl)
        clear HX HY
        go_wp2
        go_roundw
        case rel => exact ⟨k + 1, by go_num, by omega, HN, hb.trans (b7.mono hb.size)⟩
        case measure => simp [intOf]; omega
      | false =>
        have HN := Lib.hid (HY.out rfl)
        clear HX HY
        go_wp2
        go_ret
        exact ⟨by rw [HN.out]; rfl, hbw.trans (b7.mono hbw.size)⟩
    · have HN : Hid (V = true) := Lib.hid (by
        rw [HV.out, fitsT, List.all_eq_true]
        intro r hr
        obtain ⟨j, hj, rfl⟩ := List.getElem_of_mem hr
        exact HK.out j hj (by omega))
      have hki : ¬ (k : Int) < (L.length : Int) := by omega
      clear HK
      go_wp2
      go_ret
      exact ⟨by rw [HN.out]; rfl, b0.trans (hb.mono b0.size)⟩
end Go.Proofs.YteboadppighplaaGreat
/- Contracts: the document's Right. -/
namespace Go.Proofs.YteboadppighplaaGreat
open Go.RowKit Go.Shelf

section
variable {α : Type} {n : Nat} {f : α → Array Value}
/-- Append of new elements onto a row of one's own, nil or not, as a step of a region that draws. -/
theorem step_app_new {P : Program} {T e : TypeId} {z : Value} {by' : Nat} (hf : ∀ r, (f r).size = n) (h1 : ∀ r, ∀ u ∈ (f r).toList, u.oneCell' = true) (ht : P.underlying T = some (.slice e)) (hinfo : (P.info? e).map (fun i => (i.zero, i.size, i.bytes)) = some (some z, n, by')) (hzs : z.cells.size = n) (hn : 0 < n)
    {ops : Array Oper} {o : Oper} {a : Act} {w : World} {K : Act → World → Prop} {Q : Exit → Act → World → Prop} {E : Prop} (hgd : o.guard = none) (s x : Operand)
    (ho : o.op = .call { callee := .builtin .append, args := #[s, x], argTypes := #[T, T] })
    (base : Nat) (v : Value) (L : List α) (hs : a.eval s = v) (hrow : w.ownsRow base e n v L.length (fcs f L)) (ad : Addr) (c : Nat) (M : List α) (hx : a.eval x = .slice (some ad) M.length c) (hM : ∀ j u, (fcs f M)[j]? = some u → w.cell? (ad.add j) = some u)
    (hlen : L.length + M.length ≤ maxLen) (hby : (L.length + M.length) * by' ≤ 140737488355328) (hbase : base ≤ w.heap.size)
    (h : ∀ v' w', w'.ownsRow base e n v' (L ++ M).length (fcs f (L ++ M)) → Below base w w' → K (a.put o.dst v') w') : if Region.wanted o (yielded ops a.tmps) = true then Oper.wp P o a w K Q else E := by
  obtain ⟨i0, hi, hz0, hz1, hz2⟩ := info_parts hinfo
  rw [if_pos (by simp [Region.wanted, hgd])]
  refine wp_append_own w s x T ho base e i0 z n by' ht hi hz0 hz1 hz2 hzs hn _ _ _ hs hrow ad M.length c (fcs f M) hx (fcs_length hf M) hM (fcs_one h1 M) hlen hby hbase ?_
  intro v' w' g1 g2 _
  exact h v' w' (by rw [fcs_append, List.length_append]; exact g1) ((Below.refl _ _).grown g2 hbase (fun k hk => (hrow.lt k hk).1))
end
theorem ends_take (ls : List Lk) (k : Nat) (hk : k < ls.length) : ends (ls.take (k + 1)) = ends (ls.take k) ++ [ls[k].a, ls[k].b] := by
  rw [List.take_succ_eq_append_getElem hk, ends_append]; rfl
theorem right_no1 {ps : List Int} {ls : List Lk} (h : ¬ (1 ≤ ps.length ∧ ps.length ≤ 8 ∧ ls.length ≤ 16)) : rightT ps ls = false := by
  cases hr : rightT ps ls with
  | false => rfl
  | true => have := (rightT_iff _ _).1 hr; exact absurd ⟨this.n1, this.n8, this.l16⟩ h
theorem right_no2 {ps : List Int} {ls : List Lk} (k : Nat) (hk : k < ps.length) (h : ¬ (1 ≤ ps[k] ∧ ps[k] ≤ 4)) : rightT ps ls = false := by
  cases hr : rightT ps ls with
  | false => rfl
  | true => have := (rightT_iff _ _).1 hr; exact absurd (this.ports _ (List.getElem_mem hk)) h
theorem right_no3 {ps : List Int} {ls : List Lk} (k : Nat) (hk : k < (ends ls).length) (h : hasT ps (ends ls)[k] = false) : rightT ps ls = false := by
  cases hr : rightT ps ls with
  | false => rfl
  | true => have := ((rightT_iff _ _).1 hr).has _ (List.getElem_mem hk); rw [h] at this; cases this
theorem right_no4 {ps : List Int} {ls : List Lk} (i k : Nat) (hi : i < (ends ls).length) (hk : k < i) (h : (ends ls)[k]'(by omega) = (ends ls)[i]) : rightT ps ls = false := by
  cases hr : rightT ps ls with
  | false => rfl
  | true =>
    have := ((rightT_iff _ _).1 hr).nodup
    exact absurd h (List.pairwise_iff_getElem.1 this k i (by omega) hi hk)
theorem right_yes {ps : List Int} {ls : List Lk} (h1 : 1 ≤ ps.length) (h2 : ps.length ≤ 8) (h3 : ls.length ≤ 16) (hp : ∀ k (hk : k < ps.length), 1 ≤ ps[k] ∧ ps[k] ≤ 4)
    (hh : ∀ k (hk : k < (ends ls).length), hasT ps (ends ls)[k] = true) (hn : ∀ i k (hi : i < (ends ls).length) (hk : k < i), (ends ls)[k]'(by omega) ≠ (ends ls)[i]) : rightT ps ls = true := by
  rw [rightT_iff]
  refine ⟨h1, h2, h3, fun x hx => ?_, fun p hp' => ?_, ?_⟩
  · obtain ⟨k, hk, rfl⟩ := List.getElem_of_mem hx; exact hp k hk
  · obtain ⟨k, hk, rfl⟩ := List.getElem_of_mem hp'; exact hh k hk
  · rw [List.Nodup, List.pairwise_iff_getElem]
    exact fun i j hi hj hij => hn j i hj hij
set_option maxRecDepth 100000 in
set_option maxHeartbeats 4000000 in
/-- The document's Right. -/
theorem rrightT_any {vp vl : Value} (ps : List Int) (ls : List Lk) (w : World) (h : IsT w vp vl ps ls) : Calls Tryz.prog 59 #[.agg #[vp, vl]] w fun e w' => e = .returned (.bool (rightT ps ls)) ∧ Below w.heap.size w w' := by
  have HT : Hid (∀ u, Below w.heap.size w u → IsT u vp vl ps ls) := Lib.hid fun u hu => h.belows hu
  obtain ⟨⟨A1, c1, rfl, n1, m1, z1⟩, ⟨A2, c2, rfl, n2, m2, z2⟩⟩ := h
  have hM : ps.length ≤ 9223372036854775807 := Nat.le_trans n1 m1
  have hL : ls.length ≤ 9223372036854775807 := Nat.le_trans n2 m2
  have D0 := At.new w #[.slice A1 ps.length c1, .slice A2 ls.length c2] 25
  have b0 : Below w.heap.size w (w.alloc (.cells #[.slice A1 ps.length c1, .slice A2 ls.length c2] 25)) := (Below.refl _ w).alloc (Nat.le_refl _) _
  have H1 := Lib.hid (z1.belows b0)
  have H2 := Lib.hid (z2.belows b0)
  obtain ⟨V, hV⟩ : ∃ V, V = rightT ps ls := ⟨_, rfl⟩
  rw [← hV]
  have HV := Lib.hid hV
  clear z1 z2 hV n1 n2 m1 m2
  go_enter Tryz.func59, Tryz.ntmps59
  obtain ⟨w0, hw0⟩ : ∃ w0, w0 = w.alloc (.cells #[.slice A1 ps.length c1, .slice A2 ls.length c2] 25) := ⟨_, rfl⟩
  rw [← hw0] at D0 b0 H1 H2
  have x0 := (D0.cell 0).trans rfl
  have x1 := (D0.cell 1).trans rfl
  have x1lt : w.heap.size < w0.heap.size := by rw [hw0]; simp
  go_upto_region 1 with (fail)
  rw [← hw0]
  clear hw0
  by_cases h1 : ps.length < 1
  · have hf := HV.out.trans (right_no1 (ps := ps) (ls := ls) (by omega))
    subst hf
    have e1 : decide ((ps.length : Int) < 1) = true := decide_eq_true (by omega)
    have e1n : decide (ps.length < 1) = true := decide_eq_true (by omega)
    have e0 : ps = [] := by cases ps with
      | nil => rfl
      | cons x l => simp at h1
    subst e0
    clear h1 e1 e1n
    go_wp2
    go_ret
    exact ⟨rfl, b0⟩
  have e1 : decide ((ps.length : Int) < 1) = false := decide_eq_false (by omega)
  have e1n : decide (ps.length < 1) = false := decide_eq_false (by omega)
  have hne : ps ≠ [] := fun e => by rw [e] at h1; simp at h1
  by_cases h2 : 8 < ps.length
  · have hf := HV.out.trans (right_no1 (ps := ps) (ls := ls) (by omega))
    subst hf
    have e2 : decide ((8 : Int) < (ps.length : Int)) = true := by simp; omega
    clear h1
    go_wp2
    go_ret
    exact ⟨rfl, b0⟩
  have e2 : decide ((8 : Int) < (ps.length : Int)) = false := by simp; omega
  by_cases h3 : 16 < ls.length
  · have hf := HV.out.trans (right_no1 (ps := ps) (ls := ls) (by omega))
    subst hf
    have e3 : decide ((16 : Int) < (ls.length : Int)) = true := by simp; omega
    clear h1
    go_wp2
    go_ret
    exact ⟨rfl, b0⟩
  have e3 : decide ((16 : Int) < (ls.length : Int)) = false := by simp; omega
  have h16 : ls.length ≤ 16 := by omega
  have hn1 : 1 ≤ ps.length := by omega
  have hn8 : ps.length ≤ 8 := by omega
  clear h1 h2 h3
  go_wp2
  go_loopw [3] (fun i wr => ∃ k : Nat, i = .int .i64 k ∧ k ≤ ps.length ∧ Hid (∀ j (hj : j < ps.length), j < k → 1 ≤ ps[j] ∧ ps[j] ≤ 4) ∧ wr = w0) (fun i _ => ps.length - (intOf i).toNat)
  case atStart => exact ⟨0, rfl, by omega, Lib.hid (fun j _ hj => by omega), rfl⟩
  case round =>
    obtain ⟨k, rfl, hk, HK, rfl⟩ := hrel
    by_cases hlt : k < ps.length
    · obtain ⟨g, o, f1, _, r⟩ := H1.out.at k hlt
      subst f1
      have r0 : wr.cell? ⟨g, o + k, none⟩ = some (.int .i64 ps[k]) := by have := r 0 (by decide); simpa [intA] using this
      have HX : Hid ((1 ≤ ps[k] ∧ ps[k] ≤ 4) → ∀ j (hj : j < ps.length), j < k + 1 → 1 ≤ ps[j] ∧ ps[j] ≤ 4) := Lib.hid fun e j hj hjk => by
        by_cases hjk' : j = k
        · subst hjk'; exact e
        · exact HK.out j hj (by omega)
      have HY : Hid (¬ (1 ≤ ps[k] ∧ ps[k] ≤ 4) → V = false) := Lib.hid fun e => HV.out.trans (right_no2 k hlt e)
      clear r
      generalize ps[k] = x at r0 HX HY
      have i0 : (0 : Int) ≤ (k : Int) := by omega
      have i1 : (k : Int) < (ps.length : Int) := by omega
      by_cases hx1 : x < 1
      · have hf := HY.out (by omega)
        subst hf
        have d1 : decide (x < 1) = true := decide_eq_true hx1
        clear HX HY hx1
        go_wp2
        go_ret
        exact ⟨rfl, b0⟩
      · have d1 : decide (x < 1) = false := decide_eq_false hx1
        by_cases hx4 : 4 < x
        · have hf := HY.out (by omega)
          subst hf
          have d4 : decide (4 < x) = true := decide_eq_true hx4
          clear HX HY hx1 hx4
          go_wp2
          go_ret
          exact ⟨rfl, b0⟩
        · have d4 : decide (4 < x) = false := decide_eq_false hx4
          have HN := Lib.hid (HX.out (by omega))
          clear HX HY hx1 hx4
          go_wp2
          go_roundw
          case rel => exact ⟨k + 1, by go_num, by omega, HN, (by first | rfl | trivial)⟩
          case measure => simp [intOf]; omega
    · have hki : ¬ (k : Int) < (ps.length : Int) := by omega
      have HPO : Hid (∀ j (hj : j < ps.length), 1 ≤ ps[j] ∧ ps[j] ≤ 4) := Lib.hid fun j hj => HK.out j hj (by omega)
      clear HK
      obtain ⟨w1, rfl⟩ : ∃ w1, w1 = wr := ⟨_, rfl⟩
      go_wp2
      go_loopw [4, 5] (fun out i wr => ∃ j : Nat, i = .int .i64 j ∧ j ≤ ls.length ∧ Hid (wr.ownsRow w1.heap.size 55 2 out (ends (ls.take j)).length (fcs ptA (ends (ls.take j))) ∧ Below w1.heap.size w1 wr)) (fun _ i => fun _ => ls.length - (intOf i).toNat)
      case atStart => exact ⟨0, rfl, by omega, Lib.hid ⟨⟨by simp [ends, fcs], .inl ⟨rfl, by simp [ends]⟩⟩, Below.refl _ _⟩⟩
      case round =>
        obtain ⟨j, rfl, hj, HJ⟩ := hrel
        obtain ⟨hrow, hb⟩ := HJ.out
        have Dq := D0.belows hb
        have y0 := (Dq.cell 0).trans rfl
        have y1 := (Dq.cell 1).trans rfl
        clear HJ
        by_cases hjl : j < ls.length
        · obtain ⟨g, o, f1, hg, r⟩ := H2.out.at j hjl
          subst f1
          have HE := Lib.hid (ends_take ls j hjl)
          have r0 := (hb.cell (p := ⟨g, o + j * 4 + 0, none⟩) hg).trans (r 0 (by decide))
          have r1 := (hb.cell (p := ⟨g, o + j * 4 + 1, none⟩) hg).trans (r 1 (by decide))
          have r2 := (hb.cell (p := ⟨g, o + j * 4 + 2, none⟩) hg).trans (r 2 (by decide))
          have r3 := (hb.cell (p := ⟨g, o + j * 4 + 3, none⟩) hg).trans (r 3 (by decide))
          have hwlt : w.heap.size < w1.heap.size := x1lt
          have hle : (ends (ls.take j)).length ≤ 32 := by
            have h1 := ends_length (ls.take j)
            have h2 : (ls.take j).length ≤ j := List.length_take_le _ _
            omega
          clear r
          generalize ls[j] = l at r0 r1 r2 r3 HE
          generalize hfl : ends (ls.take j) = fl at hrow HE hle
          clear hfl
          obtain ⟨⟨a, b⟩, ⟨c, d⟩⟩ := l
          simp only [lkA, Nat.add_zero] at r0 r1 r2 r3
          dsimp only at HE
          have i0 : (0 : Int) ≤ (j : Int) := by omega
          have i1 : (j : Int) < (ls.length : Int) := by omega
          have HRW := Lib.hid hrow
          have HBB := Lib.hid hb
          clear hrow
          go_wp2_with fail
          go_region_held3 (fun W => W.cell? ⟨g, o + j * 4, none⟩ = some (.int .i64 a) ∧ W.cell? ⟨g, o + j * 4 + 1, none⟩ = some (.int .i64 b) ∧ W.cell? ⟨g, o + j * 4 + 2, none⟩ = some (.int .i64 c) ∧ W.cell? ⟨g, o + j * 4 + 3, none⟩ = some (.int .i64 d) ∧ W.cell? ⟨w.heap.size, 1, none⟩ = some (.slice (some ⟨g, o, none⟩) ls.length c2)) (first | go_keep)
            ((refine step_app_new ptA_size ptA_one Tryz.underlying127 infoPt rfl (by decide) rfl (.tmp 53) (.tmp 66) rfl w1.heap.size u4 fl (by simp [Act.eval]) (HRW.out.alloc _) ⟨wr.heap.size, 0, none⟩ 2 [⟨a, b⟩, ⟨c, d⟩] (by simp [Act.eval]) (by first | exact f_new ptA_size wr [(⟨a, b⟩ : Pt), ⟨c, d⟩] #[.int .i64 a, .int .i64 b, .int .i64 c, .int .i64 d] 55 rfl | exact f_new ptA_size wr.drew [(⟨a, b⟩ : Pt), ⟨c, d⟩] #[.int .i64 a, .int .i64 b, .int .i64 c, .int .i64 d] 55 rfl) (by simp only [maxLen, List.length_cons, List.length_nil]; omega) (by simp only [List.length_cons, List.length_nil]; omega) (by have := HBB.out.size; simp; omega) ?_; intro v' w5 hown' b5; have c5 : Below w1.heap.size wr w5 := Below.trans (by first | exact ((Below.refl w1.heap.size wr).alloc HBB.out.size _).drew | exact (Below.refl w1.heap.size wr).drew.alloc HBB.out.size _ | exact (Below.refl w1.heap.size wr).alloc HBB.out.size _) b5; have z0 := (c5.cell (p := ⟨g, _, none⟩) hg).trans r0; have z1 := (c5.cell (p := ⟨g, _, none⟩) hg).trans r1; have z2 := (c5.cell (p := ⟨g, _, none⟩) hg).trans r2; have z3 := (c5.cell (p := ⟨g, _, none⟩) hg).trans r3; have z4 := (c5.cell (p := ⟨w.heap.size, 1, none⟩) hwlt).trans y1))
          rename_i hHeld
          clear hHeld
          go_wp2
          go_roundw
          case rel => exact ⟨j + 1, by go_num, by omega, Lib.hid ⟨by rw [HE.out]; exact hown', HBB.out.trans c5⟩⟩
          case measure => simp [intOf]; omega
        · have hji : ¬ (j : Int) < (ls.length : Int) := by omega
          obtain rfl : j = ls.length := by omega
          rw [List.take_length] at hrow
          have hE := isF_of_row ptA_size hrow
          have hlen : (ends ls).length ≤ 32 := by have := ends_length ls; omega
          clear hrow
          obtain ⟨E, hEE⟩ : ∃ E, E = ends ls := ⟨_, rfl⟩
          rw [← hEE] at hE hlen
          obtain ⟨A9, c9, rfl, n9, m9, z9⟩ := hE
          have HZ9 : Hid (∀ u, Below wr.heap.size wr u → Fs 2 ptA u A9 E) := Lib.hid fun u hu => z9.belows hu
          have HN3 : Hid (∀ k (hk : k < E.length), hasT ps E[k] = false → V = false) := Lib.hid (by subst hEE; exact fun k hk e => HV.out.trans (right_no3 k hk e))
          have HN4 : Hid (∀ i k (hi : i < E.length) (hk : k < i), E[k]'(by omega) = E[i] → V = false) := Lib.hid (by subst hEE; exact fun i k hi hk e => HV.out.trans (right_no4 i k hi hk e))
          have HY5 : Hid ((∀ k (hk : k < E.length), hasT ps E[k] = true) → (∀ i k (hi : i < E.length) (hk : k < i), E[k]'(by omega) ≠ E[i]) → V = true) := Lib.hid (by subst hEE; exact fun e1 e2 => HV.out.trans (right_yes hn1 hn8 h16 HPO.out e1 e2))
          clear hEE z9
          obtain ⟨w3, rfl⟩ : ∃ w3, w3 = wr := ⟨_, rfl⟩
          simp only [maxLen] at m9
          have hEl : E.length ≤ 9223372036854775807 := by omega
          go_wp2
          go_loopw [6] (fun i wr => ∃ k : Nat, i = .int .i64 k ∧ k ≤ E.length ∧ Hid ((∀ j (hj : j < E.length), j < k → hasT ps E[j] = true) ∧ (∀ i j (hi : i < E.length) (hj : j < i), i < k → E[j]'(by omega) ≠ E[i])) ∧ Below w3.heap.size w3 wr) (fun i _ => E.length - (intOf i).toNat)
          case atStart => exact ⟨0, rfl, by omega, Lib.hid ⟨fun j _ hj => by omega, fun i j _ _ hi => by omega⟩, Below.refl _ _⟩
          case round =>
            obtain ⟨k, rfl, hk, HK, hbk⟩ := hrel
            by_cases hkl : k < E.length
            · obtain ⟨g, o, f1, hg, r⟩ := (HZ9.out wr hbk).at k hkl
              subst f1
              have r0 := r 0 (by decide); have r1 := r 1 (by decide)
              have Dk := Dq.belows hbk
              have bw : Below w.heap.size w wr := (b0.trans (hb.mono b0.size)).trans (hbk.mono (Nat.le_trans b0.size hb.size))
              have kc : ∀ x : Sub wr, Calls Tryz.prog 79 #[.agg #[.slice A1 ps.length c1, .slice A2 ls.length c2], .agg (ptA E[k])] x.u fun e w' => e = .returned (.bool (hasT ps E[k])) ∧ Below x.u.heap.size x.u w' := fun x => rhas_any ps ls E[k] x.u (HT.out _ (bw.trans (x.h.mono bw.size)))
              have HX3 := Lib.hid (HN3.out k hkl)
              have HKa : Hid (hasT ps E[k] = true → ∀ j (hj : j < E.length), j < k + 1 → hasT ps E[j] = true) := Lib.hid fun e j hj hjk => by
                by_cases hjk' : j = k
                · subst hjk'; exact e
                · exact HK.out.1 j hj (by omega)
              have HP : Hid (∃ p, p = E[k]) := Lib.hid ⟨_, rfl⟩
              obtain ⟨p, hp⟩ := HP.out
              rw [← hp] at r0 r1 kc HX3 HKa
              have HPk : Hid (p = E[k]) := Lib.hid hp
              clear hp HP r
              obtain ⟨pd, pp⟩ := p
              simp only [ptA, Nat.add_zero] at r0 r1 kc
              have s0 : ∀ x : Sub wr, x.u.cell? ⟨g, o + k * 2, none⟩ = some (.int .i64 pd) := fun x => (x.h.cell (p := ⟨g, _, none⟩) hg).trans r0
              have s1 : ∀ x : Sub wr, x.u.cell? ⟨g, o + k * 2 + 1, none⟩ = some (.int .i64 pp) := fun x => (x.h.cell (p := ⟨g, _, none⟩) hg).trans r1
              have v0 : ∀ x : Sub wr, x.u.cell? ⟨w.heap.size, 0, none⟩ = some (.slice A1 ps.length c1) := fun x => ((Dk.belows x.h).cell 0).trans rfl
              have v1 : ∀ x : Sub wr, x.u.cell? ⟨w.heap.size, 1, none⟩ = some (.slice A2 ls.length c2) := fun x => ((Dk.belows x.h).cell 1).trans rfl
              have i0 : (0 : Int) ≤ (k : Int) := by omega
              have i1 : (k : Int) < (E.length : Int) := by omega
              generalize hasT ps ⟨pd, pp⟩ = q at kc HX3 HKa
              go_upto_region 16 with (fail)
              refine wp_region_cls (by kernel_rfl) (by kernel_rfl) ?_
              repeat (go_big_quiet_step ((go_at_call 79; exact Calls.cls_of (kc _))))
              refine wpQuiet_nil ?_
              rintro w7 ⟨x7, hx⟩
              have b7 := x7.h
              rw [← hx] at b7
              clear hx x7 s0 s1 v0 v1 kc
              have hb7 := hbk.trans (b7.mono hbk.size)
              have bw7 := bw.trans (b7.mono bw.size)
              cases q with
              | false =>
                have hf := HX3.out rfl
                subst hf
                clear HKa HX3
                go_wp2
                go_ret
                exact ⟨rfl, bw7⟩
              | true =>
                have HKb := Lib.hid (HKa.out rfl)
                clear HKa HX3 r0 r1 Dk bw b7
                go_wp2
                go_loopw [8] (fun i wr => ∃ m : Nat, i = .int .i64 m ∧ m ≤ k ∧ Hid (∀ j (hj : j < k), j < m → E[j]'(by omega) ≠ E[k]) ∧ ∃ n, wr = w7.drewN n) (fun i _ => k - (intOf i).toNat)
                case atStart => exact ⟨0, rfl, by omega, Lib.hid (fun j _ hj => by omega), 0, rfl⟩
                case round =>
                  obtain ⟨m, rfl, hm, HM, nd, rfl⟩ := hrel
                  by_cases hmk : m < k
                  · have hmE : m < E.length := by omega
                    obtain ⟨g', o', f1, hg', r⟩ := (HZ9.out w7 hb7).at k hkl
                    cases f1
                    obtain ⟨g'', o'', f1, _, r'⟩ := (HZ9.out w7 hb7).at m hmE
                    cases f1
                    have r0 := r 0 (by decide); have r1 := r 1 (by decide)
                    have t0 := r' 0 (by decide); have t1 := r' 1 (by decide)
                    have hq := eql_pt E[m] E[k]
                    have HN := Lib.hid (HN4.out k m hkl hmk)
                    have HMM : Hid (E[m] ≠ E[k] → ∀ j (hj : j < k), j < m + 1 → E[j]'(by omega) ≠ E[k]) := Lib.hid fun e j hj hjm => by
                      by_cases hjm' : j = m
                      · subst hjm'; exact e
                      · exact HM.out j hj (by omega)
                    clear r r'
                    generalize E[k] = x at r0 r1 hq HN HMM
                    generalize E[m] = y at t0 t1 hq HN HMM
                    have j0 : (0 : Int) ≤ (m : Int) := by omega
                    have j1 : (m : Int) < (E.length : Int) := by omega
                    have j2 : (m : Int) < (k : Int) := by omega
                    obtain ⟨xd, xp⟩ := x
                    obtain ⟨yd, yp⟩ := y
                    simp only [ptA, Nat.add_zero] at r0 r1 t0 t1 hq
                    by_cases he : (⟨yd, yp⟩ : Pt) = ⟨xd, xp⟩
                    · have hf := HN.out he
                      subst hf
                      rw [decide_eq_true he] at hq
                      clear HN HMM he
                      go_wp2_with fail
                      go_quiet (fail)
                      go_wp2
                      go_ret
                      exact ⟨rfl, bdrewN (bdrewN bw7 _) _⟩
                    · have HNN := Lib.hid (HMM.out he)
                      rw [decide_eq_false he] at hq
                      clear HN HMM he
                      go_wp2_with fail
                      go_quiet (fail)
                      go_wp2
                      go_roundw
                      case rel => exact ⟨m + 1, by go_num, by omega, HNN, nd + nq, rfl⟩
                      case measure => simp [intOf]; omega
                  · have hmi : ¬ (m : Int) < (k : Int) := by omega
                    have HKK : Hid (∀ i j (hi : i < E.length) (hj : j < i), i < k + 1 → E[j]'(by omega) ≠ E[i]) := Lib.hid fun i j hi hj hik => by
                      by_cases hik' : i = k
                      · subst hik'; exact HM.out j hj (by omega)
                      · exact HK.out.2 i j hi hj (by omega)
                    go_wp2
                    go_roundw
                    case rel => exact ⟨k + 1, by go_num, by omega, Lib.hid ⟨HKb.out, HKK.out⟩, bdrewN hb7 _⟩
                    case measure => simp [intOf]; omega
            · have hki : ¬ (k : Int) < (E.length : Int) := by omega
              have hf := HY5.out (fun j hj => HK.out.1 j hj (by omega)) (fun i j hi hj => HK.out.2 i j hi hj (by omega))
              subst hf
              have bw : Below w.heap.size w wr := (b0.trans (hb.mono b0.size)).trans (hbk.mono (Nat.le_trans b0.size hb.size))
              clear HK
              go_wp2
              go_ret
              exact ⟨rfl, bw⟩
end Go.Proofs.YteboadppighplaaGreat
/- Words: topologies whose numbers are of 64 bits. -/
namespace Go.Proofs.YteboadppighplaaGreat
open Go.RowKit Go.Shelf

/-- Numbers of 64 bits. -/
def isPt (p : Pt) : Prop := isI p.d ∧ isI p.p
structure TW (ps : List Int) (ls : List Lk) : Prop where
  nums : ∀ x ∈ ps, isI x
  links : ∀ l ∈ ls, isPt l.a ∧ isPt l.b
theorem TW.pt {ps : List Int} {ls : List Lk} (h : TW ps ls) {q : Pt} (hq : q ∈ ends ls) : isPt q := by
  obtain ⟨l, hl, rfl | rfl⟩ := mem_ends.1 hq
  · exact (h.links l hl).1
  · exact (h.links l hl).2
end Go.Proofs.YteboadppighplaaGreat
/- Words: networks in memory. The document's Right, Step. -/
namespace Go.Proofs.YteboadppighplaaGreat
open Go.RowKit Go.Shelf

/-- A network in memory. -/
def IsN (w : World) (vp vl vr : Value) (ps : List Int) (ls : List Lk) (L : List Ru) : Prop := IsT w vp vl ps ls ∧ IsR w vr L
theorem IsN.belows {w w' : World} {vp vl vr : Value} {ps : List Int} {ls : List Lk} {L : List Ru} (h : IsN w vp vl vr ps ls L) (hb : Below w.heap.size w w') : IsN w' vp vl vr ps ls L := ⟨h.1.belows hb, h.2.belows hb⟩
/-- Numbers of 64 bits, addresses of 32; no more rules than any argument may have. -/
structure NW (ps : List Int) (ls : List Lk) (L : List Ru) : Prop where
  topo : TW ps ls
  rules : ∀ r ∈ L, r.wf
  room : L.length ≤ 4000000000000
/-- Is it right? -/
def rightN (ps : List Int) (ls : List Lk) (L : List Ru) : Bool := rightT ps ls && (allB L && fitsT ps L)
/-- A right network. -/
structure RN (ps : List Int) (ls : List Lk) (L : List Ru) : Prop where
  topo : RT ps ls
  rules : allB L = true
  fits : fitsT ps L = true
theorem rightN_iff (ps : List Int) (ls : List Lk) (L : List Ru) : rightN ps ls L = true ↔ RN ps ls L := by
  simp only [rightN, Bool.and_eq_true, rightT_iff]
  exact ⟨fun ⟨h1, h2, h3⟩ => ⟨h1, h2, h3⟩, fun h => ⟨h.topo, h.rules, h.fits⟩⟩
set_option maxRecDepth 100000 in
set_option maxHeartbeats 1000000 in
/-- The document's Right. -/
theorem rrightN_any {vp vl vr : Value} (ps : List Int) (ls : List Lk) (L : List Ru) (w : World) (hW : NW ps ls L) (h : IsN w vp vl vr ps ls L) : Calls Tryz.prog 28 #[.agg #[vp, vl, vr]] w fun e w' => e = .returned (.bool (rightN ps ls L)) ∧ Below w.heap.size w w' := by
  have HN : Hid (∀ u, Below w.heap.size w u → IsN u vp vl vr ps ls L) := Lib.hid fun u hu => h.belows hu
  have HW := Lib.hid hW
  obtain ⟨⟨⟨A1, c1, rfl, _⟩, ⟨A2, c2, rfl, _⟩⟩, ⟨A3, c3, rfl, _⟩⟩ := h
  have D0 := At.new w #[.slice A1 ps.length c1, .slice A2 ls.length c2, .slice A3 L.length c3] 28
  have b0 : Below w.heap.size w (w.alloc (.cells #[.slice A1 ps.length c1, .slice A2 ls.length c2, .slice A3 L.length c3] 28)) := (Below.refl _ w).alloc (Nat.le_refl _) _
  obtain ⟨V, hV⟩ : ∃ V, V = rightN ps ls L := ⟨_, rfl⟩
  rw [← hV]
  have HV := Lib.hid hV
  clear hV hW
  go_enter Tryz.func28, Tryz.ntmps28
  go_upto_region 1 with (fail)
  obtain ⟨w0, hw0⟩ : ∃ w0, w0 = w.alloc (.cells #[.slice A1 ps.length c1, .slice A2 ls.length c2, .slice A3 L.length c3] 28) := ⟨_, rfl⟩
  rw [← hw0] at D0 b0 ⊢
  clear hw0
  have k1 := rrightT_any ps ls w0 (HN.out w0 b0).1
  have x0 := (D0.cell 0).trans rfl
  have x1 := (D0.cell 1).trans rfl
  go_wp2_with fail
  refine k1.mono ?_
  rintro e w1 ⟨rfl, b1⟩
  have bw1 := b0.trans (b1.mono b0.size)
  have D1 := D0.belows b1
  have k2 := rruall_any L w1 HW.out.rules (HN.out w1 bw1).2
  clear x0 x1 k1
  have x2 := (D1.cell 2).trans rfl
  go_wp2_with fail
  refine k2.mono ?_
  rintro e w2 ⟨rfl, b2⟩
  have bw2 := bw1.trans (b2.mono bw1.size)
  have D2 := D1.belows b2
  clear x2 k2
  have x0 := (D2.cell 0).trans rfl
  have x1 := (D2.cell 1).trans rfl
  have x2 := (D2.cell 2).trans rfl
  cases h1 : rightT ps ls with
  | false =>
    have HF : Hid (V = false) := Lib.hid (by rw [HV.out, rightN, h1]; rfl)
    clear h1
    go_wp2
    go_ret
    exact ⟨by rw [HF.out]; rfl, bw2⟩
  | true =>
    cases h2 : allB L with
    | false =>
      have HF : Hid (V = false) := Lib.hid (by rw [HV.out, rightN, h1, h2]; rfl)
      clear h1 h2
      go_wp2
      go_ret
      exact ⟨by rw [HF.out]; rfl, bw2⟩
    | true =>
      have HF : Hid (V = fitsT ps L) := Lib.hid (by rw [HV.out, rightN, h1, h2]; rfl)
      have k3 := rfits_any ps ls L w2 (HN.out w2 bw2).1 (HN.out w2 bw2).2
      clear h1 h2
      go_wp2_with fail
      refine k3.mono ?_
      rintro e w3 ⟨rfl, b3⟩
      go_wp2
      go_ret
      exact ⟨by rw [HF.out]; rfl, bw2.trans (b3.mono bw2.size)⟩
/-- What Step answers. -/
def stepV (x : Int × Pt) : Value := .tuple #[.int .i64 x.1, .agg (ptA x.2)]
set_option maxRecDepth 100000 in
set_option maxHeartbeats 2000000 in
/-- The document's Step, of a right network. -/
theorem rstep_any {vp vl vr : Value} (ps : List Int) (ls : List Lk) (L : List Ru) (d : Int) (a : Nat) (w : World) (hR : allB L = true) (h : IsN w vp vl vr ps ls L) : Calls Tryz.prog 64 #[.agg #[vp, vl, vr], .int .i64 d, .int .u32 a] w fun e w' => e = .returned (stepV (stepN ls L d a)) ∧ Below w.heap.size w w' := by
  have HN : Hid (∀ u, Below w.heap.size w u → IsN u vp vl vr ps ls L) := Lib.hid fun u hu => h.belows hu
  have HR := Lib.hid (rr_of hR)
  obtain ⟨⟨⟨A1, c1, rfl, _⟩, ⟨A2, c2, rfl, _⟩⟩, ⟨A3, c3, rfl, _⟩⟩ := h
  have D0 := (At.new w #[.slice A1 ps.length c1, .slice A2 ls.length c2, .slice A3 L.length c3] 28).alloc (.cells #[.int .i64 0, .int .i64 0] 55)
  have R0 := At.new1 w (.cells #[.slice A1 ps.length c1, .slice A2 ls.length c2, .slice A3 L.length c3] 28) #[.int .i64 0, .int .i64 0] 55
  have b0 : Below w.heap.size w ((w.alloc (.cells #[.slice A1 ps.length c1, .slice A2 ls.length c2, .slice A3 L.length c3] 28)).alloc (.cells #[.int .i64 0, .int .i64 0] 55)) := ((Below.refl _ w).alloc (Nat.le_refl _) _).alloc (by simp) _
  obtain ⟨V, hV⟩ : ∃ V, V = stepN ls L d a := ⟨_, rfl⟩
  rw [← hV]
  have HV := Lib.hid hV
  clear hV hR
  go_enter Tryz.func64, Tryz.ntmps64
  go_upto_region 1 with (fail)
  obtain ⟨w0, hw0⟩ : ∃ w0, w0 = ((w.alloc (.cells #[.slice A1 ps.length c1, .slice A2 ls.length c2, .slice A3 L.length c3] 28)).alloc (.cells #[.int .i64 0, .int .i64 0] 55)) := ⟨_, rfl⟩
  rw [← hw0] at D0 R0 b0 ⊢
  clear hw0
  have k1 := rdenies_any L d a w0 HR.out (HN.out w0 b0).2
  have x2 := (D0.cell 2).trans rfl
  rw [show ((firstL (tk d 2 3 a) L).isSome && decide (((firstL (tk d 2 3 a) L).getD ru0).kd = 3)) = denB L d a from rfl] at k1
  cases hd : denB L d a with
  | true =>
    have HF : Hid (V = (2, ⟨0, 0⟩)) := Lib.hid (HV.out.trans (stepN_den hd))
    rw [hd] at k1
    clear hd
    go_wp2_with (go_at_call 87; refine k1.mono ?_; rintro e w1 ⟨rfl, b1⟩; have R1 := R0.belows b1; have y0 := (R1.cell 0).trans rfl; have y1 := (R1.cell 1).trans rfl; have z0 := R1.frozen 0; have z1 := R1.frozen 1)
    have Z := (R1.set0 0 (.int .i64 0)).set0 1 (.int .i64 0)
    have Y0 := Z.cell 0
    have Y1 := Z.cell 1
    have bw1 := b0.trans (b1.mono b0.size)
    refine bodyPost_ret (v := .tuple #[.int .i64 2, .agg #[.int .i64 0, .int .i64 0]]) ?_ rfl ⟨by rw [HF.out]; rfl, (bw1.setCell (p := ⟨w.heap.size + 1, 0, none⟩) (by show w.heap.size ≤ w.heap.size + 1; omega) _).setCell (p := ⟨w.heap.size + 1, 1, none⟩) (by show w.heap.size ≤ w.heap.size + 1; omega) _⟩
    simp at Y0 Y1
    simp [results, Tryz.results64, go_sem, Y0, Y1]
  | false =>
    have HF : Hid (V = goP ls d (firstL (tk d 0 1 a) L)) := Lib.hid (HV.out.trans (stepN_go hd))
    rw [hd] at k1
    clear hd
    obtain ⟨o, ho⟩ : ∃ o, o = firstL (tk d 0 1 a) L := ⟨_, rfl⟩
    rw [← ho] at HF
    have HK2 : Hid (∀ u, Below w.heap.size w u → Calls Tryz.prog 88 #[.slice A3 L.length c3, .int .i64 d, .int .u32 a] u fun e w' => e = .returned (firstV o) ∧ Below u.heap.size u w') := Lib.hid fun u hu => by rw [ho]; exact rmatch_any L d a u HR.out (HN.out u hu).2
    clear ho
    cases o with
    | none =>
      have HF2 : Hid (V = (0, ⟨0, 0⟩)) := Lib.hid HF.out
      rw [show firstV none = .tuple #[.agg (ruA ru0), .bool false] from rfl, rd0] at HK2
      go_wp2_with (first
        | (go_at_call 87; refine k1.mono ?_; rintro e w1 ⟨rfl, b1⟩; have bw1 := b0.trans (b1.mono b0.size); have D1 := D0.belows b1; have R1 := R0.belows b1; have k2 := HK2.out w1 bw1; clear x2; have x2 := (D1.cell 2).trans rfl; have x0 := (D1.cell 0).trans rfl; have x1 := (D1.cell 1).trans rfl)
        | (go_at_call 88; refine k2.mono ?_; rintro e w2 ⟨rfl, b2⟩; have bw2 := bw1.trans (b2.mono bw1.size); have D2 := D1.belows b2; have R2 := R1.belows b2; have hs2 := R2.lt; have hs3 : w.heap.size < w2.heap.size := (by omega); have hs4 : w.heap.size < w2.heap.size + 1 := (by omega); have hs5 : w.heap.size + 1 < w2.heap.size + 1 := (by omega); have y0 := (R2.cell 0).trans rfl; have y1 := (R2.cell 1).trans rfl; have z0 := R2.frozen 0; have z1 := R2.frozen 1))
      have Z := (((R2.set0 0 (.int .i64 0)).set0 1 (.int .i64 0)).alloc (.cells #[.int .i64 0, .int .i64 0, .int .i64 0, .int .i64 0, .int .u32 0, .int .u32 0, .int .i64 0] 105))
      have Y0 := Z.cell 0
      have Y1 := Z.cell 1
      refine bodyPost_ret (v := .tuple #[.int .i64 0, .agg #[.int .i64 0, .int .i64 0]]) ?_ rfl ⟨by rw [HF2.out]; rfl, (((bw2.setCell (p := ⟨w.heap.size + 1, 0, none⟩) (by show w.heap.size ≤ w.heap.size + 1; omega) _).setCell (p := ⟨w.heap.size + 1, 1, none⟩) (by show w.heap.size ≤ w.heap.size + 1; omega) _).alloc (by have := bw2.size; simp; omega) _)⟩
      simp at Y0 Y1
      simp [results, Tryz.results64, go_sem, Y0, Y1]
    | some r =>
      obtain ⟨id, dv, pr, kd, rf, rt, pt⟩ := r
      rw [show firstV (some ⟨id, dv, pr, kd, rf, rt, pt⟩) = .tuple #[.agg #[.int .i64 id, .int .i64 dv, .int .i64 pr, .int .i64 kd, .int .u32 rf, .int .u32 rt, .int .i64 pt], .bool true] from rfl] at HK2
      by_cases hkd : kd = 1
      · have HF2 : Hid (V = (1, ⟨0, 0⟩)) := Lib.hid (HF.out.trans (goP_drop hkd))
        subst hkd
        go_wp2_with (first
          | (go_at_call 87; refine k1.mono ?_; rintro e w1 ⟨rfl, b1⟩; have bw1 := b0.trans (b1.mono b0.size); have D1 := D0.belows b1; have R1 := R0.belows b1; have k2 := HK2.out w1 bw1; clear x2; have x2 := (D1.cell 2).trans rfl; have x0 := (D1.cell 0).trans rfl; have x1 := (D1.cell 1).trans rfl)
          | (go_at_call 88; refine k2.mono ?_; rintro e w2 ⟨rfl, b2⟩; have bw2 := bw1.trans (b2.mono bw1.size); have D2 := D1.belows b2; have R2 := R1.belows b2; have hs2 := R2.lt; have hs3 : w.heap.size < w2.heap.size := (by omega); have hs4 : w.heap.size < w2.heap.size + 1 := (by omega); have hs5 : w.heap.size + 1 < w2.heap.size + 1 := (by omega); have y0 := (R2.cell 0).trans rfl; have y1 := (R2.cell 1).trans rfl; have z0 := R2.frozen 0; have z1 := R2.frozen 1))
        have Z := (((R2.set0 0 (.int .i64 0)).set0 1 (.int .i64 0)).alloc (.cells #[.int .i64 id, .int .i64 dv, .int .i64 pr, .int .i64 1, .int .u32 rf, .int .u32 rt, .int .i64 pt] 105))
        have Y0 := Z.cell 0
        have Y1 := Z.cell 1
        refine bodyPost_ret (v := .tuple #[.int .i64 1, .agg #[.int .i64 0, .int .i64 0]]) ?_ rfl ⟨by rw [HF2.out]; rfl, (((bw2.setCell (p := ⟨w.heap.size + 1, 0, none⟩) (by show w.heap.size ≤ w.heap.size + 1; omega) _).setCell (p := ⟨w.heap.size + 1, 1, none⟩) (by show w.heap.size ≤ w.heap.size + 1; omega) _).alloc (by have := bw2.size; simp; omega) _)⟩
        simp at Y0 Y1
        simp [results, Tryz.results64, go_sem, Y0, Y1]
      · have hk1 : (kd == 1) = false := by simp [hkd]
        have hk2 : decide (kd = 1) = false := by simp [hkd]
        have HNX : Hid (∀ u, Below w.heap.size w u → Calls Tryz.prog 65 #[.agg #[.slice A1 ps.length c1, .slice A2 ls.length c2], .agg #[.int .i64 d, .int .i64 pt]] u fun e w' => e = .returned (nextV (nextT ls ⟨d, pt⟩)) ∧ Below u.heap.size u w') := Lib.hid fun u hu => rnext_any ps ls ⟨d, pt⟩ u (HN.out u hu).1
        cases hn : nextT ls ⟨d, pt⟩ with
        | none =>
          have HF2 : Hid (V = (3, ⟨d, pt⟩)) := Lib.hid (HF.out.trans (goP_out hkd hn))
          rw [hn, show nextV none = .tuple #[.agg #[.int .i64 0, .int .i64 0], .bool false] from rfl] at HNX
          clear hn hkd HF
          go_upto_region 13 with (first
            | (go_at_call 87; refine k1.mono ?_; rintro e w1 ⟨rfl, b1⟩; have bw1 := b0.trans (b1.mono b0.size); have D1 := D0.belows b1; have R1 := R0.belows b1; have k2 := HK2.out w1 bw1; clear x2; have x2 := (D1.cell 2).trans rfl; have x0 := (D1.cell 0).trans rfl; have x1 := (D1.cell 1).trans rfl)
            | (go_at_call 88; refine k2.mono ?_; rintro e w2 ⟨rfl, b2⟩; have bw2 := bw1.trans (b2.mono bw1.size); have D2 := D1.belows b2; have R2 := R1.belows b2; have hs2 := R2.lt; have hs3 : w.heap.size < w2.heap.size := (by omega); have hs4 : w.heap.size < w2.heap.size + 1 := (by omega); have hs5 : w.heap.size + 1 < w2.heap.size + 1 := (by omega); have P4 := At.new1 w2 (.cells #[.int .i64 id, .int .i64 dv, .int .i64 pr, .int .i64 kd, .int .u32 rf, .int .u32 rt, .int .i64 pt] 105) #[.int .i64 d, .int .i64 pt] 55; have R4 := (R2.alloc (.cells #[.int .i64 id, .int .i64 dv, .int .i64 pr, .int .i64 kd, .int .u32 rf, .int .u32 rt, .int .i64 pt] 105)).alloc (.cells #[.int .i64 d, .int .i64 pt] 55); have D4 := (D2.alloc (.cells #[.int .i64 id, .int .i64 dv, .int .i64 pr, .int .i64 kd, .int .u32 rf, .int .u32 rt, .int .i64 pt] 105)).alloc (.cells #[.int .i64 d, .int .i64 pt] 55); have bw4 : Below w.heap.size w ((w2.alloc (.cells #[.int .i64 id, .int .i64 dv, .int .i64 pr, .int .i64 kd, .int .u32 rf, .int .u32 rt, .int .i64 pt] 105)).alloc (.cells #[.int .i64 d, .int .i64 pt] 55)) := (bw2.alloc bw2.size _).alloc (by have := bw2.size; simp; omega) _; clear x0 x1; have x0 := (D2.cell 0).trans rfl; have x1 := (D2.cell 1).trans rfl)
            | (go_at_call 65; refine (HNX.out _ bw4).mono ?_; rintro e w5 ⟨rfl, b5⟩; have bw5 := bw4.trans (b5.mono bw4.size); have P5 := P4.belows b5; have R5 := R4.belows b5; have p0 := (P5.cell 0).trans rfl; have p1 := (P5.cell 1).trans rfl; have y0 := (R5.cell 0).trans rfl; have y1 := (R5.cell 1).trans rfl; have z0 := R5.frozen 0; have z1 := R5.frozen 1))
          obtain ⟨w6, hw6⟩ : ∃ w6, w6 = w5.alloc (.cells #[.int .i64 0, .int .i64 0] 55) := ⟨_, rfl⟩
          have P6 := P5.alloc (.cells #[.int .i64 0, .int .i64 0] 55)
          have R6 := R5.alloc (.cells #[.int .i64 0, .int .i64 0] 55)
          have bw6 := bw5.alloc bw5.size (.cells #[.int .i64 0, .int .i64 0] 55)
          rw [← hw6] at P6 R6 bw6 ⊢
          clear hw6 p0 p1 y0 y1 z0 z1 k1 k2 x0 x1 x2 HNX HK2 HN
          have p0 := (P6.cell 0).trans rfl; have p1 := (P6.cell 1).trans rfl
          have p0d : ({ heap := w6.heap, tape := w6.tape, drawn := w6.drawn + 1, os := w6.os, output := w6.output } : World).cell? ⟨w2.heap.size + 1, 0, none⟩ = some (.int .i64 d) := p0
          have p1d : ({ heap := w6.heap, tape := w6.tape, drawn := w6.drawn + 1, os := w6.os, output := w6.output } : World).cell? ⟨w2.heap.size + 1, 1, none⟩ = some (.int .i64 pt) := p1
          go_still_tail 2, (by kernel_rfl)
          clear p0d p1d p0 p1
          change wpList _ _ _ _ _ w6.drew
          have R7 := R6.drew
          have bw7 := bdrewN bw6 1
          change At w6.drew _ _ _ at R7
          change Below _ _ w6.drew at bw7
          generalize w6.drew = w7 at R7 bw7 ⊢
          have y0 := (R7.cell 0).trans rfl; have y1 := (R7.cell 1).trans rfl; have z0 := R7.frozen 0; have z1 := R7.frozen 1
          go_wp2
          have Z := (R7.set0 0 (.int .i64 d)).set0 1 (.int .i64 pt)
          have Y0 := Z.cell 0
          have Y1 := Z.cell 1
          refine bodyPost_ret (v := .tuple #[.int .i64 3, .agg #[.int .i64 d, .int .i64 pt]]) ?_ rfl ⟨by rw [HF2.out]; rfl, (bw7.setCell (p := ⟨w.heap.size + 1, 0, none⟩) (by show w.heap.size ≤ w.heap.size + 1; omega) _).setCell (p := ⟨w.heap.size + 1, 1, none⟩) (by show w.heap.size ≤ w.heap.size + 1; omega) _⟩
          simp at Y0 Y1
          simp [results, Tryz.results64, go_sem, Y0, Y1]
        | some q =>
          have HF2 : Hid (V = (4, ⟨d, pt⟩)) := Lib.hid (HF.out.trans (goP_on hkd hn))
          obtain ⟨qd, qp⟩ := q
          rw [hn, show nextV (some ⟨qd, qp⟩) = .tuple #[.agg #[.int .i64 qd, .int .i64 qp], .bool true] from rfl] at HNX
          clear hn hkd HF
          go_upto_region 12 with (first
            | (go_at_call 87; refine k1.mono ?_; rintro e w1 ⟨rfl, b1⟩; have bw1 := b0.trans (b1.mono b0.size); have D1 := D0.belows b1; have R1 := R0.belows b1; have k2 := HK2.out w1 bw1; clear x2; have x2 := (D1.cell 2).trans rfl; have x0 := (D1.cell 0).trans rfl; have x1 := (D1.cell 1).trans rfl)
            | (go_at_call 88; refine k2.mono ?_; rintro e w2 ⟨rfl, b2⟩; have bw2 := bw1.trans (b2.mono bw1.size); have D2 := D1.belows b2; have R2 := R1.belows b2; have hs2 := R2.lt; have hs3 : w.heap.size < w2.heap.size := (by omega); have hs4 : w.heap.size < w2.heap.size + 1 := (by omega); have hs5 : w.heap.size + 1 < w2.heap.size + 1 := (by omega); have P4 := At.new1 w2 (.cells #[.int .i64 id, .int .i64 dv, .int .i64 pr, .int .i64 kd, .int .u32 rf, .int .u32 rt, .int .i64 pt] 105) #[.int .i64 d, .int .i64 pt] 55; have R4 := (R2.alloc (.cells #[.int .i64 id, .int .i64 dv, .int .i64 pr, .int .i64 kd, .int .u32 rf, .int .u32 rt, .int .i64 pt] 105)).alloc (.cells #[.int .i64 d, .int .i64 pt] 55); have D4 := (D2.alloc (.cells #[.int .i64 id, .int .i64 dv, .int .i64 pr, .int .i64 kd, .int .u32 rf, .int .u32 rt, .int .i64 pt] 105)).alloc (.cells #[.int .i64 d, .int .i64 pt] 55); have bw4 : Below w.heap.size w ((w2.alloc (.cells #[.int .i64 id, .int .i64 dv, .int .i64 pr, .int .i64 kd, .int .u32 rf, .int .u32 rt, .int .i64 pt] 105)).alloc (.cells #[.int .i64 d, .int .i64 pt] 55)) := (bw2.alloc bw2.size _).alloc (by have := bw2.size; simp; omega) _; clear x0 x1; have x0 := (D2.cell 0).trans rfl; have x1 := (D2.cell 1).trans rfl)
            | (go_at_call 65; refine (HNX.out _ bw4).mono ?_; rintro e w5 ⟨rfl, b5⟩; have bw5 := bw4.trans (b5.mono bw4.size); have P5 := P4.belows b5; have R5 := R4.belows b5; have p0 := (P5.cell 0).trans rfl; have p1 := (P5.cell 1).trans rfl; have y0 := (R5.cell 0).trans rfl; have y1 := (R5.cell 1).trans rfl; have z0 := R5.frozen 0; have z1 := R5.frozen 1))
          obtain ⟨w6, hw6⟩ : ∃ w6, w6 = w5.alloc (.cells #[.int .i64 qd, .int .i64 qp] 55) := ⟨_, rfl⟩
          have P6 := P5.alloc (.cells #[.int .i64 qd, .int .i64 qp] 55)
          have R6 := R5.alloc (.cells #[.int .i64 qd, .int .i64 qp] 55)
          have bw6 := bw5.alloc bw5.size (.cells #[.int .i64 qd, .int .i64 qp] 55)
          rw [← hw6] at P6 R6 bw6 ⊢
          clear hw6 p0 p1 y0 y1 z0 z1 k1 k2 x0 x1 x2 HNX HK2 HN
          have p0 := (P6.cell 0).trans rfl; have p1 := (P6.cell 1).trans rfl
          have p0d : ({ heap := w6.heap, tape := w6.tape, drawn := w6.drawn + 1, os := w6.os, output := w6.output } : World).cell? ⟨w2.heap.size + 1, 0, none⟩ = some (.int .i64 d) := p0
          have p1d : ({ heap := w6.heap, tape := w6.tape, drawn := w6.drawn + 1, os := w6.os, output := w6.output } : World).cell? ⟨w2.heap.size + 1, 1, none⟩ = some (.int .i64 pt) := p1
          go_still_tail 2, (by kernel_rfl)
          clear p0d p1d p0 p1
          change wpList _ _ _ _ _ w6.drew
          have R7 := R6.drew
          have bw7 := bdrewN bw6 1
          change At w6.drew _ _ _ at R7
          change Below _ _ w6.drew at bw7
          generalize w6.drew = w7 at R7 bw7 ⊢
          have y0 := (R7.cell 0).trans rfl; have y1 := (R7.cell 1).trans rfl; have z0 := R7.frozen 0; have z1 := R7.frozen 1
          go_wp2
          have Z := (R7.set0 0 (.int .i64 d)).set0 1 (.int .i64 pt)
          have Y0 := Z.cell 0
          have Y1 := Z.cell 1
          refine bodyPost_ret (v := .tuple #[.int .i64 4, .agg #[.int .i64 d, .int .i64 pt]]) ?_ rfl ⟨by rw [HF2.out]; rfl, (bw7.setCell (p := ⟨w.heap.size + 1, 0, none⟩) (by show w.heap.size ≤ w.heap.size + 1; omega) _).setCell (p := ⟨w.heap.size + 1, 1, none⟩) (by show w.heap.size ≤ w.heap.size + 1; omega) _⟩
          simp at Y0 Y1
          simp [results, Tryz.results64, go_sem, Y0, Y1]
end Go.Proofs.YteboadppighplaaGreat
/- Contract: the document's At of stage 10: what becomes of an address at a device. -/
namespace Go.Proofs.YteboadppighplaaGreat
open Go.RowKit Go.Shelf

/-- What a label says: one fate, by numbers; else the port. -/
def labP (x : Int × Pt) : Int := if x.1 = 2 then -3 else if x.1 = 1 then -2 else if x.1 = 0 then -1 else x.2.p
def labN (ls : List Lk) (L : List Ru) (d : Int) (a : Nat) : Int := labP (stepN ls L d a)
end Go.Proofs.YteboadppighplaaGreat
