/- A region that draws its order and holds calls that make memory: what reads is taken first, in the order of the text; a call where it alone may come up; behind it the class of worlds is those that have only grown from its end on. Over any program. -/
import Derived.OrdersHeld
import Derived.Test.YtmndgbpfophniaaCls
import Derived.BigCall
namespace Go.Proofs.Ytmndgbpfophniaa
open Go.RowKit

/-- A post that lets no panic by. -/
def NoP (Q : Exit → Act → World → Prop) : Exit → Act → World → Prop
  | .panic _, _, _ => False
  | e, a, w => Q e a w
theorem NoP.imp {Q : Exit → Act → World → Prop} : ∀ (e : Exit) (a : Act) (w : World), NoP Q e a w → Q e a w := fun e a w h => by
  cases e <;> first | exact h | exact (h : False).elim

/-- An operation that yields a value or halts, and nothing else. -/
def plainB (o : Oper) : Bool := match o.op with
  | .move _ | .assign _ | .pick _ _ _ | .load _ _ | .binOp _ _ _ _ _ | .unOp _ _ _ | .convert _ _ _ | .slice _ _ _ _ _ | .fieldAddr _ _ _ | .field _ _ _ | .indexAddr _ _ _ | .index _ _ _ | .extract _ _ => true
  | .call c => match c.callee with
    | .builtin .len | .builtin .cap | .builtin .min | .builtin .max => true
    | _ => false
  | _ => false

theorem bind_value {P : Program} {s : Sem Value} {w w' : World} {n : Next} (h : (do let x ← s; pure (Next.value x) : Sem Next).run P w = .ok n w') : ∃ v, n = .value v := by
  simp only [Sem.run_bind] at h
  cases hs : s.run P w with
  | ok x w1 => rw [hs] at h; simp [Result.andThen, Sem.run_pure] at h; exact ⟨x, h.1.symm⟩
  | halt x w1 => rw [hs] at h; simp [Result.andThen] at h

theorem only_value {P : Program} {o : Oper} (hp : plainB o = true) {ρ : Operand → Value} {w w' : World} {n : Next} (h : (execOp ρ o).run P w = .ok n w') : ∃ v, n = .value v := by
  unfold plainB at hp
  unfold execOp at h
  cases ho : o.op <;> simp only [ho] at hp h <;> first | (cases hp; done) | exact bind_value h | skip
  · simp [Sem.run_pure] at h; exact ⟨_, h.1.symm⟩
  · simp [Sem.run_pure] at h; exact ⟨_, h.1.symm⟩
  · rename_i c x y
    simp only [Sem.run_bind] at h
    cases hs : (asBool (ρ c)).run P w with
    | ok b w1 => rw [hs] at h; simp [Result.andThen, Sem.run_pure] at h; exact ⟨_, h.1.symm⟩
    | halt b w1 => rw [hs] at h; simp [Result.andThen] at h
  · rename_i c
    simp only [Sem.run_bind] at h
    split at hp <;> first | (cases hp; done) | skip
    all_goals
      rename_i hc
      simp only [resolve, hc, Sem.run_pure, Result.andThen, invoke, builtin] at h
      exact bind_value h

section
variable {P : Program} {ops : Array Oper} {Q : Exit → Act → World → Prop} {md : Region.Mode} {S : World → Prop}

theorem val_of_quiet {o : Oper} (hp : plainB o = true) {a : Act} {v : Value} (h : ∀ w, S w → o.quietAt P a S w v) : ∀ w, S w → (execOp a.eval o).run P w = .ok (.value v) w := by
  intro w hw
  have h1 := h w hw
  unfold Oper.quietAt at h1
  cases hr : (execOp a.eval o).run P w with
  | ok n w' =>
    obtain ⟨u, rfl⟩ := only_value hp hr
    rw [hr] at h1
    simp only [Oper.quietUpon] at h1
    rw [h1.1, h1.2]
  | halt x w' => rw [hr] at h1; simp only [Oper.quietUpon] at h1

theorem quiet_mono {K K' : Act → Prop} (hK : ∀ a, K a → K' a) : ∀ (l : List Oper) (a : Act), wpQuiet P ops S K l a → wpQuiet P ops S K' l a
  | [], a, h => hK a h
  | o :: l, a, h => by
    unfold wpQuiet at h ⊢
    split
    · rename_i hw
      rw [if_pos hw] at h
      exact Oper.quiet_mono (fun a' h' => quiet_mono hK l a' h') h
    · rename_i hw
      rw [if_neg hw] at h
      exact quiet_mono hK l _ h

/-- n operations from number k on may be taken first, one behind the other. -/
def segB (md : Region.Mode) (ops : Array Oper) : Nat → Nat → Array Bool → Bool
  | 0, _, _ => true
  | n + 1, k, listed => (Region.ready md ops listed).contains k && Region.free md ops listed k && ((ops[k]?).map plainB).getD false && segB md ops n (k + 1) (listed.setIfInBounds k true)
def listAll : Nat → Nat → Array Bool → Array Bool
  | 0, _, l => l
  | n + 1, k, l => listAll n (k + 1) (l.setIfInBounds k true)

theorem held_seg (hs : Region.noSelect ops = true) (hQ : ∀ c a w d v, Q (.panic c) (Act.put a d v) w → Q (.panic c) a w) {fuel : Nat} : ∀ (l : List Oper) (k : Nat) (listed : Array Bool) (a : Act) (w : World),
    (∀ j, j < l.length → l[j]? = ops[k + j]?) → segB md ops l.length k listed = true → S w →
    wpQuiet P ops S (fun a' => wpAnyH P md ops Q S fuel (listAll l.length k listed) a' w) l a → wpAnyH P md ops Q S (l.length + fuel) listed a w
  | [], _, _, _, _, _, _, _, h => by simpa [listAll, wpQuiet] using h
  | o :: l, k, listed, a, w, hl, hB, hw, h => by
    have h0 : ops[k]? = some o := by have := hl 0 (by simp); simpa using this.symm
    simp only [List.length_cons, segB, Bool.and_eq_true, h0, Option.map_some, Option.getD_some] at hB
    obtain ⟨⟨⟨hr, hf⟩, hp⟩, hB'⟩ := hB
    have hlen : (o :: l).length + fuel = (l.length + fuel) + 1 := by simp; omega
    rw [hlen]
    have next : ∀ v, YieldsIf P ops S o v a → wpQuiet P ops S (fun a' => wpAnyH P md ops Q S fuel (listAll (o :: l).length k listed) a' w) l (a.put o.dst v) → wpAnyH P md ops Q S (l.length + fuel + 1) listed a w := fun v hy hn =>
      wpAnyH_take h0 hs hf (by simpa using hr) (fun c a w => hQ c a w o.dst v) hy hw
        (held_seg hs hQ l (k + 1) (listed.setIfInBounds k true) (a.put o.dst v) w (fun j hj => by have := hl (j + 1) (by simp; omega); simpa [Nat.add_assoc, Nat.add_comm 1 j] using this) hB' hw hn)
    unfold wpQuiet at h
    by_cases hwant : Region.wanted o (yielded ops a.tmps) = true
    · rw [if_pos hwant] at h
      obtain ⟨v, hv, hn⟩ := h
      exact next v (.inl ⟨hwant, val_of_quiet hp hv⟩) hn
    · rw [if_neg hwant] at h
      exact next undef (.inr ⟨by simpa using hwant, rfl⟩) h

/-- What holds of a narrower class. -/
theorem held_narrow {S' : World → Prop} (hSS : ∀ u, S' u → S u) : ∀ (fuel : Nat) (listed : Array Bool) (a : Act) (w : World), wpAnyH P md ops Q S' fuel listed a w → wpAnyH P md ops Q S fuel listed a w
  | 0, _, _, _, h => h
  | fuel + 1, _, _, _, h => ⟨h.1, fun i hi => wpOp_mono (fun a' w' h' => ⟨hSS _ h'.1, held_narrow hSS fuel _ a' w' h'.2⟩) (h.2 i hi)⟩

/-- A call of a Go function, at its operation. -/
theorem opwp_call {o : Oper} {a : Act} {w : World} {K : Act → World → Prop} {f : FuncId} {fn : Func} {xs : Array Operand} {ats : Array TypeId} (ho : o.op = .call { callee := .value (.func f), args := xs, argTypes := ats })
    (hf : P.funcs[f]? = some fn) (hn : (fn.name == "runtime.NumGoroutine") = false) (hb : fn.body.isNone = false)
    (h : Calls P f (xs.map a.eval) w fun e w' => ∃ v, e = .returned v ∧ K (a.put o.dst v) w') : o.wp P a w K Q := by
  have hrun : (execOp a.eval o).run P w = .ok (.enter f (xs.map a.eval)) w := by
    unfold execOp
    simp only [ho, resolve, Sem.run_bind, Act.eval, Deferred.ofValue, Sem.run_pure, Result.andThen, invoke, callFunc]
    simp [go_sem, hf, hn, hb]
  unfold Oper.wp
  rw [hrun]
  simp only [Oper.upon]
  exact h.mono fun e w' ⟨v, he, hk⟩ => by subst he; exact hk

/-- The class of the worlds that have only grown from w on. -/
def Cl (w : World) : World → Prop := fun w' => ∃ x : Sub w, w' = x.u

/-- A CALL THAT ALONE MAY COME UP: behind it the class is that of the worlds that have only grown from its end on. -/
theorem held_call {w0 u : World} {fuel k : Nat} {listed : Array Bool} {a : Act} {o : Oper} {f : FuncId} {fn : Func} {xs : Array Operand} {ats : Array TypeId} {ys : Array Value} {A2 : Value → Act} (hr : Region.ready md ops listed = [k]) (hk : ops[k]? = some o)
    (hwant : Region.wanted o (yielded ops a.tmps) = true) (ho : o.op = .call { callee := .value (.func f), args := xs, argTypes := ats })
    (hf : P.funcs[f]? = some fn) (hn : (fn.name == "runtime.NumGoroutine") = false) (hb : fn.body.isNone = false) (hu : Below w0.heap.size w0 u) (hys : xs.map a.eval = ys) (hput : ∀ v, a.put o.dst v = A2 v)
    (h : Calls P f ys u fun e w' => ∃ v, e = .returned v ∧ Below u.heap.size u w' ∧ wpAnyH P md ops Q (Cl w') fuel (listed.setIfInBounds k true) (A2 v) w') :
    wpAnyH P md ops Q (Cl w0) (fuel + 1) listed a u := by
  refine wpAnyH_all hr (by simp) fun i hi => ?_
  obtain rfl : i = k := by simpa using hi
  unfold wpOp
  simp only [hk, hwant, if_true]
  refine .inl (opwp_call ho hf hn hb (hys ▸ h.mono ?_))
  rintro e w' ⟨v, he, hbel, hrest⟩
  have h0 : Below w0.heap.size w0 w' := hu.trans (hbel.mono hu.size)
  rw [← hput v] at hrest
  exact ⟨v, he, ⟨⟨w', h0⟩, rfl⟩, held_narrow (fun y ⟨x, hx⟩ => ⟨⟨x.u, h0.trans (x.h.mono h0.size)⟩, hx⟩) _ _ _ _ hrest⟩

/-- THE BEGINNING: the first n operations. -/
theorem wp_region_seg {id : Nat} {a : Act} {w : World} (n fuel : Nat) (hm : P.follows .mixedOrders = true) (hs : Region.noSelect ops = true) (hn : n + fuel = ops.size) (hlen : (ops.toList.take n).length = n)
    (hB : segB .any ops n 0 (Array.replicate ops.size false) = true)
    (h : wpQuiet P ops (fun w' => ∃ x : Sub w, w' = x.u) (fun a' => ∀ u, Below w.heap.size w u → wpAnyH P .any ops (NoP Q) (Cl w) fuel (listAll n 0 (Array.replicate ops.size false)) a' u) (ops.toList.take n) a) : (Code.region id ops true).wp P Q a w := by
  refine Code.wp_mono NoP.imp (wp_region_held (S := Cl w) hm ?_)
  have hb : Below w.heap.size w { w with drawn := w.drawn + 1 } := ⟨rfl, rfl, rfl, Nat.le_refl _, fun _ _ => rfl⟩
  have h1 := held_seg (P := P) (md := .any) (S := Cl w) (fuel := fuel) hs (fun _ _ _ _ _ h => h) (ops.toList.take n) 0 (Array.replicate ops.size false) a { w with drawn := w.drawn + 1 }
    (fun j hj => by rw [hlen] at hj; rw [List.getElem?_take, if_pos hj]; simp) (by rw [hlen]; exact hB) ⟨⟨_, hb⟩, rfl⟩ (by
      rw [hlen]
      exact quiet_mono (fun a' h' => h' _ hb) _ _ h)
  rw [hlen, hn] at h1
  exact h1

/-- BEHIND A CALL: n operations more, from number k on. -/
theorem held_more {w1 u : World} {a : Act} {listed : Array Bool} (n fuel k : Nat) (hs : Region.noSelect ops = true) (hlen : ((ops.toList.drop k).take n).length = n)
    (hB : segB md ops n k listed = true) (hu : Below w1.heap.size w1 u)
    (h : wpQuiet P ops (fun w' => ∃ x : Sub w1, w' = x.u) (fun a' => ∀ u, Below w1.heap.size w1 u → wpAnyH P md ops (NoP Q) (Cl w1) fuel (listAll n k listed) a' u) ((ops.toList.drop k).take n) a) : wpAnyH P md ops (NoP Q) (Cl w1) (n + fuel) listed a u := by
  have h1 := held_seg (P := P) (md := md) (S := Cl w1) (fuel := fuel) hs (fun _ _ _ _ _ h => h) ((ops.toList.drop k).take n) k listed a u
    (fun j hj => by rw [hlen] at hj; rw [List.getElem?_take, if_pos hj, List.getElem?_drop]; simp) (by rw [hlen]; exact hB) ⟨⟨_, hu⟩, rfl⟩ (by
      rw [hlen]
      exact quiet_mono (fun a' h' => h' _ hu) _ _ h)
  rw [hlen] at h1
  exact h1
/-- THE END. -/
theorem held_end {w1 u : World} {a : Act} {listed : Array Bool} (hr : Region.ready md ops listed = []) (h : Q .normal a u) : wpAnyH P md ops (NoP Q) (Cl w1) 0 listed a u := wpAnyH_done hr (show NoP Q .normal a u from h) 0
end
end Go.Proofs.Ytmndgbpfophniaa
