/- Inside a round of a range over a function: a region that draws its order and holds reads alone, or reads and one store at its end. Over any program. -/
import Derived.Test.YtonhmppobdbidaaSeg
import Derived.RangeFuncCalls
import Derived.OrdersIn
import Derived.TacticsIn
import Derived.StillTail
import Derived.StillTailTactics
import Derived.Deep.Quiet
namespace Go.Proofs.Ytonhmppobdbidaa
open Go.RowKit

section
variable {P : Program} {ops : Array Oper} {Q : Exit → Act → World → Prop} {l n : Nat}

/-- A post that lets nothing out of memory. -/
def NoO (Q : Exit → Act → World → Prop) : Exit → Act → World → Prop
  | .outgrown, _, _ => False
  | e, a, w => Q e a w
theorem NoO.imp (e : Exit) (a : Act) (w : World) (h : NoO Q e a w) : Q e a w := by
  cases e <;> first | exact h | exact (h : False).elim
theorem NoO.none : ¬ LetsOut (NoO Q) := fun ⟨_, _, h⟩ => h

/-- An operation that reads, or stores. -/
def roundB (o : Oper) : Bool := plainB o || match o.op with
  | .store _ _ _ => true
  | _ => false
theorem roundB_defer {o : Oper} (h : roundB o = true) : ∀ c, o.op ≠ .defer c := fun c e => by
  simp [roundB, plainB, e] at h
theorem bind_skip {s : Sem Unit} {w w' : World} {x : Next} (h : (do s; pure Next.skip : Sem Next).run P w = .ok x w') : x = .skip := by
  simp only [Sem.run_bind] at h
  cases hs : s.run P w with
  | ok u w1 => rw [hs] at h; simp [Result.andThen, Sem.run_pure] at h; exact h.1.symm
  | halt u w1 => rw [hs] at h; simp [Result.andThen] at h
theorem roundB_row {o : Oper} (h : roundB o = true) (ρ : Operand → Value) (w w' : World) (r : String) (as : Array Value) : (execOp ρ o).run P w ≠ .ok (.row r as) w' := by
  intro e
  rcases Bool.or_eq_true _ _ ▸ h with h | h
  · obtain ⟨v, hv⟩ := only_value h e
    cases hv
  · unfold execOp at e
    cases ho : o.op <;> simp only [ho] at h e <;> first | (cases h; done) | skip
    have := bind_skip e
    cases this
theorem op_round {o : Oper} {a : Act} {w : World} {K : Act → World → Prop} (hb : roundB o = true) (h : o.wp P a w K Q) : o.wpIn (Fence.wide.inRound l) n P a w K Q := by
  refine ⟨fun _ _ => trivial, ?_⟩
  rw [Fence.inRound_round, Oper.semAt_some _ _ _ (roundB_defer hb)]
  unfold Oper.wp at h
  cases hres : (execOp a.eval o).run P w with
  | ok x w' =>
    rw [hres] at h
    cases x <;> first | exact h | exact absurd hres (roundB_row hb _ _ _ _ _) | exact ⟨fun h => (by cases h), callsIn_wide.2 h⟩ | exact (h : False).elim
  | halt x w' =>
    rw [hres] at h
    cases x <;> first | exact h | exact (h : False).elim
theorem any_round {md : Region.Mode} (hQ : ¬ LetsOut Q) (hb : ∀ (i : Nat) (o : Oper), ops[i]? = some o → roundB o = true) : ∀ (fuel : Nat) (listed : Array Bool) (a : Act) (w : World), wpAny P md ops Q fuel listed a w → wpAnyIn (Fence.wide.inRound l) n P md ops Q fuel listed a w
  | 0, _, _, _, h => h
  | fuel + 1, listed, a, w, h => by
    refine ⟨h.1, fun i hi => ?_⟩
    have h1 := wpOp_mono (any_round hQ hb fuel (listed.setIfInBounds i true)) (h.2 i hi)
    unfold wpOp at h1
    unfold wpOpIn
    split
    · rename_i ho; simpa only [ho] using h1
    · rename_i o ho
      simp only [ho] at h1
      split
      · rename_i hw; simp only [hw, if_true] at h1; exact op_round (hb i o ho) (h1.resolve_right fun h => hQ h.2)
      · rename_i hw; simp only [hw] at h1; exact ⟨fun _ _ => trivial, h1⟩
theorem all_round (h : ops.all roundB = true) : ∀ (i : Nat) (o : Oper), ops[i]? = some o → roundB o = true := fun i o ho => by
  obtain ⟨hi, rfl⟩ := Array.getElem?_eq_some_iff.1 ho
  exact Array.all_eq_true.1 h i hi

/-- READS ALONE. -/
theorem round_reads {id : Nat} {a : Act} {w : World} {ls : List Oper} (hm : P.follows .mixedOrders = true) (hB : Region.lexB .any ls.toArray = true) (hr : ls.toArray.all roundB = true)
    (h : wpQuiet P ls.toArray (fun w' => ∃ k, w' = w.drewN k) (fun a' => ∀ w', (∃ k, w' = w.drewN k) → Q .normal a' w') ls a) : (Code.region id ls.toArray true).wpIn (Fence.wide.inRound l) n P Q a w := by
  simp only [Region.lexB, Bool.and_eq_true] at hB
  have hq : wpAnyQ P .any ls.toArray (fun w' => ∃ k, w' = w.drewN k) (fun a' => ∀ w', (∃ k, w' = w.drewN k) → Q .normal a' w') ls.toArray.toList.length (Array.replicate ls.toArray.size false) a :=
    wpAnyQ_lex (md := .any) hB.1 ls.toArray.toList 0 (Array.replicate ls.toArray.size false) a (by simp) (by simpa using hB.2) h
  have hany := wpAny_of_quiet (Q' := NoO Q) (fun _ w' hw' h => h w' hw') _ _ _ { w with drawn := w.drawn + 1 } ⟨1, rfl⟩ hq
  exact wpIn_mono (wpIn_region_any hm (any_round NoO.none (all_round hr) _ _ _ _ (by simpa using hany))) NoO.imp

/-- READS, AND A TAIL THAT COMES IN ONE ORDER (a store). -/
theorem round_tail {id : Nat} {a : Act} {w : World} {ls : List Oper} (k : Nat) (hm : P.follows .mixedOrders = true) (hB : Region.lexTailB .any ls.toArray k = true) (hr : ls.toArray.all roundB = true)
    (h : wpStill P ls.toArray { w with drawn := w.drawn + 1 } (fun a' => wpList P ls.toArray (NoO Q) (ls.drop k) a' { w with drawn := w.drawn + 1 }) (ls.take k) a) : (Code.region id ls.toArray true).wpIn (Fence.wide.inRound l) n P Q a w := by
  simp only [Region.lexTailB, Bool.and_eq_true, decide_eq_true_eq] at hB
  obtain ⟨⟨⟨⟨q1, q2⟩, q3⟩, q4⟩, q5⟩ := hB
  have hk : k < ls.length := by simpa using q2
  have len1 : (ls.take k).length = k := by simp; omega
  have len2 : (ls.drop k).length = ls.toArray.size - k := by simp
  have start : HeadInv .any ls.toArray k (Array.replicate ls.toArray.size false) :=
    ⟨by simp, fun j oj _ hl => (by rw [getD_replicate_false] at hl; cases hl), fun t _ ht => getD_in (by simpa using ht) (getD_replicate_false _ _)⟩
  have head := wpAnyL_lex (md := .any) (g := ls.toArray.size - k) q1 q3 q4 q2 (ls.take k) 0 _ a (fun j hj => by rw [len1] at hj; simp [hj]) (by simpa using len1) start (by rw [len1]; exact q5) h
  have whole := wpAny_of_head (Q' := NoO Q) (g := ls.toArray.size - k) (fun listed a' hL => by
    have t1 := wpAny_of_seq (md := .any) (Q' := NoO Q) (ls.drop k) k listed a' { w with drawn := w.drawn + 1 } (fun j => by simp [List.getElem?_drop]) (by rw [len2]; exact hL.1) hL.2
    rwa [len2] at t1) _ _ _ head
  rw [len1, show k + (ls.toArray.size - k) = ls.toArray.size by omega] at whole
  exact wpIn_mono (wpIn_region_any hm (any_round NoO.none (all_round hr) _ _ _ _ whole)) NoO.imp
end
end Go.Proofs.Ytonhmppobdbidaa
