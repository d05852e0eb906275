/- A region that draws its order, whose operations read what lies below the region's first world and whose callees make memory alone: one walk, in the order of the text, over the class of the worlds that have only grown. -/
import Derived.WalkKit
import Derived.BigQuiet
namespace Go.Proofs.Ytmndgbpfophniaa
open Go.RowKit

/-- A world that has only grown from w on. -/
structure Sub (w : World) where
  u : World
  h : Below w.heap.size w u
instance (w : World) : Inhabited (Sub w) := ⟨⟨w, Below.refl _ _⟩⟩

theorem wp_region_cls {P : Program} {id : Nat} {Q : Exit → Act → World → Prop} {a : Act} {w : World} {l : List Oper} (hm : P.follows .mixedOrders = true) (hB : Region.lexB .any l.toArray = true)
    (h : wpQuiet P l.toArray (fun w' => ∃ x : Sub w, w' = x.u) (fun a' => ∀ w', (∃ x : Sub w, w' = x.u) → Q .normal a' w') l a) : (Code.region id l.toArray true).wp P Q a w :=
  wp_region_quiet (C := fun w' => ∃ x : Sub w, w' = x.u) hm hB ⟨⟨{ w with drawn := w.drawn + 1 }, ⟨rfl, rfl, rfl, Nat.le_refl _, fun _ _ => rfl⟩⟩, rfl⟩ (by simpa using h)

/-- A callee that makes memory alone and hands back one value. -/
theorem Calls.cls_of {P : Program} {f : FuncId} {args : Array Value} {w : World} {x : Sub w} {v : Value}
    (h : Calls P f args x.u fun e w' => e = .returned v ∧ Below x.u.heap.size x.u w') : Calls P f args x.u fun e w'' => e = .returned v ∧ ∃ y : Sub w, w'' = y.u :=
  h.mono fun _ w' ⟨he, hb⟩ => ⟨he, ⟨w', x.h.trans (hb.mono x.h.size)⟩, rfl⟩
end Go.Proofs.Ytmndgbpfophniaa
