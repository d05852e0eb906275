/-
  No cell of these rows narrows 'for every input' (looked for: loops, veiled, ifaces, maps, wideKeys, modest, calm, conditions, laid).
  DERIVED. THE GIVEN ROWS OF THIS SEAT. 3 by the template 'for every input the law returns true; each argument reads behind the call as it read before'; 0 by the template 'total and deterministic' (their statements: YtlhfaildeemngaaTotals.lean).
  GIVEN WITH THE SEED: the statements are not yours to turn. If you find one false, say at which input.
  Laid BY PROGRAM, IN A SANDBOX (cutbox-rows.mjs): the forced cells as the released guide's own fill.sh prints them over the translation 77c1fef2a30b071d… (all of the seat's roots in one cut). By AI agents, Wed Nov 11 2026. No macro, syntax, notation, axiom, sorry.
-/
import Derived.Test.YtlhfaildeemngaaChecked
import GoSem.Claim
import GoSem.ClaimJoined
import GoSem.ClaimMapViews
import Derived.JoinedTies
import Derived.KernelRfl
namespace Go.Proofs.Ytlhfaildeemngaa
/- THE CELL 'sum', in the pinned program and in every row, IS THE sha256 OF THE DUMP (.gsa) THAT YtlhfaildeemngaaProg.lean LOADS. Nothing in Lean hashes anything: it is a label: what it is worth is what the hold of that sum in a sandbox is worth. -/
noncomputable def Try.pinned : Pinned := { name := "ytlhfaildeemngaa", sum := "77c1fef2a30b071d79f760f074dcd9e94bddefba9ce41458864000fe4d6897a3", checked := Try.checked }
namespace Rows
def none {H : Type} : Left H := { results := [], args := [] }

/-- 'waystonelaw10.LabelTells': WHATEVER THE INPUT: true; the input reads as it did. -/
def labelTellsSpec : ChangeSpec := { name := "labelTells", fn := fun _ => fun
  | [d1, d2] => { results := [.lit (.bool true)], args := [d1, d2] }
  | _ => none }
def labelTellsRow : OpenClaim := { program := "ytlhfaildeemngaa", sum := "77c1fef2a30b071d79f760f074dcd9e94bddefba9ce41458864000fe4d6897a3", func := "waystone/waystonelaw10.LabelTells", spec := "labelTells", unfollowed := true, recurses := true, plainKeys := false, apart := false }
def LabelTellsSaid : Prop := labelTellsRow.holds Try.pinned (OpenSpec.ofChange labelTellsSpec)

/-- ITS FALSE NEIGHBOUR: 'it returns false'. Refute it at one input. -/
def labelTellsWrong : ChangeSpec := { name := "labelTells", fn := fun _ => fun
  | [d1, d2] => { results := [.lit (.bool false)], args := [d1, d2] }
  | _ => none }
def LabelTellsWrongFalsely : Prop := labelTellsRow.holds Try.pinned (OpenSpec.ofChange labelTellsWrong)

/-- 'waystonelaw10.LabelFares': WHATEVER THE INPUT: true; the input reads as it did. -/
def labelFaresSpec : ChangeSpec := { name := "labelFares", fn := fun _ => fun
  | [d1, d2, d3] => { results := [.lit (.bool true)], args := [d1, d2, d3] }
  | _ => none }
def labelFaresRow : OpenClaim := { program := "ytlhfaildeemngaa", sum := "77c1fef2a30b071d79f760f074dcd9e94bddefba9ce41458864000fe4d6897a3", func := "waystone/waystonelaw10.LabelFares", spec := "labelFares", unfollowed := true, recurses := true, plainKeys := false, apart := false }
def LabelFaresSaid : Prop := labelFaresRow.holds Try.pinned (OpenSpec.ofChange labelFaresSpec)

/-- ITS FALSE NEIGHBOUR: 'it returns false'. Refute it at one input. -/
def labelFaresWrong : ChangeSpec := { name := "labelFares", fn := fun _ => fun
  | [d1, d2, d3] => { results := [.lit (.bool false)], args := [d1, d2, d3] }
  | _ => none }
def LabelFaresWrongFalsely : Prop := labelFaresRow.holds Try.pinned (OpenSpec.ofChange labelFaresWrong)

/-- 'waystonelaw10.LabelNil': WHATEVER THE INPUT: true; the input reads as it did. -/
def labelNilSpec : ChangeSpec := { name := "labelNil", fn := fun _ => fun
  | [d] => { results := [.lit (.bool true)], args := [d] }
  | _ => none }
def labelNilRow : OpenClaim := { program := "ytlhfaildeemngaa", sum := "77c1fef2a30b071d79f760f074dcd9e94bddefba9ce41458864000fe4d6897a3", func := "waystone/waystonelaw10.LabelNil", spec := "labelNil", inPlace := ["slices.overlaps[waystone/api.Rule]"], unfollowed := true, recurses := true, plainKeys := false, apart := false }
def LabelNilSaid : Prop := labelNilRow.holds Try.pinned (OpenSpec.ofChange labelNilSpec)

/-- ITS FALSE NEIGHBOUR: 'it returns false'. Refute it at one input. -/
def labelNilWrong : ChangeSpec := { name := "labelNil", fn := fun _ => fun
  | [d] => { results := [.lit (.bool false)], args := [d] }
  | _ => none }
def LabelNilWrongFalsely : Prop := labelNilRow.holds Try.pinned (OpenSpec.ofChange labelNilWrong)

/- THE SECOND FORM. 'bulk': how many values and letters a reading holds, each counted each time it is reached (what is shared counts as often as it is met; a slice's spare places count too). A statement '..UptoSaid' is the law's where the arguments, and the package variables that the reading takes, are together of bulk at most 1048576: NARROWER than '..Said'. Prove '..Said' where nothing that the law and all that it calls make is longer than what came in: it says more and counts as full. Else prove '..UptoSaid'. A law counts once. -/
mutual
def uptoBulk {H : Type} : DataW H → Nat
  | .lit (.string bytes) => bytes.length + 1
  | .lit _ => 1
  | .nil => 1
  | .ptr d => uptoBulk d + 1
  | .slice elems spare => uptoBulkAll elems + uptoBulkAll spare + 1
  | .agg parts => uptoBulkAll parts + 1
  | .iface _ d => uptoBulk d + 1
  | .map entries => uptoBulkEntries entries + 1
  | .held _ => 1
def uptoBulkAll {H : Type} : List (DataW H) → Nat
  | [] => 0
  | d :: r => uptoBulk d + uptoBulkAll r
def uptoBulkEntries {H : Type} : List (Lit × DataW H) → Nat
  | [] => 0
  | x :: r => uptoBulkEntry x + uptoBulkEntries r
def uptoBulkEntry {H : Type} : Lit × DataW H → Nat
  | (.string bytes, d) => bytes.length + uptoBulk d + 1
  | (_, d) => uptoBulk d + 1
 end
def uptoSmall : (H : Type) → List (DataW H) → Bool := fun _ ds => decide (uptoBulkAll ds ≤ 1048576)
def OpenSpec.upto (s : _root_.Go.ChangeSpec) : _root_.Go.OpenSpec := { _root_.Go.OpenSpec.ofChange s with cond := some uptoSmall }

/-- 'waystonelaw10.LabelTells', WHERE WHAT IT READS IS OF BULK AT MOST 1048576: true; the input reads as it did. -/
def labelTellsUptoRow : OpenClaim := { program := "ytlhfaildeemngaa", sum := "77c1fef2a30b071d79f760f074dcd9e94bddefba9ce41458864000fe4d6897a3", func := "waystone/waystonelaw10.LabelTells", spec := "labelTells", unfollowed := true, recurses := true, plainKeys := false, apart := false, narrowed := true }
def LabelTellsUptoSaid : Prop := labelTellsUptoRow.holds Try.pinned (OpenSpec.upto labelTellsSpec)

/-- 'waystonelaw10.LabelFares', WHERE WHAT IT READS IS OF BULK AT MOST 1048576: true; the input reads as it did. -/
def labelFaresUptoRow : OpenClaim := { program := "ytlhfaildeemngaa", sum := "77c1fef2a30b071d79f760f074dcd9e94bddefba9ce41458864000fe4d6897a3", func := "waystone/waystonelaw10.LabelFares", spec := "labelFares", unfollowed := true, recurses := true, plainKeys := false, apart := false, narrowed := true }
def LabelFaresUptoSaid : Prop := labelFaresUptoRow.holds Try.pinned (OpenSpec.upto labelFaresSpec)

/-- 'waystonelaw10.LabelNil', WHERE WHAT IT READS IS OF BULK AT MOST 1048576: true; the input reads as it did. -/
def labelNilUptoRow : OpenClaim := { program := "ytlhfaildeemngaa", sum := "77c1fef2a30b071d79f760f074dcd9e94bddefba9ce41458864000fe4d6897a3", func := "waystone/waystonelaw10.LabelNil", spec := "labelNil", inPlace := ["slices.overlaps[waystone/api.Rule]"], unfollowed := true, recurses := true, plainKeys := false, apart := false, narrowed := true }
def LabelNilUptoSaid : Prop := labelNilUptoRow.holds Try.pinned (OpenSpec.upto labelNilSpec)

end Rows
end Go.Proofs.Ytlhfaildeemngaa
