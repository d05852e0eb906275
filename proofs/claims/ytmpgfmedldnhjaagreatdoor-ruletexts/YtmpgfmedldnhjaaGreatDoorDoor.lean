/- From the listed tables and the world's shape to what the walks ask; a world that meets them; the wrap that keeps both. -/
import Derived.Test.YtmpgfmedldnhjaaGreatDoorOpen
import Derived.Test.YtmpgfmedldnhjaaGreatDoorLift
import Derived.Test.YtmpgfmedldnhjaaGreatDoorT2
import Derived.LaidMore
import Derived.Lay
import Derived.Stop.Joined
import Derived.Stop.LaidErr
import Derived.Shelf.Vars
import Derived.HandedShaped
namespace Go.Proofs.YtmpgfmedldnhjaaGreatDoor
open Go.ChangeShapes Go.WideShapes Go.ChangeAt Go.RowKit

/-- The listed tables. -/
def laid8 : List (String × DataW Unit) := [("math/bits.deBruijn32tab", Rows.laid_math_bits_deBruijn32tab), ("math/bits.deBruijn64tab", Rows.laid_math_bits_deBruijn64tab), ("internal/strconv.uint64pow10", Rows.laid_internal_strconv_uint64pow10), ("unicode/utf8.acceptRanges", Rows.laid_unicode_utf8_acceptRanges), ("strconv.ErrRange", Rows.laid_strconv_ErrRange), ("strconv.ErrSyntax", Rows.laid_strconv_ErrSyntax), ("waystone/rule.words", Rows.laid_waystone_rule_words), ("unicode/utf8.first", Rows.laid_unicode_utf8_first)]
theorem own : ownKnob Tryz.prog.godebug = none := by kernel_rfl
theorem laidOut : laidOutB Tryz.prog = true := by kernel_rfl
theorem plain8 : (laid8.all fun x => x.2.handleName?.isNone) = true := by kernel_rfl
theorem door_met (os : Os) (args : Array Value) : laidMetH Tryz.prog laid8 ((World.laidAll Tryz.prog os laid8).forCall (fun _ _ => 0) ⟨#[], args, []⟩).memory := by
  rw [MakeChecks.laidMetH_plain _ _ _ plain8]; exact laidMet_laidAll _ (by kernel_rfl) (by kernel_rfl)
theorem gp10 : Tryz.prog.globalNamed "internal/strconv.uint64pow10" = some 1 := by kernel_rfl
theorem tp10 : (Tryz.prog.globals[1]?).map (·.type) = some 114 := by kernel_rfl
theorem ges : Tryz.prog.globalNamed "strconv.ErrSyntax" = some 3 := by kernel_rfl
theorem tes : (Tryz.prog.globals[3]?).map (·.type) = some 71 := by kernel_rfl
theorem ger : Tryz.prog.globalNamed "strconv.ErrRange" = some 4 := by kernel_rfl
theorem ter : (Tryz.prog.globals[4]?).map (·.type) = some 71 := by kernel_rfl
theorem twd : (Tryz.prog.globals[0]?).map (·.type) = some 50 := by kernel_rfl
theorem cells9 : Tryz.prog.cellsOf 9 = 1 := by kernel_rfl
theorem cellsWords : Tryz.prog.cellsOf 50 = 4 := by kernel_rfl
/-- A variable of an interface type, listed at the head. -/
theorem iface_of_head {n nm : String} {d : DataW Unit} {r : List (String × DataW Unit)} {W : World} {g : Nat} {ti : TypeId} {ms : Array (String × TypeId)} (h : laidMet Tryz.prog ((n, .iface nm d) :: r) W)
    (hg : Tryz.prog.globalNamed n = some g) (ht : (Tryz.prog.globals[g]?).map (·.type) = some ti) (hi : Tryz.prog.underlying ti = some (.interface ms)) : ∃ tp p, W.var? Tryz.prog n = some #[.iface tp p] := by
  obtain ⟨ps, ⟨g0, t0, cs0, f0, p0, q0, hg0, ht0, hv0, hd0, _, e0⟩, _, hrows⟩ := h
  obtain rfl := Option.some.inj (hg.symm.trans hg0)
  obtain rfl := Option.some.inj (ht.symm.trans ht0)
  obtain ⟨fuel', u, v, hcs, _, _⟩ := iface_of_trod hi hd0
  refine ⟨u, v, ?_⟩
  rw [hv0]
  exact congrArg some (Array.toList_inj.1 hcs)
set_option maxRecDepth 100000 in
/-- The kinds' words, listed at the head. -/
theorem words_of_head {r : List (String × DataW Unit)} {W : World} (h : laidMet Tryz.prog (("waystone/rule.words", Rows.laid_waystone_rule_words) :: r) W) : W.var? Tryz.prog "waystone/rule.words" = some wordsV := by
  obtain ⟨ps, ⟨g0, t0, cs0, f0, p0, q0, hg0, ht0, hv0, hd0, _, e0⟩, _, hrows⟩ := h
  obtain rfl := Option.some.inj (gwords.symm.trans hg0)
  obtain rfl := Option.some.inj (twd.symm.trans ht0)
  obtain ⟨xs, m, _, ex, hcl, hl, hel⟩ := DataW.trod_array Tryz.underlying50 hd0
  rw [cellsWords] at hcl
  rw [hv0]
  refine congrArg some (Array.toList_inj.1 ?_)
  have ex1 : (DataW.agg (xs.map (·.1)) : DataW Unit) = Rows.laid_waystone_rule_words := (Prod.mk.inj ex).1.symm
  unfold Rows.laid_waystone_rule_words at ex1
  injection ex1 with ex1
  match xs, hl with
  | [x0, x1, x2, x3], _ =>
    simp only [List.map_cons, List.map_nil, List.cons.injEq, and_true] at ex1
    obtain ⟨q0, q1, q2, q3⟩ := ex1
    match hcs : cs0.toList, hcl with
    | [c0, c1, c2, c3], _ =>
      rw [hcs] at hel
      have h0 := hel 0 (by decide)
      have h1 := hel 1 (by decide)
      have h2 := hel 2 (by decide)
      have h3 := hel 3 (by decide)
      simp only [cells9, Nat.zero_mul, Nat.one_mul, Nat.mul_one, List.drop_zero, List.take_succ_cons, List.take_zero, List.drop_succ_cons, List.getElem?_cons_zero, List.getElem?_cons_succ] at h0 h1 h2 h3
      obtain ⟨s0, k0, z0, _⟩ := DataW.trod_string Tryz.underlying9 h0
      obtain ⟨s1, k1, z1, _⟩ := DataW.trod_string Tryz.underlying9 h1
      obtain ⟨s2, k2, z2, _⟩ := DataW.trod_string Tryz.underlying9 h2
      obtain ⟨s3, k3, z3, _⟩ := DataW.trod_string Tryz.underlying9 h3
      have st : ∀ {s : ByteArray} {x : DataW Unit × List MemPlace} {l : List UInt8}, x = (.lit (.string s.data.toList), []) → x.1 = .lit (.string l) → s = ⟨l.toArray⟩ := by
        intro s x l e1 e2
        subst e1
        injection e2 with e2
        injection e2 with e2
        apply str_eq; rw [e2]
      have e0 := st z0 q0
      have e1 := st z1 q1
      have e2 := st z2 q2
      have e3 := st z3 q3
      injection k0 with k0; injection k1 with k1; injection k2 with k2; injection k3 with k3
      subst k0 k1 k2 k3 e0 e1 e2 e3
      rfl
theorem tb_of_laid {W : World} (h : laidMetH Tryz.prog laid8 W) (hs : W.ShapedOpen Tryz.prog) : Tb W := by
  rw [MakeChecks.laidMetH_plain _ _ _ plain8] at h
  have h3 := laidMet.tail (laidMet.tail h)
  have h5 := laidMet.tail (laidMet.tail h3)
  have h6 := laidMet.tail h5
  have h7 := laidMet.tail h6
  refine ⟨Lib.tabIs_of_head (n := 20) (t := 114) (e := 99) (g := 1) gp10 tp10 Tryz.underlying114 Tryz.underlying99 (by kernel_rfl) (by kernel_rfl) h3, ?_, iface_of_head h6 ges tes Tryz.underlying71, iface_of_head h5 ger ter Tryz.underlying71, words_of_head h7⟩
  exact cell_of_shapedOpen_int (g := 2) (t := 3) (zero := #[.int .i64 0]) hs (of_decide_eq_true (by kernel_rfl)) (by kernel_rfl) rfl (by kernel_rfl) (by kernel_rfl) Tryz.underlying3

/-- The wrap that keeps a condition and the world's shape. -/
theorem handed_and_shaped {H : Type} {enc : TypeId × Value → H} {a : Assume} {C : Checked} {os : Os} {f : FuncId} {fn : Func} {s : ChangeSpec} {conds : List PathCond} {apart fresh handsOn again : Bool} {X : World → Array Value → Prop}
    (hX : ∀ (w w' : World) (args : Array Value), w.heap = w'.heap → X w args → X w' args)
    (own : ownKnob C.prog.godebug = none) (started : os.Started) (noInit : C.prog.inits.idxOf? f = none) (hfn : C.prog.funcs[f]? = some fn)
    (witness : ∃ (w : World) (tape : Tape) (i : Input), w.os = os ∧ (w.forCall tape i).Shaped C.prog ∧ i.vars = [] ∧ Input.okWide C.prog (w.forCall tape i) .any w.heap.size f i ∧
      ((s.pre enc C.prog fn conds apart (w.forCall tape i).memory i.args ∧ X (w.forCall tape i).memory i.args) ∧ sizedMet enc C.prog fn (OpenSpec.ofChange s) apart (w.forCall tape i).memory i.args) ∧ a.holds C.prog (lone (Frame.enter C.prog f i.args .normal) [] (w.forCall tape i)))
    (contract : ∀ (W : World) (base : Nat) (args : Array Value) (ds gs : List (DataW H)) (before : List MemPlace),
      (∀ (j : Nat) t v, fn.params[j]? = some t → args[j]? = some v → Value.okWide C.prog W .any base t v) →
      DataW.Whole enc C.prog fn.params.toList s.vars apart W args.toList ds gs before → X W args → W.ShapedOpen C.prog →
      Calls C.prog f args W fun e W' => ∃ v, e = .returned v ∧ s.post enc C.prog fn apart fresh handsOn again W args v W') :
    ReturnsInHanded a C os f .any (fun w args => (s.pre enc C.prog fn conds apart w args ∧ X w args) ∧ sizedMet enc C.prog fn (OpenSpec.ofChange s) apart w args) (s.post enc C.prog fn apart fresh handsOn again) := by
  refine returnsInHanded_of_calls own started noInit witness ?_
  intro w tape i _ hsh _ hok hpre hholds
  obtain ⟨_, _, _, fn', hfn', _, _, _, _, hval⟩ := hok
  have e : fn' = fn := Option.some.inj (hfn'.symm.trans hfn)
  subst e
  obtain ⟨⟨⟨ds, gs, before, hw, hc⟩, hx⟩, hz⟩ := hpre
  have hw' := DataW.Whole.of_heap (w' := w.forCall tape i) (by rfl) hw
  refine (contract (w.forCall tape i) w.heap.size i.args ds gs before hval hw' (hX _ _ _ (by rfl) hx) hsh).mono fun e W' ⟨v, he, hp⟩ => ?_
  subst he
  exact ChangeSpec.post_blind hp
end Go.Proofs.YtmpgfmedldnhjaaGreatDoor
