/- Texts of this seat, put together: V3, Fl2, Rnd, ZoC0, ZoR1, ZoR2, ZoD1, ZoD2, ZoD3, Fl3, Fl4, Fl5, Fl6, ZoJ, Fl7, Fl8, FO, FA11, FT11, Pf0, RtT1, RtJ1. -/
import Derived.Test.YteboadppighplaaGreatZ1
import Derived.Deep.Upon
import Derived.Test.YteboadppighplaaGreatZ2
import Derived.RangeFuncCalls
import Derived.OrdersIn
import Derived.TacticsIn
import Derived.StillTail
import Derived.StillTailTactics
import Derived.Deep.Quiet
import Derived.Test.YteboadppighplaaGreatRows
import Derived.WalkKit
import Derived.Outline
import Derived.Deep.CutRange
import Derived.Deep.DeepCutAuto
import Derived.Deep.RegionWith
import Derived.Deep.LoopGhost
import Derived.Deep.QuietTactic
import Derived.BigQuiet
import Derived.Deep.DeepMust
import Derived.Deep.DeepFit
import Derived.Deep.Light
import Derived.Deep.RegionHeld3
import Derived.Deep.AppendLies
import Derived.IntWalk
import Derived.Lib.Hide
import Derived.Shelf.Abstract
import Derived.Deep.RegionLaw
import Derived.Laws.OwnMore
import Derived.Maps.AppendAt
/- Append of a slice, nil or not, onto a row of one's own, nil or not. Over any program. -/
namespace Go.Proofs.YteboadppighplaaGreat
open Go.RowKit Go.Shelf

section
variable {α : Type} {n : Nat} {f : α → Array Value}
theorem wpList_app_o {P : Program} {T e : TypeId} {z : Value} {by' : Nat} (hf : ∀ r, (f r).size = n) (h1 : ∀ r, ∀ u ∈ (f r).toList, u.oneCell' = true) (ht : P.underlying T = some (.slice e)) (hinfo : (P.info? e).map (fun i => (i.zero, i.size, i.bytes)) = some (some z, n, by')) (hzs : z.cells.size = n) (hn : 0 < n)
    {ops : Array Oper} {rest : List Oper} {o : Oper} {a : Act} {Q : Exit → Act → World → Prop} {w : World} (hgd : o.guard = none) (s x : Operand)
    (ho : o.op = .call { callee := .builtin .append, args := #[s, x], argTypes := #[T, T] })
    (base : Nat) (v : Value) (L : List α) (hs : a.eval s = v) (hown : w.ownsRow base e n v L.length (fcs f L)) (A : Option Addr) (c : Nat) (M : List α) (hx : a.eval x = .slice A M.length c) (hM : Fs n f w A M)
    (hlen : L.length + M.length ≤ maxLen) (hby : (L.length + M.length) * by' ≤ 140737488355328) (hbase : base ≤ w.heap.size)
    (h : ∀ v' w', w'.ownsRow base e n v' (L ++ M).length (fcs f (L ++ M)) → Below base w w' → wpList P ops Q rest (a.put o.dst v') w') : wpList P ops Q (o :: rest) a w := by
  obtain ⟨i0, hi, hz0, hz1, hz2⟩ := info_parts hinfo
  cases A with
  | some ad =>
    refine wpList_append_own w hgd s x T ho base e i0 z n by' ht hi hz0 hz1 hz2 hzs hn _ _ _ hs hown ad M.length c (fcs f M) hx (fcs_length hf M) (hM.news hf) (fcs_one h1 M) hlen hby hbase ?_
    intro v' w' h1 h2 h3
    refine h v' w' ?_ ((Below.refl _ _).grown h2 hbase (fun k hk => (hown.lt k hk).1))
    rw [fcs_append, List.length_append]
    exact h1
  | none =>
    have hM0 : M = [] := by
      cases M with
      | nil => rfl
      | cons r M => obtain ⟨g, o, e, _⟩ := hM (by simp); cases e
    subst hM0
    have hv : ∃ b sc, v = .slice b L.length sc ∧ L.length ≤ sc := by
      rcases hown.2 with ⟨e, h0⟩ | ⟨g', cap', cur, e, _, _, hnc, _⟩
      · exact ⟨none, 0, by rw [e, h0], by omega⟩
      · exact ⟨_, _, e, hnc⟩
    obtain ⟨b, sc, rfl, hsc⟩ := hv
    refine wpList_plain hgd fun K hK => ?_
    have hr := run_append_nothing (P := P) w T T o.type e i0 ht hi b L.length sc hsc (.slice none 0 c) (by rw [hz1]; exact Src.ofNil w ht c)
    unfold Oper.wp execOp
    simp only [ho, resolve, invoke, builtin, Sem.run_bind, Sem.run_pure, Result.andThen_ok, List.map_toArray, List.map_cons, List.map_nil, hs, hx, List.length_nil, hr]
    exact hK _ _ (h _ w (by simpa using hown) (Below.refl _ _))
end
end Go.Proofs.YteboadppighplaaGreat
/- Contracts: the document's Cut (stage 11), of right networks' rules. -/
namespace Go.Proofs.YteboadppighplaaGreat
open Go.RowKit Go.Shelf

/-- A network as it lies in a slice. -/
structure Nt where
  vp : Value
  vl : Value
  vr : Value
  ps : List Int
  ls : List Lk
  L : List Ru
def ntA (n : Nt) : Array Value := #[n.vp, n.vl, n.vr]
theorem ntA_size (n : Nt) : (ntA n).size = 3 := rfl
/-- A slice of networks. -/
def Ns (w : World) (v : Value) (ns : List Nt) : Prop := IsF 3 ntA w v ns ∧ ∀ n ∈ ns, IsN w n.vp n.vl n.vr n.ps n.ls n.L
theorem Ns.belows {w w' : World} {v : Value} {ns : List Nt} (h : Ns w v ns) (hb : Below w.heap.size w w') : Ns w' v ns := ⟨h.1.belows hb, fun n hn => (h.2 n hn).belows hb⟩
theorem Ns.at {w : World} {A : Option Addr} {m c : Nat} {ns : List Nt} (h : Ns w (.slice A m c) ns) (k : Nat) (hk : k < ns.length) : ∃ g o, A = some ⟨g, o, none⟩ ∧ g < w.heap.size ∧ w.cell? ⟨g, o + k * 3, none⟩ = some ns[k].vp ∧ w.cell? ⟨g, o + k * 3 + 1, none⟩ = some ns[k].vl ∧ w.cell? ⟨g, o + k * 3 + 2, none⟩ = some ns[k].vr ∧ IsN w ns[k].vp ns[k].vl ns[k].vr ns[k].ps ns[k].ls ns[k].L := by
  obtain ⟨⟨A', c', e, _, _, z⟩, hn⟩ := h
  cases e
  obtain ⟨g, o, e, hg, r⟩ := z.at k hk
  exact ⟨g, o, e, hg, (r 0 (by omega)).trans rfl, (r 1 (by omega)).trans rfl, (r 2 (by omega)).trans rfl, hn _ (List.getElem_mem hk)⟩
/-- All rules' ranges. -/
def rgN (ns : List Nt) : List (Nat × Nat) := ns.flatMap fun n => rgL n.L
theorem rgN_take {ns : List Nt} {k : Nat} (hk : k < ns.length) : rgN (ns.take (k + 1)) = rgN (ns.take k) ++ rgL ns[k].L := by
  unfold rgN
  rw [List.take_succ_eq_append_getElem hk, List.flatMap_append]
  simp
theorem rgN_len {ns : List Nt} (h : ∀ n ∈ ns, n.L.length ≤ 1000) : (rgN ns).length ≤ ns.length * 1000 := by
  induction ns with
  | nil => simp [rgN]
  | cons n ns ih =>
    have := ih fun m hm => h m (by simp [hm])
    have := h n (by simp)
    unfold rgN at *
    rw [List.flatMap_cons, List.length_append, List.length_cons]
    have : (rgL n.L).length = n.L.length := by unfold rgL; rw [List.length_map]
    omega
theorem zs_fs {w : World} {A : Option Addr} {L : List (Nat × Nat)} (h : Tr.Zs w A L) : Fs 2 rgA w A L := fun hn => by
  obtain ⟨g, o, e, hg, hc⟩ := h hn
  refine ⟨g, o, e, hg, fun k hk j hj => ?_⟩
  obtain ⟨c1, c2⟩ := hc k hk
  match j with
  | 0 => exact c1
  | 1 => exact c2
  | j + 2 => omega
/-- How far the cutting has come. -/
def CutI (f t : Nat) (C : List Nat) (k : Nat) (z : List (Nat × Nat)) : Prop := z ++ cutC 4294967296 f t (C.drop k) = cutC 4294967296 f t C ∧ z.length ≤ k
theorem CutI.give {f t : Nat} {C : List Nat} {k : Nat} {z : List (Nat × Nat)} (h : CutI f t C k z) (hk : k < C.length) (hc : max C[k] f ≤ min (Tr.endOf 4294967296 (C.drop (k + 1))) t) : CutI f t C (k + 1) (z ++ [(max C[k] f, min (Tr.endOf 4294967296 (C.drop (k + 1))) t)]) := by
  obtain ⟨h1, h2⟩ := h
  rw [List.drop_eq_getElem_cons hk, cutC, if_pos hc] at h1
  exact ⟨by simpa using h1, by simp; omega⟩
theorem CutI.pass {f t : Nat} {C : List Nat} {k : Nat} {z : List (Nat × Nat)} (h : CutI f t C k z) (hk : k < C.length) (hc : ¬ max C[k] f ≤ min (Tr.endOf 4294967296 (C.drop (k + 1))) t) : CutI f t C (k + 1) z := by
  obtain ⟨h1, h2⟩ := h
  rw [List.drop_eq_getElem_cons hk, cutC, if_neg hc] at h1
  exact ⟨h1, by omega⟩
theorem CutI.fin {f t : Nat} {C : List Nat} {z : List (Nat × Nat)} (h : CutI f t C C.length z) : z = cutC 4294967296 f t C := by
  have := h.1
  rw [List.drop_length] at this
  simpa [cutC] using this
/-- What the boundaries are like. -/
structure CuB (C : List Nat) : Prop where
  lt : ∀ j (hj : j < C.length), C[j] < 4294967296
  pos : ∀ j (hj : j < C.length), 0 < j → 0 < C[j]
  len : C.length ≤ 4294967296
  en : ∀ k, Tr.endOf 4294967296 (C.drop (k + 1)) < 4294967296
theorem cuB_of (R : List (Nat × Nat)) : CuB (Tr.bnds R) := by
  have hr := Tr.bnds_rise R
  have hb := Tr.bd_of R
  refine ⟨fun j hj => hb.lt hj, fun j hj h0 => ?_, ?_, fun k => ?_⟩
  · have := Tr.rising_at hr 0 j hb.pos hj h0
    omega
  · rcases Tr.rising_len hr with h | h
    · omega
    · rw [h]; simp
  · by_cases h : k + 1 < (Tr.bnds R).length
    · rw [List.drop_eq_getElem_cons h]; have := hb.lt h; simp only [Tr.endOf]; omega
    · rw [List.drop_eq_nil_of_le (by omega)]; simp [Tr.endOf]
/-- What Cut answers. -/
def CutOut (R : List (Nat × Nat)) (f t : Nat) (w : World) (e : Ending) (w' : World) : Prop := ∃ v, e = .returned (.tuple #[v, .int .i64 (if f ≤ t then 0 else 31)]) ∧ Tr.IsZ w' v (if f ≤ t then cutZ R f t else []) ∧ Below w.heap.size w w'
set_option maxRecDepth 100000 in
set_option maxHeartbeats 4000000 in
theorem rcut_any {v : Value} (ns : List Nt) (f t : Nat) (w : World) (hf : f < 4294967296) (ht : t < 4294967296) (hns : ns.length ≤ 2) (hL : ∀ n ∈ ns, n.L.length ≤ 1000 ∧ ∀ r ∈ n.L, r.wf) (h : Ns w v ns) :
    Calls Tryz.prog 20 #[v, .agg #[.int .u32 f, .int .u32 t]] w (CutOut (rgN ns) f t w) := by
  have HN : Hid (∀ u, Below w.heap.size w u → Ns u v ns) := Lib.hid fun u hu => h.belows hu
  obtain ⟨⟨A1, c1, rfl, n1, m1, _⟩, _⟩ := h
  have D0 := At.new w #[.int .u32 f, .int .u32 t] 43
  have b0 : Below w.heap.size w (w.alloc (.cells #[.int .u32 f, .int .u32 t] 43)) := (Below.refl _ w).alloc (Nat.le_refl _) _
  have hs0 : (w.alloc (.cells #[.int .u32 f, .int .u32 t] 43)).heap.size = w.heap.size + 1 := by simp
  unfold CutOut
  by_cases hft : f ≤ t
  case neg =>
    rw [if_neg hft, if_neg hft]
    have hgt : t < f := by omega
    clear HN
    go_enter Tryz.func20, Tryz.ntmps20
    go_wp2
    go_ret2
    exact ⟨_, rfl, ⟨none, 0, rfl, Nat.le_refl _, by decide, Tr.Zs.nil _ _⟩, b0⟩
  case pos =>
    rw [if_pos hft, if_pos hft]
    have HLEN : Hid (∀ k, (rgN (ns.take k)).length ≤ 2000) := Lib.hid fun k => by
      have := rgN_len (ns := ns.take k) fun n hn => (hL n (List.mem_of_mem_take hn)).1
      have : (ns.take k).length ≤ 2 := by rw [List.length_take]; omega
      omega
    have HU : Hid (Tr.U32 (rgN ns)) := Lib.hid fun r hr => by
      obtain ⟨n, hn, hr⟩ := List.mem_flatMap.1 hr
      obtain ⟨x, hx, rfl⟩ := List.mem_map.1 hr
      have := (hL n hn).2 x hx
      exact ⟨this.2.2.2.2.1, this.2.2.2.2.2.1⟩
    have HLN : Hid (∀ n ∈ ns, n.L.length ≤ 1000) := Lib.hid fun n hn => (hL n hn).1
    have hgt : ¬ t < f := by omega
    have hnl : ns.length ≤ 9223372036854775807 := by omega
    clear hL
    go_enter Tryz.func20, Tryz.ntmps20
    go_upto_region 1 with (fail)
    obtain ⟨w0, hw0⟩ : ∃ w0, w0 = w.alloc (.cells #[.int .u32 f, .int .u32 t] 43) := ⟨_, rfl⟩
    rw [← hw0] at D0 b0 hs0 ⊢
    clear hw0
    have HS0 := Lib.hid hs0
    have HD0 := Lib.hid D0
    have HI0 : Hid (w0.ownsRow (w.heap.size + 1) 43 2 (.slice none 0 0) (rgN (ns.take 0)).length (fcs rgA (rgN (ns.take 0))) ∧ Below (w.heap.size + 1) w0 w0) := Lib.hid ⟨World.ownsRow_nil _ _ _ _, Below.refl _ _⟩
    have x0 := (D0.cell 0).trans rfl
    have x1 := (D0.cell 1).trans rfl
    clear hs0 D0
    go_wp2
    go_loopw [6, 7] (fun o i wr => ∃ k : Nat, i = .int .i64 k ∧ k ≤ ns.length ∧ Hid (wr.ownsRow (w.heap.size + 1) 43 2 o (rgN (ns.take k)).length (fcs rgA (rgN (ns.take k))) ∧ Below (w.heap.size + 1) w0 wr)) (fun _ i _ => ns.length - (intOf i).toNat)
    case atStart => exact ⟨0, rfl, by omega, HI0⟩
    case round =>
      obtain ⟨k, rfl, hk, HI⟩ := hrel
      have hb := HI.out.2
      have bw := b0.trans (hb.mono (by omega))
      have hsz : w.heap.size + 1 ≤ wr.heap.size := by have := hb.size; have := HS0.out; omega
      by_cases hlt : k < ns.length
      · obtain ⟨g, o, e, hg, r0, r1, r2, hN⟩ := (HN.out wr bw).at k hlt
        subst e
        have i0 : (0 : Int) ≤ (k : Int) := by omega
        have i1 : (k : Int) < (ns.length : Int) := by omega
        have hlk := HLEN.out (k + 1)
        have kR := rranges_any ns[k].ps ns[k].ls ns[k].L wr (HLN.out _ (List.getElem_mem hlt)) hN
        have HT := Lib.hid (rgN_take hlt)
        rw [HT.out, List.length_append] at hlk
        generalize ns[k] = x at r0 r1 r2 hN HT kR hlk
        obtain ⟨vp, vl, vr, ps, ls, L⟩ := x
        dsimp only at r0 r1 r2 hN HT kR hlk
        have HROW := Lib.hid HI.out.1
        have HB := Lib.hid hb
        clear hb hN
        go_wp2_with (first | (go_at_call 49; refine kR.mono ?_; rintro e w4 ⟨v4, rfl, ⟨A4, c4, rfl, _, _, z4⟩, b4⟩) | (at_builtin; refine wpList_app_o rgA_size rgA_one Tryz.underlying31 infoRange rfl (by decide) rfl _ _ rfl (w.heap.size + 1) _ (rgN (ns.take k)) rfl (row_belows HROW.out b4) A4 c4 (rgL L) rfl (zs_fs z4) (by simp only [maxLen]; omega) (by omega) (Nat.le_trans hsz b4.size) ?_; intro v5 w5 ho hb5))
        have HF : Hid (w5.ownsRow (w.heap.size + 1) 43 2 v5 (rgN (ns.take (k + 1))).length (fcs rgA (rgN (ns.take (k + 1)))) ∧ Below (w.heap.size + 1) w0 w5) := Lib.hid (by
          rw [HT.out]
          exact ⟨ho, (HB.out.trans (b4.mono hsz)).trans hb5⟩)
        clear ho hb5
        go_roundw
        case rel => exact ⟨k + 1, by go_num, by omega, HF⟩
        case measure => simp [intOf]; omega
      · have hki : ¬ (k : Int) < (ns.length : Int) := by omega
        have hkl : k = ns.length := by omega
        have hlk := HLEN.out k
        have hz : Tr.IsZ wr u6 (rgN ns) := by
          have := HI.out.1
          rw [hkl, List.take_length] at this
          exact Tr.isZ_of_row (base := w.heap.size + 1) this
        rw [hkl, List.take_length] at hlk
        have kC := Tr.cuts_any (rgN ns) wr HU.out (by omega) hz
        have D1 := HD0.out.below hb (by omega)
        have hu6 : ∃ A6 n6 c6, u6 = .slice A6 n6 c6 := by obtain ⟨A, c, e, _⟩ := hz; exact ⟨_, _, _, e⟩
        obtain ⟨A6, n6, c6, rfl⟩ := hu6
        have HB := Lib.hid hb
        clear HI hz hkl hb
        go_wp2_with (go_at_call 50; refine kC.mono ?_; rintro e w2 ⟨vc, rfl, hI, b2⟩)
        have hb2 : Below w.heap.size w w2 := bw.trans (b2.mono bw.size)
        have D2 := D1.belows b2
        have hD2 := D2.lt
        have hcu := cuB_of (rgN ns)
        change Tr.IsI w2 vc (Tr.bnds (rgN ns)) at hI
        have hst : CutI f t (Tr.bnds (rgN ns)) 0 [] := ⟨rfl, by simp⟩
        have hend := fun k hk (W : World) (hW : Below w2.heap.size w2 W) => Tr.end_any (Tr.bnds (rgN ns)) k W hk hcu.pos hcu.lt (hI.belows hW)
        obtain ⟨T, hT⟩ : ∃ T, T = cutZ (rgN ns) f t := ⟨_, rfl⟩
        have HT : Hid (T = cutC 4294967296 f t (Tr.bnds (rgN ns))) := Lib.hid hT
        have HTZ := Lib.hid hT
        generalize Tr.bnds (rgN ns) = C at hI hcu hst hend HT
        have HEND := Lib.hid hend
        have HCU := Lib.hid hcu
        obtain ⟨Ac, cc, rfl, nc, mc, zc⟩ := hI
        have HCC := Lib.hid zc
        have HST := Lib.hid hst
        have HD2 := Lib.hid D2
        clear hT hend hcu zc hst kC D1 D2 b2
        simp only [maxLen] at mc
        go_wp2
        go_loopw [9, 10] (fun o i wq => ∃ (k : Nat) (z : List (Nat × Nat)), i = .int .i64 k ∧ k ≤ C.length ∧ Hid (CutI f t C k z) ∧ Hid (wq.ownsRow w2.heap.size 43 2 o z.length (fcs rgA z)) ∧ Below w2.heap.size w2 wq) (fun _ i _ => C.length - (intOf i).toNat)
        case atStart => exact ⟨0, [], rfl, by omega, HST, Lib.hid (World.ownsRow_nil _ _ _ _), Below.refl _ _⟩
        case round =>
          obtain ⟨k, z, rfl, hk, HBI, HO, hbq⟩ := hrel
          by_cases hlt : k < C.length
          · obtain ⟨g, e1, hg, hc⟩ := HCC.out (by omega)
            subst e1
            have c0 := (hbq.cell (p := ⟨g, k, none⟩) hg).trans (hc k hlt)
            have b0 := HCU.out.lt k hlt
            have hgive := HBI.out.give hlt
            have hpass := HBI.out.pass hlt
            have hE := HEND.out k hlt
            have hel := HCU.out.en k
            clear hc
            generalize C[k] = c at c0 b0 hgive hpass
            generalize Tr.endOf 4294967296 (C.drop (k + 1)) = en at hgive hpass hE hel
            have hzl : z.length ≤ 4294967296 := by have := HBI.out.2; have := HCU.out.len; omega
            have Dq := HD2.out.below hbq hD2
            have q0 := (Dq.cell 0).trans rfl
            have q1 := (Dq.cell 1).trans rfl
            have i0 : (0 : Int) ≤ (k : Int) := by omega
            have i1 : (k : Int) < (C.length : Int) := by omega
            have HGI := Lib.hid hgive
            have HPA := Lib.hid hpass
            clear hgive hpass
            go_wp2_with fail
            go_quiet (fail)
            have hmx : max (c : Int) (f : Int) = ((max c f : Nat) : Int) := by omega
            rw [hmx]
            have hmn : min (en : Int) (t : Int) = ((min en t : Nat) : Int) := by omega
            have hM1 : max c f < 4294967296 := by omega
            have hM2 : min en t < 4294967296 := by omega
            generalize max c f = mx at HGI HPA hM1
            clear hmx
            have bq7 : Below w2.heap.size w2 (wr.drewN nq) := bdrewN hbq nq
            have s1 : (wr.drewN nq).cell? ⟨w.heap.size, 1, none⟩ = some (.int .u32 t) := q1
            have HO7 : Hid ((wr.drewN nq).ownsRow w2.heap.size 43 2 u9 z.length (fcs rgA z)) := Lib.hid HO.out
            clear q0 q1 c0 Dq HO hbq
            generalize wr.drewN nq = w7 at bq7 s1 HO7 ⊢
            have hE' := fun n => hE (w7.drewN n) (bdrewN bq7 n)
            go_wp2_with fail
            go_quiet (exact Calls.quiet_of_same (hE' _))
            generalize min en t = mn at HGI HPA hM2
            clear hmn hE' hE
            have i2 : w2.heap.size ≤ w7.heap.size := bq7.size
            have HBN := Lib.hid fun n => bdrewN bq7 n
            have HON : Hid (∀ n, (w7.drewN n).ownsRow w2.heap.size 43 2 u9 z.length (fcs rgA z)) := Lib.hid fun n => HO7.out
            by_cases hc : mx ≤ mn
            · have HG2 := Lib.hid (HGI.out hc)
              have hci : (mx : Int) ≤ (mn : Int) := by omega
              have j1 : IntKind.u32.wrap (mx : Int) = (mx : Int) := IntWalk.u32_in _ (by omega)
              have j2 : IntKind.u32.wrap (mn : Int) = (mn : Int) := IntWalk.u32_in _ (by omega)
              clear hc
              go_wp2_with (at_builtin; refine wpList_app_new rgA_size rgA_one Tryz.underlying31 infoRange rfl (by decide) rfl (.tmp 57) (.tmp 63) rfl w2.heap.size _ z rfl ((HON.out _).alloc _) ⟨w7.heap.size, 0, none⟩ 1 [(mx, mn)] rfl (f_new rgA_size (w7.drewN _) [(mx, mn)] #[.int .u32 mx, .int .u32 mn] 43 rfl) (by simp only [maxLen, List.length_singleton]; omega) (by simp only [List.length_singleton]; omega) (by simp; omega) ?_; intro v' w5 ho hb5)
              have HF : Hid (w5.ownsRow w2.heap.size 43 2 v' (z ++ [(mx, mn)]).length (fcs rgA (z ++ [(mx, mn)])) ∧ Below w2.heap.size w2 w5) := Lib.hid ⟨ho, ((HBN.out _).alloc i2 _).trans hb5⟩
              clear ho hb5
              go_roundw
              case rel => exact ⟨k + 1, _, by go_num, by omega, HG2, Lib.hid HF.out.1, HF.out.2⟩
              case measure => simp [intOf]; omega
            · have HP2 := Lib.hid (HPA.out hc)
              have hci : ¬ (mx : Int) ≤ (mn : Int) := by omega
              clear hc
              go_wp2
              go_roundw
              case rel => exact ⟨k + 1, z, by go_num, by omega, HP2, HON.out _, HBN.out _⟩
              case measure => simp [intOf]; omega
          · obtain rfl : k = C.length := by omega
            have hfin := HBI.out.fin
            subst hfin
            go_wp2
            go_ret2
            exact ⟨_, rfl, by rw [← HTZ.out, HT.out]; exact Tr.isZ_of_row HO.out, hb2.trans (hbq.mono hb2.size)⟩
end Go.Proofs.YteboadppighplaaGreat
/- Inside a round of a range over a function: a region that draws its order and holds reads alone, or reads and one store at its end. Over any program. -/
namespace Go.Proofs.YteboadppighplaaGreat
open Go.RowKit

section
variable {P : Program} {ops : Array Oper} {Q : Exit → Act → World → Prop} {l n : Nat}

/-- A post that lets nothing out of memory. -/
def NoO (Q : Exit → Act → World → Prop) : Exit → Act → World → Prop
  | .outgrown, _, _ => False
  | e, a, w => Q e a w
theorem NoO.imp (e : Exit) (a : Act) (w : World) (h : NoO Q e a w) : Q e a w := by
  cases e <;> first | exact h | exact (h : False).elim
theorem NoO.none : ¬ LetsOut (NoO Q) := fun ⟨_, _, h⟩ => h

/-- An operation that reads, or stores. -/
def roundB (o : Oper) : Bool := plainB o || match o.op with
  | .store _ _ _ => true
  | _ => false
theorem roundB_defer {o : Oper} (h : roundB o = true) : ∀ c, o.op ≠ .defer c := fun c e => by
  simp [roundB, plainB, e] at h
theorem bind_skip {s : Sem Unit} {w w' : World} {x : Next} (h : (do s; pure Next.skip : Sem Next).run P w = .ok x w') : x = .skip := by
  simp only [Sem.run_bind] at h
  cases hs : s.run P w with
  | ok u w1 => rw [hs] at h; simp [Result.andThen, Sem.run_pure] at h; exact h.1.symm
  | halt u w1 => rw [hs] at h; simp [Result.andThen] at h
theorem roundB_row {o : Oper} (h : roundB o = true) (ρ : Operand → Value) (w w' : World) (r : String) (az : Array Value) : (execOp ρ o).run P w ≠ .ok (.row r az) w' := by
  intro e
  rcases Bool.or_eq_true _ _ ▸ h with h | h
  · obtain ⟨v, hv⟩ := only_value h e
    cases hv
  · unfold execOp at e
    cases ho : o.op <;> simp only [ho] at h e <;> first | (cases h; done) | skip
    have := bind_skip e
    cases this
theorem op_round {o : Oper} {a : Act} {w : World} {K : Act → World → Prop} (hb : roundB o = true) (h : o.wp P a w K Q) : o.wpIn (Fence.wide.inRound l) n P a w K Q := by
  refine ⟨fun _ _ => trivial, ?_⟩
  rw [Fence.inRound_round, Oper.semAt_some _ _ _ (roundB_defer hb)]
  unfold Oper.wp at h
  cases hres : (execOp a.eval o).run P w with
  | ok x w' =>
    rw [hres] at h
    cases x <;> first | exact h | exact absurd hres (roundB_row hb _ _ _ _ _) | exact ⟨fun h => (by cases h), callsIn_wide.2 h⟩ | exact (h : False).elim
  | halt x w' =>
    rw [hres] at h
    cases x <;> first | exact h | exact (h : False).elim
theorem any_round {md : Region.Mode} (hQ : ¬ LetsOut Q) (hb : ∀ (i : Nat) (o : Oper), ops[i]? = some o → roundB o = true) : ∀ (fuel : Nat) (listed : Array Bool) (a : Act) (w : World), wpAny P md ops Q fuel listed a w → wpAnyIn (Fence.wide.inRound l) n P md ops Q fuel listed a w
  | 0, _, _, _, h => h
  | fuel + 1, listed, a, w, h => by
    refine ⟨h.1, fun i hi => ?_⟩
    have h1 := wpOp_mono (any_round hQ hb fuel (listed.setIfInBounds i true)) (h.2 i hi)
    unfold wpOp at h1
    unfold wpOpIn
    split
    · rename_i ho; simpa only [ho] using h1
    · rename_i o ho
      simp only [ho] at h1
      split
      · rename_i hw; simp only [hw, if_true] at h1; exact op_round (hb i o ho) (h1.resolve_right fun h => hQ h.2)
      · rename_i hw; simp only [hw] at h1; exact ⟨fun _ _ => trivial, h1⟩
theorem all_round (h : ops.all roundB = true) : ∀ (i : Nat) (o : Oper), ops[i]? = some o → roundB o = true := fun i o ho => by
  obtain ⟨hi, rfl⟩ := Array.getElem?_eq_some_iff.1 ho
  exact Array.all_eq_true.1 h i hi

/-- READS ALONE. -/
theorem round_reads {id : Nat} {a : Act} {w : World} {ls : List Oper} (hm : P.follows .mixedOrders = true) (hB : Region.lexB .any ls.toArray = true) (hr : ls.toArray.all roundB = true)
    (h : wpQuiet P ls.toArray (fun w' => ∃ k, w' = w.drewN k) (fun a' => ∀ w', (∃ k, w' = w.drewN k) → Q .normal a' w') ls a) : (Code.region id ls.toArray true).wpIn (Fence.wide.inRound l) n P Q a w := by
  simp only [Region.lexB, Bool.and_eq_true] at hB
  have hq : wpAnyQ P .any ls.toArray (fun w' => ∃ k, w' = w.drewN k) (fun a' => ∀ w', (∃ k, w' = w.drewN k) → Q .normal a' w') ls.toArray.toList.length (Array.replicate ls.toArray.size false) a :=
    wpAnyQ_lex (md := .any) hB.1 ls.toArray.toList 0 (Array.replicate ls.toArray.size false) a (by simp) (by simpa using hB.2) h
  have hany := wpAny_of_quiet (Q' := NoO Q) (fun _ w' hw' h => h w' hw') _ _ _ { w with drawn := w.drawn + 1 } ⟨1, rfl⟩ hq
  exact wpIn_mono (wpIn_region_any hm (any_round NoO.none (all_round hr) _ _ _ _ (by simpa using hany))) NoO.imp

/-- READS, AND A TAIL THAT COMES IN ONE ORDER (a store). -/
theorem round_tail {id : Nat} {a : Act} {w : World} {ls : List Oper} (k : Nat) (hm : P.follows .mixedOrders = true) (hB : Region.lexTailB .any ls.toArray k = true) (hr : ls.toArray.all roundB = true)
    (h : wpStill P ls.toArray { w with drawn := w.drawn + 1 } (fun a' => wpList P ls.toArray (NoO Q) (ls.drop k) a' { w with drawn := w.drawn + 1 }) (ls.take k) a) : (Code.region id ls.toArray true).wpIn (Fence.wide.inRound l) n P Q a w := by
  simp only [Region.lexTailB, Bool.and_eq_true, decide_eq_true_eq] at hB
  obtain ⟨⟨⟨⟨q1, q2⟩, q3⟩, q4⟩, q5⟩ := hB
  have hk : k < ls.length := by simpa using q2
  have len1 : (ls.take k).length = k := by simp; omega
  have len2 : (ls.drop k).length = ls.toArray.size - k := by simp
  have start : HeadInv .any ls.toArray k (Array.replicate ls.toArray.size false) :=
    ⟨by simp, fun j oj _ hl => (by rw [getD_replicate_false] at hl; cases hl), fun t _ ht => getD_in (by simpa using ht) (getD_replicate_false _ _)⟩
  have head := wpAnyL_lex (md := .any) (g := ls.toArray.size - k) q1 q3 q4 q2 (ls.take k) 0 _ a (fun j hj => by rw [len1] at hj; simp [hj]) (by simpa using len1) start (by rw [len1]; exact q5) h
  have whole := wpAny_of_head (Q' := NoO Q) (g := ls.toArray.size - k) (fun listed a' hL => by
    have t1 := wpAny_of_seq (md := .any) (Q' := NoO Q) (ls.drop k) k listed a' { w with drawn := w.drawn + 1 } (fun j => by simp [List.getElem?_drop]) (by rw [len2]; exact hL.1) hL.2
    rwa [len2] at t1) _ _ _ head
  rw [len1, show k + (ls.toArray.size - k) = ls.toArray.size by omega] at whole
  exact wpIn_mono (wpIn_region_any hm (any_round NoO.none (all_round hr) _ _ _ _ whole)) NoO.imp
end
end Go.Proofs.YteboadppighplaaGreat
/- Words of this seat's walks: a block that holds just these cells; a slice that reads as ranges. -/
namespace Go.Proofs.YteboadppighplaaGreat.Zo
open Go.Proofs.YteboadppighplaaGreat.Tr
open Go.RowKit

theorem add_off (g o j : Nat) : (⟨g, o, none⟩ : Addr).add j = ⟨g, o + j, none⟩ := by unfold Addr.add; split <;> simp_all

/-- zone.backward. -/
theorem backward_any (f t : Nat) (w : World) : Calls Tryz.prog 54 #[.agg #[.int .u32 f, .int .u32 t]] w fun e w' => e = .returned (.bool (decide (t < f))) ∧ Below w.heap.size w w' := by
  go_enter Tryz.func54, Tryz.ntmps54
  go_wp2
  go_ret
  exact ⟨rfl, (Below.refl _ _).alloc (Nat.le_refl _) _⟩
/-- cmp.Compare at uint32. -/
def cmpN (x y : Nat) : Int := if x < y then -1 else if y < x then 1 else 0
theorem isNaN_any (x : Nat) (w : World) : Calls Tryz.prog 103 #[.int .u32 x] w fun e w' => e = .returned (.bool false) ∧ w' = w := by
  go_enter Tryz.func103, Tryz.ntmps103
  go_wp2
  go_ret
  exact ⟨by simp, rfl⟩
theorem compare_any (x y : Nat) (w : World) : Calls Tryz.prog 84 #[.int .u32 x, .int .u32 y] w fun e w' => e = .returned (.int .i64 (cmpN x y)) ∧ w' = w := by
  unfold cmpN
  by_cases h1 : x < y
  · rw [if_pos h1]
    go_enter Tryz.func84, Tryz.ntmps84
    go_wp2_with (go_at_call 103; refine (isNaN_any _ _).mono ?_; rintro e w1 ⟨rfl, rfl⟩)
    go_ret
    exact ⟨rfl, rfl⟩
  · rw [if_neg h1]
    by_cases h2 : y < x
    · rw [if_pos h2]
      go_enter Tryz.func84, Tryz.ntmps84
      go_wp2_with (go_at_call 103; refine (isNaN_any _ _).mono ?_; rintro e w1 ⟨rfl, rfl⟩)
      go_ret
      exact ⟨rfl, rfl⟩
    · rw [if_neg h2]
      go_enter Tryz.func84, Tryz.ntmps84
      go_wp2_with (go_at_call 103; refine (isNaN_any _ _).mono ?_; rintro e w1 ⟨rfl, rfl⟩)
      go_ret
      exact ⟨rfl, rfl⟩
end Go.Proofs.YteboadppighplaaGreat.Zo
/- Contracts: the document's Same, Right, Has, Count; Least, Count; the law's Fits. -/
namespace Go.Proofs.YteboadppighplaaGreat.Zo
open Go.Proofs.YteboadppighplaaGreat.Tr
open Go.RowKit

set_option maxRecDepth 100000 in
set_option maxHeartbeats 1000000 in
/-- Same, of one list twice. -/
theorem same_any {v1 v2 : Value} (L : List (Nat × Nat)) (w : World) (h1 : IsZ w v1 L) (h2 : IsZ w v2 L) : Calls Tryz.prog 12 #[v1, v2] w fun e w' => e = .returned (.bool true) ∧ Below w.heap.size w w' := by
  obtain ⟨A1, c1, rfl, n1, m1, z1⟩ := h1
  obtain ⟨A2, c2, rfl, n2, m2, z2⟩ := h2
  have hL : L.length ≤ 9223372036854775807 := Nat.le_trans n1 m1
  have H1 := Lib.hid z1
  have H2 := Lib.hid z2
  clear z1 z2
  go_enter Tryz.func12, Tryz.ntmps12
  go_wp2
  go_loopw [5] (fun i wr => ∃ k : Nat, i = .int .i64 k ∧ k ≤ L.length ∧ ∃ q, wr = w.drewN q) (fun i _ => L.length - (intOf i).toNat)
  case atStart => exact ⟨0, rfl, by omega, 0, rfl⟩
  case round =>
    obtain ⟨k, rfl, hk, q, rfl⟩ := hrel
    by_cases hlt : k < L.length
    · obtain ⟨g1, o1, e1, _, r1⟩ := H1.out (by omega)
      obtain ⟨g2, o2, e2, _, r2⟩ := H2.out (by omega)
      subst e1 e2
      obtain ⟨c10, c11⟩ := r1 k hlt
      obtain ⟨c20, c21⟩ := r2 k hlt
      clear r1 r2
      generalize L[k] = x at c10 c11 c20 c21
      have i0 : (0 : Int) ≤ (k : Int) := by omega
      have i1 : (k : Int) < (L.length : Int) := by omega
      go_wp2_with fail
      go_quiet (fail)
      go_wp2
      go_roundw
      case rel => exact ⟨k + 1, by go_num, by omega, q + nq, rfl⟩
      case measure => simp [intOf]; omega
    · go_wp2
      go_ret
      exact ⟨rfl, bdrewN (Below.refl _ _) _⟩

end Go.Proofs.YteboadppighplaaGreat.Zo
/- Contracts: the document's Has and Count; zone.Count, All; the law's Fits. -/
namespace Go.Proofs.YteboadppighplaaGreat.Zo
open Go.Proofs.YteboadppighplaaGreat.Tr
open Go.RowKit

theorem has_drop {L : List (Nat × Nat)} {k a : Nat} (hk : k < L.length) : has (L.drop k) a = (decide (L[k].1 ≤ a) && decide (a ≤ L[k].2) || has (L.drop (k + 1)) a) := by
  rw [List.drop_eq_getElem_cons hk, has_cons]

set_option maxRecDepth 100000 in
set_option maxHeartbeats 1000000 in
/-- The document's Has. -/
theorem rhas_any {v : Value} (L : List (Nat × Nat)) (a : Nat) (w : World) (h : IsZ w v L) : Calls Tryz.prog 26 #[v, .int .u32 a] w fun e w' => e = .returned (.bool (has L a)) ∧ w' = w := by
  obtain ⟨A1, c1, rfl, n1, m1, z1⟩ := h
  have hL : L.length ≤ 9223372036854775807 := Nat.le_trans n1 m1
  have H1 := Lib.hid z1
  clear z1
  go_enter Tryz.func26, Tryz.ntmps26
  go_wp2
  go_loopw [5] (fun i wr => ∃ k : Nat, i = .int .i64 k ∧ k ≤ L.length ∧ Hid (has L a = has (L.drop k) a) ∧ wr = w) (fun i _ => L.length - (intOf i).toNat)
  case atStart => exact ⟨0, rfl, by omega, Lib.hid (by simp), rfl⟩
  case round =>
    obtain ⟨k, rfl, hk, HR, rfl⟩ := hrel
    by_cases hlt : k < L.length
    · obtain ⟨g1, o1, e1, _, r1⟩ := H1.out (by omega)
      subst e1
      obtain ⟨c10, c11⟩ := r1 k hlt
      have e0 := has_drop (a := a) hlt
      generalize L[k] = x at c10 c11 e0
      clear r1
      by_cases h1 : x.1 ≤ a
      · by_cases h2 : a ≤ x.2
        · rw [show decide (x.1 ≤ a) = true by simpa using h1, show decide (a ≤ x.2) = true by simpa using h2] at e0
          have HE := Lib.hid e0
          clear e0
          go_wp2
          go_ret
          refine ⟨ret_bool ?_, rfl⟩
          rw [HR.out, HE.out]; rfl
        · rw [show decide (a ≤ x.2) = false by simpa using h2] at e0
          have HE := Lib.hid e0
          clear e0
          go_wp2
          go_roundw
          case rel => exact ⟨k + 1, by go_num, by omega, Lib.hid (by rw [HR.out, HE.out]; simp), trivial⟩
          case measure => simp [intOf]; omega
      · rw [show decide (x.1 ≤ a) = false by simpa using h1] at e0
        have HE := Lib.hid e0
        clear e0
        go_wp2
        go_roundw
        case rel => exact ⟨k + 1, by go_num, by omega, Lib.hid (by rw [HR.out, HE.out]; simp), trivial⟩
        case measure => simp [intOf]; omega
    · obtain rfl : k = L.length := by omega
      go_wp2
      go_ret
      refine ⟨ret_bool ?_, rfl⟩
      rw [HR.out, List.drop_length]; rfl

theorem rz_at {L : List (Nat × Nat)} (hz : RZ 0 L) (hu : Under 4294967296 L) {k : Nat} (hk : k < L.length) : L[k].1 ≤ L[k].2 ∧ L[k].2 < 4294967296 ∧ count (L.take (k + 1)) = count (L.take k) + (L[k].2 - L[k].1 + 1) ∧ count (L.take (k + 1)) ≤ 4294967296 :=
  ⟨hz.each k hk, hu _ (List.getElem_mem hk), count_take hk, Nat.le_trans (count_part L (k + 1)) (count_le hz hu)⟩

set_option maxRecDepth 100000 in
set_option maxHeartbeats 1000000 in
/-- The document's Count. -/
theorem rcount_any {v : Value} (L : List (Nat × Nat)) (w : World) (hz : RZ 0 L) (hu : Under 4294967296 L) (h : IsZ w v L) : Calls Tryz.prog 22 #[v] w fun e w' => e = .returned (.int .u64 (count L)) ∧ Below w.heap.size w w' := by
  obtain ⟨A1, c1, rfl, n1, m1, z1⟩ := h
  have hL : L.length ≤ 9223372036854775807 := Nat.le_trans n1 m1
  have H1 := Lib.hid z1
  have HA := Lib.hid (fun k hk => rz_at hz hu (k := k) hk)
  clear z1 hz hu
  go_enter Tryz.func22, Tryz.ntmps22
  go_wp2
  go_loopw [3, 4] (fun s i wr => ∃ k : Nat, i = .int .i64 k ∧ s = .int .u64 (count (L.take k) : Nat) ∧ k ≤ L.length ∧ ∃ q, wr = w.drewN q) (fun _ i _ => L.length - (intOf i).toNat)
  case atStart => exact ⟨0, rfl, by simp [count], by omega, 0, rfl⟩
  case round =>
    obtain ⟨k, rfl, rfl, hk, q, rfl⟩ := hrel
    by_cases hlt : k < L.length
    · obtain ⟨g1, o1, e1, _, r1⟩ := H1.out (by omega)
      subst e1
      obtain ⟨c10, c11⟩ := r1 k hlt
      obtain ⟨a1, a2, a3, a4⟩ := HA.out k hlt
      generalize L[k] = x at c10 c11 a1 a2 a3 a4
      clear r1
      generalize hn : count (L.take k) = n at a3 a4 ⊢
      generalize hn' : count (L.take (k + 1)) = n' at a3 a4
      have HN := Lib.hid hn'
      clear hn hn'
      have i0 : (0 : Int) ≤ (k : Int) := by omega
      have i1 : (k : Int) < (L.length : Int) := by omega
      have j1 : IntKind.u64.wrap (x.1 : Int) = (x.1 : Int) := IntWalk.u64_in _ (by omega)
      have j2 : IntKind.u64.wrap (x.2 : Int) = (x.2 : Int) := IntWalk.u64_in _ (by omega)
      have j3 : IntKind.u64.wrap ((n : Int) + x.2) = (n : Int) + x.2 := IntWalk.u64_in _ (by omega)
      have j4 : IntKind.u64.wrap ((n : Int) + x.2 - x.1) = (n : Int) + x.2 - x.1 := IntWalk.u64_in _ (by omega)
      have j5 : IntKind.u64.wrap ((n : Int) + x.2 - x.1 + 1) = (n' : Int) := by rw [IntWalk.u64_in _ (by omega)]; omega
      clear a3
      go_wp2_with fail
      go_quiet (fail)
      go_wp2
      go_roundw
      case rel => exact ⟨k + 1, by go_num, by rw [HN.out], by omega, q + nq, rfl⟩
      case measure => simp [intOf]; omega
    · obtain rfl : k = L.length := by omega
      go_wp2
      go_ret
      rw [List.take_length]
      exact ⟨rfl, bdrewN (Below.refl _ _) _⟩

/-- Whether a zone is asked about. -/
def fitsB (L : List (Nat × Nat)) : Bool := decide (L.length ≤ 40) && rzB 0 L
end Go.Proofs.YteboadppighplaaGreat.Zo
/- Contracts: the document's Join, End, Cuts. -/
namespace Go.Proofs.YteboadppighplaaGreat.Zo
open Go.Proofs.YteboadppighplaaGreat.Tr
open Go.RowKit Go.Shelf

theorem joinZ_into {l : List (Nat × Nat)} {r : Nat × Nat} {f t : Nat} (h : r.2 + 1 = f) : joinZ (l ++ [r]) f t = l ++ [(r.1, t)] := by unfold joinZ; simp [h]
theorem joinZ_more {l : List (Nat × Nat)} {r : Nat × Nat} {f t : Nat} (h : ¬ r.2 + 1 = f) : joinZ (l ++ [r]) f t = l ++ [r] ++ [(f, t)] := by unfold joinZ; simp [h]
theorem joinZ_nil {f t : Nat} : joinZ [] f t = [(f, t)] := rfl

/-- What Join answers. -/
def JoinOut (base : Nat) (z : List (Nat × Nat)) (w : World) (e : Ending) (w' : World) : Prop := ∃ v', e = .returned v' ∧ w'.ownsRow base 43 2 v' z.length (zcells z) ∧ Below base w w'
set_option maxRecDepth 100000 in
set_option maxHeartbeats 1000000 in
theorem join_any {v : Value} {base : Nat} (z : List (Nat × Nat)) (f t : Nat) (w : World) (hu : U32 z) (hf : f < 4294967296) (ht : t < 4294967296) (hlen : z.length ≤ 4294967296) (hrow : w.ownsRow base 43 2 v z.length (zcells z)) (hbase : base ≤ w.heap.size) :
    Calls Tryz.prog 36 #[v, .int .i64 f, .int .i64 t] w (JoinOut base (joinZ z f t) w) := by
  obtain ⟨i0, hi, hz0, hz1, hz2⟩ := info_parts info32
  have HROW := Lib.hid hrow
  have j1 : IntKind.u32.wrap (f : Int) = (f : Int) := IntWalk.u32_in _ (by omega)
  have j2 : IntKind.u32.wrap (t : Int) = (t : Int) := IntWalk.u32_in _ (by omega)
  rcases List.eq_nil_or_concat z with rfl | ⟨zl, s, hls⟩
  · have hv0 : ∃ A c, v = .slice A 0 c := by rcases hrow.2 with ⟨rfl, _⟩ | ⟨g, cap, cur, rfl, _⟩ <;> exact ⟨_, _, rfl⟩
    obtain ⟨A, c, rfl⟩ := hv0
    rw [joinZ_nil]
    clear hrow
    go_enter Tryz.func36, Tryz.ntmps36
    go_wp2_with (at_builtin; refine wpList_append_own _ rfl _ _ 31 rfl base 43 i0 (.agg #[.int .u32 0, .int .u32 0]) 2 8 Tryz.underlying31 hi hz0 hz1 hz2 rfl (by decide) _ _ _ rfl (HROW.out.alloc _) ⟨w.heap.size, 0, none⟩ 1 1 [.int .u32 f, .int .u32 t] rfl rfl (World.news_of_block (cs := #[.int .u32 f, .int .u32 t]) (t := 43) (fr := (0, 0)) (heap_alloc_new w _)) (by simp [Value.oneCell']) (by simp [maxLen]) (by simp) (by simp; omega) ?_; intro v' w3 hown' hgrow _)
    go_ret
    refine ⟨v', rfl, by simpa [zcells] using hown', ((Below.refl _ w).alloc hbase _).grown hgrow (by simp; omega) (fun k hk => (HROW.out.lt k hk).1)⟩
  · obtain rfl : z = zl ++ [s] := by rw [hls]; simp
    have hlen1 : (zl ++ [s]).length = zl.length + 1 := by simp
    have hg0 : ∃ g cap, v = .slice (some ⟨g, 0, none⟩) (zl.length + 1) cap ∧ zl.length + 1 ≤ cap ∧ base ≤ g := by
      rcases hrow.2 with ⟨_, h0⟩ | ⟨g, cap, cur, rfl, hb, hg, hnc, _⟩
      · rw [hlen1] at h0; omega
      · exact ⟨g, cap, by rw [hlen1], by rw [← hlen1]; exact hnc, hb⟩
    obtain ⟨g, cap, rfl, hcap, hgb⟩ := hg0
    obtain ⟨us1, us2⟩ := hu s (by simp)
    rw [hlen1] at hrow HROW hlen
    obtain ⟨_, hs1⟩ := zcells_at (zl ++ [s]) zl.length (by simp)
    have hcs1 : w.cell? ⟨g, zl.length * 2 + 1, none⟩ = some (.int .u32 s.2) := by
      rw [World.ownsRow.cellAt hrow _ (by omega), Nat.mul_comm]
      simpa using hs1
    have hfz : w.frozen? ⟨g, zl.length * 2 + 1, none⟩ = false := World.ownsRow.frozenAt hrow _
    have hpc : (zcells (zl ++ [s])).set (zl.length * 2 + 1) (.int .u32 (t : Nat)) = zcells (zl ++ [(s.1, t)]) := by
      rw [zcells_snoc, zcells_snoc, List.set_append_right _ _ (by rw [zcells_length]; omega), zcells_length]
      simp [show zl.length * 2 + 1 - zl.length * 2 = 1 by omega]
    have HPC := Lib.hid hpc
    have k0 : (0 : Int) ≤ (zl.length : Int) := by omega
    have k1 : (zl.length : Int) < (zl.length : Int) + 1 := by omega
    clear hrow hpc hs1 hu
    by_cases hcond : s.2 + 1 = f
    · have hd : ((s.2 : Int) + 1 == (f : Int)) = true := by rw [beq_iff_eq]; omega
      rw [joinZ_into hcond]
      go_enter Tryz.func36, Tryz.ntmps36
      go_wp2
      go_ret
      obtain ⟨q1, q2⟩ := HROW.out.stored (zl.length * 2 + 1) (.int .u32 (t : Nat))
      refine ⟨_, rfl, ?_, (Below.refl base w).setCell (p := ⟨g, _, none⟩) hgb _⟩
      rw [← HPC.out]
      simpa using q1
    · have hd : ((s.2 : Int) + 1 == (f : Int)) = false := by rw [beq_eq_false_iff_ne]; omega
      rw [joinZ_more hcond]
      have hd2 : (s.2 + 1 == f) = false := by rw [beq_eq_false_iff_ne]; exact hcond
      clear hcond hls hlen1
      go_enter Tryz.func36, Tryz.ntmps36
      go_wp2_with (at_builtin; refine wpList_append_own _ rfl _ _ 31 rfl base 43 i0 (.agg #[.int .u32 0, .int .u32 0]) 2 8 Tryz.underlying31 hi hz0 hz1 hz2 rfl (by decide) _ _ _ rfl (HROW.out.alloc _) ⟨w.heap.size, 0, none⟩ 1 1 [.int .u32 f, .int .u32 t] rfl rfl (World.news_of_block (cs := #[.int .u32 f, .int .u32 t]) (t := 43) (fr := (0, 0)) (heap_alloc_new w _)) (by simp [Value.oneCell']) (by simp only [maxLen]; omega) (by omega) (by simp; omega) ?_; intro v' w3 hown' hgrow _)
      go_ret
      refine ⟨v', rfl, ?_, ((Below.refl _ w).alloc hbase _).grown hgrow (by simp; omega) (fun k hk => (HROW.out.lt k hk).1)⟩
      rw [zcells_snoc (zl ++ [s])]
      simpa using hown'

end Go.Proofs.YteboadppighplaaGreat.Zo
/- Contract: the document's Cuts. -/
namespace Go.Proofs.YteboadppighplaaGreat.Zo
open Go.Proofs.YteboadppighplaaGreat.Tr
open Go.RowKit Go.Shelf

end Go.Proofs.YteboadppighplaaGreat.Zo
/- Contracts: the document's Of. -/
namespace Go.Proofs.YteboadppighplaaGreat.Zo
open Go.Proofs.YteboadppighplaaGreat.Tr
open Go.RowKit Go.Shelf

theorem joinZ_u32 {z : List (Nat × Nat)} {f t : Nat} (hz : U32 z) (hf : f < 4294967296) (ht : t < 4294967296) : U32 (joinZ z f t) := by
  rcases List.eq_nil_or_concat z with rfl | ⟨l, s, hls⟩
  · intro q hq; simp [joinZ_nil] at hq; subst hq; exact ⟨hf, ht⟩
  · obtain rfl : z = l ++ [s] := by rw [hls]; simp
    have hs := hz s (by simp)
    by_cases h : s.2 + 1 = f
    · rw [joinZ_into h]
      intro q hq
      rcases List.mem_append.1 hq with h | h
      · exact hz q (by simp [h])
      · simp at h; subst h; exact ⟨hs.1, ht⟩
    · rw [joinZ_more h]
      intro q hq
      rcases List.mem_append.1 hq with h | h
      · exact hz q h
      · simp at h; subst h; exact ⟨hf, ht⟩
theorem joinZ_len (z : List (Nat × Nat)) (f t : Nat) : (joinZ z f t).length ≤ z.length + 1 := by
  rcases List.eq_nil_or_concat z with rfl | ⟨l, s, hls⟩
  · simp [joinZ_nil]
  · obtain rfl : z = l ++ [s] := by rw [hls]; simp
    by_cases h : s.2 + 1 = f
    · rw [joinZ_into h]; simp
    · rw [joinZ_more h]; simp
/-- How far the building has come. -/
def BI (p : Nat → Bool) (C : List Nat) (T : List (Nat × Nat)) (k : Nat) (z : List (Nat × Nat)) : Prop := build 4294967296 p z (C.drop k) = T ∧ U32 z ∧ z.length ≤ k
theorem endOf_lt {C : List Nat} {k : Nat} (hb : ∀ j (hj : j < C.length), C[j] < 4294967296) : endOf 4294967296 (C.drop (k + 1)) < 4294967296 := by
  by_cases h : k + 1 < C.length
  · rw [List.drop_eq_getElem_cons h]; have := hb (k + 1) h; simp only [endOf]; omega
  · rw [List.drop_eq_nil_of_le (by omega)]; simp [endOf]
theorem BI.give {p : Nat → Bool} {C : List Nat} {T : List (Nat × Nat)} {k : Nat} {z : List (Nat × Nat)} (h : BI p C T k z) (hk : k < C.length) (hb : ∀ j (hj : j < C.length), C[j] < 4294967296) (hp : p C[k] = true) : BI p C T (k + 1) (joinZ z C[k] (endOf 4294967296 (C.drop (k + 1)))) := by
  obtain ⟨h1, h2, h3⟩ := h
  rw [List.drop_eq_getElem_cons hk, build, if_pos hp] at h1
  have := joinZ_len z C[k] (endOf 4294967296 (C.drop (k + 1)))
  exact ⟨h1, joinZ_u32 h2 (hb k hk) (endOf_lt hb), by omega⟩
theorem BI.pass {p : Nat → Bool} {C : List Nat} {T : List (Nat × Nat)} {k : Nat} {z : List (Nat × Nat)} (h : BI p C T k z) (hk : k < C.length) (hp : p C[k] = false) : BI p C T (k + 1) z := by
  obtain ⟨h1, h2, h3⟩ := h
  rw [List.drop_eq_getElem_cons hk, build, if_neg (by rw [hp]; simp)] at h1
  exact ⟨h1, h2, by omega⟩
theorem BI.fin {p : Nat → Bool} {C : List Nat} {T z : List (Nat × Nat)} (h : BI p C T C.length z) : z = T := by
  have := h.1
  rw [List.drop_length, build] at this
  exact this
/-- What the cuts of a list are like. -/
structure Cu (C : List Nat) : Prop where
  lt : ∀ j (hj : j < C.length), C[j] < 4294967296
  pos : ∀ j (hj : j < C.length), 0 < j → 0 < C[j]
  len : C.length ≤ 4294967296
theorem rising_at : ∀ {l : List Nat} {lo m : Nat}, Rising lo m l → ∀ j (hj : j < l.length), lo + j ≤ l[j] ∧ l[j] < m
  | [], _, _, _, j, hj => by simp at hj
  | c :: l, lo, m, h, 0, _ => by have := h.1; have := h.2.1; simp; omega
  | c :: l, lo, m, h, j + 1, hj => by have := rising_at h.2.2 j (by simpa using hj); have := h.1; simp; omega
theorem cu_cuts (all : List Nat) : Cu (cutsL 4294967296 0 all) := by
  have hr := (cutsL_spec 4294967296 all 4294967296 0 (by omega)).1
  refine ⟨fun j hj => (rising_at hr j hj).2, fun j hj h0 => by have := (rising_at hr j hj).1; omega, ?_⟩
  rcases rising_len hr with h | h
  · omega
  · rw [h]; simp
/-- End and Join, as calls that never end otherwise. -/
def EndIs (C : List Nat) (v : Value) (k : Nat) (base : Nat) (W : World) : Prop := ∀ u, Below base W u → Calls Tryz.prog 51 #[v, .int .i64 k] u fun e w' => e = .returned (.int .i64 (endOf 4294967296 (C.drop (k + 1)) : Nat)) ∧ w' = u

/-- All ranges are right. -/
def okB (L : List (Nat × Nat)) : Bool := L.all fun r => decide (r.1 ≤ r.2)
theorem okB_drop {L : List (Nat × Nat)} {k : Nat} (hk : k < L.length) : okB (L.drop k) = (decide (L[k].1 ≤ L[k].2) && okB (L.drop (k + 1))) := by
  unfold okB
  rw [List.drop_eq_getElem_cons hk, List.all_cons]
/-- The zone that the document builds of a list. -/
def docOf (L : List (Nat × Nat)) : List (Nat × Nat) := build 4294967296 (has L) [] (cutsL 4294967296 0 (Tr.ends L))

/-- What Of answers, its zone being T if all is right. -/
def OfOut (L T : List (Nat × Nat)) (w : World) (e : Ending) (w' : World) : Prop := ∃ v', e = .returned (.tuple #[v', .int .i64 (if okB L then 0 else 31)]) ∧ IsZ w' v' (if okB L then T else []) ∧ Below w.heap.size w w'
theorem OfOut.no {L T : List (Nat × Nat)} {w w' : World} (h : okB L = false) (hb : Below w.heap.size w w') : OfOut L T w (.returned (.tuple #[.slice none 0 0, .int .i64 31])) w' :=
  ⟨_, by rw [h]; rfl, by rw [h]; exact ⟨none, 0, rfl, Nat.le_refl _, by simp, Zs.nil _ _⟩, hb⟩
theorem OfOut.yes {L T : List (Nat × Nat)} {w w' : World} {v : Value} (h : okB L = true) (hz : IsZ w' v T) (hb : Below w.heap.size w w') : OfOut L T w (.returned (.tuple #[v, .int .i64 0])) w' :=
  ⟨_, by rw [h]; rfl, by rw [h]; exact hz, hb⟩
end Go.Proofs.YteboadppighplaaGreat.Zo
/- Contracts: the document's device, All; zone, Visits, Delivers (stage 11). -/
namespace Go.Proofs.YteboadppighplaaGreat
open Go.RowKit Go.Shelf

/-- The document's device. -/
theorem rdevice_any {vp vl vr : Value} (ps : List Int) (ls : List Lk) (L : List Ru) (d : Int) (w : World) (h : IsN w vp vl vr ps ls L) : Calls Tryz.prog 33 #[.agg #[vp, vl, vr], .int .i64 d] w fun e w' => e = .returned (.bool (decide (inD ps d))) ∧ Below w.heap.size w w' := by
  obtain ⟨⟨⟨A1, c1, rfl, n1, m1, _⟩, ⟨A2, c2, rfl, _⟩⟩, ⟨A3, c3, rfl, _⟩⟩ := h
  have hM : ps.length ≤ 9223372036854775807 := Nat.le_trans n1 m1
  obtain ⟨q, hq⟩ : ∃ q, q = decide (inD ps d) := ⟨_, rfl⟩
  rw [← hq]
  have D0 := At.new w #[.slice A1 ps.length c1, .slice A2 ls.length c2, .slice A3 L.length c3] 28
  have b0 : Below w.heap.size w (w.alloc (.cells #[.slice A1 ps.length c1, .slice A2 ls.length c2, .slice A3 L.length c3] 28)) := (Below.refl _ w).alloc (Nat.le_refl _) _
  go_enter Tryz.func33, Tryz.ntmps33
  go_upto_region 1 with (fail)
  obtain ⟨w0, hw0⟩ : ∃ w0, w0 = w.alloc (.cells #[.slice A1 ps.length c1, .slice A2 ls.length c2, .slice A3 L.length c3] 28) := ⟨_, rfl⟩
  rw [← hw0] at D0 b0 ⊢
  clear hw0
  have x0 := (D0.cell 0).trans rfl
  by_cases h1 : (0 : Int) ≤ d
  · by_cases h2 : d < (ps.length : Int)
    · have hd : decide (inD ps d) = true := by simp [inD, h1, h2]
      rw [hd] at hq
      subst hq
      go_wp2
      go_ret
      exact ⟨rfl, b0⟩
    · have hd : decide (inD ps d) = false := by simp [inD, h2]
      rw [hd] at hq
      subst hq
      go_wp2
      go_ret
      exact ⟨rfl, b0⟩
  · have hd : decide (inD ps d) = false := by simp [inD, h1]
    rw [hd] at hq
    subst hq
    go_wp2
    go_ret
    exact ⟨rfl, b0⟩
/-- The document's All. -/
theorem rallR_any (w : World) : Calls Tryz.prog 34 #[] w fun e w' => e = .returned (.agg #[.int .u32 0, .int .u32 4294967295]) ∧ Below w.heap.size w w' := by
  go_enter Tryz.func34, Tryz.ntmps34
  go_wp2
  refine bodyPost_ret (results_cell_row rfl _ _ w.heap.size 43 _ (0, 0) _ rfl (At.new w #[.int .u32 0, .int .u32 4294967295] 43) Tryz.underlying43 rfl (by kernel_rfl)) rfl ?_
  exact ⟨rfl, (Below.refl _ _).alloc (Nat.le_refl _) _⟩
/-- All addresses, cut. -/
theorem rcutA_any {v : Value} (ns : List Nt) (w : World) (hns : ns.length ≤ 2) (hL : ∀ n ∈ ns, n.L.length ≤ 1000 ∧ ∀ r ∈ n.L, r.wf) (h : Ns w v ns) :
    Calls Tryz.prog 20 #[v, .agg #[.int .u32 0, .int .u32 4294967295]] w fun e w' => ∃ v, e = .returned (.tuple #[v, .int .i64 0]) ∧ Tr.IsZ w' v (cutZ (rgN ns) 0 4294967295) ∧ Below w.heap.size w w' := by
  have k := rcut_any ns 0 4294967295 w (by decide) (by decide) hns hL h
  exact k.mono fun e w' h => by
    obtain ⟨v, e1, z, b⟩ := h
    exact ⟨v, e1, z, b⟩
/-- One network as a slice. -/
theorem ns_one {w : World} {B : Nat} {n : Nt} (hA : At w B (ntA n) 28) (hn : IsN w n.vp n.vl n.vr n.ps n.ls n.L) : Ns w (.slice (some ⟨B, 0, none⟩) 1 1) [n] :=
  ⟨isF_of_at ntA_size (L := [n]) (c := 1) hA (by simp [fcs]) (by simp) (by decide), fun m hm => by simp at hm; subst hm; exact hn⟩
/-- The k-th part, and where the building stands. -/
theorem part_at (R : List (Nat × Nat)) {k : Nat} (hk : k < (cutZ R 0 4294967295).length) : k < (Tr.bnds R).length ∧ ∃ h : k < (Tr.bnds R).length, (cutZ R 0 4294967295)[k] = ((Tr.bnds R)[k], Tr.endOf 4294967296 ((Tr.bnds R).drop (k + 1))) := by
  have hk' : k < (Tr.bnds R).length := by rw [← cutZ_len]; exact hk
  refine ⟨hk', hk', ?_⟩
  have : ∀ (P : List (Nat × Nat)) (h : k < P.length), P = cutZ R 0 4294967295 → P[k] = ((Tr.bnds R)[k], Tr.endOf 4294967296 ((Tr.bnds R).drop (k + 1))) := fun P h e => by
    rw [cutZ_all] at e
    subst e
    simp [hk']
  exact this _ hk rfl
/-- How far the zone of those of whom p holds is built, part by part. -/
def PkI (p : Nat → Bool) (R : List (Nat × Nat)) (k : Nat) (z : List (Nat × Nat)) : Prop := Zo.BI p (Tr.bnds R) (pickZ p R) k z
theorem PkI.start (p : Nat → Bool) (R : List (Nat × Nat)) : PkI p R 0 [] := ⟨by rw [List.drop_zero]; rfl, fun r hr => by simp at hr, by simp⟩
theorem PkI.give {p : Nat → Bool} {R : List (Nat × Nat)} {k : Nat} {z : List (Nat × Nat)} (h : PkI p R k z) {x : Nat × Nat} (hk : k < (cutZ R 0 4294967295).length) (hx : (cutZ R 0 4294967295)[k] = x) (hp : p x.1 = true) : PkI p R (k + 1) (Zo.joinZ z x.1 x.2) := by
  obtain ⟨h1, h2, e⟩ := part_at R hk
  rw [e] at hx
  subst hx
  exact Zo.BI.give h h1 (cuB_of R).lt hp
theorem PkI.pass {p : Nat → Bool} {R : List (Nat × Nat)} {k : Nat} {z : List (Nat × Nat)} (h : PkI p R k z) {x : Nat × Nat} (hk : k < (cutZ R 0 4294967295).length) (hx : (cutZ R 0 4294967295)[k] = x) (hp : p x.1 = false) : PkI p R (k + 1) z := by
  obtain ⟨h1, h2, e⟩ := part_at R hk
  rw [e] at hx
  subst hx
  exact Zo.BI.pass h h1 hp
theorem PkI.fin {p : Nat → Bool} {R : List (Nat × Nat)} {z : List (Nat × Nat)} (h : PkI p R (cutZ R 0 4294967295).length z) : z = pickZ p R := by
  unfold PkI at h
  rw [cutZ_len] at h
  exact Zo.BI.fin h
theorem part_lt (R : List (Nat × Nat)) {k : Nat} (hk : k < (cutZ R 0 4294967295).length) {x : Nat × Nat} (hx : (cutZ R 0 4294967295)[k] = x) : x.1 < 4294967296 ∧ x.2 < 4294967296 := by
  obtain ⟨h1, h2, e⟩ := part_at R hk
  rw [e] at hx
  subst hx
  exact ⟨(cuB_of R).lt k h1, (cuB_of R).en k⟩
theorem parts_len (R : List (Nat × Nat)) : (cutZ R 0 4294967295).length ≤ 4294967296 := by rw [cutZ_len]; exact (cuB_of R).len
/-- All of that of the parts. -/
structure PkS (p : Nat → Bool) (R P : List (Nat × Nat)) : Prop where
  give : ∀ (k : Nat) (z : List (Nat × Nat)) (x : Nat × Nat), PkI p R k z → ∀ hk : k < P.length, P[k] = x → p x.1 = true → PkI p R (k + 1) (Zo.joinZ z x.1 x.2)
  pass : ∀ (k : Nat) (z : List (Nat × Nat)) (x : Nat × Nat), PkI p R k z → ∀ hk : k < P.length, P[k] = x → p x.1 = false → PkI p R (k + 1) z
  fin : ∀ (z : List (Nat × Nat)), PkI p R P.length z → z = pickZ p R
  lt : ∀ (k : Nat) (x : Nat × Nat) (hk : k < P.length), P[k] = x → x.1 < 4294967296 ∧ x.2 < 4294967296
  len : P.length ≤ 4294967296
theorem pkS (p : Nat → Bool) (R : List (Nat × Nat)) : PkS p R (cutZ R 0 4294967295) :=
  ⟨fun _ _ _ h hk hx hp => h.give hk hx hp, fun _ _ _ h hk hx hp => h.pass hk hx hp, fun _ h => h.fin, fun _ _ hk hx => part_lt R hk hx, parts_len R⟩
theorem PkI.u32 {p : Nat → Bool} {R : List (Nat × Nat)} {k : Nat} {z : List (Nat × Nat)} (h : PkI p R k z) : Tr.U32 z ∧ z.length ≤ k := ⟨h.2.1, h.2.2⟩
/-- What a zone is answered as. -/
def ZnOut (Z : List (Nat × Nat)) (er : Int) (w : World) (e : Ending) (w' : World) : Prop := ∃ v, e = .returned (.tuple #[v, .int .i64 er]) ∧ Tr.IsZ w' v Z ∧ Below w.heap.size w w'
end Go.Proofs.YteboadppighplaaGreat
/- Contracts: the document's zone, Visits, Delivers (stage 11). -/
namespace Go.Proofs.YteboadppighplaaGreat
open Go.RowKit Go.Shelf

/-- What a trace leaves in memory. -/
def UTr (x : Tc) (w : World) (UB : Nat) (wc : World) : Prop := ∃ Au cu, At wc UB #[.slice Au x.ds.length cu, .int .i64 x.ft, .int .i64 x.out.d, .int .i64 x.out.p] 57 ∧ x.ds.length ≤ cu ∧ cu ≤ maxLen ∧ Fs 1 intA wc Au x.ds ∧ Below w.heap.size w wc
/-- Four stores into the box leave the devices. -/
theorem fs_set4 {W : World} {R : Nat} {Au : Option Addr} {D : List Int} {v0 v1 v2 v3 : Value} (h : Fs 1 intA W Au D) (hf : ∀ g o, Au = some ⟨g, o, none⟩ → R < g) : Fs 1 intA ((((W.setCell ⟨R, 0, none⟩ v0).setCell ⟨R, 1, none⟩ v1).setCell ⟨R, 2, none⟩ v2).setCell ⟨R, 3, none⟩ v3) Au D := by
  have far : ∀ (W : World) j v, Fs 1 intA W Au D → Fs 1 intA (W.setCell ⟨R, j, none⟩ v) Au D := fun W j v hF hn => by
    obtain ⟨g', o', e, hg', hc'⟩ := hF hn
    have hge2 := hf g' o' e
    exact ⟨g', o', e, Nat.lt_of_lt_of_le hg' (grownBy_set W _ _ _).size, fun i hi j' hj' => by
      rw [World.cell?_setCell_other _ _ _ _ (by intro e'; injection e' with e1; omega)]
      exact hc' i hi j' hj'⟩
  exact far _ _ _ (far _ _ _ (far _ _ _ (far _ _ _ h)))

set_option maxRecDepth 100000 in
set_option maxHeartbeats 10000000 in
theorem rzone1_any {vp vl vr : Value} (ps : List Int) (ls : List Lk) (L : List Ru) (a b : Int) (w : World) (hR : RN ps ls L) (hW : NW ps ls L) (h : IsN w vp vl vr ps ls L) :
    Calls Tryz.prog 40 #[.agg #[vp, vl, vr], .int .i64 a, .int .i64 b, .int .i64 1] w (ZnOut (visZ ps ls L a b) (errIn (inD ps a ∧ inD ps b)) w) := by
  obtain ⟨Z, hZ⟩ : ∃ Z, Z = visZ ps ls L a b := ⟨_, rfl⟩
  obtain ⟨er, her⟩ : ∃ er, er = errIn (inD ps a ∧ inD ps b) := ⟨_, rfl⟩
  rw [← hZ, ← her]
  have HZ := Lib.hid hZ
  have HER := Lib.hid her
  have HN : Hid (∀ u, Below w.heap.size w u → IsN u vp vl vr ps ls L) := Lib.hid fun u hu => h.belows hu
  have HL : Hid (L.length ≤ 1000 ∧ ∀ r ∈ L, r.wf) := Lib.hid ⟨by have := ((allB_pw L).1 hR.rules).1; omega, hW.rules⟩
  have HR := Lib.hid hR
  obtain ⟨⟨⟨A1, c1, rfl, n1, m1, _⟩, ⟨A2, c2, rfl, _⟩⟩, ⟨A3, c3, rfl, _⟩⟩ := h
  have D0 := At.new w #[.slice A1 ps.length c1, .slice A2 ls.length c2, .slice A3 L.length c3] 28
  have b0 : Below w.heap.size w (w.alloc (.cells #[.slice A1 ps.length c1, .slice A2 ls.length c2, .slice A3 L.length c3] 28)) := (Below.refl _ w).alloc (Nat.le_refl _) _
  clear hR hW hZ her n1 m1
  unfold ZnOut
  go_enter Tryz.func40, Tryz.ntmps40
  go_upto_region 1 with (fail)
  obtain ⟨w0, hw0⟩ : ∃ w0, w0 = w.alloc (.cells #[.slice A1 ps.length c1, .slice A2 ls.length c2, .slice A3 L.length c3] 28) := ⟨_, rfl⟩
  rw [← hw0] at D0 b0 ⊢
  clear hw0
  have k1 := rdevice_any ps ls L a w0 (HN.out w0 b0)
  have x0 := (D0.cell 0).trans rfl; have x1 := (D0.cell 1).trans rfl; have x2 := (D0.cell 2).trans rfl
  obtain ⟨p, hp⟩ : ∃ p, p = decide (inD ps a) := ⟨_, rfl⟩
  rw [← hp] at k1
  have HPD := Lib.hid hp
  clear hp
  go_wp2_with fail
  refine k1.mono ?_
  rintro e w1 ⟨rfl, b1⟩
  have bw1 := b0.trans (b1.mono b0.size)
  have D1 := D0.belows b1
  clear k1 x0 x1 x2
  have k2 := rdevice_any ps ls L b w1 (HN.out w1 bw1)
  have x0 := (D1.cell 0).trans rfl; have x1 := (D1.cell 1).trans rfl; have x2 := (D1.cell 2).trans rfl
  obtain ⟨q, hq⟩ : ∃ q, q = decide (inD ps b) := ⟨_, rfl⟩
  rw [← hq] at k2
  have HQD := Lib.hid hq
  clear hq
  go_wp2_with fail
  refine k2.mono ?_
  rintro e w2 ⟨rfl, b2⟩
  have bw2 := bw1.trans (b2.mono bw1.size)
  have D2 := D1.belows b2
  clear k2 x0 x1 x2 D0 D1 b0 b1 b2 bw1
  by_cases hpq : p = true ∧ q = true
  case neg =>
    have HE : Hid (er = 91 ∧ Z = []) := Lib.hid (by
      have hno : ¬ (inD ps a ∧ inD ps b) := fun h => hpq ⟨by rw [HPD.out]; simp [h.1], by rw [HQD.out]; simp [h.2]⟩
      exact ⟨by rw [HER.out]; exact if_neg hno, by rw [HZ.out]; exact if_neg hno⟩)
    obtain ⟨e1, e2⟩ := HE.out
    subst e1 e2
    cases p <;> cases q
    case true.true => exact absurd ⟨rfl, rfl⟩ hpq
    all_goals
      clear hpq
      go_wp2
      go_ret2
      exact ⟨_, rfl, ⟨none, 0, rfl, Nat.le_refl _, by decide, Tr.Zs.nil _ _⟩, bw2⟩
  case pos =>
    obtain ⟨rfl, rfl⟩ := hpq
    have hin : inD ps a ∧ inD ps b := ⟨by simpa using HPD.out.symm, by simpa using HQD.out.symm⟩
    have HE : Hid (er = 0 ∧ Z = pickZ (visP ps ls L a b) (rgL L)) := Lib.hid ⟨by rw [HER.out]; exact if_pos hin, by rw [HZ.out]; exact if_pos hin⟩
    have HIN := Lib.hid hin
    clear hin HPD HQD
    have x0 : ∀ u, Below w2.heap.size w2 u → u.cell? ⟨w.heap.size, 0, none⟩ = some (.slice A1 ps.length c1) ∧ u.cell? ⟨w.heap.size, 1, none⟩ = some (.slice A2 ls.length c2) ∧ u.cell? ⟨w.heap.size, 2, none⟩ = some (.slice A3 L.length c3) := fun u hu => ⟨((D2.belows hu).cell 0).trans rfl, ((D2.belows hu).cell 1).trans rfl, ((D2.belows hu).cell 2).trans rfl⟩
    have SX := Lib.hid x0
    have HBW := Lib.hid bw2
    have KC : Hid (∀ (B : Nat) (u : World), Below w2.heap.size w2 u → At u B #[.slice A1 ps.length c1, .slice A2 ls.length c2, .slice A3 L.length c3] 28 → Calls Tryz.prog 20 #[.slice (some ⟨B, 0, none⟩) 1 1, .agg #[.int .u32 0, .int .u32 4294967295]] u fun e w' => ∃ v, e = .returned (.tuple #[v, .int .i64 0]) ∧ Tr.IsZ w' v (cutZ (rgL L) 0 4294967295) ∧ Below u.heap.size u w') := Lib.hid fun B u hu hA => by
      have := rcutA_any [⟨_, _, _, ps, ls, L⟩] u (by simp) (fun n hn => by simp at hn; subst hn; exact HL.out) (ns_one (n := ⟨_, _, _, ps, ls, L⟩) hA (HN.out u (HBW.out.trans (hu.mono HBW.out.size))))
      rwa [show rgN [⟨.slice A1 ps.length c1, .slice A2 ls.length c2, .slice A3 L.length c3, ps, ls, L⟩] = rgL L by simp [rgN]] at this
    have X0 := (x0 w2 (Below.refl _ _)).1; have X1 := (x0 w2 (Below.refl _ _)).2.1; have X2 := (x0 w2 (Below.refl _ _)).2.2
    clear x0
    go_upto_region 6 with (fail)
    go_cut [13, 14] (fun v er wc => er = .int .i64 0 ∧ Hid (Tr.IsZ wc v (cutZ (rgL L) 0 4294967295) ∧ Below w2.heap.size w2 wc))
    case first =>
      go_region_held3 (fun W => W.cell? ⟨w.heap.size, 0, none⟩ = some (.slice A1 ps.length c1) ∧ W.cell? ⟨w.heap.size, 1, none⟩ = some (.slice A2 ls.length c2) ∧ W.cell? ⟨w.heap.size, 2, none⟩ = some (.slice A3 L.length c3))
      (first | exact SX.out _ b6w | exact SX.out _ b5w | exact SX.out _ (b5w.alloc b5w.size _) | exact SX.out _ ((Below.refl _ w2).alloc (Nat.le_refl _) _).drew | exact SX.out _ ((Below.refl _ w2).alloc (Nat.le_refl _) _) | exact SX.out _ (bdrewN (Below.refl _ _) 1))
      (first
        | (go_at_call 34; refine (rallR_any _).mono ?_; rintro e w5 ⟨rfl, b5⟩; have b5w : Below w2.heap.size w2 w5 := (by first | exact Below.trans (((Below.refl _ w2).alloc (Nat.le_refl _) _).drew) (b5.mono (by simp)) | exact (bdrewN (Below.refl _ _) 1).trans b5); first | (have U5 : At w5 w2.heap.size #[.slice A1 ps.length c1, .slice A2 ls.length c2, .slice A3 L.length c3] 28 := (show At (w2.alloc (.cells #[.slice A1 ps.length c1, .slice A2 ls.length c2, .slice A3 L.length c3] 28)).drew w2.heap.size #[.slice A1 ps.length c1, .slice A2 ls.length c2, .slice A3 L.length c3] 28 from At.new w2 _ _).belows b5) | skip)
        | (go_at_call 20; first | (refine (KC.out _ _ b5w U5).mono ?_; rintro e w6 ⟨v6, rfl, z6, b6⟩; have b6w := b5w.trans (b6.mono b5w.size)) | (refine (KC.out _ _ (b5w.alloc b5w.size _) (At.new w5 _ _)).mono ?_; rintro e w6 ⟨v6, rfl, z6, b6⟩; have b6w := (b5w.alloc b5w.size _).trans (b6.mono (b5w.alloc b5w.size _).size))))
      all_goals (go_wp2_with fail; go_meet)
      all_goals exact ⟨rfl, Lib.hid ⟨z6, b6w⟩⟩
    case rest =>
      obtain ⟨rfl, HC⟩ := hcut
      obtain ⟨wp, rfl⟩ : ∃ wp, wp = wc := ⟨_, rfl⟩
      obtain ⟨⟨Ac, cc, rfl, nc, mc, zc⟩, b3⟩ := HC.out
      clear HC X0 X1 X2 KC
      have SY : Hid (∀ u, Below wp.heap.size wp u → u.cell? ⟨w.heap.size, 0, none⟩ = some (.slice A1 ps.length c1) ∧ u.cell? ⟨w.heap.size, 1, none⟩ = some (.slice A2 ls.length c2) ∧ u.cell? ⟨w.heap.size, 2, none⟩ = some (.slice A3 L.length c3)) := Lib.hid fun u hu => SX.out u (b3.trans (hu.mono b3.size))
      have HB3 : Hid (Below w.heap.size w wp) := Lib.hid (HBW.out.trans (b3.mono HBW.out.size))
      have HST := Lib.hid (PkI.start (visP ps ls L a b) (rgL L))
      have hPS := pkS (visP ps ls L a b) (rgL L)
      generalize cutZ (rgL L) 0 4294967295 = P at nc zc hPS ⊢
      have HZC := Lib.hid zc
      have HPS := Lib.hid hPS
      have hPl := hPS.len
      clear zc SX HBW b3 D2 hPS
      go_wp2
      go_loopw [12, 15] (fun o i wq => ∃ (k : Nat) (z : List (Nat × Nat)), i = .int .i64 k ∧ k ≤ P.length ∧ Hid (PkI (visP ps ls L a b) (rgL L) k z) ∧ Hid (wq.ownsRow wp.heap.size 43 2 o z.length (Tr.zcells z)) ∧ Below wp.heap.size wp wq) (fun _ i _ => P.length - (intOf i).toNat)
      case atStart => exact ⟨0, [], rfl, by omega, HST, Lib.hid (World.ownsRow_nil _ _ _ _), Below.refl _ _⟩
      case round =>
        obtain ⟨k, z, rfl, hk, HBI, HO, hbq⟩ := hrel
        by_cases hlt : k < P.length
        · obtain ⟨g, o, e1, hg, hc⟩ := HZC.out (by omega)
          subst e1
          obtain ⟨c0, c1'⟩ := hc k hlt
          obtain ⟨hf, ht⟩ := HPS.out.lt k _ hlt rfl
          have hG := HPS.out.give k z _ HBI.out hlt rfl
          have hP := HPS.out.pass k z _ HBI.out hlt rfl
          generalize P[k] = x at c0 c1' hf ht hG hP
          obtain ⟨f, t⟩ := x
          dsimp only at c0 c1' hf ht hG hP
          have HG := Lib.hid hG
          have HP := Lib.hid hP
          clear hc hG hP
          have hzl : z.length ≤ 4294967296 := by have := HBI.out.u32.2; omega
          have HU : Hid (Tr.U32 z) := Lib.hid HBI.out.u32.1
          have jf : IntKind.i64.wrap (f : Int) = (f : Int) := IntWalk.i64_in _ (by omega)
          have jt : IntKind.i64.wrap (t : Int) = (t : Int) := IntWalk.i64_in _ (by omega)
          have i0 : (0 : Int) ≤ (k : Int) := by omega
          have i1 : (k : Int) < (P.length : Int) := by omega
          have hbw : Below w.heap.size w wr := HB3.out.trans (hbq.mono HB3.out.size)
          have KT : Hid (∀ u, Below w.heap.size w u → Calls Tryz.prog 35 #[.agg #[.slice A1 ps.length c1, .slice A2 ls.length c2, .slice A3 L.length c3], .int .i64 a, .int .u32 f] u (TrOut (trcN ps ls L f a) u)) := Lib.hid fun u hu => rtrace_in ps ls L a f u HR.out (HN.out u hu) HIN.out.1
          have HBWR := Lib.hid hbw
          have HBQ := Lib.hid hbq
          have HCC : Hid (∀ u, Below wr.heap.size wr u → u.cell? ⟨g, o + k * 2, none⟩ = some (.int .u32 f) ∧ u.cell? ⟨g, o + k * 2 + 1, none⟩ = some (.int .u32 t)) := Lib.hid fun u hu => ⟨((hbq.trans (hu.mono hbq.size)).cell (p := ⟨g, _, none⟩) hg).trans c0, ((hbq.trans (hu.mono hbq.size)).cell (p := ⟨g, _, none⟩) hg).trans c1'⟩
          have SZ : Hid (∀ u, Below wr.heap.size wr u → u.cell? ⟨w.heap.size, 0, none⟩ = some (.slice A1 ps.length c1) ∧ u.cell? ⟨w.heap.size, 1, none⟩ = some (.slice A2 ls.length c2) ∧ u.cell? ⟨w.heap.size, 2, none⟩ = some (.slice A3 L.length c3) ∧ u.cell? ⟨g, o + k * 2, none⟩ = some (.int .u32 f)) := Lib.hid fun u hu =>
            have h1 := SY.out u (HBQ.out.trans (hu.mono HBQ.out.size))
            ⟨h1.1, h1.2.1, h1.2.2, (HCC.out u hu).1⟩
          obtain ⟨X0, X1, X2, C0⟩ := SZ.out wr (Below.refl _ _)
          have KS : Hid (∀ u, Below wp.heap.size wp u → u.cell? ⟨g, o + k * 2, none⟩ = some (.int .u32 f) ∧ u.cell? ⟨g, o + k * 2 + 1, none⟩ = some (.int .u32 t)) := Lib.hid fun u hu => ⟨(hu.cell (p := ⟨g, _, none⟩) hg).trans c0, (hu.cell (p := ⟨g, _, none⟩) hg).trans c1'⟩
          clear c0 c1' hbq hbw
          obtain ⟨x, hx⟩ : ∃ x, x = trcN ps ls L f a := ⟨_, rfl⟩
          rw [← hx] at KT
          have HPX : Hid (visP ps ls L a b f = decide (b ∈ x.ds)) := Lib.hid (by rw [hx]; rfl)
          clear hx
          go_upto_region 10 with (fail)
          go_cut [16, 17] (fun p er wc' => er = .int .i64 0 ∧ ∃ UB : Nat, p = .pointer (some ⟨UB, 0, none⟩) ∧ Hid (UTr x wr UB wc'))
          case first =>
            go_region_held3 (fun W => W.cell? ⟨w.heap.size, 0, none⟩ = some (.slice A1 ps.length c1) ∧ W.cell? ⟨w.heap.size, 1, none⟩ = some (.slice A2 ls.length c2) ∧ W.cell? ⟨w.heap.size, 2, none⟩ = some (.slice A3 L.length c3) ∧ W.cell? ⟨g, o + k * 2, none⟩ = some (.int .u32 f))
            (first | exact SZ.out _ b5w | exact SZ.out _ (b5w.alloc b5w.size _) | exact SZ.out _ ((((b5w.setCell (p := ⟨wr.heap.size, 0, none⟩) (Nat.le_refl _) _).setCell (p := ⟨wr.heap.size, 1, none⟩) (Nat.le_refl _) _).setCell (p := ⟨wr.heap.size, 2, none⟩) (Nat.le_refl _) _).setCell (p := ⟨wr.heap.size, 3, none⟩) (Nat.le_refl _) _) | exact SZ.out _ ((Below.refl _ wr).alloc (Nat.le_refl _) _).drew | exact SZ.out _ (bdrewN (Below.refl _ _) 1))
            ((go_at_call 35; refine (KT.out _ (by first | exact (HBWR.out.alloc HBWR.out.size _).drew | exact bdrewN HBWR.out 1)).mono ?_; unfold TrOut tcV; rintro e w5 ⟨vu, rfl, ⟨Au, cu, rfl, nu, mu, zu⟩, hfr, b5⟩; have b5w : Below wr.heap.size wr w5 := (by first | exact Below.trans (((Below.refl _ wr).alloc (Nat.le_refl _) _).drew) (b5.mono (by simp)) | exact (bdrewN (Below.refl _ _) 1).trans b5); first | (have U5 : At w5 wr.heap.size #[.slice none 0 0, .int .i64 0, .int .i64 0, .int .i64 0] 57 := (show At (wr.alloc (.cells #[.slice none 0 0, .int .i64 0, .int .i64 0, .int .i64 0] 57)).drew wr.heap.size #[.slice none 0 0, .int .i64 0, .int .i64 0, .int .i64 0] 57 from At.new wr _ _).belows b5; have y0 := (U5.cell 0).trans rfl; have y1 := (U5.cell 1).trans rfl; have y2 := (U5.cell 2).trans rfl; have y3 := (U5.cell 3).trans rfl; have f0 := U5.frozen 0; have f1 := U5.frozen 1; have f2 := U5.frozen 2; have f3 := U5.frozen 3) | skip))
            all_goals (go_wp2_with fail; go_meet)
            · exact ⟨rfl, w5.heap.size, rfl, Lib.hid ⟨Au, cu, At.new w5 _ _, nu, mu, zu.belows ((Below.refl _ _).alloc (Nat.le_refl _) _), b5w.alloc b5w.size _⟩⟩
            · exact ⟨rfl, wr.heap.size, rfl, Lib.hid ⟨Au, cu, (((U5.set0 0 _).set0 1 _).set0 2 _).set0 3 _, nu, mu, fs_set4 zu (fun g' o' e => by have := hfr g' o' _ _ (by rw [e]); exact Nat.lt_of_lt_of_le (by simp) this), (((b5w.setCell (p := ⟨wr.heap.size, 0, none⟩) (Nat.le_refl _) _).setCell (p := ⟨wr.heap.size, 1, none⟩) (Nat.le_refl _) _).setCell (p := ⟨wr.heap.size, 2, none⟩) (Nat.le_refl _) _).setCell (p := ⟨wr.heap.size, 3, none⟩) (Nat.le_refl _) _⟩⟩
          case rest =>
            obtain ⟨rfl, UB, rfl, HUU⟩ := hcut
            obtain ⟨w6, rfl⟩ : ∃ w6, w6 = wc := ⟨_, rfl⟩
            obtain ⟨Au, cu, U6, nu, mu, zu, b6⟩ := HUU.out
            clear HUU
            have u0 := (U6.cell 0).trans rfl; have u1 := (U6.cell 1).trans rfl; have u2 := (U6.cell 2).trans rfl; have u3 := (U6.cell 3).trans rfl
            have kH := rhasI_any x.ds b w6 ⟨Au, cu, rfl, nu, mu, zu⟩
            obtain ⟨q, hq⟩ : ∃ q, q = decide (b ∈ x.ds) := ⟨_, rfl⟩
            rw [← hq] at kH
            have HQ := Lib.hid hq
            have hX : x.ds.length ≤ 9223372036854775807 := Nat.le_trans nu mu
            have hb6 : Below wp.heap.size wp w6 := HBQ.out.trans (b6.mono HBQ.out.size)
            have HO6 : Hid (w6.ownsRow wp.heap.size 43 2 u12 z.length (Tr.zcells z)) := Lib.hid (row_belows HO.out b6)
            obtain ⟨C0, C1⟩ := HCC.out w6 b6
            obtain ⟨xd, xf, ⟨xo, xp⟩⟩ := x
            dsimp only at u0 u1 u2 u3 hX HPX HQ kH
            clear hq zu nu mu X0 X1 X2 U6
            go_wp2_with fail
            refine kH.mono ?_
            rintro e w8 ⟨rfl, rfl⟩
            clear kH
            cases q with
            | true =>
              by_cases h3 : xf = 3
              · have e3 : (xf == 3) = true := by simp [h3]
                by_cases hd : xo = b
                · have ed : (xo == b) = true := by simp [hd]
                  have HPT0 : Hid (visP ps ls L a b f = true) := Lib.hid (HPX.out.trans HQ.out.symm)
                  have HPT := HPT0.out
                  have HB2 := Lib.hid (HG.out HPT)
                  clear HPT
                  clear h3 hd
                  go_wp2_with fail
                  go_region_held3 (fun w' => w'.cell? ⟨g, o + k * 2, none⟩ = some (.int .u32 f) ∧ w'.cell? ⟨g, o + k * 2 + 1, none⟩ = some (.int .u32 t)) (first | exact KS.out _ b7x | exact KS.out _ hb6.drew | exact KS.out _ hb6) (first | (go_at_call 36; refine (Zo.join_any z f t _ HU.out hf ht hzl (by first | exact HO6.out.drew | exact HO6.out) (by first | exact hb6.drew.size | exact hb6.size)).mono ?_; rintro e w7 ⟨v', rfl, ho', b7⟩; have b7x : Below wp.heap.size wp w7 := (by first | exact hb6.drew.trans b7 | exact hb6.trans b7)))
                  go_wp2
                  go_roundw
                  case rel => exact ⟨k + 1, _, by go_num, by omega, HB2, Lib.hid ho', b7x⟩
                  case measure => simp [intOf]; omega
                · have ed : (xo == b) = false := by simp [hd]
                  have HPT0 : Hid (visP ps ls L a b f = true) := Lib.hid (HPX.out.trans HQ.out.symm)
                  have HPT := HPT0.out
                  have HB2 := Lib.hid (HG.out HPT)
                  clear HPT
                  clear h3 hd
                  go_wp2_with fail
                  go_region_held3 (fun w' => w'.cell? ⟨g, o + k * 2, none⟩ = some (.int .u32 f) ∧ w'.cell? ⟨g, o + k * 2 + 1, none⟩ = some (.int .u32 t)) (first | exact KS.out _ b7x | exact KS.out _ hb6.drew | exact KS.out _ hb6) (first | (go_at_call 36; refine (Zo.join_any z f t _ HU.out hf ht hzl (by first | exact HO6.out.drew | exact HO6.out) (by first | exact hb6.drew.size | exact hb6.size)).mono ?_; rintro e w7 ⟨v', rfl, ho', b7⟩; have b7x : Below wp.heap.size wp w7 := (by first | exact hb6.drew.trans b7 | exact hb6.trans b7)))
                  go_wp2
                  go_roundw
                  case rel => exact ⟨k + 1, _, by go_num, by omega, HB2, Lib.hid ho', b7x⟩
                  case measure => simp [intOf]; omega
              · have e3 : (xf == 3) = false := by simp [h3]
                have HPT0 : Hid (visP ps ls L a b f = true) := Lib.hid (HPX.out.trans HQ.out.symm)
                have HPT := HPT0.out
                have HB2 := Lib.hid (HG.out HPT)
                clear HPT
                clear h3
                go_wp2_with fail
                go_region_held3 (fun w' => w'.cell? ⟨g, o + k * 2, none⟩ = some (.int .u32 f) ∧ w'.cell? ⟨g, o + k * 2 + 1, none⟩ = some (.int .u32 t)) (first | exact KS.out _ b7x | exact KS.out _ hb6.drew | exact KS.out _ hb6) (first | (go_at_call 36; refine (Zo.join_any z f t _ HU.out hf ht hzl (by first | exact HO6.out.drew | exact HO6.out) (by first | exact hb6.drew.size | exact hb6.size)).mono ?_; rintro e w7 ⟨v', rfl, ho', b7⟩; have b7x : Below wp.heap.size wp w7 := (by first | exact hb6.drew.trans b7 | exact hb6.trans b7)))
                go_wp2
                go_roundw
                case rel => exact ⟨k + 1, _, by go_num, by omega, HB2, Lib.hid ho', b7x⟩
                case measure => simp [intOf]; omega
            | false =>
              by_cases h3 : xf = 3
              · have e3 : (xf == 3) = true := by simp [h3]
                by_cases hd : xo = b
                · have ed : (xo == b) = true := by simp [hd]
                  have HPF0 : Hid (visP ps ls L a b f = false) := Lib.hid (HPX.out.trans HQ.out.symm)
                  have HPF := HPF0.out
                  have HB2 := Lib.hid (HP.out HPF)
                  clear HPF
                  clear h3 hd
                  go_wp2
                  go_roundw
                  case rel => exact ⟨k + 1, z, by go_num, by omega, HB2, HO6, hb6⟩
                  case measure => simp [intOf]; omega
                · have ed : (xo == b) = false := by simp [hd]
                  have HPF0 : Hid (visP ps ls L a b f = false) := Lib.hid (HPX.out.trans HQ.out.symm)
                  have HPF := HPF0.out
                  have HB2 := Lib.hid (HP.out HPF)
                  clear HPF
                  clear h3 hd
                  go_wp2
                  go_roundw
                  case rel => exact ⟨k + 1, z, by go_num, by omega, HB2, HO6, hb6⟩
                  case measure => simp [intOf]; omega
              · have e3 : (xf == 3) = false := by simp [h3]
                have HPF0 : Hid (visP ps ls L a b f = false) := Lib.hid (HPX.out.trans HQ.out.symm)
                have HPF := HPF0.out
                have HB2 := Lib.hid (HP.out HPF)
                clear HPF
                clear h3
                go_wp2
                go_roundw
                case rel => exact ⟨k + 1, z, by go_num, by omega, HB2, HO6, hb6⟩
                case measure => simp [intOf]; omega
        · obtain rfl : k = P.length := by omega
          have hfin := HPS.out.fin z HBI.out
          subst hfin
          obtain ⟨e1, e2⟩ := HE.out
          subst e1 e2
          go_wp2
          go_ret2
          exact ⟨_, rfl, Tr.isZ_of_row HO.out, HB3.out.trans (hbq.mono HB3.out.size)⟩

set_option maxRecDepth 100000 in
set_option maxHeartbeats 1000000 in
theorem rvisits_any {vp vl vr : Value} (ps : List Int) (ls : List Lk) (L : List Ru) (a b : Int) (w : World) (hR : RN ps ls L) (hW : NW ps ls L) (h : IsN w vp vl vr ps ls L) :
    Calls Tryz.prog 14 #[.agg #[vp, vl, vr], .int .i64 a, .int .i64 b] w (ZnOut (visZ ps ls L a b) (errIn (inD ps a ∧ inD ps b)) w) := by
  have b0 : Below w.heap.size w (w.alloc (.cells #[vp, vl, vr] 28)) := (Below.refl _ w).alloc (Nat.le_refl _) _
  have k1 := rzone1_any ps ls L a b _ hR hW (h.belows b0)
  have D0 := At.new w #[vp, vl, vr] 28
  obtain ⟨⟨⟨A1, c1, rfl, _⟩, ⟨A2, c2, rfl, _⟩⟩, ⟨A3, c3, rfl, _⟩⟩ := h
  generalize visZ ps ls L a b = Z at k1 ⊢
  generalize errIn (inD ps a ∧ inD ps b) = er at k1 ⊢
  unfold ZnOut at k1 ⊢
  go_enter Tryz.func14, Tryz.ntmps14
  go_upto_region 1 with (fail)
  obtain ⟨w0, hw0⟩ : ∃ w0, w0 = w.alloc (.cells #[.slice A1 ps.length c1, .slice A2 ls.length c2, .slice A3 L.length c3] 28) := ⟨_, rfl⟩
  rw [← hw0] at D0 b0 k1 ⊢
  clear hw0
  have x0 := (D0.cell 0).trans rfl
  have x1 := (D0.cell 1).trans rfl
  have x2 := (D0.cell 2).trans rfl
  go_wp2_with (go_at_call 40; refine k1.mono ?_; rintro e w1 ⟨v, rfl, hz, b1⟩)
  go_ret2
  exact ⟨_, rfl, hz, b0.trans (b1.mono b0.size)⟩
end Go.Proofs.YteboadppighplaaGreat
/- Contracts: the document's zone by delivery, Delivers (stage 11). -/
namespace Go.Proofs.YteboadppighplaaGreat
open Go.RowKit Go.Shelf

set_option maxRecDepth 100000 in
set_option maxHeartbeats 10000000 in
theorem rzone2_any {vp vl vr : Value} (ps : List Int) (ls : List Lk) (L : List Ru) (a b : Int) (w : World) (hR : RN ps ls L) (hW : NW ps ls L) (h : IsN w vp vl vr ps ls L) :
    Calls Tryz.prog 40 #[.agg #[vp, vl, vr], .int .i64 a, .int .i64 b, .int .i64 2] w (ZnOut (delZ ps ls L a b) (errIn (inD ps a ∧ inD ps b)) w) := by
  obtain ⟨Z, hZ⟩ : ∃ Z, Z = delZ ps ls L a b := ⟨_, rfl⟩
  obtain ⟨er, her⟩ : ∃ er, er = errIn (inD ps a ∧ inD ps b) := ⟨_, rfl⟩
  rw [← hZ, ← her]
  have HZ := Lib.hid hZ
  have HER := Lib.hid her
  have HN : Hid (∀ u, Below w.heap.size w u → IsN u vp vl vr ps ls L) := Lib.hid fun u hu => h.belows hu
  have HL : Hid (L.length ≤ 1000 ∧ ∀ r ∈ L, r.wf) := Lib.hid ⟨by have := ((allB_pw L).1 hR.rules).1; omega, hW.rules⟩
  have HR := Lib.hid hR
  obtain ⟨⟨⟨A1, c1, rfl, n1, m1, _⟩, ⟨A2, c2, rfl, _⟩⟩, ⟨A3, c3, rfl, _⟩⟩ := h
  have D0 := At.new w #[.slice A1 ps.length c1, .slice A2 ls.length c2, .slice A3 L.length c3] 28
  have b0 : Below w.heap.size w (w.alloc (.cells #[.slice A1 ps.length c1, .slice A2 ls.length c2, .slice A3 L.length c3] 28)) := (Below.refl _ w).alloc (Nat.le_refl _) _
  clear hR hW hZ her n1 m1
  unfold ZnOut
  go_enter Tryz.func40, Tryz.ntmps40
  go_upto_region 1 with (fail)
  obtain ⟨w0, hw0⟩ : ∃ w0, w0 = w.alloc (.cells #[.slice A1 ps.length c1, .slice A2 ls.length c2, .slice A3 L.length c3] 28) := ⟨_, rfl⟩
  rw [← hw0] at D0 b0 ⊢
  clear hw0
  have k1 := rdevice_any ps ls L a w0 (HN.out w0 b0)
  have x0 := (D0.cell 0).trans rfl; have x1 := (D0.cell 1).trans rfl; have x2 := (D0.cell 2).trans rfl
  obtain ⟨p, hp⟩ : ∃ p, p = decide (inD ps a) := ⟨_, rfl⟩
  rw [← hp] at k1
  have HPD := Lib.hid hp
  clear hp
  go_wp2_with fail
  refine k1.mono ?_
  rintro e w1 ⟨rfl, b1⟩
  have bw1 := b0.trans (b1.mono b0.size)
  have D1 := D0.belows b1
  clear k1 x0 x1 x2
  have k2 := rdevice_any ps ls L b w1 (HN.out w1 bw1)
  have x0 := (D1.cell 0).trans rfl; have x1 := (D1.cell 1).trans rfl; have x2 := (D1.cell 2).trans rfl
  obtain ⟨q, hq⟩ : ∃ q, q = decide (inD ps b) := ⟨_, rfl⟩
  rw [← hq] at k2
  have HQD := Lib.hid hq
  clear hq
  go_wp2_with fail
  refine k2.mono ?_
  rintro e w2 ⟨rfl, b2⟩
  have bw2 := bw1.trans (b2.mono bw1.size)
  have D2 := D1.belows b2
  clear k2 x0 x1 x2 D0 D1 b0 b1 b2 bw1
  by_cases hpq : p = true ∧ q = true
  case neg =>
    have HE : Hid (er = 91 ∧ Z = []) := Lib.hid (by
      have hno : ¬ (inD ps a ∧ inD ps b) := fun h => hpq ⟨by rw [HPD.out]; simp [h.1], by rw [HQD.out]; simp [h.2]⟩
      exact ⟨by rw [HER.out]; exact if_neg hno, by rw [HZ.out]; exact if_neg hno⟩)
    obtain ⟨e1, e2⟩ := HE.out
    subst e1 e2
    cases p <;> cases q
    case true.true => exact absurd ⟨rfl, rfl⟩ hpq
    all_goals
      clear hpq
      go_wp2
      go_ret2
      exact ⟨_, rfl, ⟨none, 0, rfl, Nat.le_refl _, by decide, Tr.Zs.nil _ _⟩, bw2⟩
  case pos =>
    obtain ⟨rfl, rfl⟩ := hpq
    have hin : inD ps a ∧ inD ps b := ⟨by simpa using HPD.out.symm, by simpa using HQD.out.symm⟩
    have HE : Hid (er = 0 ∧ Z = pickZ (delP ps ls L a b) (rgL L)) := Lib.hid ⟨by rw [HER.out]; exact if_pos hin, by rw [HZ.out]; exact if_pos hin⟩
    have HIN := Lib.hid hin
    clear hin HPD HQD
    have x0 : ∀ u, Below w2.heap.size w2 u → u.cell? ⟨w.heap.size, 0, none⟩ = some (.slice A1 ps.length c1) ∧ u.cell? ⟨w.heap.size, 1, none⟩ = some (.slice A2 ls.length c2) ∧ u.cell? ⟨w.heap.size, 2, none⟩ = some (.slice A3 L.length c3) := fun u hu => ⟨((D2.belows hu).cell 0).trans rfl, ((D2.belows hu).cell 1).trans rfl, ((D2.belows hu).cell 2).trans rfl⟩
    have SX := Lib.hid x0
    have HBW := Lib.hid bw2
    have KC : Hid (∀ (B : Nat) (u : World), Below w2.heap.size w2 u → At u B #[.slice A1 ps.length c1, .slice A2 ls.length c2, .slice A3 L.length c3] 28 → Calls Tryz.prog 20 #[.slice (some ⟨B, 0, none⟩) 1 1, .agg #[.int .u32 0, .int .u32 4294967295]] u fun e w' => ∃ v, e = .returned (.tuple #[v, .int .i64 0]) ∧ Tr.IsZ w' v (cutZ (rgL L) 0 4294967295) ∧ Below u.heap.size u w') := Lib.hid fun B u hu hA => by
      have := rcutA_any [⟨_, _, _, ps, ls, L⟩] u (by simp) (fun n hn => by simp at hn; subst hn; exact HL.out) (ns_one (n := ⟨_, _, _, ps, ls, L⟩) hA (HN.out u (HBW.out.trans (hu.mono HBW.out.size))))
      rwa [show rgN [⟨.slice A1 ps.length c1, .slice A2 ls.length c2, .slice A3 L.length c3, ps, ls, L⟩] = rgL L by simp [rgN]] at this
    have X0 := (x0 w2 (Below.refl _ _)).1; have X1 := (x0 w2 (Below.refl _ _)).2.1; have X2 := (x0 w2 (Below.refl _ _)).2.2
    clear x0
    go_upto_region 6 with (fail)
    go_cut [13, 14] (fun v er wc => er = .int .i64 0 ∧ Hid (Tr.IsZ wc v (cutZ (rgL L) 0 4294967295) ∧ Below w2.heap.size w2 wc))
    case first =>
      go_region_held3 (fun W => W.cell? ⟨w.heap.size, 0, none⟩ = some (.slice A1 ps.length c1) ∧ W.cell? ⟨w.heap.size, 1, none⟩ = some (.slice A2 ls.length c2) ∧ W.cell? ⟨w.heap.size, 2, none⟩ = some (.slice A3 L.length c3))
      (first | exact SX.out _ b6w | exact SX.out _ b5w | exact SX.out _ (b5w.alloc b5w.size _) | exact SX.out _ ((Below.refl _ w2).alloc (Nat.le_refl _) _).drew | exact SX.out _ ((Below.refl _ w2).alloc (Nat.le_refl _) _) | exact SX.out _ (bdrewN (Below.refl _ _) 1))
      (first
        | (go_at_call 34; refine (rallR_any _).mono ?_; rintro e w5 ⟨rfl, b5⟩; have b5w : Below w2.heap.size w2 w5 := (by first | exact Below.trans (((Below.refl _ w2).alloc (Nat.le_refl _) _).drew) (b5.mono (by simp)) | exact (bdrewN (Below.refl _ _) 1).trans b5); first | (have U5 : At w5 w2.heap.size #[.slice A1 ps.length c1, .slice A2 ls.length c2, .slice A3 L.length c3] 28 := (show At (w2.alloc (.cells #[.slice A1 ps.length c1, .slice A2 ls.length c2, .slice A3 L.length c3] 28)).drew w2.heap.size #[.slice A1 ps.length c1, .slice A2 ls.length c2, .slice A3 L.length c3] 28 from At.new w2 _ _).belows b5) | skip)
        | (go_at_call 20; first | (refine (KC.out _ _ b5w U5).mono ?_; rintro e w6 ⟨v6, rfl, z6, b6⟩; have b6w := b5w.trans (b6.mono b5w.size)) | (refine (KC.out _ _ (b5w.alloc b5w.size _) (At.new w5 _ _)).mono ?_; rintro e w6 ⟨v6, rfl, z6, b6⟩; have b6w := (b5w.alloc b5w.size _).trans (b6.mono (b5w.alloc b5w.size _).size))))
      all_goals (go_wp2_with fail; go_meet)
      all_goals exact ⟨rfl, Lib.hid ⟨z6, b6w⟩⟩
    case rest =>
      obtain ⟨rfl, HC⟩ := hcut
      obtain ⟨wp, rfl⟩ : ∃ wp, wp = wc := ⟨_, rfl⟩
      obtain ⟨⟨Ac, cc, rfl, nc, mc, zc⟩, b3⟩ := HC.out
      clear HC X0 X1 X2 KC
      have SY : Hid (∀ u, Below wp.heap.size wp u → u.cell? ⟨w.heap.size, 0, none⟩ = some (.slice A1 ps.length c1) ∧ u.cell? ⟨w.heap.size, 1, none⟩ = some (.slice A2 ls.length c2) ∧ u.cell? ⟨w.heap.size, 2, none⟩ = some (.slice A3 L.length c3)) := Lib.hid fun u hu => SX.out u (b3.trans (hu.mono b3.size))
      have HB3 : Hid (Below w.heap.size w wp) := Lib.hid (HBW.out.trans (b3.mono HBW.out.size))
      have HST := Lib.hid (PkI.start (delP ps ls L a b) (rgL L))
      have hPS := pkS (delP ps ls L a b) (rgL L)
      generalize cutZ (rgL L) 0 4294967295 = P at nc zc hPS ⊢
      have HZC := Lib.hid zc
      have HPS := Lib.hid hPS
      have hPl := hPS.len
      clear zc SX HBW b3 D2 hPS
      go_wp2
      go_loopw [12, 15] (fun o i wq => ∃ (k : Nat) (z : List (Nat × Nat)), i = .int .i64 k ∧ k ≤ P.length ∧ Hid (PkI (delP ps ls L a b) (rgL L) k z) ∧ Hid (wq.ownsRow wp.heap.size 43 2 o z.length (Tr.zcells z)) ∧ Below wp.heap.size wp wq) (fun _ i _ => P.length - (intOf i).toNat)
      case atStart => exact ⟨0, [], rfl, by omega, HST, Lib.hid (World.ownsRow_nil _ _ _ _), Below.refl _ _⟩
      case round =>
        obtain ⟨k, z, rfl, hk, HBI, HO, hbq⟩ := hrel
        by_cases hlt : k < P.length
        · obtain ⟨g, o, e1, hg, hc⟩ := HZC.out (by omega)
          subst e1
          obtain ⟨c0, c1'⟩ := hc k hlt
          obtain ⟨hf, ht⟩ := HPS.out.lt k _ hlt rfl
          have hG := HPS.out.give k z _ HBI.out hlt rfl
          have hP := HPS.out.pass k z _ HBI.out hlt rfl
          generalize P[k] = x at c0 c1' hf ht hG hP
          obtain ⟨f, t⟩ := x
          dsimp only at c0 c1' hf ht hG hP
          have HG := Lib.hid hG
          have HP := Lib.hid hP
          clear hc hG hP
          have hzl : z.length ≤ 4294967296 := by have := HBI.out.u32.2; omega
          have HU : Hid (Tr.U32 z) := Lib.hid HBI.out.u32.1
          have jf : IntKind.i64.wrap (f : Int) = (f : Int) := IntWalk.i64_in _ (by omega)
          have jt : IntKind.i64.wrap (t : Int) = (t : Int) := IntWalk.i64_in _ (by omega)
          have i0 : (0 : Int) ≤ (k : Int) := by omega
          have i1 : (k : Int) < (P.length : Int) := by omega
          have hbw : Below w.heap.size w wr := HB3.out.trans (hbq.mono HB3.out.size)
          have KT : Hid (∀ u, Below w.heap.size w u → Calls Tryz.prog 35 #[.agg #[.slice A1 ps.length c1, .slice A2 ls.length c2, .slice A3 L.length c3], .int .i64 a, .int .u32 f] u (TrOut (trcN ps ls L f a) u)) := Lib.hid fun u hu => rtrace_in ps ls L a f u HR.out (HN.out u hu) HIN.out.1
          have HBWR := Lib.hid hbw
          have HBQ := Lib.hid hbq
          have HCC : Hid (∀ u, Below wr.heap.size wr u → u.cell? ⟨g, o + k * 2, none⟩ = some (.int .u32 f) ∧ u.cell? ⟨g, o + k * 2 + 1, none⟩ = some (.int .u32 t)) := Lib.hid fun u hu => ⟨((hbq.trans (hu.mono hbq.size)).cell (p := ⟨g, _, none⟩) hg).trans c0, ((hbq.trans (hu.mono hbq.size)).cell (p := ⟨g, _, none⟩) hg).trans c1'⟩
          have SZ : Hid (∀ u, Below wr.heap.size wr u → u.cell? ⟨w.heap.size, 0, none⟩ = some (.slice A1 ps.length c1) ∧ u.cell? ⟨w.heap.size, 1, none⟩ = some (.slice A2 ls.length c2) ∧ u.cell? ⟨w.heap.size, 2, none⟩ = some (.slice A3 L.length c3) ∧ u.cell? ⟨g, o + k * 2, none⟩ = some (.int .u32 f)) := Lib.hid fun u hu =>
            have h1 := SY.out u (HBQ.out.trans (hu.mono HBQ.out.size))
            ⟨h1.1, h1.2.1, h1.2.2, (HCC.out u hu).1⟩
          obtain ⟨X0, X1, X2, C0⟩ := SZ.out wr (Below.refl _ _)
          have KS : Hid (∀ u, Below wp.heap.size wp u → u.cell? ⟨g, o + k * 2, none⟩ = some (.int .u32 f) ∧ u.cell? ⟨g, o + k * 2 + 1, none⟩ = some (.int .u32 t)) := Lib.hid fun u hu => ⟨(hu.cell (p := ⟨g, _, none⟩) hg).trans c0, (hu.cell (p := ⟨g, _, none⟩) hg).trans c1'⟩
          clear c0 c1' hbq hbw
          obtain ⟨x, hx⟩ : ∃ x, x = trcN ps ls L f a := ⟨_, rfl⟩
          rw [← hx] at KT
          have HPX : Hid (delP ps ls L a b f = (decide (x.ft = 3) && decide (x.out.d = b))) := Lib.hid (by rw [hx]; rfl)
          clear hx
          go_upto_region 10 with (fail)
          go_cut [16, 17] (fun p er wc' => er = .int .i64 0 ∧ ∃ UB : Nat, p = .pointer (some ⟨UB, 0, none⟩) ∧ Hid (UTr x wr UB wc'))
          case first =>
            go_region_held3 (fun W => W.cell? ⟨w.heap.size, 0, none⟩ = some (.slice A1 ps.length c1) ∧ W.cell? ⟨w.heap.size, 1, none⟩ = some (.slice A2 ls.length c2) ∧ W.cell? ⟨w.heap.size, 2, none⟩ = some (.slice A3 L.length c3) ∧ W.cell? ⟨g, o + k * 2, none⟩ = some (.int .u32 f))
            (first | exact SZ.out _ b5w | exact SZ.out _ (b5w.alloc b5w.size _) | exact SZ.out _ ((((b5w.setCell (p := ⟨wr.heap.size, 0, none⟩) (Nat.le_refl _) _).setCell (p := ⟨wr.heap.size, 1, none⟩) (Nat.le_refl _) _).setCell (p := ⟨wr.heap.size, 2, none⟩) (Nat.le_refl _) _).setCell (p := ⟨wr.heap.size, 3, none⟩) (Nat.le_refl _) _) | exact SZ.out _ ((Below.refl _ wr).alloc (Nat.le_refl _) _).drew | exact SZ.out _ (bdrewN (Below.refl _ _) 1))
            ((go_at_call 35; refine (KT.out _ (by first | exact (HBWR.out.alloc HBWR.out.size _).drew | exact bdrewN HBWR.out 1)).mono ?_; unfold TrOut tcV; rintro e w5 ⟨vu, rfl, ⟨Au, cu, rfl, nu, mu, zu⟩, hfr, b5⟩; have b5w : Below wr.heap.size wr w5 := (by first | exact Below.trans (((Below.refl _ wr).alloc (Nat.le_refl _) _).drew) (b5.mono (by simp)) | exact (bdrewN (Below.refl _ _) 1).trans b5); first | (have U5 : At w5 wr.heap.size #[.slice none 0 0, .int .i64 0, .int .i64 0, .int .i64 0] 57 := (show At (wr.alloc (.cells #[.slice none 0 0, .int .i64 0, .int .i64 0, .int .i64 0] 57)).drew wr.heap.size #[.slice none 0 0, .int .i64 0, .int .i64 0, .int .i64 0] 57 from At.new wr _ _).belows b5; have y0 := (U5.cell 0).trans rfl; have y1 := (U5.cell 1).trans rfl; have y2 := (U5.cell 2).trans rfl; have y3 := (U5.cell 3).trans rfl; have f0 := U5.frozen 0; have f1 := U5.frozen 1; have f2 := U5.frozen 2; have f3 := U5.frozen 3) | skip))
            all_goals (go_wp2_with fail; go_meet)
            · exact ⟨rfl, w5.heap.size, rfl, Lib.hid ⟨Au, cu, At.new w5 _ _, nu, mu, zu.belows ((Below.refl _ _).alloc (Nat.le_refl _) _), b5w.alloc b5w.size _⟩⟩
            · exact ⟨rfl, wr.heap.size, rfl, Lib.hid ⟨Au, cu, (((U5.set0 0 _).set0 1 _).set0 2 _).set0 3 _, nu, mu, fs_set4 zu (fun g' o' e => by have := hfr g' o' _ _ (by rw [e]); exact Nat.lt_of_lt_of_le (by simp) this), (((b5w.setCell (p := ⟨wr.heap.size, 0, none⟩) (Nat.le_refl _) _).setCell (p := ⟨wr.heap.size, 1, none⟩) (Nat.le_refl _) _).setCell (p := ⟨wr.heap.size, 2, none⟩) (Nat.le_refl _) _).setCell (p := ⟨wr.heap.size, 3, none⟩) (Nat.le_refl _) _⟩⟩
          case rest =>
            obtain ⟨rfl, UB, rfl, HUU⟩ := hcut
            obtain ⟨w6, rfl⟩ : ∃ w6, w6 = wc := ⟨_, rfl⟩
            obtain ⟨Au, cu, U6, nu, mu, zu, b6⟩ := HUU.out
            clear HUU
            have u0 := (U6.cell 0).trans rfl; have u1 := (U6.cell 1).trans rfl; have u2 := (U6.cell 2).trans rfl; have u3 := (U6.cell 3).trans rfl
            have kH := rhasI_any x.ds b w6 ⟨Au, cu, rfl, nu, mu, zu⟩
            obtain ⟨q, hq⟩ : ∃ q, q = decide (b ∈ x.ds) := ⟨_, rfl⟩
            rw [← hq] at kH
            have HQ := Lib.hid hq
            have hX : x.ds.length ≤ 9223372036854775807 := Nat.le_trans nu mu
            have hb6 : Below wp.heap.size wp w6 := HBQ.out.trans (b6.mono HBQ.out.size)
            have HO6 : Hid (w6.ownsRow wp.heap.size 43 2 u12 z.length (Tr.zcells z)) := Lib.hid (row_belows HO.out b6)
            obtain ⟨C0, C1⟩ := HCC.out w6 b6
            obtain ⟨xd, xf, ⟨xo, xp⟩⟩ := x
            dsimp only at u0 u1 u2 u3 hX HPX HQ kH
            clear hq zu nu mu X0 X1 X2 U6
            go_wp2_with fail
            refine kH.mono ?_
            rintro e w8 ⟨rfl, rfl⟩
            clear kH
            cases q with
            | true =>
              by_cases h3 : xf = 3
              · have e3 : (xf == 3) = true := by simp [h3]
                by_cases hd : xo = b
                · have ed : (xo == b) = true := by simp [hd]
                  have HPT0 : Hid (delP ps ls L a b f = true) := Lib.hid (HPX.out.trans (by simp [h3, hd]))
                  have HPT := HPT0.out
                  have HB2 := Lib.hid (HG.out HPT)
                  clear HPT
                  clear h3 hd
                  go_wp2_with fail
                  go_region_held3 (fun w' => w'.cell? ⟨g, o + k * 2, none⟩ = some (.int .u32 f) ∧ w'.cell? ⟨g, o + k * 2 + 1, none⟩ = some (.int .u32 t)) (first | exact KS.out _ b7x | exact KS.out _ hb6.drew | exact KS.out _ hb6) (first | (go_at_call 36; refine (Zo.join_any z f t _ HU.out hf ht hzl (by first | exact HO6.out.drew | exact HO6.out) (by first | exact hb6.drew.size | exact hb6.size)).mono ?_; rintro e w7 ⟨v', rfl, ho', b7⟩; have b7x : Below wp.heap.size wp w7 := (by first | exact hb6.drew.trans b7 | exact hb6.trans b7)))
                  go_wp2
                  go_roundw
                  case rel => exact ⟨k + 1, _, by go_num, by omega, HB2, Lib.hid ho', b7x⟩
                  case measure => simp [intOf]; omega
                · have ed : (xo == b) = false := by simp [hd]
                  have HPF0 : Hid (delP ps ls L a b f = false) := Lib.hid (HPX.out.trans (by simp [h3, hd]))
                  have HPF := HPF0.out
                  have HB2 := Lib.hid (HP.out HPF)
                  clear HPF
                  clear h3 hd
                  go_wp2
                  go_roundw
                  case rel => exact ⟨k + 1, z, by go_num, by omega, HB2, HO6, hb6⟩
                  case measure => simp [intOf]; omega
              · have e3 : (xf == 3) = false := by simp [h3]
                have HPF0 : Hid (delP ps ls L a b f = false) := Lib.hid (HPX.out.trans (by simp [h3]))
                have HPF := HPF0.out
                have HB2 := Lib.hid (HP.out HPF)
                clear HPF
                clear h3
                go_wp2
                go_roundw
                case rel => exact ⟨k + 1, z, by go_num, by omega, HB2, HO6, hb6⟩
                case measure => simp [intOf]; omega
            | false =>
              by_cases h3 : xf = 3
              · have e3 : (xf == 3) = true := by simp [h3]
                by_cases hd : xo = b
                · have ed : (xo == b) = true := by simp [hd]
                  have HPT0 : Hid (delP ps ls L a b f = true) := Lib.hid (HPX.out.trans (by simp [h3, hd]))
                  have HPT := HPT0.out
                  have HB2 := Lib.hid (HG.out HPT)
                  clear HPT
                  clear h3 hd
                  go_wp2_with fail
                  go_region_held3 (fun w' => w'.cell? ⟨g, o + k * 2, none⟩ = some (.int .u32 f) ∧ w'.cell? ⟨g, o + k * 2 + 1, none⟩ = some (.int .u32 t)) (first | exact KS.out _ b7x | exact KS.out _ hb6.drew | exact KS.out _ hb6) (first | (go_at_call 36; refine (Zo.join_any z f t _ HU.out hf ht hzl (by first | exact HO6.out.drew | exact HO6.out) (by first | exact hb6.drew.size | exact hb6.size)).mono ?_; rintro e w7 ⟨v', rfl, ho', b7⟩; have b7x : Below wp.heap.size wp w7 := (by first | exact hb6.drew.trans b7 | exact hb6.trans b7)))
                  go_wp2
                  go_roundw
                  case rel => exact ⟨k + 1, _, by go_num, by omega, HB2, Lib.hid ho', b7x⟩
                  case measure => simp [intOf]; omega
                · have ed : (xo == b) = false := by simp [hd]
                  have HPF0 : Hid (delP ps ls L a b f = false) := Lib.hid (HPX.out.trans (by simp [h3, hd]))
                  have HPF := HPF0.out
                  have HB2 := Lib.hid (HP.out HPF)
                  clear HPF
                  clear h3 hd
                  go_wp2
                  go_roundw
                  case rel => exact ⟨k + 1, z, by go_num, by omega, HB2, HO6, hb6⟩
                  case measure => simp [intOf]; omega
              · have e3 : (xf == 3) = false := by simp [h3]
                have HPF0 : Hid (delP ps ls L a b f = false) := Lib.hid (HPX.out.trans (by simp [h3]))
                have HPF := HPF0.out
                have HB2 := Lib.hid (HP.out HPF)
                clear HPF
                clear h3
                go_wp2
                go_roundw
                case rel => exact ⟨k + 1, z, by go_num, by omega, HB2, HO6, hb6⟩
                case measure => simp [intOf]; omega
        · obtain rfl : k = P.length := by omega
          have hfin := HPS.out.fin z HBI.out
          subst hfin
          obtain ⟨e1, e2⟩ := HE.out
          subst e1 e2
          go_wp2
          go_ret2
          exact ⟨_, rfl, Tr.isZ_of_row HO.out, HB3.out.trans (hbq.mono HB3.out.size)⟩

set_option maxRecDepth 100000 in
set_option maxHeartbeats 1000000 in
theorem rdelivers_any {vp vl vr : Value} (ps : List Int) (ls : List Lk) (L : List Ru) (a b : Int) (w : World) (hR : RN ps ls L) (hW : NW ps ls L) (h : IsN w vp vl vr ps ls L) :
    Calls Tryz.prog 16 #[.agg #[vp, vl, vr], .int .i64 a, .int .i64 b] w (ZnOut (delZ ps ls L a b) (errIn (inD ps a ∧ inD ps b)) w) := by
  have b0 : Below w.heap.size w (w.alloc (.cells #[vp, vl, vr] 28)) := (Below.refl _ w).alloc (Nat.le_refl _) _
  have k1 := rzone2_any ps ls L a b _ hR hW (h.belows b0)
  have D0 := At.new w #[vp, vl, vr] 28
  obtain ⟨⟨⟨A1, c1, rfl, _⟩, ⟨A2, c2, rfl, _⟩⟩, ⟨A3, c3, rfl, _⟩⟩ := h
  generalize delZ ps ls L a b = Z at k1 ⊢
  generalize errIn (inD ps a ∧ inD ps b) = er at k1 ⊢
  unfold ZnOut at k1 ⊢
  go_enter Tryz.func16, Tryz.ntmps16
  go_upto_region 1 with (fail)
  obtain ⟨w0, hw0⟩ : ∃ w0, w0 = w.alloc (.cells #[.slice A1 ps.length c1, .slice A2 ls.length c2, .slice A3 L.length c3] 28) := ⟨_, rfl⟩
  rw [← hw0] at D0 b0 k1 ⊢
  clear hw0
  have x0 := (D0.cell 0).trans rfl
  have x1 := (D0.cell 1).trans rfl
  have x2 := (D0.cell 2).trans rfl
  go_wp2_with (go_at_call 40; refine k1.mono ?_; rintro e w1 ⟨v, rfl, hz, b1⟩)
  go_ret2
  exact ⟨_, rfl, hz, b0.trans (b1.mono b0.size)⟩
end Go.Proofs.YteboadppighplaaGreat
/- Contracts: the document's Differs (stage 11). -/
namespace Go.Proofs.YteboadppighplaaGreat
open Go.RowKit Go.Shelf

/-- Two networks as a slice. -/
theorem ns_two {w : World} {B : Nat} {n m : Nt} (hA : At w B (ntA n ++ ntA m) 28) (hn : IsN w n.vp n.vl n.vr n.ps n.ls n.L) (hm : IsN w m.vp m.vl m.vr m.ps m.ls m.L) : Ns w (.slice (some ⟨B, 0, none⟩) 2 2) [n, m] :=
  ⟨isF_of_at ntA_size (L := [n, m]) (c := 2) hA (by simp [fcs]) (by simp) (by decide), fun x hx => by
    simp at hx
    rcases hx with rfl | rfl
    · exact hn
    · exact hm⟩
set_option maxRecDepth 100000 in
set_option maxHeartbeats 10000000 in
theorem rdiffers_any {vp vl vr up ul ur : Value} (ps : List Int) (ls : List Lk) (L : List Ru) (qs : List Int) (ms : List Lk) (M : List Ru) (d : Int) (w : World) (hR : RN ps ls L) (hW : NW ps ls L) (hR2 : RN qs ms M) (hW2 : NW qs ms M) (h : IsN w vp vl vr ps ls L) (h2 : IsN w up ul ur qs ms M) :
    Calls Tryz.prog 18 #[.agg #[vp, vl, vr], .agg #[up, ul, ur], .int .i64 d] w (ZnOut (difZ ps ls L qs ms M d) (errIn (inD ps d ∧ inD qs d)) w) := by
  obtain ⟨Z, hZ⟩ : ∃ Z, Z = difZ ps ls L qs ms M d := ⟨_, rfl⟩
  obtain ⟨er, her⟩ : ∃ er, er = errIn (inD ps d ∧ inD qs d) := ⟨_, rfl⟩
  rw [← hZ, ← her]
  have HZ := Lib.hid hZ
  have HER := Lib.hid her
  have HN : Hid (∀ u, Below w.heap.size w u → IsN u vp vl vr ps ls L) := Lib.hid fun u hu => h.belows hu
  have HM : Hid (∀ u, Below w.heap.size w u → IsN u up ul ur qs ms M) := Lib.hid fun u hu => h2.belows hu
  have HL : Hid ((L.length ≤ 1000 ∧ ∀ r ∈ L, r.wf) ∧ (M.length ≤ 1000 ∧ ∀ r ∈ M, r.wf)) := Lib.hid ⟨⟨by have := ((allB_pw L).1 hR.rules).1; omega, hW.rules⟩, by have := ((allB_pw M).1 hR2.rules).1; omega, hW2.rules⟩
  have HR := Lib.hid hR
  have HR2 := Lib.hid hR2
  obtain ⟨⟨⟨A1, c1, rfl, n1, m1, _⟩, ⟨A2, c2, rfl, _⟩⟩, ⟨A3, c3, rfl, _⟩⟩ := h
  obtain ⟨⟨⟨B1, d1, rfl, _⟩, ⟨B2, d2, rfl, _⟩⟩, ⟨B3, d3, rfl, _⟩⟩ := h2
  have D0 := (At.new w #[.slice A1 ps.length c1, .slice A2 ls.length c2, .slice A3 L.length c3] 28).alloc (.cells #[.slice B1 qs.length d1, .slice B2 ms.length d2, .slice B3 M.length d3] 28)
  have E0 := At.new1 w (.cells #[.slice A1 ps.length c1, .slice A2 ls.length c2, .slice A3 L.length c3] 28) #[.slice B1 qs.length d1, .slice B2 ms.length d2, .slice B3 M.length d3] 28
  have b0 : Below w.heap.size w ((w.alloc (.cells #[.slice A1 ps.length c1, .slice A2 ls.length c2, .slice A3 L.length c3] 28)).alloc (.cells #[.slice B1 qs.length d1, .slice B2 ms.length d2, .slice B3 M.length d3] 28)) := ((Below.refl _ w).alloc (Nat.le_refl _) _).alloc (by simp) _
  clear hR hW hR2 hW2 hZ her n1 m1
  unfold ZnOut
  go_enter Tryz.func18, Tryz.ntmps18
  go_upto_region 1 with (fail)
  obtain ⟨w0, hw0⟩ : ∃ w0, w0 = ((w.alloc (.cells #[.slice A1 ps.length c1, .slice A2 ls.length c2, .slice A3 L.length c3] 28)).alloc (.cells #[.slice B1 qs.length d1, .slice B2 ms.length d2, .slice B3 M.length d3] 28)) := ⟨_, rfl⟩
  rw [← hw0] at D0 E0 b0 ⊢
  clear hw0
  have k1 := rdevice_any ps ls L d w0 (HN.out w0 b0)
  have x0 := (D0.cell 0).trans rfl; have x1 := (D0.cell 1).trans rfl; have x2 := (D0.cell 2).trans rfl
  obtain ⟨p, hp⟩ : ∃ p, p = decide (inD ps d) := ⟨_, rfl⟩
  rw [← hp] at k1
  have HPD := Lib.hid hp
  clear hp
  go_wp2_with fail
  refine k1.mono ?_
  rintro e w1 ⟨rfl, b1⟩
  have bw1 := b0.trans (b1.mono b0.size)
  have D1 := D0.belows b1
  have E1 := E0.belows b1
  clear k1 x0 x1 x2
  have k2 := rdevice_any qs ms M d w1 (HM.out w1 bw1)
  have x0 := (E1.cell 0).trans rfl; have x1 := (E1.cell 1).trans rfl; have x2 := (E1.cell 2).trans rfl
  obtain ⟨q, hq⟩ : ∃ q, q = decide (inD qs d) := ⟨_, rfl⟩
  rw [← hq] at k2
  have HQD := Lib.hid hq
  clear hq
  go_wp2_with fail
  refine k2.mono ?_
  rintro e w2 ⟨rfl, b2⟩
  have bw2 := bw1.trans (b2.mono bw1.size)
  have D2 := D1.belows b2
  have E2 := E1.belows b2
  clear k2 x0 x1 x2 D0 D1 E0 E1 b0 b1 b2 bw1
  by_cases hpq : p = true ∧ q = true
  case neg =>
    have HE : Hid (er = 91 ∧ Z = []) := Lib.hid (by
      have hno : ¬ (inD ps d ∧ inD qs d) := fun h => hpq ⟨by rw [HPD.out]; simp [h.1], by rw [HQD.out]; simp [h.2]⟩
      exact ⟨by rw [HER.out]; exact if_neg hno, by rw [HZ.out]; exact if_neg hno⟩)
    obtain ⟨e1, e2⟩ := HE.out
    subst e1 e2
    cases p <;> cases q
    case true.true => exact absurd ⟨rfl, rfl⟩ hpq
    all_goals
      clear hpq
      go_wp2
      go_ret2
      exact ⟨_, rfl, ⟨none, 0, rfl, Nat.le_refl _, by decide, Tr.Zs.nil _ _⟩, bw2⟩
  case pos =>
    obtain ⟨rfl, rfl⟩ := hpq
    have hin : inD ps d ∧ inD qs d := ⟨by simpa using HPD.out.symm, by simpa using HQD.out.symm⟩
    have HE : Hid (er = 0 ∧ Z = pickZ (difP ps ls L qs ms M d) (rgL L ++ rgL M)) := Lib.hid ⟨by rw [HER.out]; exact if_pos hin, by rw [HZ.out]; exact if_pos hin⟩
    have HIN := Lib.hid hin
    clear hin HPD HQD
    have x0 : ∀ u, Below w2.heap.size w2 u → u.cell? ⟨w.heap.size, 0, none⟩ = some (.slice A1 ps.length c1) ∧ u.cell? ⟨w.heap.size, 1, none⟩ = some (.slice A2 ls.length c2) ∧ u.cell? ⟨w.heap.size, 2, none⟩ = some (.slice A3 L.length c3) ∧ u.cell? ⟨w.heap.size + 1, 0, none⟩ = some (.slice B1 qs.length d1) ∧ u.cell? ⟨w.heap.size + 1, 1, none⟩ = some (.slice B2 ms.length d2) ∧ u.cell? ⟨w.heap.size + 1, 2, none⟩ = some (.slice B3 M.length d3) := fun u hu => ⟨((D2.belows hu).cell 0).trans rfl, ((D2.belows hu).cell 1).trans rfl, ((D2.belows hu).cell 2).trans rfl, ((E2.belows hu).cell 0).trans rfl, ((E2.belows hu).cell 1).trans rfl, ((E2.belows hu).cell 2).trans rfl⟩
    have SX := Lib.hid x0
    have HBW := Lib.hid bw2
    have KC : Hid (∀ (B : Nat) (u : World), Below w2.heap.size w2 u → At u B #[.slice A1 ps.length c1, .slice A2 ls.length c2, .slice A3 L.length c3, .slice B1 qs.length d1, .slice B2 ms.length d2, .slice B3 M.length d3] 28 → Calls Tryz.prog 20 #[.slice (some ⟨B, 0, none⟩) 2 2, .agg #[.int .u32 0, .int .u32 4294967295]] u fun e w' => ∃ v, e = .returned (.tuple #[v, .int .i64 0]) ∧ Tr.IsZ w' v (cutZ (rgL L ++ rgL M) 0 4294967295) ∧ Below u.heap.size u w') := Lib.hid fun B u hu hA => by
      have := rcutA_any [⟨_, _, _, ps, ls, L⟩, ⟨_, _, _, qs, ms, M⟩] u (by simp) (fun n hn => by simp at hn; rcases hn with rfl | rfl; exact HL.out.1; exact HL.out.2) (ns_two (n := ⟨_, _, _, ps, ls, L⟩) (m := ⟨_, _, _, qs, ms, M⟩) hA (HN.out u (HBW.out.trans (hu.mono HBW.out.size))) (HM.out u (HBW.out.trans (hu.mono HBW.out.size))))
      rwa [show rgN [⟨.slice A1 ps.length c1, .slice A2 ls.length c2, .slice A3 L.length c3, ps, ls, L⟩, ⟨.slice B1 qs.length d1, .slice B2 ms.length d2, .slice B3 M.length d3, qs, ms, M⟩] = rgL L ++ rgL M by simp [rgN]] at this
    obtain ⟨X0, X1, X2, X3, X4, X5⟩ := x0 w2 (Below.refl _ _)
    clear x0
    go_upto_region 6 with (fail)
    go_cut [11, 12] (fun v er wc => er = .int .i64 0 ∧ Hid (Tr.IsZ wc v (cutZ (rgL L ++ rgL M) 0 4294967295) ∧ Below w2.heap.size w2 wc))
    case first =>
      go_region_held3 (fun W => W.cell? ⟨w.heap.size, 0, none⟩ = some (.slice A1 ps.length c1) ∧ W.cell? ⟨w.heap.size, 1, none⟩ = some (.slice A2 ls.length c2) ∧ W.cell? ⟨w.heap.size, 2, none⟩ = some (.slice A3 L.length c3) ∧ W.cell? ⟨w.heap.size + 1, 0, none⟩ = some (.slice B1 qs.length d1) ∧ W.cell? ⟨w.heap.size + 1, 1, none⟩ = some (.slice B2 ms.length d2) ∧ W.cell? ⟨w.heap.size + 1, 2, none⟩ = some (.slice B3 M.length d3))
      (first | exact SX.out _ b6w | exact SX.out _ b5w | exact SX.out _ (b5w.alloc b5w.size _) | exact SX.out _ ((Below.refl _ w2).alloc (Nat.le_refl _) _).drew | exact SX.out _ ((Below.refl _ w2).alloc (Nat.le_refl _) _) | exact SX.out _ (bdrewN (Below.refl _ _) 1))
      (first
        | (go_at_call 34; refine (rallR_any _).mono ?_; rintro e w5 ⟨rfl, b5⟩; have b5w : Below w2.heap.size w2 w5 := (by first | exact Below.trans (((Below.refl _ w2).alloc (Nat.le_refl _) _).drew) (b5.mono (by simp)) | exact (bdrewN (Below.refl _ _) 1).trans b5); first | (have U5 : At w5 w2.heap.size #[.slice A1 ps.length c1, .slice A2 ls.length c2, .slice A3 L.length c3, .slice B1 qs.length d1, .slice B2 ms.length d2, .slice B3 M.length d3] 28 := (show At (w2.alloc (.cells #[.slice A1 ps.length c1, .slice A2 ls.length c2, .slice A3 L.length c3, .slice B1 qs.length d1, .slice B2 ms.length d2, .slice B3 M.length d3] 28)).drew w2.heap.size #[.slice A1 ps.length c1, .slice A2 ls.length c2, .slice A3 L.length c3, .slice B1 qs.length d1, .slice B2 ms.length d2, .slice B3 M.length d3] 28 from At.new w2 _ _).belows b5) | skip)
        | (go_at_call 20; first | (refine (KC.out _ _ b5w U5).mono ?_; rintro e w6 ⟨v6, rfl, z6, b6⟩; have b6w := b5w.trans (b6.mono b5w.size)) | (refine (KC.out _ _ (b5w.alloc b5w.size _) (At.new w5 _ _)).mono ?_; rintro e w6 ⟨v6, rfl, z6, b6⟩; have b6w := (b5w.alloc b5w.size _).trans (b6.mono (b5w.alloc b5w.size _).size))))
      all_goals (go_wp2_with fail; go_meet)
      all_goals exact ⟨rfl, Lib.hid ⟨z6, b6w⟩⟩
    case rest =>
      obtain ⟨rfl, HC⟩ := hcut
      obtain ⟨wp, rfl⟩ : ∃ wp, wp = wc := ⟨_, rfl⟩
      obtain ⟨⟨Ac, cc, rfl, nc, mc, zc⟩, b3⟩ := HC.out
      clear HC X0 X1 X2 X3 X4 X5 KC
      have SY : Hid (∀ u, Below wp.heap.size wp u → u.cell? ⟨w.heap.size, 0, none⟩ = some (.slice A1 ps.length c1) ∧ u.cell? ⟨w.heap.size, 1, none⟩ = some (.slice A2 ls.length c2) ∧ u.cell? ⟨w.heap.size, 2, none⟩ = some (.slice A3 L.length c3) ∧ u.cell? ⟨w.heap.size + 1, 0, none⟩ = some (.slice B1 qs.length d1) ∧ u.cell? ⟨w.heap.size + 1, 1, none⟩ = some (.slice B2 ms.length d2) ∧ u.cell? ⟨w.heap.size + 1, 2, none⟩ = some (.slice B3 M.length d3)) := Lib.hid fun u hu => SX.out u (b3.trans (hu.mono b3.size))
      have HB3 : Hid (Below w.heap.size w wp) := Lib.hid (HBW.out.trans (b3.mono HBW.out.size))
      have HST := Lib.hid (PkI.start (difP ps ls L qs ms M d) (rgL L ++ rgL M))
      have hPS := pkS (difP ps ls L qs ms M d) (rgL L ++ rgL M)
      generalize cutZ (rgL L ++ rgL M) 0 4294967295 = P at nc zc hPS ⊢
      have HZC := Lib.hid zc
      have HPS := Lib.hid hPS
      have hPl := hPS.len
      clear zc SX HBW b3 D2 E2 hPS
      go_wp2
      go_loopw [10, 13] (fun o i wq => ∃ (k : Nat) (z : List (Nat × Nat)), i = .int .i64 k ∧ k ≤ P.length ∧ Hid (PkI (difP ps ls L qs ms M d) (rgL L ++ rgL M) k z) ∧ Hid (wq.ownsRow wp.heap.size 43 2 o z.length (Tr.zcells z)) ∧ Below wp.heap.size wp wq) (fun _ i _ => P.length - (intOf i).toNat)
      case atStart => exact ⟨0, [], rfl, by omega, HST, Lib.hid (World.ownsRow_nil _ _ _ _), Below.refl _ _⟩
      case round =>
        obtain ⟨k, z, rfl, hk, HBI, HO, hbq⟩ := hrel
        by_cases hlt : k < P.length
        · obtain ⟨g, o, e1, hg, hc⟩ := HZC.out (by omega)
          subst e1
          obtain ⟨c0, c1'⟩ := hc k hlt
          obtain ⟨hf, ht⟩ := HPS.out.lt k _ hlt rfl
          have hG := HPS.out.give k z _ HBI.out hlt rfl
          have hP := HPS.out.pass k z _ HBI.out hlt rfl
          generalize P[k] = x at c0 c1' hf ht hG hP
          obtain ⟨f, t⟩ := x
          dsimp only at c0 c1' hf ht hG hP
          have HG := Lib.hid hG
          have HP := Lib.hid hP
          clear hc hG hP
          have hzl : z.length ≤ 4294967296 := by have := HBI.out.u32.2; omega
          have HU : Hid (Tr.U32 z) := Lib.hid HBI.out.u32.1
          have jf : IntKind.i64.wrap (f : Int) = (f : Int) := IntWalk.i64_in _ (by omega)
          have jt : IntKind.i64.wrap (t : Int) = (t : Int) := IntWalk.i64_in _ (by omega)
          have i0 : (0 : Int) ≤ (k : Int) := by omega
          have i1 : (k : Int) < (P.length : Int) := by omega
          have hbw : Below w.heap.size w wr := HB3.out.trans (hbq.mono HB3.out.size)
          have KT1 : Hid (∀ u, Below w.heap.size w u → Calls Tryz.prog 35 #[.agg #[.slice A1 ps.length c1, .slice A2 ls.length c2, .slice A3 L.length c3], .int .i64 d, .int .u32 f] u (TrOut (trcN ps ls L f d) u)) := Lib.hid fun u hu => rtrace_in ps ls L d f u HR.out (HN.out u hu) HIN.out.1
          have KT2 : Hid (∀ u, Below w.heap.size w u → Calls Tryz.prog 35 #[.agg #[.slice B1 qs.length d1, .slice B2 ms.length d2, .slice B3 M.length d3], .int .i64 d, .int .u32 f] u (TrOut (trcN qs ms M f d) u)) := Lib.hid fun u hu => rtrace_in qs ms M d f u HR2.out (HM.out u hu) HIN.out.2
          have HBWR := Lib.hid hbw
          have HBQ := Lib.hid hbq
          have KS : Hid (∀ u, Below wp.heap.size wp u → u.cell? ⟨g, o + k * 2, none⟩ = some (.int .u32 f) ∧ u.cell? ⟨g, o + k * 2 + 1, none⟩ = some (.int .u32 t)) := Lib.hid fun u hu => ⟨(hu.cell (p := ⟨g, _, none⟩) hg).trans c0, (hu.cell (p := ⟨g, _, none⟩) hg).trans c1'⟩
          have SZ1 : Hid (∀ u, Below wr.heap.size wr u → u.cell? ⟨w.heap.size, 0, none⟩ = some (.slice A1 ps.length c1) ∧ u.cell? ⟨w.heap.size, 1, none⟩ = some (.slice A2 ls.length c2) ∧ u.cell? ⟨w.heap.size, 2, none⟩ = some (.slice A3 L.length c3) ∧ u.cell? ⟨g, o + k * 2, none⟩ = some (.int .u32 f)) := Lib.hid fun u hu =>
            have h1 := SY.out u (HBQ.out.trans (hu.mono HBQ.out.size))
            ⟨h1.1, h1.2.1, h1.2.2.1, (KS.out u (HBQ.out.trans (hu.mono HBQ.out.size))).1⟩
          obtain ⟨X0, X1, X2, C0⟩ := SZ1.out wr (Below.refl _ _)
          clear c0 c1' hbq hbw
          obtain ⟨x, hx⟩ : ∃ x, x = trcN ps ls L f d := ⟨_, rfl⟩
          obtain ⟨y, hy⟩ : ∃ y, y = trcN qs ms M f d := ⟨_, rfl⟩
          rw [← hx] at KT1
          rw [← hy] at KT2
          have HPX : Hid (difP ps ls L qs ms M d f = !decide (x = y)) := Lib.hid (by rw [hx, hy]; rfl)
          clear hx hy
          go_upto_region 10 with (fail)
          go_cut [14, 15] (fun p er wc' => er = .int .i64 0 ∧ ∃ UB : Nat, p = .pointer (some ⟨UB, 0, none⟩) ∧ Hid (UTr x wr UB wc'))
          case first =>
            go_region_held3 (fun W => W.cell? ⟨w.heap.size, 0, none⟩ = some (.slice A1 ps.length c1) ∧ W.cell? ⟨w.heap.size, 1, none⟩ = some (.slice A2 ls.length c2) ∧ W.cell? ⟨w.heap.size, 2, none⟩ = some (.slice A3 L.length c3) ∧ W.cell? ⟨g, o + k * 2, none⟩ = some (.int .u32 f))
            (first | exact SZ1.out _ b5w | exact SZ1.out _ (b5w.alloc b5w.size _) | exact SZ1.out _ ((((b5w.setCell (p := ⟨wr.heap.size, 0, none⟩) (Nat.le_refl _) _).setCell (p := ⟨wr.heap.size, 1, none⟩) (Nat.le_refl _) _).setCell (p := ⟨wr.heap.size, 2, none⟩) (Nat.le_refl _) _).setCell (p := ⟨wr.heap.size, 3, none⟩) (Nat.le_refl _) _) | exact SZ1.out _ ((Below.refl _ wr).alloc (Nat.le_refl _) _).drew | exact SZ1.out _ (bdrewN (Below.refl _ _) 1))
            ((go_at_call 35; refine (KT1.out _ (by first | exact (HBWR.out.alloc HBWR.out.size _).drew | exact bdrewN HBWR.out 1)).mono ?_; unfold TrOut tcV; rintro e w5 ⟨vu, rfl, ⟨Au, cu, rfl, nu, mu, zu⟩, hfr, b5⟩; have b5w : Below wr.heap.size wr w5 := (by first | exact Below.trans (((Below.refl _ wr).alloc (Nat.le_refl _) _).drew) (b5.mono (by simp)) | exact (bdrewN (Below.refl _ _) 1).trans b5); first | (have U5 : At w5 wr.heap.size #[.slice none 0 0, .int .i64 0, .int .i64 0, .int .i64 0] 57 := (show At (wr.alloc (.cells #[.slice none 0 0, .int .i64 0, .int .i64 0, .int .i64 0] 57)).drew wr.heap.size #[.slice none 0 0, .int .i64 0, .int .i64 0, .int .i64 0] 57 from At.new wr _ _).belows b5; have y0 := (U5.cell 0).trans rfl; have y1 := (U5.cell 1).trans rfl; have y2 := (U5.cell 2).trans rfl; have y3 := (U5.cell 3).trans rfl; have f0 := U5.frozen 0; have f1 := U5.frozen 1; have f2 := U5.frozen 2; have f3 := U5.frozen 3) | skip))
            all_goals (go_wp2_with fail; go_meet)
            · exact ⟨rfl, w5.heap.size, rfl, Lib.hid ⟨Au, cu, At.new w5 _ _, nu, mu, zu.belows ((Below.refl _ _).alloc (Nat.le_refl _) _), b5w.alloc b5w.size _⟩⟩
            · exact ⟨rfl, wr.heap.size, rfl, Lib.hid ⟨Au, cu, (((U5.set0 0 _).set0 1 _).set0 2 _).set0 3 _, nu, mu, fs_set4 zu (fun g' o' e => by have := hfr g' o' _ _ (by rw [e]); exact Nat.lt_of_lt_of_le (by simp) this), (((b5w.setCell (p := ⟨wr.heap.size, 0, none⟩) (Nat.le_refl _) _).setCell (p := ⟨wr.heap.size, 1, none⟩) (Nat.le_refl _) _).setCell (p := ⟨wr.heap.size, 2, none⟩) (Nat.le_refl _) _).setCell (p := ⟨wr.heap.size, 3, none⟩) (Nat.le_refl _) _⟩⟩
          case rest =>
            obtain ⟨rfl, UB, rfl, HUU⟩ := hcut
            obtain ⟨w6, rfl⟩ : ∃ w6, w6 = wc := ⟨_, rfl⟩
            obtain ⟨Au, cu, U6, nu, mu, zu, b6⟩ := HUU.out
            clear HUU X0 X1 X2 C0 SZ1 KT1
            have hb6 : Below wp.heap.size wp w6 := HBQ.out.trans (b6.mono HBQ.out.size)
            have HB6 : Hid (Below w.heap.size w w6) := Lib.hid (HB3.out.trans (hb6.mono HB3.out.size))
            have HBP6 := Lib.hid hb6
            have SZ2 : Hid (∀ u, Below w6.heap.size w6 u → u.cell? ⟨w.heap.size + 1, 0, none⟩ = some (.slice B1 qs.length d1) ∧ u.cell? ⟨w.heap.size + 1, 1, none⟩ = some (.slice B2 ms.length d2) ∧ u.cell? ⟨w.heap.size + 1, 2, none⟩ = some (.slice B3 M.length d3) ∧ u.cell? ⟨g, o + k * 2, none⟩ = some (.int .u32 f)) := Lib.hid fun u hu =>
              have h1 := SY.out u (HBP6.out.trans (hu.mono HBP6.out.size))
              ⟨h1.2.2.2.1, h1.2.2.2.2.1, h1.2.2.2.2.2, (KS.out u (HBP6.out.trans (hu.mono HBP6.out.size))).1⟩
            obtain ⟨X0, X1, X2, C0⟩ := SZ2.out w6 (Below.refl _ _)
            have HO6 : Hid (w6.ownsRow wp.heap.size 43 2 u10 z.length (Tr.zcells z)) := Lib.hid (row_belows HO.out b6)
            have HU6 := Lib.hid U6
            have HZU : Hid (x.ds.length ≤ cu ∧ cu ≤ maxLen ∧ Fs 1 intA w6 Au x.ds) := Lib.hid ⟨nu, mu, zu⟩
            clear U6 nu mu zu hb6 b6
            go_upto_region 11 with (fail)
            go_cut [16, 17] (fun p er wc' => er = .int .i64 0 ∧ ∃ UB : Nat, p = .pointer (some ⟨UB, 0, none⟩) ∧ Hid (UTr y w6 UB wc'))
            case first =>
              go_region_held3 (fun W => W.cell? ⟨w.heap.size + 1, 0, none⟩ = some (.slice B1 qs.length d1) ∧ W.cell? ⟨w.heap.size + 1, 1, none⟩ = some (.slice B2 ms.length d2) ∧ W.cell? ⟨w.heap.size + 1, 2, none⟩ = some (.slice B3 M.length d3) ∧ W.cell? ⟨g, o + k * 2, none⟩ = some (.int .u32 f))
              (first | exact SZ2.out _ b5w | exact SZ2.out _ (b5w.alloc b5w.size _) | exact SZ2.out _ ((((b5w.setCell (p := ⟨w6.heap.size, 0, none⟩) (Nat.le_refl _) _).setCell (p := ⟨w6.heap.size, 1, none⟩) (Nat.le_refl _) _).setCell (p := ⟨w6.heap.size, 2, none⟩) (Nat.le_refl _) _).setCell (p := ⟨w6.heap.size, 3, none⟩) (Nat.le_refl _) _) | exact SZ2.out _ ((Below.refl _ w6).alloc (Nat.le_refl _) _).drew | exact SZ2.out _ (bdrewN (Below.refl _ _) 1))
              ((go_at_call 35; refine (KT2.out _ (by first | exact (HB6.out.alloc HB6.out.size _).drew | exact bdrewN HB6.out 1)).mono ?_; unfold TrOut tcV; rintro e w5 ⟨vu, rfl, ⟨Au, cu, rfl, nu, mu, zu⟩, hfr, b5⟩; have b5w : Below w6.heap.size w6 w5 := (by first | exact Below.trans (((Below.refl _ w6).alloc (Nat.le_refl _) _).drew) (b5.mono (by simp)) | exact (bdrewN (Below.refl _ _) 1).trans b5); first | (have U5 : At w5 w6.heap.size #[.slice none 0 0, .int .i64 0, .int .i64 0, .int .i64 0] 57 := (show At (w6.alloc (.cells #[.slice none 0 0, .int .i64 0, .int .i64 0, .int .i64 0] 57)).drew w6.heap.size #[.slice none 0 0, .int .i64 0, .int .i64 0, .int .i64 0] 57 from At.new w6 _ _).belows b5; have y0 := (U5.cell 0).trans rfl; have y1 := (U5.cell 1).trans rfl; have y2 := (U5.cell 2).trans rfl; have y3 := (U5.cell 3).trans rfl; have f0 := U5.frozen 0; have f1 := U5.frozen 1; have f2 := U5.frozen 2; have f3 := U5.frozen 3) | skip))
              all_goals (go_wp2_with fail; go_meet)
              · exact ⟨rfl, w5.heap.size, rfl, Lib.hid ⟨Au, cu, At.new w5 _ _, nu, mu, zu.belows ((Below.refl _ _).alloc (Nat.le_refl _) _), b5w.alloc b5w.size _⟩⟩
              · exact ⟨rfl, w6.heap.size, rfl, Lib.hid ⟨Au, cu, (((U5.set0 0 _).set0 1 _).set0 2 _).set0 3 _, nu, mu, fs_set4 zu (fun g' o' e => by have := hfr g' o' _ _ (by rw [e]); exact Nat.lt_of_lt_of_le (by simp) this), (((b5w.setCell (p := ⟨w6.heap.size, 0, none⟩) (Nat.le_refl _) _).setCell (p := ⟨w6.heap.size, 1, none⟩) (Nat.le_refl _) _).setCell (p := ⟨w6.heap.size, 2, none⟩) (Nat.le_refl _) _).setCell (p := ⟨w6.heap.size, 3, none⟩) (Nat.le_refl _) _⟩⟩
            case rest =>
              obtain ⟨rfl, VB, rfl, HUU⟩ := hcut
              obtain ⟨w7, rfl⟩ : ∃ w7, w7 = wc := ⟨_, rfl⟩
              obtain ⟨Av, cv, V7, nv, mv, zv, b7⟩ := HUU.out
              clear HUU X0 X1 X2 C0 SZ2 KT2
              have U7 := HU6.out.belows b7
              have hb7 : Below wp.heap.size wp w7 := HBP6.out.trans (b7.mono HBP6.out.size)
              have HO7 : Hid (w7.ownsRow wp.heap.size 43 2 u10 z.length (Tr.zcells z)) := Lib.hid (row_belows HO6.out b7)
              have u0 := (U7.cell 0).trans rfl; have u1 := (U7.cell 1).trans rfl; have u2 := (U7.cell 2).trans rfl; have u3 := (U7.cell 3).trans rfl
              have v0 := (V7.cell 0).trans rfl; have v1 := (V7.cell 1).trans rfl; have v2 := (V7.cell 2).trans rfl; have v3 := (V7.cell 3).trans rfl
              have kH := rsameC_any (v1 := .slice Au x.ds.length cu) (v2 := .slice Av y.ds.length cv) x y w7 ⟨Au, cu, rfl, HZU.out.1, HZU.out.2.1, HZU.out.2.2.belows b7⟩ ⟨Av, cv, rfl, nv, mv, zv⟩
              unfold tcV at kH
              obtain ⟨q, hq⟩ : ∃ q, q = decide (x = y) := ⟨_, rfl⟩
              rw [← hq] at kH
              have HQ : Hid (difP ps ls L qs ms M d f = !q) := Lib.hid (by rw [hq]; exact HPX.out)
              clear hq HPX HU6 HZU HO6 HO V7 U7 nv mv zv
              obtain ⟨xd, xf, ⟨xo, xp⟩⟩ := x
              obtain ⟨yd, yf, ⟨yo, yp⟩⟩ := y
              dsimp only at u0 u1 u2 u3 v0 v1 v2 v3 kH
              go_wp2_with fail
              refine kH.mono ?_
              rintro e w8 ⟨rfl, b8⟩
              have hb8 := hb7.trans (b8.mono hb7.size)
              have HO8 : Hid (w8.ownsRow wp.heap.size 43 2 u10 z.length (Tr.zcells z)) := Lib.hid (row_belows HO7.out b8)
              obtain ⟨C0, C1⟩ := KS.out w8 hb8
              clear kH u0 u1 u2 u3 v0 v1 v2 v3 b7 b8 hb7 HO7
              cases q with
              | true =>
                have HB2 := Lib.hid (HP.out HQ.out)
                go_wp2
                go_roundw
                case rel => exact ⟨k + 1, z, by go_num, by omega, HB2, HO8, hb8⟩
                case measure => simp [intOf]; omega
              | false =>
                have HB2 := Lib.hid (HG.out HQ.out)
                go_wp2_with fail
                go_region_held3 (fun w' => w'.cell? ⟨g, o + k * 2, none⟩ = some (.int .u32 f) ∧ w'.cell? ⟨g, o + k * 2 + 1, none⟩ = some (.int .u32 t)) (first | exact KS.out _ b9x | exact KS.out _ hb8.drew | exact KS.out _ hb8) (first | (go_at_call 36; refine (Zo.join_any z f t _ HU.out hf ht hzl (by first | exact HO8.out.drew | exact HO8.out) (by first | exact hb8.drew.size | exact hb8.size)).mono ?_; rintro e w9 ⟨v', rfl, ho', b9⟩; have b9x : Below wp.heap.size wp w9 := (by first | exact hb8.drew.trans b9 | exact hb8.trans b9)))
                go_wp2
                go_roundw
                case rel => exact ⟨k + 1, _, by go_num, by omega, HB2, Lib.hid ho', b9x⟩
                case measure => simp [intOf]; omega
        · obtain rfl : k = P.length := by omega
          have hfin := HPS.out.fin z HBI.out
          subst hfin
          obtain ⟨e1, e2⟩ := HE.out
          subst e1 e2
          go_wp2
          go_ret2
          exact ⟨_, rfl, Tr.isZ_of_row HO.out, HB3.out.trans (hbq.mono HB3.out.size)⟩
end Go.Proofs.YteboadppighplaaGreat
/- Contract: the document's Join, told where the new zone lies. -/
namespace Go.Proofs.YteboadppighplaaGreat.Zo
open Go.Proofs.YteboadppighplaaGreat.Tr
open Go.RowKit Go.Shelf

theorem grown_alloc {w w' : World} {o : Obj} {row : Option Nat} (h : (w.alloc o).grownBy w' row) : w.grownBy w' row :=
  ⟨h.os, h.tape, h.output, by have := h.size; simp at this; omega, fun k hk hr => (h.block k (by simp; omega) hr).trans (heap_alloc_old w o hk)⟩
theorem at_alloc {w : World} {o : Obj} {v v' : Value} (h : v'.ownBlock = v.ownBlock ∨ v'.ownBlock = some (w.alloc o).heap.size) : v'.ownBlock = v.ownBlock ∨ ∃ g, v'.ownBlock = some g ∧ w.heap.size ≤ g := by
  rcases h with h | h
  · exact .inl h
  · exact .inr ⟨_, h, by simp⟩
/-- What Join answers. -/
def JoinAt (base : Nat) (z : List (Nat × Nat)) (v : Value) (w : World) (e : Ending) (w' : World) : Prop := ∃ v', e = .returned v' ∧ w'.ownsRow base 43 2 v' z.length (zcells z) ∧ w.grownBy w' v.ownBlock ∧ (v'.ownBlock = v.ownBlock ∨ ∃ g, v'.ownBlock = some g ∧ w.heap.size ≤ g)
set_option maxRecDepth 100000 in
set_option maxHeartbeats 1000000 in
theorem joinAt_any {v : Value} {base : Nat} (z : List (Nat × Nat)) (f t : Nat) (w : World) (hu : U32 z) (hf : f < 4294967296) (ht : t < 4294967296) (hlen : z.length ≤ 4294967296) (hrow : w.ownsRow base 43 2 v z.length (zcells z)) (hbase : base ≤ w.heap.size) :
    Calls Tryz.prog 36 #[v, .int .i64 f, .int .i64 t] w (JoinAt base (joinZ z f t) v w) := by
  obtain ⟨i0, hi, hz0, hz1, hz2⟩ := info_parts info32
  have HROW := Lib.hid hrow
  have j1 : IntKind.u32.wrap (f : Int) = (f : Int) := IntWalk.u32_in _ (by omega)
  have j2 : IntKind.u32.wrap (t : Int) = (t : Int) := IntWalk.u32_in _ (by omega)
  rcases List.eq_nil_or_concat z with rfl | ⟨zl, s, hls⟩
  · have hv0 : ∃ A c, v = .slice A 0 c := by rcases hrow.2 with ⟨rfl, _⟩ | ⟨g, cap, cur, rfl, _⟩ <;> exact ⟨_, _, rfl⟩
    obtain ⟨A, c, rfl⟩ := hv0
    rw [joinZ_nil]
    clear hrow
    go_enter Tryz.func36, Tryz.ntmps36
    go_wp2_with (at_builtin; refine wpList_append_own_at _ rfl _ _ 31 rfl base 43 i0 (.agg #[.int .u32 0, .int .u32 0]) 2 8 Tryz.underlying31 hi hz0 hz1 hz2 rfl (by decide) _ _ _ rfl (HROW.out.alloc _) ⟨w.heap.size, 0, none⟩ 1 1 [.int .u32 f, .int .u32 t] rfl rfl (World.news_of_block (cs := #[.int .u32 f, .int .u32 t]) (t := 43) (fr := (0, 0)) (heap_alloc_new w _)) (by simp [Value.oneCell']) (by simp [maxLen]) (by simp) (by simp; omega) ?_; intro v' w3 hown' hgrow _ hat')
    go_ret
    exact ⟨v', rfl, by simpa [zcells] using hown', grown_alloc hgrow, at_alloc hat'⟩
  · obtain rfl : z = zl ++ [s] := by rw [hls]; simp
    have hlen1 : (zl ++ [s]).length = zl.length + 1 := by simp
    have hg0 : ∃ g cap, v = .slice (some ⟨g, 0, none⟩) (zl.length + 1) cap ∧ zl.length + 1 ≤ cap ∧ base ≤ g := by
      rcases hrow.2 with ⟨_, h0⟩ | ⟨g, cap, cur, rfl, hb, hg, hnc, _⟩
      · rw [hlen1] at h0; omega
      · exact ⟨g, cap, by rw [hlen1], by rw [← hlen1]; exact hnc, hb⟩
    obtain ⟨g, cap, rfl, hcap, hgb⟩ := hg0
    obtain ⟨us1, us2⟩ := hu s (by simp)
    rw [hlen1] at hrow HROW hlen
    obtain ⟨_, hs1⟩ := zcells_at (zl ++ [s]) zl.length (by simp)
    have hcs1 : w.cell? ⟨g, zl.length * 2 + 1, none⟩ = some (.int .u32 s.2) := by
      rw [World.ownsRow.cellAt hrow _ (by omega), Nat.mul_comm]
      simpa using hs1
    have hfz : w.frozen? ⟨g, zl.length * 2 + 1, none⟩ = false := World.ownsRow.frozenAt hrow _
    have hpc : (zcells (zl ++ [s])).set (zl.length * 2 + 1) (.int .u32 (t : Nat)) = zcells (zl ++ [(s.1, t)]) := by
      rw [zcells_snoc, zcells_snoc, List.set_append_right _ _ (by rw [zcells_length]; omega), zcells_length]
      simp [show zl.length * 2 + 1 - zl.length * 2 = 1 by omega]
    have HPC := Lib.hid hpc
    have k0 : (0 : Int) ≤ (zl.length : Int) := by omega
    have k1 : (zl.length : Int) < (zl.length : Int) + 1 := by omega
    clear hrow hpc hs1 hu
    by_cases hcond : s.2 + 1 = f
    · have hd : ((s.2 : Int) + 1 == (f : Int)) = true := by rw [beq_iff_eq]; omega
      rw [joinZ_into hcond]
      go_enter Tryz.func36, Tryz.ntmps36
      go_wp2
      go_ret
      obtain ⟨q1, q2⟩ := HROW.out.stored (zl.length * 2 + 1) (.int .u32 (t : Nat))
      refine ⟨_, rfl, ?_, grownBy_set _ _ _ _, .inl rfl⟩
      rw [← HPC.out]
      simpa using q1
    · have hd : ((s.2 : Int) + 1 == (f : Int)) = false := by rw [beq_eq_false_iff_ne]; omega
      rw [joinZ_more hcond]
      have hd2 : (s.2 + 1 == f) = false := by rw [beq_eq_false_iff_ne]; exact hcond
      clear hcond hls hlen1
      go_enter Tryz.func36, Tryz.ntmps36
      go_wp2_with (at_builtin; refine wpList_append_own_at _ rfl _ _ 31 rfl base 43 i0 (.agg #[.int .u32 0, .int .u32 0]) 2 8 Tryz.underlying31 hi hz0 hz1 hz2 rfl (by decide) _ _ _ rfl (HROW.out.alloc _) ⟨w.heap.size, 0, none⟩ 1 1 [.int .u32 f, .int .u32 t] rfl rfl (World.news_of_block (cs := #[.int .u32 f, .int .u32 t]) (t := 43) (fr := (0, 0)) (heap_alloc_new w _)) (by simp [Value.oneCell']) (by simp only [maxLen]; omega) (by omega) (by simp; omega) ?_; intro v' w3 hown' hgrow _ hat')
      go_ret
      refine ⟨v', rfl, ?_, grown_alloc hgrow, at_alloc hat'⟩
      rw [zcells_snoc (zl ++ [s])]
      simpa using hown'

end Go.Proofs.YteboadppighplaaGreat.Zo
/- Words: five zones in an array, each in a block of its own (the document's Fates). -/
namespace Go.Proofs.YteboadppighplaaGreat
open Go.RowKit Go.Shelf

/-- Five zones under way, each in a block of its own. -/
structure Five (p : Nat → Nat → Bool) (R : List (Nat × Nat)) (base OB k : Nat) (vs : Nat → Value) (zs : Nat → List (Nat × Nat)) (W : World) : Prop where
  blk : At W OB #[vs 0, vs 1, vs 2, vs 3, vs 4] 32
  row : ∀ i, i < 5 → W.ownsRow base 43 2 (vs i) (zs i).length (Tr.zcells (zs i))
  far : ∀ i j, i < 5 → j < 5 → i ≠ j → ∀ g, (vs i).ownBlock = some g → (vs j).ownBlock ≠ some g
  bld : ∀ i, i < 5 → PkI (p i) R k (zs i)
theorem Five.belows {p : Nat → Nat → Bool} {R : List (Nat × Nat)} {base OB k : Nat} {vs : Nat → Value} {zs : Nat → List (Nat × Nat)} {W W' : World} (h : Five p R base OB k vs zs W) (hb : Below W.heap.size W W') : Five p R base OB k vs zs W' :=
  ⟨h.blk.belows hb, fun i hi => row_belows (h.row i hi) hb, h.far, h.bld⟩
theorem Five.cell {p : Nat → Nat → Bool} {R : List (Nat × Nat)} {base OB k : Nat} {vs : Nat → Value} {zs : Nat → List (Nat × Nat)} {W : World} (h : Five p R base OB k vs zs W) {n : Nat} (hn : n < 5) : W.cell? ⟨OB, n, none⟩ = some (vs n) := by
  rw [h.blk.cell]
  match n, hn with
  | 0, _ => rfl
  | 1, _ => rfl
  | 2, _ => rfl
  | 3, _ => rfl
  | 4, _ => rfl
theorem Five.start (p : Nat → Nat → Bool) (R : List (Nat × Nat)) (base OB : Nat) {W : World} (h : At W OB #[.slice none 0 0, .slice none 0 0, .slice none 0 0, .slice none 0 0, .slice none 0 0] 32) : Five p R base OB 0 (fun _ => .slice none 0 0) (fun _ => []) W :=
  ⟨h, fun _ _ => World.ownsRow_nil _ _ _ _, fun _ _ _ _ _ g e => by simp [Value.ownBlock] at e, fun i _ => PkI.start (p i) R⟩
/-- One zone more, of the n-th. -/
theorem Five.join {p : Nat → Nat → Bool} {R P : List (Nat × Nat)} {base OB k : Nat} {vs : Nat → Value} {zs : Nat → List (Nat × Nat)} {W w' : World} (h : Five p R base OB k vs zs W) (hOB : OB < base) {n : Nat} (hn : n < 5) {f t : Nat}
    (hS : ∀ i, i < 5 → PkS (p i) R P) (hk : k < P.length) (hx : P[k] = (f, t)) (hp : ∀ i, i < 5 → p i f = decide (i = n)) {v' : Value}
    (hrow : w'.ownsRow base 43 2 v' (Zo.joinZ (zs n) f t).length (Tr.zcells (Zo.joinZ (zs n) f t))) (hg : W.grownBy w' (vs n).ownBlock) (hat : v'.ownBlock = (vs n).ownBlock ∨ ∃ g, v'.ownBlock = some g ∧ W.heap.size ≤ g) :
    Five p R base OB (k + 1) (fun i => if i = n then v' else vs i) (fun i => if i = n then Zo.joinZ (zs n) f t else zs i) (w'.setCell ⟨OB, n, none⟩ v') := by
  have hne : some OB ≠ (vs n).ownBlock := fun e => by have := ((h.row n hn).lt OB e.symm).1; omega
  have hA := (h.blk.kept hg hne).set0 n v'
  refine ⟨?_, fun i hi => ?_, fun i j hi hj hij g hgi => ?_, fun i hi => ?_⟩
  · match n, hn with
    | 0, _ => exact hA
    | 1, _ => exact hA
    | 2, _ => exact hA
    | 3, _ => exact hA
    | 4, _ => exact hA
  · by_cases e : i = n
    · rw [if_pos e, if_pos e]
      exact row_far hrow (grownBy_set w' OB n v') hOB
    · rw [if_neg e, if_neg e]
      refine row_far ((h.row i hi).kept hg ?_) (grownBy_set w' OB n v') hOB
      cases hv : (vs i).ownBlock with
      | none => exact .inl rfl
      | some g => exact .inr fun e2 => h.far i n hi hn e g hv e2.symm
  · skip
    have fresh : ∀ i, i < 5 → ∀ g, (vs i).ownBlock = some g → g < W.heap.size := fun i hi g e => ((h.row i hi).lt g e).2
    by_cases e1 : i = n
    · by_cases e2 : j = n
      · omega
      · rw [if_pos e1] at hgi
        rw [if_neg e2]
        rcases hat with hat | ⟨g', hat, hge⟩
        · exact h.far n j hn hj (by omega) g (hat ▸ hgi)
        · intro e3
          have := fresh j hj g e3
          rw [hat] at hgi
          cases hgi
          omega
    · rw [if_neg e1] at hgi
      by_cases e2 : j = n
      · rw [if_pos e2]
        rcases hat with hat | ⟨g', hat, hge⟩
        · rw [hat]; exact h.far i n hi hn e1 g hgi
        · intro e3
          have := fresh i hi g hgi
          rw [hat] at e3
          cases e3
          omega
      · rw [if_neg e2]
        exact h.far i j hi hj hij g hgi
  · by_cases e : i = n
    · rw [if_pos e]
      subst e
      exact (hS i hi).give k (zs i) (f, t) (h.bld i hi) hk hx (by rw [hp i hi]; simp)
    · rw [if_neg e]
      exact (hS i hi).pass k (zs i) (f, t) (h.bld i hi) hk hx (by rw [hp i hi]; simp [e])
/-- What Fates answers. -/
def FatOut (Z : Nat → List (Nat × Nat)) (er : Int) (w : World) (e : Ending) (w' : World) : Prop := ∃ v0 v1 v2 v3 v4, e = .returned (.tuple #[.agg #[v0, v1, v2, v3, v4], .int .i64 er]) ∧ (Tr.IsZ w' v0 (Z 0) ∧ Tr.IsZ w' v1 (Z 1) ∧ Tr.IsZ w' v2 (Z 2) ∧ Tr.IsZ w' v3 (Z 3) ∧ Tr.IsZ w' v4 (Z 4)) ∧ Below w.heap.size w w'
theorem Five.fin {p : Nat → Nat → Bool} {R : List (Nat × Nat)} {base OB : Nat} {vs : Nat → Value} {zs : Nat → List (Nat × Nat)} {W : World} (h : Five p R base OB (cutZ R 0 4294967295).length vs zs W) {i : Nat} (hi : i < 5) : Tr.IsZ W (vs i) (pickZ (p i) R) := by
  rw [← (h.bld i hi).fin]
  exact Tr.isZ_of_row (h.row i hi)
/-- Five stores into the result. -/
def put5 (W : World) (R : Nat) (v0 v1 v2 v3 v4 : Value) : World := ((((W.setCell ⟨R, 0, none⟩ v0).setCell ⟨R, 1, none⟩ v1).setCell ⟨R, 2, none⟩ v2).setCell ⟨R, 3, none⟩ v3).setCell ⟨R, 4, none⟩ v4
theorem put5_at {W : World} {R : Nat} {v0 v1 v2 v3 v4 x0 x1 x2 x3 x4 : Value} {T : TypeId} (h : At W R #[x0, x1, x2, x3, x4] T) : At (put5 W R v0 v1 v2 v3 v4) R #[v0, v1, v2, v3, v4] T := ((((h.set0 0 v0).set0 1 v1).set0 2 v2).set0 3 v3).set0 4 v4
theorem put5_below {w W : World} (h : Below w.heap.size w W) {R : Nat} (hR : w.heap.size ≤ R) (v0 v1 v2 v3 v4 : Value) : Below w.heap.size w (put5 W R v0 v1 v2 v3 v4) :=
  ((((h.setCell (p := ⟨R, 0, none⟩) hR _).setCell (p := ⟨R, 1, none⟩) hR _).setCell (p := ⟨R, 2, none⟩) hR _).setCell (p := ⟨R, 3, none⟩) hR _).setCell (p := ⟨R, 4, none⟩) hR _
theorem Five.put {p : Nat → Nat → Bool} {Q : List (Nat × Nat)} {base OB : Nat} {vs : Nat → Value} {zs : Nat → List (Nat × Nat)} {W : World} (h : Five p Q base OB (cutZ Q 0 4294967295).length vs zs W) {R : Nat} (hR : R < base) (v0 v1 v2 v3 v4 : Value) {i : Nat} (hi : i < 5) : Tr.IsZ (put5 W R v0 v1 v2 v3 v4) (vs i) (pickZ (p i) Q) := by
  rw [← (h.bld i hi).fin]
  refine Tr.isZ_of_row (base := base) ?_
  exact row_far (row_far (row_far (row_far (row_far (h.row i hi) (grownBy_set _ R 0 v0) hR) (grownBy_set _ R 1 v1) hR) (grownBy_set _ R 2 v2) hR) (grownBy_set _ R 3 v3) hR) (grownBy_set _ R 4 v4) hR
end Go.Proofs.YteboadppighplaaGreat
/- Contracts: the document's Fates (stage 11). -/
namespace Go.Proofs.YteboadppighplaaGreat
open Go.RowKit Go.Shelf

theorem row_sl {w : World} {base : Nat} {e : TypeId} {n : Nat} {v : Value} {k : Nat} {xs : List Value} (h : w.ownsRow base e n v k xs) : ∃ A m c, v = .slice A m c := by
  rcases h.2 with ⟨rfl, _⟩ | ⟨g, cap, cur, rfl, _⟩ <;> exact ⟨_, _, _, rfl⟩
set_option maxRecDepth 100000 in
set_option maxHeartbeats 10000000 in
theorem rfates_any {vp vl vr : Value} (ps : List Int) (ls : List Lk) (L : List Ru) (a : Int) (w : World) (hR : RN ps ls L) (hW : NW ps ls L) (h : IsN w vp vl vr ps ls L) :
    Calls Tryz.prog 11 #[.agg #[vp, vl, vr], .int .i64 a] w (FatOut (fun k => fatZ ps ls L a (k : Nat)) (errIn (inD ps a)) w) := by
  obtain ⟨Z, hZ⟩ : ∃ Z : Nat → List (Nat × Nat), Z = fun k => fatZ ps ls L a (k : Nat) := ⟨_, rfl⟩
  obtain ⟨er, her⟩ : ∃ er, er = errIn (inD ps a) := ⟨_, rfl⟩
  rw [← hZ, ← her]
  have HZ := Lib.hid hZ
  have HER := Lib.hid her
  have HN : Hid (∀ u, Below w.heap.size w u → IsN u vp vl vr ps ls L) := Lib.hid fun u hu => h.belows hu
  have HL : Hid (L.length ≤ 1000 ∧ ∀ r ∈ L, r.wf) := Lib.hid ⟨by have := ((allB_pw L).1 hR.rules).1; omega, hW.rules⟩
  have HR := Lib.hid hR
  obtain ⟨⟨⟨A1, c1, rfl, n1, m1, _⟩, ⟨A2, c2, rfl, _⟩⟩, ⟨A3, c3, rfl, _⟩⟩ := h
  have D0 := ((At.new w #[.slice A1 ps.length c1, .slice A2 ls.length c2, .slice A3 L.length c3] 28).alloc (.cells #[.slice none 0 0, .slice none 0 0, .slice none 0 0, .slice none 0 0, .slice none 0 0] 32)).alloc (.cells #[.slice none 0 0, .slice none 0 0, .slice none 0 0, .slice none 0 0, .slice none 0 0] 32)
  have R0 := (At.new1 w (.cells #[.slice A1 ps.length c1, .slice A2 ls.length c2, .slice A3 L.length c3] 28) #[.slice none 0 0, .slice none 0 0, .slice none 0 0, .slice none 0 0, .slice none 0 0] 32).alloc (.cells #[.slice none 0 0, .slice none 0 0, .slice none 0 0, .slice none 0 0, .slice none 0 0] 32)
  have O0 := At.new2 w (.cells #[.slice A1 ps.length c1, .slice A2 ls.length c2, .slice A3 L.length c3] 28) (.cells #[.slice none 0 0, .slice none 0 0, .slice none 0 0, .slice none 0 0, .slice none 0 0] 32) #[.slice none 0 0, .slice none 0 0, .slice none 0 0, .slice none 0 0, .slice none 0 0] 32
  have b0 : Below w.heap.size w (((w.alloc (.cells #[.slice A1 ps.length c1, .slice A2 ls.length c2, .slice A3 L.length c3] 28)).alloc (.cells #[.slice none 0 0, .slice none 0 0, .slice none 0 0, .slice none 0 0, .slice none 0 0] 32)).alloc (.cells #[.slice none 0 0, .slice none 0 0, .slice none 0 0, .slice none 0 0, .slice none 0 0] 32)) := (((Below.refl _ w).alloc (Nat.le_refl _) _).alloc (by simp) _).alloc (by simp; omega) _
  have hs0 : (((w.alloc (.cells #[.slice A1 ps.length c1, .slice A2 ls.length c2, .slice A3 L.length c3] 28)).alloc (.cells #[.slice none 0 0, .slice none 0 0, .slice none 0 0, .slice none 0 0, .slice none 0 0] 32)).alloc (.cells #[.slice none 0 0, .slice none 0 0, .slice none 0 0, .slice none 0 0, .slice none 0 0] 32)).heap.size = w.heap.size + 1 + 1 + 1 := by simp
  clear hR hW hZ her n1 m1
  unfold FatOut
  go_enter Tryz.func11, Tryz.ntmps11
  go_upto_region 2 with (fail)
  obtain ⟨w0, hw0⟩ : ∃ w0, w0 = (((w.alloc (.cells #[.slice A1 ps.length c1, .slice A2 ls.length c2, .slice A3 L.length c3] 28)).alloc (.cells #[.slice none 0 0, .slice none 0 0, .slice none 0 0, .slice none 0 0, .slice none 0 0] 32)).alloc (.cells #[.slice none 0 0, .slice none 0 0, .slice none 0 0, .slice none 0 0, .slice none 0 0] 32)) := ⟨_, rfl⟩
  rw [← hw0] at D0 R0 O0 b0 hs0 ⊢
  clear hw0
  have k1 := rdevice_any ps ls L a w0 (HN.out w0 b0)
  have x0 := (D0.cell 0).trans rfl; have x1 := (D0.cell 1).trans rfl; have x2 := (D0.cell 2).trans rfl
  obtain ⟨p, hp⟩ : ∃ p, p = decide (inD ps a) := ⟨_, rfl⟩
  rw [← hp] at k1
  have HPD := Lib.hid hp
  have hsw : w0.heap.size = w.heap.size + 3 := by omega
  clear hp hs0
  go_wp2_with fail
  refine k1.mono ?_
  rintro e w2 ⟨rfl, b1⟩
  have bw2 := b0.trans (b1.mono b0.size)
  have D2 := D0.belows b1
  have R2 := R0.belows b1
  have O2 := O0.belows b1
  have hs2 : w.heap.size + 3 ≤ w2.heap.size := by have := b1.size; omega
  clear k1 x0 x1 x2 D0 R0 O0 b0 b1 hsw
  cases p with
  | false =>
    have HE : Hid (er = 91 ∧ Z = fun _ => []) := Lib.hid (by
      have hno : ¬ inD ps a := by simpa using HPD.out.symm
      exact ⟨by rw [HER.out]; exact if_neg hno, by rw [HZ.out]; exact funext fun k => if_neg hno⟩)
    obtain ⟨e1, e2⟩ := HE.out
    subst e1 e2
    have o0 := (O2.cell 0).trans rfl; have o1 := (O2.cell 1).trans rfl; have o2 := (O2.cell 2).trans rfl; have o3 := (O2.cell 3).trans rfl; have o4 := (O2.cell 4).trans rfl
    have r0 := (R2.cell 0).trans rfl; have r1 := (R2.cell 1).trans rfl; have r2 := (R2.cell 2).trans rfl; have r3 := (R2.cell 3).trans rfl; have r4 := (R2.cell 4).trans rfl
    have f0 := R2.frozen 0; have f1 := R2.frozen 1; have f2 := R2.frozen 2; have f3 := R2.frozen 3; have f4 := R2.frozen 4
    go_wp2
    have Y := put5_at (v0 := .slice none 0 0) (v1 := .slice none 0 0) (v2 := .slice none 0 0) (v3 := .slice none 0 0) (v4 := .slice none 0 0) R2
    have Y0 := Y.cell 0; have Y1 := Y.cell 1; have Y2 := Y.cell 2; have Y3 := Y.cell 3; have Y4 := Y.cell 4
    unfold put5 at Y0 Y1 Y2 Y3 Y4
    simp at Y0 Y1 Y2 Y3 Y4
    have hz : ∀ u, Tr.IsZ u (.slice none 0 0) [] := fun u => ⟨none, 0, rfl, Nat.le_refl _, by decide, Tr.Zs.nil _ _⟩
    refine bodyPost_ret (v := .tuple #[.agg #[.slice none 0 0, .slice none 0 0, .slice none 0 0, .slice none 0 0, .slice none 0 0], .int .i64 91]) ?_ rfl ⟨_, _, _, _, _, rfl, ⟨hz _, hz _, hz _, hz _, hz _⟩, put5_below bw2 (R := w.heap.size + 1) (by omega) _ _ _ _ _⟩
    simp [results, Tryz.results11, go_sem, Y0, Y1, Y2, Y3, Y4]
  | true =>
    have hin : inD ps a := by simpa using HPD.out.symm
    have HE : Hid (er = 0 ∧ Z = fun k => pickZ (fateP ps ls L a (k : Nat)) (rgL L)) := Lib.hid ⟨by rw [HER.out]; exact if_pos hin, by rw [HZ.out]; exact funext fun k => if_pos hin⟩
    have HIN := Lib.hid hin
    clear hin HPD
    have HD2 := Lib.hid D2
    have HR2 := Lib.hid R2
    have SX : Hid (∀ u, Below w2.heap.size w2 u → u.cell? ⟨w.heap.size, 0, none⟩ = some (.slice A1 ps.length c1) ∧ u.cell? ⟨w.heap.size, 1, none⟩ = some (.slice A2 ls.length c2) ∧ u.cell? ⟨w.heap.size, 2, none⟩ = some (.slice A3 L.length c3)) := Lib.hid fun u hu => ⟨((HD2.out.belows hu).cell 0).trans rfl, ((HD2.out.belows hu).cell 1).trans rfl, ((HD2.out.belows hu).cell 2).trans rfl⟩
    have HBW := Lib.hid bw2
    have KC : Hid (∀ (B : Nat) (u : World), Below w2.heap.size w2 u → At u B #[.slice A1 ps.length c1, .slice A2 ls.length c2, .slice A3 L.length c3] 28 → Calls Tryz.prog 20 #[.slice (some ⟨B, 0, none⟩) 1 1, .agg #[.int .u32 0, .int .u32 4294967295]] u fun e w' => ∃ v, e = .returned (.tuple #[v, .int .i64 0]) ∧ Tr.IsZ w' v (cutZ (rgL L) 0 4294967295) ∧ Below u.heap.size u w') := Lib.hid fun B u hu hA => by
      have := rcutA_any [⟨_, _, _, ps, ls, L⟩] u (by simp) (fun n hn => by simp at hn; subst hn; exact HL.out) (ns_one (n := ⟨_, _, _, ps, ls, L⟩) hA (HN.out u (HBW.out.trans (hu.mono HBW.out.size))))
      rwa [show rgN [⟨.slice A1 ps.length c1, .slice A2 ls.length c2, .slice A3 L.length c3, ps, ls, L⟩] = rgL L by simp [rgN]] at this
    have HO2 := Lib.hid O2
    have X0 := (SX.out w2 (Below.refl _ _)).1; have X1 := (SX.out w2 (Below.refl _ _)).2.1; have X2 := (SX.out w2 (Below.refl _ _)).2.2
    clear D2 R2 O2 bw2
    go_upto_region 5 with (fail)
    go_cut [8, 9] (fun v er wc => er = .int .i64 0 ∧ Hid (Tr.IsZ wc v (cutZ (rgL L) 0 4294967295) ∧ Below w2.heap.size w2 wc))
    case first =>
      go_region_held3 (fun W => W.cell? ⟨w.heap.size, 0, none⟩ = some (.slice A1 ps.length c1) ∧ W.cell? ⟨w.heap.size, 1, none⟩ = some (.slice A2 ls.length c2) ∧ W.cell? ⟨w.heap.size, 2, none⟩ = some (.slice A3 L.length c3))
      (first | exact SX.out _ b6w | exact SX.out _ b5w | exact SX.out _ (b5w.alloc b5w.size _) | exact SX.out _ ((Below.refl _ w2).alloc (Nat.le_refl _) _).drew | exact SX.out _ ((Below.refl _ w2).alloc (Nat.le_refl _) _) | exact SX.out _ (bdrewN (Below.refl _ _) 1))
      (first
        | (go_at_call 34; refine (rallR_any _).mono ?_; rintro e w5 ⟨rfl, b5⟩; have b5w : Below w2.heap.size w2 w5 := (by first | exact Below.trans (((Below.refl _ w2).alloc (Nat.le_refl _) _).drew) (b5.mono (by simp)) | exact (bdrewN (Below.refl _ _) 1).trans b5); first | (have U5 : At w5 w2.heap.size #[.slice A1 ps.length c1, .slice A2 ls.length c2, .slice A3 L.length c3] 28 := (show At (w2.alloc (.cells #[.slice A1 ps.length c1, .slice A2 ls.length c2, .slice A3 L.length c3] 28)).drew w2.heap.size #[.slice A1 ps.length c1, .slice A2 ls.length c2, .slice A3 L.length c3] 28 from At.new w2 _ _).belows b5) | skip)
        | (go_at_call 20; first | (refine (KC.out _ _ b5w U5).mono ?_; rintro e w6 ⟨v6, rfl, z6, b6⟩; have b6w := b5w.trans (b6.mono b5w.size)) | (refine (KC.out _ _ (b5w.alloc b5w.size _) (At.new w5 _ _)).mono ?_; rintro e w6 ⟨v6, rfl, z6, b6⟩; have b6w := (b5w.alloc b5w.size _).trans (b6.mono (b5w.alloc b5w.size _).size))))
      all_goals (go_wp2_with fail; go_meet)
      all_goals exact ⟨rfl, Lib.hid ⟨z6, b6w⟩⟩
    case rest =>
      obtain ⟨rfl, HC⟩ := hcut
      obtain ⟨wp, rfl⟩ : ∃ wp, wp = wc := ⟨_, rfl⟩
      obtain ⟨⟨Ac, cc, rfl, nc, mc, zc⟩, b3⟩ := HC.out
      obtain ⟨OB, hOBe⟩ : ∃ OB, OB = w.heap.size + 1 + 1 := ⟨_, rfl⟩
      have O3 : At wp OB #[.slice none 0 0, .slice none 0 0, .slice none 0 0, .slice none 0 0, .slice none 0 0] 32 := by rw [hOBe]; exact HO2.out.belows b3
      have D3 := HD2.out.belows b3
      have R3 := HR2.out.belows b3
      have HB3 : Hid (Below w.heap.size w wp) := Lib.hid (HBW.out.trans (b3.mono HBW.out.size))
      have hOBl : OB < wp.heap.size := O3.lt
      have hOBg : w.heap.size + 1 < OB := by omega
      rw [← hOBe]
      have HF0 := Lib.hid (Five.start (fun k => fateP ps ls L a (k : Nat)) (rgL L) wp.heap.size OB O3)
      have hPS := fun i : Nat => pkS (fateP ps ls L a (i : Nat)) (rgL L)
      have hfin : Hid (∀ (vs : Nat → Value) (zs : Nat → List (Nat × Nat)) (W : World), Five (fun k => fateP ps ls L a (k : Nat)) (rgL L) wp.heap.size OB (cutZ (rgL L) 0 4294967295).length vs zs W → ∀ {R : Nat}, R < wp.heap.size → ∀ (v0 v1 v2 v3 v4 : Value) {i : Nat}, i < 5 → Tr.IsZ (put5 W R v0 v1 v2 v3 v4) (vs i) (pickZ (fateP ps ls L a (i : Nat)) (rgL L))) := Lib.hid fun vs zs W h R hR v0 v1 v2 v3 v4 i hi => h.put hR v0 v1 v2 v3 v4 hi
      generalize cutZ (rgL L) 0 4294967295 = P at nc zc hPS hfin ⊢
      have HPS := Lib.hid hPS
      have hPl := (hPS 0).len
      have HCC : Hid (∀ u, wp.grownBy u (some OB) → ∀ k (hk : k < P.length), ∃ g o, Ac = some ⟨g, o, none⟩ ∧ g < wp.heap.size ∧ g ≠ OB ∧ u.cell? ⟨g, o + k * 2, none⟩ = some (.int .u32 P[k].1) ∧ u.cell? ⟨g, o + k * 2 + 1, none⟩ = some (.int .u32 P[k].2)) := Lib.hid fun u hu k hk => by
        obtain ⟨g, o, e, hg, hc⟩ := zc (by omega)
        obtain ⟨q0, q1⟩ := hc k hk
        have hne : g ≠ OB := fun h => by
          rw [h, O3.cell] at q0
          have h5 : o + k * 2 < 5 := by
            have := (Array.getElem?_eq_some_iff.1 q0).1
            simpa using this
          generalize o + k * 2 = j at q0 h5
          match j, h5 with
          | 0, _ => cases q0
          | 1, _ => cases q0
          | 2, _ => cases q0
          | 3, _ => cases q0
          | 4, _ => cases q0
        exact ⟨g, o, e, hg, hne, hu.cell q0 (fun h => hne (by cases h; rfl)), hu.cell q1 (fun h => hne (by cases h; rfl))⟩
      have SY : Hid (∀ u, wp.grownBy u (some OB) → u.cell? ⟨w.heap.size, 0, none⟩ = some (.slice A1 ps.length c1) ∧ u.cell? ⟨w.heap.size, 1, none⟩ = some (.slice A2 ls.length c2) ∧ u.cell? ⟨w.heap.size, 2, none⟩ = some (.slice A3 L.length c3) ∧ At u (w.heap.size + 1) #[.slice none 0 0, .slice none 0 0, .slice none 0 0, .slice none 0 0, .slice none 0 0] 32) := Lib.hid fun u hu => by
        have D4 := D3.kept hu (by intro h; cases h; omega)
        have R4 := R3.kept hu (by intro h; cases h; omega)
        exact ⟨(D4.cell 0).trans rfl, (D4.cell 1).trans rfl, (D4.cell 2).trans rfl, R4⟩
      have hcc : P.length ≤ 9223372036854775807 := by omega
      clear zc hPS SX HBW b3 D3 R3 O3 HC X0 X1 X2 KC HD2 HR2 HO2 nc mc hOBe
      go_wp2
      go_loopw [10] (fun i wq => ∃ (k : Nat) (vs : Nat → Value) (zs : Nat → List (Nat × Nat)), i = .int .i64 k ∧ k ≤ P.length ∧ Hid (Five (fun k => fateP ps ls L a (k : Nat)) (rgL L) wp.heap.size OB k vs zs wq) ∧ Hid (wp.grownBy wq (some OB)) ∧ Hid (Below w.heap.size w wq)) (fun i _ => P.length - (intOf i).toNat)
      case atStart => exact ⟨0, _, _, rfl, by omega, HF0, Lib.hid ⟨rfl, rfl, rfl, Nat.le_refl _, fun _ _ _ => rfl⟩, HB3⟩
      case round =>
        obtain ⟨k, vs, zs, rfl, hk, HF, HG, HBq⟩ := hrel
        by_cases hlt : k < P.length
        · obtain ⟨g, o, rfl, hg, hne, c0, c1'⟩ := HCC.out wr HG.out k hlt
          have hf32 := ((HPS.out 0).lt k _ hlt rfl).1
          have ht32 := ((HPS.out 0).lt k _ hlt rfl).2
          have hjoin : Hid (∀ (W w' : World) (vs' : Nat → Value) (zs' : Nat → List (Nat × Nat)) (n : Nat) (v' : Value), Five (fun k => fateP ps ls L a (k : Nat)) (rgL L) wp.heap.size OB k vs' zs' W → n < 5 → (∀ i : Nat, i < 5 → fateP ps ls L a (i : Nat) P[k].1 = decide (i = n)) → w'.ownsRow wp.heap.size 43 2 v' (Zo.joinZ (zs' n) P[k].1 P[k].2).length (Tr.zcells (Zo.joinZ (zs' n) P[k].1 P[k].2)) → W.grownBy w' (vs' n).ownBlock → (v'.ownBlock = (vs' n).ownBlock ∨ ∃ g, v'.ownBlock = some g ∧ W.heap.size ≤ g) →
              Five (fun k => fateP ps ls L a (k : Nat)) (rgL L) wp.heap.size OB (k + 1) (fun i => if i = n then v' else vs' i) (fun i => if i = n then Zo.joinZ (zs' n) P[k].1 P[k].2 else zs' i) (w'.setCell ⟨OB, n, none⟩ v')) := Lib.hid fun W w' vs' zs' n v' h hn hp hr hg hat => h.join hOBl hn (fun i _ => HPS.out i) hlt rfl hp hr hg hat
          generalize P[k] = x at c0 c1' hf32 ht32 hjoin
          obtain ⟨f, t⟩ := x
          dsimp only at c0 c1' hf32 ht32 hjoin
          have jf : IntKind.i64.wrap (f : Int) = (f : Int) := IntWalk.i64_in _ (by omega)
          have jt : IntKind.i64.wrap (t : Int) = (t : Int) := IntWalk.i64_in _ (by omega)
          have i0 : (0 : Int) ≤ (k : Int) := by omega
          have i1 : (k : Int) < (P.length : Int) := by omega
          have KT : Hid (∀ u, Below w.heap.size w u → Calls Tryz.prog 35 #[.agg #[.slice A1 ps.length c1, .slice A2 ls.length c2, .slice A3 L.length c3], .int .i64 a, .int .u32 f] u (TrOut (trcN ps ls L f a) u)) := Lib.hid fun u hu => rtrace_in ps ls L a f u HR.out (HN.out u hu) HIN.out
          have hgr : g < wr.heap.size := Nat.lt_of_lt_of_le hg HG.out.size
          have SZ : Hid (∀ u, Below wr.heap.size wr u → u.cell? ⟨w.heap.size, 0, none⟩ = some (.slice A1 ps.length c1) ∧ u.cell? ⟨w.heap.size, 1, none⟩ = some (.slice A2 ls.length c2) ∧ u.cell? ⟨w.heap.size, 2, none⟩ = some (.slice A3 L.length c3) ∧ u.cell? ⟨g, o + k * 2, none⟩ = some (.int .u32 f)) := Lib.hid fun u hu => by
            obtain ⟨q0, q1, q2, _⟩ := SY.out wr HG.out
            have hl : w.heap.size < wr.heap.size := by have := HG.out.size; omega
            exact ⟨(hu.cell (p := ⟨w.heap.size, 0, none⟩) hl).trans q0, (hu.cell (p := ⟨w.heap.size, 1, none⟩) hl).trans q1, (hu.cell (p := ⟨w.heap.size, 2, none⟩) hl).trans q2, (hu.cell (p := ⟨g, _, none⟩) hgr).trans c0⟩
          have HCC2 : Hid (∀ u, Below wr.heap.size wr u → u.cell? ⟨g, o + k * 2, none⟩ = some (.int .u32 f) ∧ u.cell? ⟨g, o + k * 2 + 1, none⟩ = some (.int .u32 t)) := Lib.hid fun u hu => ⟨(hu.cell (p := ⟨g, _, none⟩) hgr).trans c0, (hu.cell (p := ⟨g, _, none⟩) hgr).trans c1'⟩
          obtain ⟨X0, X1, X2, C0⟩ := SZ.out wr (Below.refl _ _)
          obtain ⟨x, hx⟩ : ∃ x, x = trcN ps ls L f a := ⟨_, rfl⟩
          obtain ⟨⟨hx0, hx4⟩, _⟩ := trcN_small (a := f) HR.out HIN.out
          rw [← hx] at KT hx0 hx4
          obtain ⟨n, hn⟩ := Int.eq_ofNat_of_zero_le hx0
          have hn5 : n < 5 := by omega
          have HPX : Hid (∀ i : Nat, i < 5 → fateP ps ls L a (i : Nat) f = decide (i = n)) := Lib.hid fun i hi => by
            unfold fateP
            rw [← hx, hn]
            by_cases e : i = n
            · subst e; simp
            · have e' : ¬ ((n : Int) = (i : Int)) := by omega
              simp [e, e']
          have HNN := Lib.hid hn
          have HBWR := HBq
          clear c0 c1' hx hx0 hx4 hgr hn
          go_upto_region 9 with (fail)
          go_cut [11, 12] (fun p er wc' => er = .int .i64 0 ∧ ∃ UB : Nat, p = .pointer (some ⟨UB, 0, none⟩) ∧ Hid (UTr x wr UB wc'))
          case first =>
            go_region_held3 (fun W => W.cell? ⟨w.heap.size, 0, none⟩ = some (.slice A1 ps.length c1) ∧ W.cell? ⟨w.heap.size, 1, none⟩ = some (.slice A2 ls.length c2) ∧ W.cell? ⟨w.heap.size, 2, none⟩ = some (.slice A3 L.length c3) ∧ W.cell? ⟨g, o + k * 2, none⟩ = some (.int .u32 f))
            (first | exact SZ.out _ b5w | exact SZ.out _ (b5w.alloc b5w.size _) | exact SZ.out _ ((((b5w.setCell (p := ⟨wr.heap.size, 0, none⟩) (Nat.le_refl _) _).setCell (p := ⟨wr.heap.size, 1, none⟩) (Nat.le_refl _) _).setCell (p := ⟨wr.heap.size, 2, none⟩) (Nat.le_refl _) _).setCell (p := ⟨wr.heap.size, 3, none⟩) (Nat.le_refl _) _) | exact SZ.out _ ((Below.refl _ wr).alloc (Nat.le_refl _) _).drew | exact SZ.out _ (bdrewN (Below.refl _ _) 1))
            ((go_at_call 35; refine (KT.out _ (by first | exact (HBWR.out.alloc HBWR.out.size _).drew | exact bdrewN HBWR.out 1)).mono ?_; unfold TrOut tcV; rintro e w5 ⟨vu, rfl, ⟨Au, cu, rfl, nu, mu, zu⟩, hfr, b5⟩; have b5w : Below wr.heap.size wr w5 := (by first | exact Below.trans (((Below.refl _ wr).alloc (Nat.le_refl _) _).drew) (b5.mono (by simp)) | exact (bdrewN (Below.refl _ _) 1).trans b5); first | (have U5 : At w5 wr.heap.size #[.slice none 0 0, .int .i64 0, .int .i64 0, .int .i64 0] 57 := (show At (wr.alloc (.cells #[.slice none 0 0, .int .i64 0, .int .i64 0, .int .i64 0] 57)).drew wr.heap.size #[.slice none 0 0, .int .i64 0, .int .i64 0, .int .i64 0] 57 from At.new wr _ _).belows b5; have y0 := (U5.cell 0).trans rfl; have y1 := (U5.cell 1).trans rfl; have y2 := (U5.cell 2).trans rfl; have y3 := (U5.cell 3).trans rfl; have f0 := U5.frozen 0; have f1 := U5.frozen 1; have f2 := U5.frozen 2; have f3 := U5.frozen 3) | skip))
            all_goals (go_wp2_with fail; go_meet)
            · exact ⟨rfl, w5.heap.size, rfl, Lib.hid ⟨Au, cu, At.new w5 _ _, nu, mu, zu.belows ((Below.refl _ _).alloc (Nat.le_refl _) _), b5w.alloc b5w.size _⟩⟩
            · exact ⟨rfl, wr.heap.size, rfl, Lib.hid ⟨Au, cu, (((U5.set0 0 _).set0 1 _).set0 2 _).set0 3 _, nu, mu, fs_set4 zu (fun g' o' e => by have := hfr g' o' _ _ (by rw [e]); exact Nat.lt_of_lt_of_le (by simp) this), (((b5w.setCell (p := ⟨wr.heap.size, 0, none⟩) (Nat.le_refl _) _).setCell (p := ⟨wr.heap.size, 1, none⟩) (Nat.le_refl _) _).setCell (p := ⟨wr.heap.size, 2, none⟩) (Nat.le_refl _) _).setCell (p := ⟨wr.heap.size, 3, none⟩) (Nat.le_refl _) _⟩⟩
          case rest =>
            obtain ⟨rfl, UB, rfl, HUU⟩ := hcut
            obtain ⟨w6, rfl⟩ : ∃ w6, w6 = wc := ⟨_, rfl⟩
            obtain ⟨Au, cu, U6, nu, mu, zu, b6⟩ := HUU.out
            clear HUU
            have u1 := (U6.cell 1).trans rfl
            obtain ⟨xd, xf, ⟨xo, xp⟩⟩ := x
            have hn := HNN.out
            dsimp only at hn u1
            subst hn
            have HF6 := Lib.hid (HF.out.belows b6)
            have HG6 : Hid (wp.grownBy w6 (some OB)) := Lib.hid ⟨b6.os.trans HG.out.os, b6.tape.trans HG.out.tape, b6.output.trans HG.out.output, Nat.le_trans HG.out.size b6.size, fun j hj hr => (b6.block j (Nat.lt_of_lt_of_le hj HG.out.size)).trans (HG.out.block j hj hr)⟩
            have HB6 := Lib.hid (HBq.out.trans (b6.mono HBq.out.size))
            have hrow := HF6.out.row n hn5
            have hcell := HF6.out.cell hn5
            obtain ⟨An, kn, cn, hvn⟩ := row_sl hrow
            rw [hvn] at hcell
            have hown := hrow
            rw [hvn] at hown
            have HOW := Lib.hid hown
            have hzl : (zs n).length ≤ 4294967296 := by have := (HF6.out.bld n hn5).u32.2; omega
            have HU : Hid (Tr.U32 (zs n)) := Lib.hid (HF6.out.bld n hn5).u32.1
            have HVN := Lib.hid hvn
            have h6s : wp.heap.size ≤ w6.heap.size := HG6.out.size
            have hown_lt := hown.lt
            have SW : Hid (∀ u, w6.grownBy u (Value.slice An kn cn).ownBlock → u.cell? ⟨OB, n, none⟩ = some (.slice An kn cn) ∧ u.cell? ⟨g, o + k * 2, none⟩ = some (.int .u32 f) ∧ u.cell? ⟨g, o + k * 2 + 1, none⟩ = some (.int .u32 t)) := Lib.hid fun u hu => by
              obtain ⟨q0, q1⟩ := HCC2.out w6 b6
              exact ⟨hu.cell hcell (fun e => by have := (hown_lt _ e.symm).1; simp at this; omega), hu.cell q0 (fun e => by have := (hown_lt _ e.symm).1; simp at this; omega), hu.cell q1 (fun e => by have := (hown_lt _ e.symm).1; simp at this; omega)⟩
            obtain ⟨Y0, Y1, Y2⟩ := SW.out w6 ⟨rfl, rfl, rfl, Nat.le_refl _, fun _ _ _ => rfl⟩
            have j0 : (0 : Int) ≤ (n : Int) := by omega
            have j1 : (n : Int) < 5 := by omega
            have HJN : Hid (∀ u : World, u.heap = w6.heap → Calls Tryz.prog 36 #[.slice An kn cn, .int .i64 f, .int .i64 t] u (Zo.JoinAt wp.heap.size (Zo.joinZ (zs n) f t) (.slice An kn cn) u)) := Lib.hid fun u hu => Zo.joinAt_any (zs n) f t u HU.out hf32 ht32 hzl (by unfold World.ownsRow at hown ⊢; rw [hu]; exact hown) (by rw [hu]; exact h6s)
            clear hrow hcell hown hvn zu nu mu X0 X1 X2 C0 U6
            go_upto_region 11 with (fail)
            go_region_held3 (fun W => W.cell? ⟨OB, n, none⟩ = some (.slice An kn cn) ∧ W.cell? ⟨g, o + k * 2, none⟩ = some (.int .u32 f) ∧ W.cell? ⟨g, o + k * 2 + 1, none⟩ = some (.int .u32 t))
              (first | exact SW.out _ g7 | exact SW.out _ ⟨rfl, rfl, rfl, Nat.le_refl _, fun _ _ _ => rfl⟩)
              (first | (go_at_call 36; refine (HJN.out _ (by rfl)).mono ?_; rintro e w7 ⟨v', rfl, o7, g7', at7⟩; have g7 : w6.grownBy w7 (Value.slice An kn cn).ownBlock := ⟨g7'.os, g7'.tape, g7'.output, g7'.size, g7'.block⟩; obtain ⟨A7, k7, c7, rfl⟩ := row_sl o7))
            have hne7 : some OB ≠ (Value.slice An kn cn).ownBlock := fun e => by have := (hown_lt OB e.symm).1; omega
            have B7 := HF6.out.blk.kept g7 hne7
            have t0 : w7.cell? ⟨OB, n, none⟩ = some (.slice An kn cn) := (SW.out w7 g7).1
            have t1 := B7.frozen n
            have HNX := Lib.hid (hjoin.out w6 w7 vs zs n _ HF6.out hn5 HPX.out o7 (by rw [HVN.out]; exact g7) (by rw [HVN.out]; exact at7))
            have HGX : Hid (wp.grownBy (w7.setCell ⟨OB, n, none⟩ (.slice A7 k7 c7)) (some OB)) := Lib.hid (by
              have hz : ∀ q, (Value.slice An kn cn).ownBlock = some q → wp.heap.size ≤ q := fun q hq => (hown_lt q hq).1
              refine ⟨g7.os.trans HG6.out.os, g7.tape.trans HG6.out.tape, g7.output.trans HG6.out.output, ?_, fun j hj hr => ?_⟩
              · have := g7.size; have := HG6.out.size; simp; omega
              · rw [Below.heap_setCell w7 ⟨OB, n, none⟩ _ (k := j) (by show j ≠ OB; exact fun e => hr (by rw [e]))]
                exact (g7.block j (Nat.lt_of_lt_of_le hj HG6.out.size) (fun e => by have := hz j e.symm; omega)).trans (HG6.out.block j hj hr))
            have HBX : Hid (Below w.heap.size w (w7.setCell ⟨OB, n, none⟩ (.slice A7 k7 c7))) := Lib.hid ((HB6.out.grown g7 HB6.out.size (fun q hq => by have := (hown_lt q hq).1; have := HB3.out.size; omega)).setCell (p := ⟨OB, n, none⟩) (by show w.heap.size ≤ OB; omega) _)
            clear hne7 B7 g7' at7 o7 Y0 Y1 Y2
            go_wp2
            go_roundw
            case rel => exact ⟨k + 1, _, _, by go_num, by omega, HNX, HGX, HBX⟩
            case measure => simp [intOf]; omega
        · obtain rfl : k = P.length := by omega
          obtain ⟨e1, e2⟩ := HE.out
          subst e1 e2
          have R9 := (SY.out wr HG.out).2.2.2
          have HF9 := HF.out
          have o0 := HF9.cell (n := 0) (by omega); have o1 := HF9.cell (n := 1) (by omega); have o2 := HF9.cell (n := 2) (by omega); have o3 := HF9.cell (n := 3) (by omega); have o4 := HF9.cell (n := 4) (by omega)
          have r0 := (R9.cell 0).trans rfl; have r1 := (R9.cell 1).trans rfl; have r2 := (R9.cell 2).trans rfl; have r3 := (R9.cell 3).trans rfl; have r4 := (R9.cell 4).trans rfl
          have f0 := R9.frozen 0; have f1 := R9.frozen 1; have f2 := R9.frozen 2; have f3 := R9.frozen 3; have f4 := R9.frozen 4
          have W0 := hfin.out vs zs wr HF9 (R := w.heap.size + 1) (by omega) (vs 0) (vs 1) (vs 2) (vs 3) (vs 4) (i := 0) (by omega)
          have W1 := hfin.out vs zs wr HF9 (R := w.heap.size + 1) (by omega) (vs 0) (vs 1) (vs 2) (vs 3) (vs 4) (i := 1) (by omega)
          have W2 := hfin.out vs zs wr HF9 (R := w.heap.size + 1) (by omega) (vs 0) (vs 1) (vs 2) (vs 3) (vs 4) (i := 2) (by omega)
          have W3 := hfin.out vs zs wr HF9 (R := w.heap.size + 1) (by omega) (vs 0) (vs 1) (vs 2) (vs 3) (vs 4) (i := 3) (by omega)
          have W4 := hfin.out vs zs wr HF9 (R := w.heap.size + 1) (by omega) (vs 0) (vs 1) (vs 2) (vs 3) (vs 4) (i := 4) (by omega)
          obtain ⟨s0, k0, d0, h0⟩ := row_sl (HF9.row 0 (by omega))
          obtain ⟨s1, k1, d1, h1⟩ := row_sl (HF9.row 1 (by omega))
          obtain ⟨s2, k2, d2, h2⟩ := row_sl (HF9.row 2 (by omega))
          obtain ⟨s3, k3, d3, h3⟩ := row_sl (HF9.row 3 (by omega))
          obtain ⟨s4, k4, d4, h4⟩ := row_sl (HF9.row 4 (by omega))
          rw [h0, h1, h2, h3, h4] at W0 W1 W2 W3 W4
          rw [h0] at o0
          rw [h1] at o1
          rw [h2] at o2
          rw [h3] at o3
          rw [h4] at o4
          have HW := Lib.hid (And.intro W0 (And.intro W1 (And.intro W2 (And.intro W3 W4))))
          have Y := put5_at (v0 := .slice s0 k0 d0) (v1 := .slice s1 k1 d1) (v2 := .slice s2 k2 d2) (v3 := .slice s3 k3 d3) (v4 := .slice s4 k4 d4) R9
          have HY := Lib.hid Y
          clear W0 W1 W2 W3 W4 HF9 HCC SY h0 h1 h2 h3 h4 Y R9
          go_wp2
          have Y0 := HY.out.cell 0; have Y1 := HY.out.cell 1; have Y2 := HY.out.cell 2; have Y3 := HY.out.cell 3; have Y4 := HY.out.cell 4
          unfold put5 at Y0 Y1 Y2 Y3 Y4
          simp at Y0 Y1 Y2 Y3 Y4
          refine bodyPost_ret (v := .tuple #[.agg #[.slice s0 k0 d0, .slice s1 k1 d1, .slice s2 k2 d2, .slice s3 k3 d3, .slice s4 k4 d4], .int .i64 0]) ?_ rfl ⟨_, _, _, _, _, rfl, HW.out, put5_below HBq.out (R := w.heap.size + 1) (by omega) _ _ _ _ _⟩
          simp [results, Tryz.results11, go_sem, Y0, Y1, Y2, Y3, Y4]
end Go.Proofs.YteboadppighplaaGreat
/- The laws' own words (stage 11): the program's calls, as the chapter asks them. -/
namespace Go.Proofs.YteboadppighplaaGreat
open Go.RowKit Go.Shelf

/-- A value that is a slice. -/
def SlV (v : Value) : Prop := ∃ A n c, v = .slice A n c
theorem slV_of {w : World} {v : Value} {L : List (Nat × Nat)} (h : Tr.IsZ w v L) : SlV v := by
  obtain ⟨A, c, e, _⟩ := h
  exact ⟨_, _, _, e⟩
/-- What is asked of an answer where the network is any: that it is there. -/
def FatAny (w : World) (e : Ending) (w' : World) : Prop := ∃ (v0 v1 v2 v3 v4 : Value) (er : Int), e = .returned (.tuple #[.agg #[v0, v1, v2, v3, v4], .int .i64 er]) ∧ (SlV v0 ∧ SlV v1 ∧ SlV v2 ∧ SlV v3 ∧ SlV v4) ∧ Below w.heap.size w w'
def ZnAny (w : World) (e : Ending) (w' : World) : Prop := ∃ (v : Value) (er : Int), e = .returned (.tuple #[v, .int .i64 er]) ∧ SlV v ∧ Below w.heap.size w w'
/-- The program's calls: of right networks as the chapter says; of any they end. -/
structure Own11 : Prop where
  fates : ∀ {vp vl vr : Value} (ps : List Int) (ls : List Lk) (L : List Ru) (a : Int) (w : World), RN ps ls L → NW ps ls L → isI a → IsN w vp vl vr ps ls L → Calls Tryz.prog 10 #[.agg #[vp, vl, vr], .int .i64 a] w (FatOut (fun k => fatZ ps ls L a (k : Nat)) (errIn (inD ps a)) w)
  fatesAny : ∀ {vp vl vr : Value} (ps : List Int) (ls : List Lk) (L : List Ru) (a : Int) (w : World), NW ps ls L → isI a → IsN w vp vl vr ps ls L → Calls Tryz.prog 10 #[.agg #[vp, vl, vr], .int .i64 a] w (FatAny w)
  visits : ∀ {vp vl vr : Value} (ps : List Int) (ls : List Lk) (L : List Ru) (a b : Int) (w : World), RN ps ls L → NW ps ls L → isI a → isI b → IsN w vp vl vr ps ls L → Calls Tryz.prog 13 #[.agg #[vp, vl, vr], .int .i64 a, .int .i64 b] w (ZnOut (visZ ps ls L a b) (errIn (inD ps a ∧ inD ps b)) w)
  visitsAny : ∀ {vp vl vr : Value} (ps : List Int) (ls : List Lk) (L : List Ru) (a b : Int) (w : World), NW ps ls L → isI a → isI b → IsN w vp vl vr ps ls L → Calls Tryz.prog 13 #[.agg #[vp, vl, vr], .int .i64 a, .int .i64 b] w (ZnAny w)
  delivers : ∀ {vp vl vr : Value} (ps : List Int) (ls : List Lk) (L : List Ru) (a b : Int) (w : World), RN ps ls L → NW ps ls L → isI a → isI b → IsN w vp vl vr ps ls L → Calls Tryz.prog 15 #[.agg #[vp, vl, vr], .int .i64 a, .int .i64 b] w (ZnOut (delZ ps ls L a b) (errIn (inD ps a ∧ inD ps b)) w)
  deliversAny : ∀ {vp vl vr : Value} (ps : List Int) (ls : List Lk) (L : List Ru) (a b : Int) (w : World), NW ps ls L → isI a → isI b → IsN w vp vl vr ps ls L → Calls Tryz.prog 15 #[.agg #[vp, vl, vr], .int .i64 a, .int .i64 b] w (ZnAny w)
  differs : ∀ {vp vl vr up ul ur : Value} (ps : List Int) (ls : List Lk) (L : List Ru) (qs : List Int) (ms : List Lk) (M : List Ru) (d : Int) (w : World), RN ps ls L → NW ps ls L → RN qs ms M → NW qs ms M → isI d → IsN w vp vl vr ps ls L → IsN w up ul ur qs ms M → Calls Tryz.prog 17 #[.agg #[vp, vl, vr], .agg #[up, ul, ur], .int .i64 d] w (ZnOut (difZ ps ls L qs ms M d) (errIn (inD ps d ∧ inD qs d)) w)
  cut : ∀ {v : Value} (n m : Nt) (f t : Nat) (w : World), RN n.ps n.ls n.L → NW n.ps n.ls n.L → RN m.ps m.ls m.L → NW m.ps m.ls m.L → f < 4294967296 → t < 4294967296 → Ns w v [n, m] → Calls Tryz.prog 19 #[v, .agg #[.int .u32 f, .int .u32 t]] w (CutOut (rgN [n, m]) f t w)
  cutAny : ∀ {v : Value} (n m : Nt) (f t : Nat) (w : World), NW n.ps n.ls n.L → NW m.ps m.ls m.L → f < 4294967296 → t < 4294967296 → Ns w v [n, m] → Calls Tryz.prog 19 #[v, .agg #[.int .u32 f, .int .u32 t]] w (ZnAny w)
theorem nb_is {L : List (Nat × Nat)} {C : List Nat} (hC : C.Pairwise (· < ·)) (hm : ∀ x, x ∈ C ↔ x ∈ Tr.ends L ∧ x < 4294967296) : Tr.bnds L = C := by
  have e : (Tr.bnds L).map (fun c : Nat => (c : Int)) = C.map (fun c : Nat => (c : Int)) := by
    refine Tr.rise_eq (Tr.rising_pw (Tr.bnds_rise L)) ?_ fun a => ?_
    · rw [List.pairwise_map]; exact hC.imp fun h => by omega
    · rw [List.mem_map, List.mem_map]
      simp only [Tr.bnds_mem, hm]
  exact List.map_inj_right (fun a b h => by omega) |>.1 e
theorem nb_netR : Tr.bnds (rgL netR) = [0, 20, 25, 30, 50, 60, 100] := nb_is (by decide) fun x => by
  simp [rgL, netR, Tr.ends]; omega
/-! The network of the laws' live question. -/
theorem zn_netDen : fatZ netP netK netR 0 ((2 : Nat) : Int) = [(20, 24)] := by
  unfold fatZ pickZ
  rw [if_pos (by decide), nb_netR]
  decide +kernel
theorem zn_netLoop : fatZ netP netK netR 0 ((4 : Nat) : Int) = [(50, 59)] := by
  unfold fatZ pickZ
  rw [if_pos (by decide), nb_netR]
  decide +kernel
theorem zn_netVis : visZ netP netK netR 0 2 = [(0, 49)] := by
  unfold visZ pickZ
  rw [if_pos (by decide), nb_netR]
  decide +kernel
theorem zn_netDel : delZ netP netK netR 0 2 = [(0, 19), (25, 29)] := by
  unfold delZ pickZ
  rw [if_pos (by decide), nb_netR]
  decide +kernel
end Go.Proofs.YteboadppighplaaGreat
/- The laws' alive (stage 11), over the program's calls. -/
namespace Go.Proofs.YteboadppighplaaGreat
open Go.RowKit Go.Shelf

theorem isZ_lit {w : World} {B c : Nat} {L : List (Nat × Nat)} {cs : Array Value} {T : TypeId} (h : At w B cs T) (hc : cs.toList = Tr.zcells L) (h1 : L.length ≤ c) (h2 : c ≤ maxLen) : Tr.IsZ w (.slice (some ⟨B, 0, none⟩) L.length c) L := by
  refine ⟨_, c, rfl, h1, h2, fun _ => ⟨B, 0, rfl, h.lt, fun k hk => ?_⟩⟩
  have e := Tr.zcells_at L k hk
  rw [Nat.zero_add, h.cell, h.cell, ← Array.getElem?_toList, ← Array.getElem?_toList, hc, Nat.mul_comm]
  exact e
set_option maxRecDepth 100000 in
set_option maxHeartbeats 4000000 in
theorem alive11_any (O : Own11) (w : World) : Calls Tryz.prog 9 #[] w fun e w' => e = .returned (.bool true) ∧ Below w.heap.size w w' := by
  have HO := Lib.hid O
  have KS : Hid (∀ (v1 v2 : Value) (L : List (Nat × Nat)) (u : World), Tr.IsZ u v1 L → Tr.IsZ u v2 L → Calls Tryz.prog 12 #[v1, v2] u fun e w' => e = .returned (.bool true) ∧ Below u.heap.size u w') := Lib.hid fun v1 v2 L u h1 h2 => Zo.same_any L u h1 h2
  go_enter Tryz.func9, Tryz.ntmps9
  go_upto_region 2 with (go_at_call 29; refine (net_any _).mono ?_; rintro e w1 ⟨A1, c1, A2, c2, A3, c3, rfl, hN, b1⟩)
  obtain ⟨w2, hw2⟩ : ∃ w2, w2 = w1.alloc (.cells #[.slice A1 3 c1, .slice A2 2 c2, .slice A3 5 c3] 28) := ⟨_, rfl⟩
  have b12 : Below w1.heap.size w1 w2 := by rw [hw2]; exact (Below.refl _ _).alloc (Nat.le_refl _) _
  have N2 : At w2 w1.heap.size #[.slice A1 3 c1, .slice A2 2 c2, .slice A3 5 c3] 28 := by rw [hw2]; exact At.new w1 _ _
  have HN2 := Lib.hid (hN.belows b12)
  have HB2 := Lib.hid (b1.trans (b12.mono b1.size))
  have HNB := Lib.hid N2
  obtain ⟨NB, hNB⟩ : ∃ NB, NB = w1.heap.size := ⟨_, rfl⟩
  rw [← hNB] at N2 HNB ⊢
  rw [← hw2]
  have x0 := (N2.cell 0).trans rfl; have x1 := (N2.cell 1).trans rfl; have x2 := (N2.cell 2).trans rfl
  have k1 := HO.out.fates netP netK netR 0 w2 net_right net_w (by unfold isI; omega) HN2.out
  have HND := Lib.hid zn_netDen
  have HNL := Lib.hid zn_netLoop
  have k1 : Calls Tryz.prog 10 #[.agg #[.slice A1 3 c1, .slice A2 2 c2, .slice A3 5 c3], .int .i64 0] w2 fun e w' => ∃ y0 k0 d0 y1 k1 d1 y2 d2 y3 k3 d3 y4 d4, e = .returned (.tuple #[.agg #[.slice y0 k0 d0, .slice y1 k1 d1, .slice y2 1 d2, .slice y3 k3 d3, .slice y4 1 d4], .int .i64 0]) ∧ Hid (Tr.IsZ w' (.slice y2 1 d2) [(20, 24)] ∧ Tr.IsZ w' (.slice y4 1 d4) [(50, 59)]) ∧ Below w2.heap.size w2 w' := k1.mono fun e w' h => by
    obtain ⟨v0, v1, v2, v3, v4, rfl, ⟨z0, z1, z2, z3, z4⟩, b3⟩ := h
    rw [show errIn (inD netP 0) = 0 from if_pos (by decide)]
    replace z2 : Tr.IsZ w' v2 (fatZ netP netK netR 0 ((2 : Nat) : Int)) := z2
    replace z4 : Tr.IsZ w' v4 (fatZ netP netK netR 0 ((4 : Nat) : Int)) := z4
    rw [HND.out] at z2
    rw [HNL.out] at z4
    have z2' := z2
    have z4' := z4
    obtain ⟨y0, d0, rfl, _⟩ := z0
    obtain ⟨y1, d1, rfl, _⟩ := z1
    obtain ⟨y2, d2, rfl, _⟩ := z2
    obtain ⟨y3, d3, rfl, _⟩ := z3
    obtain ⟨y4, d4, rfl, _⟩ := z4
    exact ⟨_, _, _, _, _, _, _, _, _, _, _, _, _, rfl, Lib.hid ⟨z2', z4'⟩, b3⟩
  clear hw2 hNB b12 b1 hN N2
  go_upto_region 3 with (go_at_call 10; refine k1.mono ?_; rintro e w3 ⟨y0, l0, d0, y1, l1, d1, y2, d2, y3, l3, d3, y4, d4, rfl, hz, b3⟩)
  obtain ⟨w4, hw4⟩ : ∃ w4, w4 = w3.alloc (.cells #[.slice y0 l0 d0, .slice y1 l1 d1, .slice y2 1 d2, .slice y3 l3 d3, .slice y4 1 d4] 32) := ⟨_, rfl⟩
  have b34 : Below w3.heap.size w3 w4 := by rw [hw4]; exact (Below.refl _ _).alloc (Nat.le_refl _) _
  have X4 : At w4 w3.heap.size #[.slice y0 l0 d0, .slice y1 l1 d1, .slice y2 1 d2, .slice y3 l3 d3, .slice y4 1 d4] 32 := by rw [hw4]; exact At.new w3 _ _
  obtain ⟨XB, hXB⟩ : ∃ XB, XB = w3.heap.size := ⟨_, rfl⟩
  rw [← hXB] at X4 ⊢
  rw [← hw4]
  have b24 : Below w2.heap.size w2 w4 := b3.trans (b34.mono b3.size)
  have HX4 := Lib.hid X4
  have HZ2 := Lib.hid (hz.out.1.belows b34)
  have HZ4 := Lib.hid (hz.out.2.belows b34)
  have HB4 := Lib.hid (HB2.out.trans (b24.mono HB2.out.size))
  have N4 := HNB.out.belows b24
  have HNB4 := Lib.hid N4
  have HN4 := Lib.hid (HN2.out.belows b24)
  have x0 := (N4.cell 0).trans rfl; have x1 := (N4.cell 1).trans rfl; have x2 := (N4.cell 2).trans rfl
  have k2 := HO.out.visits netP netK netR 0 2 w4 net_right net_w (by unfold isI; omega) (by unfold isI; omega) HN4.out
  have HVS := Lib.hid zn_netVis
  have HDL := Lib.hid zn_netDel
  have k2 : Calls Tryz.prog 13 #[.agg #[.slice A1 3 c1, .slice A2 2 c2, .slice A3 5 c3], .int .i64 0, .int .i64 2] w4 fun e w' => ∃ y d, e = .returned (.tuple #[.slice y 1 d, .int .i64 0]) ∧ Hid (Tr.IsZ w' (.slice y 1 d) [(0, 49)]) ∧ Below w4.heap.size w4 w' := k2.mono fun e w' h => by
    obtain ⟨v, rfl, z, b⟩ := h
    rw [show errIn (inD netP 0 ∧ inD netP 2) = 0 from if_pos (by decide)]
    rw [HVS.out] at z
    have z' := z
    obtain ⟨y, d, rfl, _⟩ := z
    exact ⟨_, _, rfl, Lib.hid z', b⟩
  clear hw4 hXB b34 X4 b3 b24 N4 k1 hz
  go_upto_region 4 with (go_at_call 13; refine k2.mono ?_; rintro e w5 ⟨y5, d5, rfl, z5, b5⟩)
  have N5 := HNB4.out.belows b5
  have HN5 := Lib.hid (HN4.out.belows b5)
  have HX5 := Lib.hid (HX4.out.belows b5)
  have HZ25 := Lib.hid (HZ2.out.belows b5)
  have HZ45 := Lib.hid (HZ4.out.belows b5)
  have HB5 := Lib.hid (HB4.out.trans (b5.mono HB4.out.size))
  have x0 := (N5.cell 0).trans rfl; have x1 := (N5.cell 1).trans rfl; have x2 := (N5.cell 2).trans rfl
  have k3 := HO.out.delivers netP netK netR 0 2 w5 net_right net_w (by unfold isI; omega) (by unfold isI; omega) HN5.out
  have k3 : Calls Tryz.prog 15 #[.agg #[.slice A1 3 c1, .slice A2 2 c2, .slice A3 5 c3], .int .i64 0, .int .i64 2] w5 fun e w' => ∃ y d, e = .returned (.tuple #[.slice y 2 d, .int .i64 0]) ∧ Hid (Tr.IsZ w' (.slice y 2 d) [(0, 19), (25, 29)]) ∧ Below w5.heap.size w5 w' := k3.mono fun e w' h => by
    obtain ⟨v, rfl, z, b⟩ := h
    rw [show errIn (inD netP 0 ∧ inD netP 2) = 0 from if_pos (by decide)]
    rw [HDL.out] at z
    have z' := z
    obtain ⟨y, d, rfl, _⟩ := z
    exact ⟨_, _, rfl, Lib.hid z', b⟩
  clear k2 b5 N5
  go_upto_region 5 with (go_at_call 15; refine k3.mono ?_; rintro e w6 ⟨y6, d6, rfl, z6, b6⟩)
  have X6 := HX5.out.belows b6
  have q2 := (X6.cell 2).trans rfl
  have Z26 := HZ25.out.belows b6
  have Z46 := HZ45.out.belows b6
  have Z56 := z5.out.belows b6
  have HB6 := Lib.hid (HB5.out.trans (b6.mono HB5.out.size))
  have HX6 := Lib.hid X6
  have HALL : Hid (∀ u, Below w6.heap.size w6 u → Tr.IsZ u (.slice y2 1 d2) [(20, 24)] ∧ Tr.IsZ u (.slice y4 1 d4) [(50, 59)] ∧ Tr.IsZ u (.slice y5 1 d5) [(0, 49)] ∧ Tr.IsZ u (.slice y6 2 d6) [(0, 19), (25, 29)] ∧ u.cell? ⟨XB, 4, none⟩ = some (.slice y4 1 d4)) := Lib.hid fun u hu => ⟨Z26.belows hu, Z46.belows hu, Z56.belows hu, z6.out.belows hu, ((HX6.out.belows hu).cell 4).trans rfl⟩
  have K1 : Hid (∀ u, Below w6.heap.size w6 u → ∀ B c, At u B #[.int .u32 20, .int .u32 24] c → Calls Tryz.prog 12 #[.slice y2 1 d2, .slice (some ⟨B, 0, none⟩) 1 1] u fun e w' => e = .returned (.bool true) ∧ Below u.heap.size u w') := Lib.hid fun u hu B c hA => KS.out _ _ _ u (HALL.out u hu).1 (isZ_lit (L := [(20, 24)]) (c := 1) hA rfl (by decide) (by decide))
  have K4 : Hid (∀ u, Below w6.heap.size w6 u → ∀ B c, At u B #[.int .u32 50, .int .u32 59] c → Calls Tryz.prog 12 #[.slice y4 1 d4, .slice (some ⟨B, 0, none⟩) 1 1] u fun e w' => e = .returned (.bool true) ∧ Below u.heap.size u w') := Lib.hid fun u hu B c hA => KS.out _ _ _ u (HALL.out u hu).2.1 (isZ_lit (L := [(50, 59)]) (c := 1) hA rfl (by decide) (by decide))
  have K2 : Hid (∀ u, Below w6.heap.size w6 u → ∀ B c, At u B #[.int .u32 0, .int .u32 49] c → Calls Tryz.prog 12 #[.slice y5 1 d5, .slice (some ⟨B, 0, none⟩) 1 1] u fun e w' => e = .returned (.bool true) ∧ Below u.heap.size u w') := Lib.hid fun u hu B c hA => KS.out _ _ _ u (HALL.out u hu).2.2.1 (isZ_lit (L := [(0, 49)]) (c := 1) hA rfl (by decide) (by decide))
  have K3 : Hid (∀ u, Below w6.heap.size w6 u → ∀ B c, At u B #[.int .u32 0, .int .u32 19, .int .u32 25, .int .u32 29] c → Calls Tryz.prog 12 #[.slice y6 2 d6, .slice (some ⟨B, 0, none⟩) 2 2] u fun e w' => e = .returned (.bool true) ∧ Below u.heap.size u w') := Lib.hid fun u hu B c hA => KS.out _ _ _ u (HALL.out u hu).2.2.2.1 (isZ_lit (L := [(0, 19), (25, 29)]) (c := 2) hA rfl (by decide) (by decide))
  clear Z26 Z46 Z56 X6 k3 b6
  have e1 := (Below.refl w6.heap.size w6).alloc (Nat.le_refl _) (.cells #[.int .u32 20, .int .u32 24] 43)
  go_wp2_with fail
  refine (K1.out _ e1 _ _ (At.new _ _ _)).mono ?_
  rintro e w7 ⟨rfl, b7⟩
  have B7 : Below w6.heap.size w6 w7 := e1.trans (b7.mono e1.size)
  have e2 := B7.alloc B7.size (.cells #[.int .u32 0, .int .u32 49] 43)
  go_wp2_with fail
  refine (K2.out _ e2 _ _ (At.new _ _ _)).mono ?_
  rintro e w8 ⟨rfl, b8⟩
  have B8 : Below w6.heap.size w6 w8 := e2.trans (b8.mono e2.size)
  have e3 := B8.alloc B8.size (.cells #[.int .u32 0, .int .u32 19, .int .u32 25, .int .u32 29] 43)
  go_wp2_with fail
  refine (K3.out _ e3 _ _ (At.new _ _ _)).mono ?_
  rintro e w9 ⟨rfl, b9⟩
  have B9 : Below w6.heap.size w6 w9 := e3.trans (b9.mono e3.size)
  have q4 := (HALL.out w9 B9).2.2.2.2
  have e4 := B9.alloc B9.size (.cells #[.int .u32 50, .int .u32 59] 43)
  go_wp2_with fail
  refine (K4.out _ e4 _ _ (At.new _ _ _)).mono ?_
  rintro e w10 ⟨rfl, b10⟩
  have B10 : Below w6.heap.size w6 w10 := e4.trans (b10.mono e4.size)
  go_wp2
  go_ret
  exact ⟨rfl, HB6.out.trans (B10.mono HB6.out.size)⟩
end Go.Proofs.YteboadppighplaaGreat
/- Law: FlowTells (stage 11), over the program's calls. -/
namespace Go.Proofs.YteboadppighplaaGreat
open Go.RowKit Go.Shelf

/-- Five slices that read as these zones. -/
def Five5 (w : World) (XB : Nat) (Z : Nat → List (Nat × Nat)) : Prop := ∃ v0 v1 v2 v3 v4, At w XB #[v0, v1, v2, v3, v4] 32 ∧ Tr.IsZ w v0 (Z 0) ∧ Tr.IsZ w v1 (Z 1) ∧ Tr.IsZ w v2 (Z 2) ∧ Tr.IsZ w v3 (Z 3) ∧ Tr.IsZ w v4 (Z 4)
theorem Five5.belows {w w' : World} {XB : Nat} {Z : Nat → List (Nat × Nat)} (h : Five5 w XB Z) (hb : Below w.heap.size w w') : Five5 w' XB Z := by
  obtain ⟨v0, v1, v2, v3, v4, hA, z0, z1, z2, z3, z4⟩ := h
  exact ⟨v0, v1, v2, v3, v4, hA.belows hb, z0.belows hb, z1.belows hb, z2.belows hb, z3.belows hb, z4.belows hb⟩
theorem Five5.at {w : World} {XB : Nat} {Z : Nat → List (Nat × Nat)} (h : Five5 w XB Z) {i : Nat} (hi : i < 5) : ∃ A c, w.cell? ⟨XB, i, none⟩ = some (.slice A (Z i).length c) ∧ Tr.IsZ w (.slice A (Z i).length c) (Z i) := by
  obtain ⟨v0, v1, v2, v3, v4, hA, z0, z1, z2, z3, z4⟩ := h
  have g : ∀ {v : Value} {L : List (Nat × Nat)}, Tr.IsZ w v L → w.cell? ⟨XB, i, none⟩ = some v → ∃ A c, w.cell? ⟨XB, i, none⟩ = some (.slice A L.length c) ∧ Tr.IsZ w (.slice A L.length c) L := fun {v L} hz hc => by
    have hz' := hz
    obtain ⟨A, c, rfl, _⟩ := hz
    exact ⟨A, c, hc, hz'⟩
  match i, hi with
  | 0, _ => exact g z0 ((hA.cell 0).trans rfl)
  | 1, _ => exact g z1 ((hA.cell 1).trans rfl)
  | 2, _ => exact g z2 ((hA.cell 2).trans rfl)
  | 3, _ => exact g z3 ((hA.cell 3).trans rfl)
  | 4, _ => exact g z4 ((hA.cell 4).trans rfl)
/-- What Fates answers, slices by name. -/
theorem fatOut_slices {Z : Nat → List (Nat × Nat)} {er : Int} {w : World} {e : Ending} {w' : World} (h : FatOut Z er w e w') : ∃ y0 n0 d0 y1 n1 d1 y2 n2 d2 y3 n3 d3 y4 n4 d4, e = .returned (.tuple #[.agg #[.slice y0 n0 d0, .slice y1 n1 d1, .slice y2 n2 d2, .slice y3 n3 d3, .slice y4 n4 d4], .int .i64 er]) ∧
    Hid (Tr.IsZ w' (.slice y0 n0 d0) (Z 0) ∧ Tr.IsZ w' (.slice y1 n1 d1) (Z 1) ∧ Tr.IsZ w' (.slice y2 n2 d2) (Z 2) ∧ Tr.IsZ w' (.slice y3 n3 d3) (Z 3) ∧ Tr.IsZ w' (.slice y4 n4 d4) (Z 4)) ∧ Below w.heap.size w w' := by
  obtain ⟨v0, v1, v2, v3, v4, rfl, ⟨z0, z1, z2, z3, z4⟩, b3⟩ := h
  have z0' := z0; have z1' := z1; have z2' := z2; have z3' := z3; have z4' := z4
  obtain ⟨y0, d0, rfl, _⟩ := z0
  obtain ⟨y1, d1, rfl, _⟩ := z1
  obtain ⟨y2, d2, rfl, _⟩ := z2
  obtain ⟨y3, d3, rfl, _⟩ := z3
  obtain ⟨y4, d4, rfl, _⟩ := z4
  exact ⟨_, _, _, _, _, _, _, _, _, _, _, _, _, _, _, rfl, Lib.hid ⟨z0', z1', z2', z3', z4'⟩, b3⟩
theorem five5_new {w : World} {Z : Nat → List (Nat × Nat)} {y0 y1 y2 y3 y4 : Value} (h : Tr.IsZ w y0 (Z 0) ∧ Tr.IsZ w y1 (Z 1) ∧ Tr.IsZ w y2 (Z 2) ∧ Tr.IsZ w y3 (Z 3) ∧ Tr.IsZ w y4 (Z 4)) : Five5 (w.alloc (.cells #[y0, y1, y2, y3, y4] 32)) w.heap.size Z :=
  have b : Below w.heap.size w (w.alloc (.cells #[y0, y1, y2, y3, y4] 32)) := (Below.refl _ w).alloc (Nat.le_refl _) _
  ⟨y0, y1, y2, y3, y4, At.new w _ _, h.1.belows b, h.2.1.belows b, h.2.2.1.belows b, h.2.2.2.1.belows b, h.2.2.2.2.belows b⟩
theorem znOut_slices {Z : List (Nat × Nat)} {er : Int} {w : World} {e : Ending} {w' : World} (h : ZnOut Z er w e w') : ∃ y n d, e = .returned (.tuple #[.slice y n d, .int .i64 er]) ∧ Hid (Tr.IsZ w' (.slice y n d) Z) ∧ Below w.heap.size w w' := by
  obtain ⟨v, rfl, z, b⟩ := h
  have z' := z
  obtain ⟨y, d, rfl, _⟩ := z
  exact ⟨_, _, _, rfl, Lib.hid z', b⟩
set_option maxRecDepth 100000 in
set_option maxHeartbeats 4000000 in
theorem tells11_walk (O : Own11) {vp vl vr : Value} (ps : List Int) (ls : List Lk) (L : List Ru) (a b : Int) (w : World) (h : IsN w vp vl vr ps ls L) (hW : NW ps ls L) (ia : isI a) (ib : isI b) :
    Calls Tryz.prog 3 #[.agg #[vp, vl, vr], .int .i64 a, .int .i64 b] w fun e w' => e = .returned (.bool true) ∧ Below w.heap.size w w' := by
  have HO := Lib.hid O
  have KA : Hid (∀ u : World, Calls Tryz.prog 9 #[] u fun e w' => e = .returned (.bool true) ∧ Below u.heap.size u w') := Lib.hid fun u => alive11_any O u
  have KS : Hid (∀ (v1 v2 : Value) (L : List (Nat × Nat)) (u : World), Tr.IsZ u v1 L → Tr.IsZ u v2 L → Calls Tryz.prog 12 #[v1, v2] u fun e w' => e = .returned (.bool true) ∧ Below u.heap.size u w') := Lib.hid fun v1 v2 L u h1 h2 => Zo.same_any L u h1 h2
  obtain ⟨w1, hw1⟩ : ∃ w1, w1 = w.alloc (.cells #[vp, vl, vr] 28) := ⟨_, rfl⟩
  have b1 : Below w.heap.size w w1 := by rw [hw1]; exact (Below.refl _ w).alloc (Nat.le_refl _) _
  have N1 : At w1 w.heap.size #[vp, vl, vr] 28 := by rw [hw1]; exact At.new w _ _
  have HN1 := Lib.hid (h.belows b1)
  have HNB := Lib.hid N1
  have HB1 := Lib.hid b1
  have HW := Lib.hid hW
  have HIA := Lib.hid ia
  have HIB := Lib.hid ib
  have KF := lfits9_any ps ls L w1 hW HN1.out
  obtain ⟨⟨⟨A1, c1, rfl, _, _, _⟩, ⟨A2, c2, rfl, _, _, _⟩⟩, ⟨A3, c3, rfl, _, _, _⟩⟩ := h
  have SX : Hid (∀ u, Below w1.heap.size w1 u → u.cell? ⟨w.heap.size, 0, none⟩ = some (.slice A1 ps.length c1) ∧ u.cell? ⟨w.heap.size, 1, none⟩ = some (.slice A2 ls.length c2) ∧ u.cell? ⟨w.heap.size, 2, none⟩ = some (.slice A3 L.length c3)) := Lib.hid fun u hu => ⟨((HNB.out.belows hu).cell 0).trans rfl, ((HNB.out.belows hu).cell 1).trans rfl, ((HNB.out.belows hu).cell 2).trans rfl⟩
  obtain ⟨x0, x1, x2⟩ := SX.out w1 (Below.refl _ _)
  clear N1 b1 hW ia ib O
  cases hq : rightN ps ls L with
  | false =>
    rw [hq] at KF
    clear hq
    go_enter Tryz.func3, Tryz.ntmps3
    go_upto_region 1 with (fail)
    rw [← hw1]
    clear hw1
    go_wp2_with (first | (go_at_call 8; refine KF.mono ?_; rintro e w2 ⟨rfl, b2⟩) | (go_at_call 9; refine (KA.out _).mono ?_; rintro e w3 ⟨rfl, b3⟩))
    go_ret
    exact ⟨rfl, HB1.out.trans ((b2.trans (b3.mono b2.size)).mono HB1.out.size)⟩
  | true =>
    have HR := Lib.hid ((rightN_iff _ _ _).1 hq)
    rw [hq] at KF
    clear hq
    go_enter Tryz.func3, Tryz.ntmps3
    go_upto_region 1 with (fail)
    rw [← hw1]
    clear hw1
    go_upto_region 4 with (go_at_call 8; refine KF.mono ?_; rintro e w2 ⟨rfl, b2⟩)
    have HB2 := Lib.hid b2
    have HN2 := Lib.hid (HN1.out.belows b2)
    obtain ⟨x0, x1, x2⟩ := SX.out w2 b2
    obtain ⟨er, her⟩ : ∃ er, er = errIn (inD ps a) := ⟨_, rfl⟩
    obtain ⟨Z, hZ⟩ : ∃ Z : Nat → List (Nat × Nat), Z = fun k => fatZ ps ls L a (k : Nat) := ⟨_, rfl⟩
    have k1 := HO.out.fates ps ls L a w2 HR.out HW.out HIA.out HN2.out
    have k2 : Hid (∀ u, Below w2.heap.size w2 u → Calls Tryz.prog 11 #[.agg #[.slice A1 ps.length c1, .slice A2 ls.length c2, .slice A3 L.length c3], .int .i64 a] u (FatOut (fun k => fatZ ps ls L a (k : Nat)) (errIn (inD ps a)) u)) := Lib.hid fun u hu => rfates_any ps ls L a u HR.out HW.out (HN2.out.belows hu)
    rw [← her, ← hZ] at k1 k2
    clear her hZ b2 KF
    go_upto_region 5 with (go_at_call 10; refine k1.mono ?_; rintro e w3 h3; obtain ⟨y0, n0, d0, y1, n1, d1, y2, n2, d2, y3, n3, d3, y4, n4, d4, rfl, hz3, b3⟩ := fatOut_slices h3; clear h3)
    have X4 := five5_new hz3.out
    obtain ⟨w4, hw4⟩ : ∃ w4, w4 = w3.alloc (.cells #[.slice y0 n0 d0, .slice y1 n1 d1, .slice y2 n2 d2, .slice y3 n3 d3, .slice y4 n4 d4] 32) := ⟨_, rfl⟩
    have b34 : Below w3.heap.size w3 w4 := by rw [hw4]; exact (Below.refl _ _).alloc (Nat.le_refl _) _
    obtain ⟨XB, hXB⟩ : ∃ XB, XB = w3.heap.size := ⟨_, rfl⟩
    rw [← hw4, ← hXB] at X4
    rw [← hXB]
    rw [← hw4]
    have b24 := b3.trans (b34.mono b3.size)
    have HX4 := Lib.hid X4
    have HB4 := Lib.hid (HB2.out.trans (b24.mono HB2.out.size))
    obtain ⟨x0, x1, x2⟩ := SX.out w4 HB4.out
    have k2' := k2.out w4 b24
    clear hw4 hXB X4 hz3 k1 k2 b3 b34 b24
    go_upto_region 6 with (go_at_call 11; refine k2'.mono ?_; rintro e w5 h5; obtain ⟨y0', n0', d0', y1', n1', d1', y2', n2', d2', y3', n3', d3', y4', n4', d4', rfl, hz5, b5⟩ := fatOut_slices h5; clear h5)
    have Y6 := five5_new hz5.out
    obtain ⟨w6, hw6⟩ : ∃ w6, w6 = w5.alloc (.cells #[.slice y0' n0' d0', .slice y1' n1' d1', .slice y2' n2' d2', .slice y3' n3' d3', .slice y4' n4' d4'] 32) := ⟨_, rfl⟩
    have b56 : Below w5.heap.size w5 w6 := by rw [hw6]; exact (Below.refl _ _).alloc (Nat.le_refl _) _
    obtain ⟨YB, hYB⟩ : ∃ YB, YB = w5.heap.size := ⟨_, rfl⟩
    rw [← hw6, ← hYB] at Y6
    rw [← hYB]
    rw [← hw6]
    have b46 := b5.trans (b56.mono b5.size)
    have HX6 := Lib.hid (HX4.out.belows b46)
    have HY6 := Lib.hid Y6
    have HB6 := Lib.hid (HB4.out.trans (b46.mono HB4.out.size))
    clear hw6 hYB Y6 hz5 k2' b5 b56 b46 x0 x1 x2
    go_wp2
    go_loopw [12] (fun i wr => ∃ k : Nat, i = .int .i64 k ∧ k ≤ 5 ∧ Below w6.heap.size w6 wr) (fun i _ => 5 - (intOf i).toNat)
    case atStart => exact ⟨0, rfl, by omega, Below.refl _ _⟩
    case round =>
      obtain ⟨k, rfl, hk, hb⟩ := hrel
      have HBr := Lib.hid hb
      clear hb
      by_cases hlt : k < 5
      · obtain ⟨AX, cX, p0, pz⟩ := (HX6.out.belows HBr.out).at hlt
        obtain ⟨AY, cY, q0, qz⟩ := (HY6.out.belows HBr.out).at hlt
        have i0 : (0 : Int) ≤ (k : Int) := by omega
        have i1 : (k : Int) < 5 := by omega
        have HPZ := Lib.hid pz
        have HQZ := Lib.hid qz
        generalize Z k = Zk at p0 q0 HPZ HQZ
        have SZ : Hid (∀ u, Below wr.heap.size wr u → u.cell? ⟨XB, k, none⟩ = some (.slice AX Zk.length cX) ∧ u.cell? ⟨YB, k, none⟩ = some (.slice AY Zk.length cY)) := Lib.hid fun u hu => ⟨(World.cell?_of_block (a := ⟨XB, k, none⟩) (hu.block XB (World.block_lt_of_cell? wr _ p0))).trans p0, (World.cell?_of_block (a := ⟨YB, k, none⟩) (hu.block YB (World.block_lt_of_cell? wr _ q0))).trans q0⟩
        clear p0 q0 pz qz
        go_upto_region 9 with (fail)
        go_region_held3 (fun W => W.cell? ⟨XB, k, none⟩ = some (.slice AX Zk.length cX) ∧ W.cell? ⟨YB, k, none⟩ = some (.slice AY Zk.length cY))
          (first | exact SZ.out _ b7 | exact SZ.out _ (bdrewN (Below.refl _ _) 1))
          (first | (go_at_call 12; refine (KS.out _ _ Zk _ (HPZ.out.belows (bdrewN (Below.refl _ _) 1)) (HQZ.out.belows (bdrewN (Below.refl _ _) 1))).mono ?_; rintro e w7 ⟨rfl, b7x⟩; have b7 : Below wr.heap.size wr w7 := (bdrewN (Below.refl _ _) 1).trans b7x))
        go_wp2
        go_roundw
        case rel => exact ⟨k + 1, by go_num, by omega, HBr.out.trans (b7.mono HBr.out.size)⟩
        case measure => simp [intOf]; omega
      · obtain rfl : k = 5 := by omega
        have HBw := Lib.hid (HB6.out.trans (HBr.out.mono HB6.out.size))
        obtain ⟨x0, x1, x2⟩ := SX.out wr HBw.out
        obtain ⟨e2, he2⟩ : ∃ e2, e2 = errIn (inD ps a ∧ inD ps b) := ⟨_, rfl⟩
        obtain ⟨V, hV⟩ : ∃ V, V = visZ ps ls L a b := ⟨_, rfl⟩
        obtain ⟨D, hD⟩ : ∃ D, D = delZ ps ls L a b := ⟨_, rfl⟩
        have K1 := HO.out.visits ps ls L a b wr HR.out HW.out HIA.out HIB.out (HN1.out.belows HBw.out)
        have K2 : Hid (∀ u, Below w1.heap.size w1 u → Calls Tryz.prog 14 #[.agg #[.slice A1 ps.length c1, .slice A2 ls.length c2, .slice A3 L.length c3], .int .i64 a, .int .i64 b] u (ZnOut (visZ ps ls L a b) (errIn (inD ps a ∧ inD ps b)) u)) := Lib.hid fun u hu => rvisits_any ps ls L a b u HR.out HW.out (HN1.out.belows hu)
        have K3 : Hid (∀ u, Below w1.heap.size w1 u → Calls Tryz.prog 15 #[.agg #[.slice A1 ps.length c1, .slice A2 ls.length c2, .slice A3 L.length c3], .int .i64 a, .int .i64 b] u (ZnOut (delZ ps ls L a b) (errIn (inD ps a ∧ inD ps b)) u)) := Lib.hid fun u hu => HO.out.delivers ps ls L a b u HR.out HW.out HIA.out HIB.out (HN1.out.belows hu)
        have K4 : Hid (∀ u, Below w1.heap.size w1 u → Calls Tryz.prog 16 #[.agg #[.slice A1 ps.length c1, .slice A2 ls.length c2, .slice A3 L.length c3], .int .i64 a, .int .i64 b] u (ZnOut (delZ ps ls L a b) (errIn (inD ps a ∧ inD ps b)) u)) := Lib.hid fun u hu => rdelivers_any ps ls L a b u HR.out HW.out (HN1.out.belows hu)
        rw [← he2, ← hV] at K1 K2
        rw [← he2, ← hD] at K3 K4
        clear he2 hV hD hk
        go_upto_region 13 with (go_at_call 13; refine K1.mono ?_; rintro e w7 h7; obtain ⟨z1, m1, k1, rfl, zv1, b7⟩ := znOut_slices h7; clear h7)
        have B7 := Lib.hid (HBw.out.trans (b7.mono HBw.out.size))
        obtain ⟨x0, x1, x2⟩ := SX.out w7 B7.out
        have k2 := K2.out w7 B7.out
        clear K1 b7
        go_upto_region 14 with (go_at_call 14; refine k2.mono ?_; rintro e w8 h8; obtain ⟨z2, m2, k2', rfl, zv2, b8⟩ := znOut_slices h8; clear h8)
        have B8 := Lib.hid (B7.out.trans (b8.mono B7.out.size))
        have ZV1 := Lib.hid (zv1.out.belows b8)
        obtain ⟨x0, x1, x2⟩ := SX.out w8 B8.out
        have k3 := K3.out w8 B8.out
        clear K2 b8 k2 zv1
        go_upto_region 15 with (go_at_call 15; refine k3.mono ?_; rintro e w9 h9; obtain ⟨z3, m3, k3', rfl, zv3, b9⟩ := znOut_slices h9; clear h9)
        have B9 := Lib.hid (B8.out.trans (b9.mono B8.out.size))
        have ZV1' := Lib.hid (ZV1.out.belows b9)
        have ZV2' := Lib.hid (zv2.out.belows b9)
        obtain ⟨x0, x1, x2⟩ := SX.out w9 B9.out
        have k4 := K4.out w9 B9.out
        clear K3 b9 k3 zv2 ZV1
        go_upto_region 16 with (go_at_call 16; refine k4.mono ?_; rintro e wa ha; obtain ⟨z4, m4, k4', rfl, zv4, ba⟩ := znOut_slices ha; clear ha)
        have Ba := Lib.hid (B9.out.trans (ba.mono B9.out.size))
        have k5 := KS.out _ _ V wa (ZV1'.out.belows ba) (ZV2'.out.belows ba)
        have ZV3 := Lib.hid (zv3.out.belows ba)
        clear K4 ba k4 zv3 ZV1' ZV2'
        go_upto_region 17 with (go_at_call 12; refine k5.mono ?_; rintro e wb ⟨rfl, bb⟩)
        have Bb := Lib.hid (Ba.out.trans (bb.mono Ba.out.size))
        have k6 := KS.out _ _ D wb (ZV3.out.belows bb) (zv4.out.belows bb)
        clear k5 bb
        go_wp2_with (first | (go_at_call 12; refine k6.mono ?_; rintro e wc ⟨rfl, bc⟩) | (go_at_call 9; refine (KA.out _).mono ?_; rintro e wd ⟨rfl, bd⟩))
        go_ret
        exact ⟨rfl, HB1.out.trans ((Bb.out.trans ((bc.trans (bd.mono bc.size)).mono Bb.out.size)).mono HB1.out.size)⟩
end Go.Proofs.YteboadppighplaaGreat
/- Plain: for the program's flow: the atoms of a table that stand in a range are that range, cut; what is picked of the parts is the zone; rules that a table takes. No program. -/
namespace Go.Proofs.YteboadppighplaaGreat

theorem chn_ge {t : Nat} : ∀ {Z : List (Nat × Nat)} {a : Nat}, Chn t a Z → ∀ x ∈ Z.map (·.1), a ≤ x
  | [], _, _, x, h => by simp at h
  | z :: Z, a, h, x, hx => by
    obtain ⟨h1, h2, h3⟩ := h
    rw [List.map_cons] at hx
    rcases List.mem_cons.1 hx with e | hx
    · rw [e]; omega
    · have := chn_ge h3 x hx; omega
theorem chn_end {t : Nat} : ∀ {Z : List (Nat × Nat)} {a : Nat}, Chn t a Z → a ≤ t + 1
  | [], a, h => by have : a = t + 1 := h; omega
  | z :: Z, a, h => by
    obtain ⟨h1, h2, h3⟩ := h
    have := chn_end h3
    omega
theorem chn_next {t : Nat} {Z : List (Nat × Nat)} {a : Nat} (h : Chn t a Z) : a = t + 1 ∨ a ∈ Z.map (·.1) := by
  cases Z with
  | nil => exact .inl h
  | cons z Z => exact .inr (by rw [List.map_cons, h.1]; simp)
theorem chn_step {t : Nat} {z y : Nat × Nat} {Z Y : List (Nat × Nat)} {a : Nat} (hz : Chn t a (z :: Z)) (hy : Chn t a (y :: Y)) (h : ∀ x, x ∈ (z :: Z).map (·.1) → x ∈ (y :: Y).map (·.1)) : y.2 ≤ z.2 := by
  obtain ⟨z1, z2, z3⟩ := hz
  obtain ⟨y1, y2, y3⟩ := hy
  rcases chn_next z3 with e | e
  · have := chn_end y3; omega
  · have h1 := h _ (by rw [List.map_cons]; exact List.mem_cons_of_mem _ e)
    rw [List.map_cons] at h1
    rcases List.mem_cons.1 h1 with e | h1
    · omega
    · have := chn_ge y3 _ h1; omega
/-- Two that stand one behind the other, and begin at the same places, are one. -/
theorem chn_eq {t : Nat} : ∀ {Z Y : List (Nat × Nat)} {a : Nat}, Chn t a Z → Chn t a Y → (∀ x, x ∈ Z.map (·.1) ↔ x ∈ Y.map (·.1)) → Z = Y
  | [], [], _, _, _, _ => rfl
  | [], y :: Y, _, _, _, h => absurd ((h y.1).2 (by simp)) (by simp)
  | z :: Z, [], _, _, _, h => absurd ((h z.1).1 (by simp)) (by simp)
  | z :: Z, y :: Y, a, hz, hy, h => by
    have k1 := chn_step hz hy fun x => (h x).1
    have k2 := chn_step hy hz fun x => (h x).2
    obtain ⟨z1, z2, z3⟩ := hz
    obtain ⟨y1, y2, y3⟩ := hy
    have e : z = y := Prod.ext (by omega) (by omega)
    subst e
    rw [chn_eq z3 y3 fun x => ?_]
    have hx := h x
    rw [List.map_cons, List.map_cons, List.mem_cons, List.mem_cons] at hx
    constructor
    · intro hm
      have := chn_ge z3 x hm
      rcases hx.1 (.inr hm) with e | h1
      · omega
      · exact h1
    · intro hm
      have := chn_ge y3 x hm
      rcases hx.2 (.inr hm) with e | h1
      · omega
      · exact h1
theorem chn_has {t : Nat} : ∀ {Z : List (Nat × Nat)} {b a : Nat}, Chn t b Z → b ≤ a → a ≤ t → ∃ r ∈ Z, r.1 ≤ a ∧ a ≤ r.2
  | [], b, a, h, h1, h2 => by have : b = t + 1 := h; omega
  | z :: Z, b, a, h, h1, h2 => by
    obtain ⟨k1, k2, k3⟩ := h
    by_cases e : a ≤ z.2
    · exact ⟨z, by simp, by omega, e⟩
    · obtain ⟨r, hr, h3⟩ := chn_has k3 (by omega) h2
      exact ⟨r, by simp [hr], h3⟩
theorem cutC_starts {m f t : Nat} : ∀ {C : List Nat} (x : Nat), x ∈ (cutC m f t C).map (·.1) ↔ ∃ i, ∃ h : i < C.length, x = max C[i] f ∧ max C[i] f ≤ min (Tr.endOf m (C.drop (i + 1))) t
  | [], x => by simp [cutC]
  | c :: l, x => by
    have ih := @cutC_starts m f t l x
    have key : (∃ i, ∃ h : i < (c :: l).length, x = max (c :: l)[i] f ∧ max (c :: l)[i] f ≤ min (Tr.endOf m ((c :: l).drop (i + 1))) t) ↔ (x = max c f ∧ max c f ≤ min (Tr.endOf m l) t) ∨ ∃ i, ∃ h : i < l.length, x = max l[i] f ∧ max l[i] f ≤ min (Tr.endOf m (l.drop (i + 1))) t := by
      constructor
      · rintro ⟨i, hi, h1, h2⟩
        match i with
        | 0 => exact .inl ⟨h1, h2⟩
        | i + 1 => exact .inr ⟨i, by simpa using hi, by simpa using h1, by simpa using h2⟩
      · rintro (⟨h1, h2⟩ | ⟨i, hi, h1, h2⟩)
        · exact ⟨0, by simp, h1, h2⟩
        · exact ⟨i + 1, by simpa using hi, by simpa using h1, by simpa using h2⟩
    rw [key, ← ih, cutC]
    split
    · rename_i hc
      rw [List.map_cons, List.mem_cons]
      constructor
      · rintro (h | h)
        · exact .inl ⟨h, hc⟩
        · exact .inr h
      · rintro (⟨h, _⟩ | h)
        · exact .inl h
        · exact .inr h
    · rename_i hc
      constructor
      · exact .inr
      · rintro (⟨_, h⟩ | h)
        · exact absurd h hc
        · exact h
theorem bd_get {C : List Nat} {x : Nat} (h : x ∈ C) : ∃ k, ∃ hk : k < C.length, C[k] = x := by
  obtain ⟨k, hk, e⟩ := List.mem_iff_getElem.1 h
  exact ⟨k, hk, e⟩
theorem bd_mono {C : List Nat} (hC : Tr.Bd C) {i j : Nat} (hij : i ≤ j) (hj : j < C.length) : Tr.frm C i ≤ Tr.frm C j := by
  rcases Nat.lt_or_eq_of_le hij with h | h
  · have := Tr.rising_at hC.1 i j (by omega) hj h
    rw [Tr.frm_in (by omega), Tr.frm_in hj]
    omega
  · subst h; exact Nat.le_refl _
theorem bd_of_mem {C : List Nat} (hC : Tr.Bd C) {x : Nat} (h : x ∈ C) : Tr.frm C (Tr.ofL C x) = x := by
  obtain ⟨k, hk, e⟩ := bd_get h
  have h1 := (hC.of_iff x k hk).2 (by rw [Tr.frm_in hk, e]; exact Nat.le_refl _)
  have h2 := (hC.of_iff x _ (hC.of_le x)).1 (Nat.le_refl _)
  have h3 := bd_mono hC h1 (hC.of_le x)
  rw [Tr.frm_in hk, e] at h3
  omega
theorem bd_too_of {C : List Nat} (hC : Tr.Bd C) (a : Nat) (ha : a < 4294967296) : a ≤ Tr.too C (Tr.ofL C a) := by
  by_cases h : Tr.ofL C a + 1 < C.length
  · have h1 := hC.next h
    have h2 := fun h' => (hC.of_iff a (Tr.ofL C a + 1) h).2 h'
    have : ¬ Tr.frm C (Tr.ofL C a + 1) ≤ a := fun h' => by have := h2 h'; omega
    omega
  · rw [Tr.too_last (by omega)]; omega
theorem bd_too_mem {C : List Nat} (hC : Tr.Bd C) {t : Nat} (ht : t < 4294967296) (h : t + 1 < 4294967296 → t + 1 ∈ C) : Tr.too C (Tr.ofL C t) = t := by
  have h0 := bd_too_of hC t ht
  have h9 := (hC.frm_le (hC.of_le t)).2
  by_cases h1 : t + 1 < 4294967296
  · obtain ⟨k, hk, e⟩ := bd_get (h h1)
    have h2 : ¬ k ≤ Tr.ofL C t := fun h' => by
      have := (hC.of_iff t k hk).1 h'
      rw [Tr.frm_in hk, e] at this
      omega
    have h3 := bd_mono hC (show Tr.ofL C t + 1 ≤ k by omega) hk
    have h4 := hC.next (show Tr.ofL C t + 1 < C.length by omega)
    rw [Tr.frm_in hk, e] at h3
    omega
  · omega
theorem cutZ_starts (R : List (Nat × Nat)) {f t : Nat} (hft : f ≤ t) (ht : t < 4294967296) (x : Nat) : x ∈ (cutZ R f t).map (·.1) ↔ x = f ∨ (x ∈ Tr.bnds R ∧ f < x ∧ x ≤ t) := by
  have hC := Tr.bd_of R
  unfold cutZ
  rw [cutC_starts]
  constructor
  · rintro ⟨i, hi, h1, h2⟩
    by_cases h3 : (Tr.bnds R)[i] ≤ f
    · left; omega
    · right
      have : x = (Tr.bnds R)[i] := by omega
      exact ⟨this ▸ List.getElem_mem hi, by omega, by omega⟩
  · rintro (h | ⟨h1, h2, h3⟩)
    · have h4 := hC.of_le f
      have h5 := (hC.of_iff f _ h4).1 (Nat.le_refl _)
      have h6 := bd_too_of hC f (by omega)
      rw [Tr.frm_in h4] at h5
      unfold Tr.too at h6
      exact ⟨_, h4, by omega, by omega⟩
    · obtain ⟨k, hk, e⟩ := bd_get h1
      have h6 := (hC.frm_le hk).1
      rw [Tr.frm_in hk] at h6
      unfold Tr.too at h6
      exact ⟨k, hk, by omega, by omega⟩
/-- Atoms, from the i-th one on. -/
def segZ (C : List Nat) (i n : Nat) : List (Nat × Nat) := (List.range n).map fun j => (Tr.frm C (i + j), Tr.too C (i + j))
theorem segZ_nil (C : List Nat) (i : Nat) : segZ C i 0 = [] := rfl
theorem segZ_snoc (C : List Nat) (i n : Nat) : segZ C i (n + 1) = segZ C i n ++ [(Tr.frm C (i + n), Tr.too C (i + n))] := by
  unfold segZ
  rw [List.range_succ, List.map_append]
  rfl
theorem segZ_cons (C : List Nat) (i n : Nat) : segZ C i (n + 1) = (Tr.frm C i, Tr.too C i) :: segZ C (i + 1) n := by
  unfold segZ
  rw [List.range_succ_eq_map, List.map_cons, List.map_map]
  congr 1
  exact List.map_congr_left fun j _ => by show (Tr.frm C (i + (j + 1)), Tr.too C (i + (j + 1))) = _; rw [show i + (j + 1) = i + 1 + j by omega]
theorem segZ_len (C : List Nat) (i n : Nat) : (segZ C i n).length = n := by simp [segZ]
theorem segZ_chn {C : List Nat} (hC : Tr.Bd C) : ∀ (n i : Nat), i + n < C.length → Chn (Tr.too C (i + n)) (Tr.frm C i) (segZ C i (n + 1))
  | 0, i, h => by
    rw [segZ_cons, segZ_nil]
    exact ⟨rfl, (hC.frm_le (by omega)).1, rfl⟩
  | n + 1, i, h => by
    have ih := segZ_chn hC n (i + 1) (by omega)
    rw [segZ_cons]
    refine ⟨rfl, (hC.frm_le (by omega)).1, ?_⟩
    have e := hC.next (show i + 1 < C.length by omega)
    rw [show i + (n + 1) = i + 1 + n by omega, ← e]
    exact ih
theorem segZ_starts (C : List Nat) (i n x : Nat) : x ∈ (segZ C i n).map (·.1) ↔ ∃ j, j < n ∧ x = Tr.frm C (i + j) := by
  unfold segZ
  simp only [List.map_map, List.mem_map, List.mem_range, Function.comp_apply]
  constructor
  · rintro ⟨j, h, e⟩; exact ⟨j, h, e.symm⟩
  · rintro ⟨j, h, e⟩; exact ⟨j, h, e.symm⟩
/-- The atoms of a table in a range of its own are that range, cut at the table's boundaries. -/
theorem seg_cut {M R : List (Nat × Nat)} {f t : Nat} (hft : f ≤ t) (ht : t < 4294967296) (hM : ∀ x, x ∈ Tr.ends M ↔ x = f ∨ x = t + 1 ∨ x ∈ Tr.ends R) :
    Tr.ofL (Tr.bnds M) f ≤ Tr.ofL (Tr.bnds M) t ∧ Tr.ofL (Tr.bnds M) t < (Tr.bnds M).length ∧ segZ (Tr.bnds M) (Tr.ofL (Tr.bnds M) f) (Tr.ofL (Tr.bnds M) t + 1 - Tr.ofL (Tr.bnds M) f) = cutZ R f t := by
  have hC := Tr.bd_of M
  have mF : f ∈ Tr.bnds M := (Tr.bnds_mem M f).2 ⟨(hM f).2 (.inl rfl), by omega⟩
  have mT : t + 1 < 4294967296 → t + 1 ∈ Tr.bnds M := fun h => (Tr.bnds_mem M _).2 ⟨(hM _).2 (.inr (.inl rfl)), h⟩
  have e1 := bd_of_mem hC mF
  have e2 := bd_too_mem hC ht mT
  have l1 := hC.of_le f
  have l2 := hC.of_le t
  have l3 : Tr.ofL (Tr.bnds M) f ≤ Tr.ofL (Tr.bnds M) t := (hC.of_iff t _ l1).2 (by omega)
  refine ⟨l3, l2, ?_⟩
  generalize hi : Tr.ofL (Tr.bnds M) f = i at *
  generalize hj : Tr.ofL (Tr.bnds M) t = j at *
  obtain ⟨n, rfl⟩ : ∃ n, j = i + n := ⟨j - i, by omega⟩
  have c1 := segZ_chn hC n i l2
  rw [e1, e2] at c1
  rw [show i + n + 1 - i = n + 1 by omega]
  refine chn_eq c1 (cutZ_chn R hft ht) fun x => ?_
  rw [segZ_starts, cutZ_starts R hft ht]
  constructor
  · rintro ⟨k, hk, rfl⟩
    have h1 := bd_mono hC (show i ≤ i + k by omega) (by omega)
    have h2 := (hC.of_iff t (i + k) (by omega)).1 (by omega)
    by_cases h3 : Tr.frm (Tr.bnds M) (i + k) = f
    · exact .inl h3
    · right
      have h4 : Tr.frm (Tr.bnds M) (i + k) ∈ Tr.bnds M := by rw [Tr.frm_in (show i + k < (Tr.bnds M).length by omega)]; exact List.getElem_mem _
      rw [Tr.bnds_mem, hM] at h4
      refine ⟨(Tr.bnds_mem R _).2 ⟨?_, h4.2⟩, by omega, h2⟩
      rcases h4.1 with h | h | h
      · exact absurd h h3
      · omega
      · exact h
  · rintro (h | ⟨h1, h2, h3⟩)
    · exact ⟨0, by omega, by rw [h, Nat.add_zero, e1]⟩
    · have hm : x ∈ Tr.bnds M := by
        rw [Tr.bnds_mem] at h1 ⊢
        exact ⟨(hM x).2 (.inr (.inr h1.1)), h1.2⟩
      obtain ⟨k, hk, e⟩ := bd_get hm
      have h4 : k ≤ i + n := by rw [← hj]; exact (hC.of_iff t k hk).2 (by rw [Tr.frm_in hk, e]; exact h3)
      have h5 : i ≤ k := Nat.le_of_not_lt fun h => by
        have := bd_mono hC (Nat.le_of_lt h) l1
        rw [Tr.frm_in hk, e, e1] at this
        omega
      exact ⟨k - i, by omega, by rw [show i + (k - i) = k by omega, Tr.frm_in hk, e]⟩
/-- What is picked of the parts. -/
theorem pick_has {p : Nat → Bool} {R : List (Nat × Nat)} (hp : ∀ c a, c ≤ a → Near R c a → p a = p c) {a : Nat} (ha : a < 4294967296) : Zo.has ((cutZ R 0 4294967295).filter fun r => p r.1) a = p a := by
  rw [Bool.eq_iff_iff, Zo.has_iff]
  constructor
  · rintro ⟨r, hr, h1, h2⟩
    obtain ⟨h3, h4⟩ := List.mem_filter.1 hr
    rw [hp r.1 a h1 (cutZ_near (by omega) h3 (Nat.le_refl _) h1 h2)]
    exact h4
  · intro h
    obtain ⟨r, hr, h1, h2⟩ := chn_has (cutZ_chn R (Nat.zero_le _) (by omega)) (Nat.zero_le a) (show a ≤ 4294967295 by omega)
    refine ⟨r, List.mem_filter.2 ⟨hr, ?_⟩, h1, h2⟩
    rw [← hp r.1 a h1 (cutZ_near (by omega) hr (Nat.le_refl _) h1 h2)]
    exact h
theorem cutZ_in {R : List (Nat × Nat)} {f t : Nat} {x : Nat × Nat} (h : x ∈ cutZ R f t) : x.1 ≤ x.2 ∧ f ≤ x.1 ∧ x.2 ≤ t := by
  obtain ⟨_, _, _, _, _, h1, h2, h3⟩ := cutC_mem h
  exact ⟨h1, h2, h3⟩
/-- What a table has behind a range that it may refuse, and behind several. -/
def addM (M : List (Nat × Nat)) (r : Nat × Nat) : List (Nat × Nat) := if r.1 ≤ r.2 ∧ M.length < 500 then M ++ [r] else M
def addAll (M L : List (Nat × Nat)) : List (Nat × Nat) := L.foldl addM M
theorem addAll_snoc (M L : List (Nat × Nat)) (r : Nat × Nat) : addAll M (L ++ [r]) = addM (addAll M L) r := by simp [addAll]
theorem addM_in {M : List (Nat × Nat)} {r x : Nat × Nat} (h : x ∈ M) : x ∈ addM M r := by unfold addM; split <;> simp [h]
theorem addAll_in {M : List (Nat × Nat)} : ∀ {L : List (Nat × Nat)} {x : Nat × Nat}, x ∈ M → x ∈ addAll M L
  | L, x, h => by
    unfold addAll
    induction L generalizing M with
    | nil => exact h
    | cons r L ih => exact ih (addM_in h)
theorem addAll_app (M L K : List (Nat × Nat)) : addAll M (L ++ K) = addAll (addAll M L) K := by simp [addAll]
theorem addM_rl {M : List (Nat × Nat)} (h : Tr.RL M) {r : Nat × Nat} (hr : r.2 < 4294967296) : Tr.RL (addM M r) := by
  unfold addM
  split
  · rename_i hc; exact h.snoc hc.1 hr hc.2
  · exact h
theorem addAll_rl {M : List (Nat × Nat)} (h : Tr.RL M) {L : List (Nat × Nat)} (hL : ∀ r ∈ L, r.2 < 4294967296) : Tr.RL (addAll M L) := by
  unfold addAll
  induction L generalizing M with
  | nil => exact h
  | cons r L ih => exact ih (addM_rl h (hL r (by simp))) fun q hq => hL q (by simp [hq])
theorem addAll_ok {M : List (Nat × Nat)} {L : List (Nat × Nat)} (h : ∀ r ∈ L, r.1 ≤ r.2) (hl : M.length + L.length ≤ 500) : addAll M L = M ++ L := by
  unfold addAll
  induction L generalizing M with
  | nil => simp
  | cons r L ih =>
    rw [List.foldl_cons, show addM M r = M ++ [r] by unfold addM; rw [if_pos ⟨h r (by simp), by simp at hl; omega⟩], ih (fun q hq => h q (by simp [hq])) (by simp at hl ⊢; omega)]
    simp
theorem ends_one (r : Nat × Nat) (R : List (Nat × Nat)) (x : Nat) : x ∈ Tr.ends (r :: R) ↔ x = r.1 ∨ x = r.2 + 1 ∨ x ∈ Tr.ends R := by
  rw [Tr.mem_ends, Tr.mem_ends]
  simp only [List.mem_cons, exists_eq_or_imp]
  constructor
  · rintro (h | (h | h) | h)
    · exact .inr (.inr (.inl h))
    · exact .inl h
    · exact .inr (.inl h)
    · exact .inr (.inr (.inr h))
  · rintro (h | h | h | h)
    · exact .inr (.inl (.inl h))
    · exact .inr (.inl (.inr h))
    · exact .inl h
    · exact .inr (.inr h)
theorem ends_own {r : Nat × Nat} {R : List (Nat × Nat)} (h : r ∈ R) (x : Nat) : x ∈ Tr.ends R ↔ x = r.1 ∨ x = r.2 + 1 ∨ x ∈ Tr.ends R := by
  constructor
  · exact fun h => .inr (.inr h)
  · rintro (e | e | e)
    · exact Tr.mem_ends.2 (.inr ⟨r, h, .inl e⟩)
    · exact Tr.mem_ends.2 (.inr ⟨r, h, .inr e⟩)
    · exact e
end Go.Proofs.YteboadppighplaaGreat
/- Contracts: a node's count, height and pair; the nodes at a key, around it, and at a place. -/
namespace Go.Proofs.YteboadppighplaaGreat.Tr
open Go.RowKit

theorem count_any {v : Value} (t : Bt) (w : World) (h : IsT w v t) : Calls Tryz.prog 112 #[v] w fun e w' => e = .returned (.int .i64 (t.size : Int)) ∧ w = w' := by
  cases t with
  | nil =>
    obtain rfl : v = .pointer none := h
    go_enter Tryz.func112, Tryz.ntmps112
    go_wp2
    go_ret
    exact ⟨rfl, rfl⟩
  | node l x r =>
    obtain ⟨B, vl, vr, rfl, ha, _, _⟩ := h
    have c4 := (ha.cell 4).trans rfl
    clear ha
    go_enter Tryz.func112, Tryz.ntmps112
    go_wp2
    go_ret
    exact ⟨rfl, rfl⟩
theorem high_any {v : Value} (t : Bt) (w : World) (h : IsT w v t) : Calls Tryz.prog 127 #[v] w fun e w' => e = .returned (.int .i64 (t.ht : Int)) ∧ w = w' := by
  cases t with
  | nil =>
    obtain rfl : v = .pointer none := h
    go_enter Tryz.func127, Tryz.ntmps127
    go_wp2
    go_ret
    exact ⟨rfl, rfl⟩
  | node l x r =>
    obtain ⟨B, vl, vr, rfl, ha, _, _⟩ := h
    have c5 := (ha.cell 5).trans rfl
    clear ha
    go_enter Tryz.func127, Tryz.ntmps127
    go_wp2
    go_ret
    exact ⟨rfl, rfl⟩
/-- A pair, or none. -/
def toldV : Option (Int × Int) → Value
  | none => .tuple #[.agg #[.int .u64 0, .int .i64 0], .bool false]
  | some x => .tuple #[.agg #[.int .u64 x.1, .int .i64 x.2], .bool true]
theorem told_any {v : Value} (o : Option (Int × Int)) (w : World) (h : AtN w v o) : Calls Tryz.prog 97 #[v] w fun e w' => e = .returned (toldV o) ∧ Below w.heap.size w w' := by
  cases o with
  | none =>
    obtain rfl : v = .pointer none := h
    go_enter Tryz.func97, Tryz.ntmps97
    go_wp2
    refine bodyPost_ret (v := toldV none) (by simp [results, Tryz.results97, go_sem, toldV]) rfl ⟨rfl, ?_⟩
    exact (Below.refl _ w).alloc (Nat.le_refl _) _
  | some x =>
    obtain ⟨B, a, b, c, d, rfl, ha⟩ := h
    have hB := ha.lt
    have c0 := (ha.cell 0).trans rfl
    have c1 := (ha.cell 1).trans rfl
    clear ha
    go_enter Tryz.func97, Tryz.ntmps97
    go_wp2
    refine bodyPost_ret (v := toldV (some x)) (by simp [results, Tryz.results97, go_sem, toldV]) rfl ⟨rfl, ?_⟩
    exact (Below.refl _ w).alloc (Nat.le_refl _) _

set_option maxRecDepth 100000 in
theorem find_any {v : Value} (t : Bt) (k : Int) (w : World) (h : IsT w v t) (hu : Up t.flat) : Calls Tryz.prog 126 #[v, .int .u64 k] w fun e w' => ∃ v', e = .returned v' ∧ AtN w v' (getL t.flat k) ∧ w = w' := by
  obtain ⟨p, rfl⟩ := h.ptr
  go_enter Tryz.func126, Tryz.ntmps126
  go_wp2
  go_loopg [0] t.size (fun gk q wr => ∃ s : Bt, gk = s.size ∧ Hid (IsT w q s ∧ Up s.flat ∧ getL s.flat k = getL t.flat k) ∧ w = wr)
  case atStart => exact ⟨t, rfl, Lib.hid ⟨h, hu, rfl⟩, rfl⟩
  case round =>
    obtain ⟨s, rfl, HS, rfl⟩ := hrel
    obtain ⟨hs, us, es⟩ := HS.out
    have HE := Lib.hid es
    have HU := Lib.hid us
    clear es us hu h HS
    cases s with
    | nil =>
      obtain rfl := hs
      go_wp2
      go_ret
      exact ⟨_, rfl, by rw [← HE.out]; rfl, rfl⟩
    | node l x r =>
      obtain ⟨B, vl, vr, rfl, ha, hl, hr⟩ := hs
      have HL := Lib.hid hl
      have HR := Lib.hid hr
      have HA := Lib.hid ha
      have c0 := (ha.cell 0).trans rfl
      have c2 := (ha.cell 2).trans rfl
      have c3 := (ha.cell 3).trans rfl
      obtain ⟨pl, rfl⟩ := hl.ptr
      obtain ⟨pr, rfl⟩ := hr.ptr
      clear ha hl hr
      rcases Int.lt_trichotomy k x.1 with hk | hk | hk
      · have d1 : (x.1 != k) = true := by simp; omega
        go_wp2
        go_roundg l.size
        case measure => simp only [Bt.size]; omega
        case rel => exact ⟨l, rfl, Lib.hid ⟨HL.out, HU.out.node.1, by rw [← HE.out]; exact (get_left HU.out hk).symm⟩, rfl⟩
      · subst hk
        go_wp2
        go_ret
        exact ⟨_, rfl, by rw [← HE.out]; rw [show (Bt.node l x r).flat = l.flat ++ x :: r.flat from rfl, get_at HU.out]; exact ⟨B, _, _, _, _, rfl, HA.out⟩, rfl⟩
      · have d1 : (x.1 != k) = true := by simp; omega
        go_wp2
        go_roundg r.size
        case measure => simp only [Bt.size]; omega
        case rel => exact ⟨r, rfl, Lib.hid ⟨HR.out, HU.out.node.2.1, by rw [← HE.out]; exact (get_right HU.out hk).symm⟩, rfl⟩

set_option maxRecDepth 100000 in
theorem place_any {v : Value} (t : Bt) (i : Int) (w : World) (h : IsT w v t) (hi1 : -9223372036854775808 ≤ i) (hi2 : i ≤ 9223372036854775807) (hz : t.size ≤ 1000000) : Calls Tryz.prog 96 #[v, .int .i64 i] w fun e w' => ∃ v', e = .returned v' ∧ AtN w v' (atL t.flat i) ∧ w = w' := by
  obtain ⟨p, rfl⟩ := h.ptr
  go_enter Tryz.func96, Tryz.ntmps96
  go_wp2
  go_loopg [0, 1] t.size (fun gk q b wr => ∃ (s : Bt) (j : Int), b = .int .i64 j ∧ gk = s.size ∧ s.size ≤ 1000000 ∧ -9223372036854775808 ≤ j ∧ j ≤ 9223372036854775807 ∧ Hid (IsT w q s ∧ atL s.flat j = atL t.flat i) ∧ w = wr)
  case atStart => exact ⟨t, i, rfl, rfl, hz, hi1, hi2, Lib.hid ⟨h, rfl⟩, rfl⟩
  case round =>
    obtain ⟨s, j, rfl, rfl, hsz, hj1, hj2, HS, rfl⟩ := hrel
    obtain ⟨hs, es⟩ := HS.out
    have HE := Lib.hid es
    clear es h HS
    cases s with
    | nil =>
      obtain rfl := hs
      go_wp2
      go_ret
      exact ⟨_, rfl, by rw [← HE.out, show (Bt.nil).flat = [] from rfl, at_nil]; rfl, rfl⟩
    | node l x r =>
      obtain ⟨B, vl, vr, rfl, ha, hl, hr⟩ := hs
      have HL := Lib.hid hl
      have HR := Lib.hid hr
      have HA := Lib.hid ha
      have c2 := (ha.cell 2).trans rfl
      have c3 := (ha.cell 3).trans rfl
      obtain ⟨pl, rfl⟩ := hl.ptr
      obtain ⟨pr, rfl⟩ := hr.ptr
      clear ha hl hr
      simp only [Bt.size] at hsz
      have hfl : (l.flat.length : Int) = l.size := by rw [l.flat_len]
      have HF := Lib.hid hfl
      clear hfl
      rcases Int.lt_trichotomy j l.size with hk | hk | hk
      · have d1 : (j != (l.size : Int)) = true := by simp; omega
        go_wp2_with (go_at_call 112; refine (count_any _ _ HL.out).mono ?_; rintro e w1 ⟨rfl, rfl⟩)
        go_roundg l.size
        case measure => simp only [Bt.size]; omega
        case rel => exact ⟨l, j, rfl, rfl, by omega, hj1, hj2, Lib.hid ⟨HL.out, by rw [← HE.out]; exact (at_left (by rw [HF.out]; exact hk)).symm⟩, rfl⟩
      · have d1 : (j != (l.size : Int)) = false := by simp; omega
        have HK := Lib.hid hk
        clear hk
        go_wp2_with (go_at_call 112; refine (count_any _ _ HL.out).mono ?_; rintro e w1 ⟨rfl, rfl⟩)
        go_ret
        refine ⟨_, rfl, ?_, rfl⟩
        rw [← HE.out, HK.out, ← HF.out, show (Bt.node l x r).flat = l.flat ++ x :: r.flat from rfl, at_mid]
        exact ⟨B, _, _, _, _, rfl, HA.out⟩
      · have d1 : (j != (l.size : Int)) = true := by simp; omega
        go_wp2_with (go_at_call 112; refine (count_any _ _ HL.out).mono ?_; rintro e w1 ⟨rfl, rfl⟩)
        go_roundg r.size
        case measure => simp only [Bt.size]; omega
        case rel => exact ⟨r, j - (l.size + 1), rfl, rfl, by omega, by omega, by omega, Lib.hid ⟨HR.out, by rw [← HE.out, show (Bt.node l x r).flat = l.flat ++ x :: r.flat from rfl, at_right (by rw [HF.out]; exact hk), HF.out]⟩, rfl⟩
end Go.Proofs.YteboadppighplaaGreat.Tr
/- Contracts: bare. -/
namespace Go.Proofs.YteboadppighplaaGreat.Tr
open Go.RowKit

/-- A pair as a value. -/
abbrev pv (x : Int × Int) : Value := .agg #[.int .u64 x.1, .int .i64 x.2]
/-- A node that is made of two trees. -/
def Made (w : World) (t : Bt) (e : Ending) (w' : World) : Prop := ∃ v', e = .returned v' ∧ IsT w' v' t ∧ Below w.heap.size w w'
theorem made_node {w W : World} {B : Nat} {vl vr : Value} {l r : Bt} {x : Int × Int} {a b : Int} (hb : Below w.heap.size w W) (ha : At W B #[.int .u64 x.1, .int .i64 x.2, vl, vr, .int .i64 a, .int .i64 b] 170)
    (e1 : a = ((l.size + 1 + r.size : Nat) : Int)) (e2 : b = ((max l.ht r.ht + 1 : Nat) : Int)) (hl : ∀ W, Below w.heap.size w W → IsT W vl l) (hr : ∀ W, Below w.heap.size w W → IsT W vr r) : Made w (.node l x r) (.returned (.pointer (some ⟨B, 0, none⟩))) W := by
  subst e1 e2
  exact ⟨_, rfl, ⟨B, vl, vr, rfl, ha, hl W hb, hr W hb⟩, hb⟩
set_option maxRecDepth 100000 in
set_option maxHeartbeats 2000000 in
theorem bare_any {vl vr : Value} (l r : Bt) (x : Int × Int) (w : World) (hl : IsT w vl l) (hr : IsT w vr r) (hz : l.size + r.size ≤ 1000000) :
    Calls Tryz.prog 129 #[vl, pv x, vr] w (Made w (.node l x r)) := by
  obtain ⟨pl, rfl⟩ := hl.ptr
  obtain ⟨pr, rfl⟩ := hr.ptr
  have HL : Hid (∀ W, Below w.heap.size w W → IsT W (.pointer pl) l) := Lib.hid fun W hW => hl.belows hW
  have HR : Hid (∀ W, Below w.heap.size w W → IsT W (.pointer pr) r) := Lib.hid fun W hW => hr.belows hW
  clear hl hr
  have z1 := l.ht_size
  have z2 := r.ht_size
  have hb0 : Below w.heap.size w (w.alloc (.cells #[.int .u64 x.1, .int .i64 x.2] 119)) := (Below.refl _ w).alloc (Nat.le_refl _) _
  have j1 : IntKind.i64.wrap ((l.size : Int) + 1) = (l.size : Int) + 1 := IntWalk.i64_in _ (by omega)
  have j2 : IntKind.i64.wrap ((l.size : Int) + 1 + (r.size : Int)) = (l.size : Int) + 1 + (r.size : Int) := IntWalk.i64_in _ (by omega)
  have j3 : IntKind.i64.wrap ((l.ht : Int) + 1) = (l.ht : Int) + 1 := IntWalk.i64_in _ (by omega)
  have j4 : IntKind.i64.wrap ((r.ht : Int) + 1) = (r.ht : Int) + 1 := IntWalk.i64_in _ (by omega)
  have j5 : IntKind.i64.wrap (max (l.ht : Int) (r.ht : Int) + 1) = max (l.ht : Int) (r.ht : Int) + 1 := IntWalk.i64_in _ (by omega)
  go_enter Tryz.func129, Tryz.ntmps129
  go_wp2
  go_region_held3 (fun w' => w'.cell? ⟨w.heap.size, 0, none⟩ = some (.int .u64 x.1) ∧ w'.cell? ⟨w.heap.size, 1, none⟩ = some (.int .i64 x.2)) (first | go_keep) (first
    | (go_at_call_of 112 pl; refine (count_any l _ (HL.out _ (by first | exact hb0.drew | exact hb0))).mono ?_; rintro e w2 ⟨rfl, rfl⟩)
    | (go_at_call_of 112 pr; refine (count_any r _ (HR.out _ (by first | exact hb0.drew | exact hb0))).mono ?_; rintro e w2 ⟨rfl, rfl⟩)
    | (go_at_call_of 127 pl; refine (high_any l _ (HL.out _ (by first | exact hb0.drew | exact hb0))).mono ?_; rintro e w2 ⟨rfl, rfl⟩)
    | (go_at_call_of 127 pr; refine (high_any r _ (HR.out _ (by first | exact hb0.drew | exact hb0))).mono ?_; rintro e w2 ⟨rfl, rfl⟩))
  all_goals
    rename_i hHeld
    clear hHeld
    go_wp2
    all_goals
      go_ret
      exact made_node (((hb0.alloc hb0.size _).drew)) (At.drew (At.new1 w _ _ 170)) (by omega) (by omega) HL.out HR.out
end Go.Proofs.YteboadppighplaaGreat.Tr
