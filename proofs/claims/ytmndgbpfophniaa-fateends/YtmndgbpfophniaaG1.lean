/- The laws' own words (stage 9): the program's calls, as the chapter asks them; Net, alive, Fits. -/
import Derived.Test.YtmndgbpfophniaaF10
namespace Go.Proofs.Ytmndgbpfophniaa
open Go.RowKit Go.Shelf

/-- An error's answer. -/
def TrNo (w : World) (e : Ending) (w' : World) : Prop := ∃ A c, c ≤ maxLen ∧ e = .returned (.tuple #[.agg #[.slice A 0 c, .int .i64 0, .int .i64 0, .int .i64 0], .int .i64 91]) ∧ Below w.heap.size w w'
/-- Any answer. -/
def TrAny (w : World) (e : Ending) (w' : World) : Prop := ∃ A n c f pd pp er, e = .returned (.tuple #[.agg #[.slice A n c, .int .i64 f, .int .i64 pd, .int .i64 pp], .int .i64 er]) ∧ Below w.heap.size w w'
/-- Is this the trace of a packet, from its first device on? -/
def genT (ps : List Int) (ls : List Lk) (L : List Ru) (a : Nat) (x : Tc) : Bool := match x.ds with
  | [] => false
  | d :: _ => decide (inD ps d) && decide (trcN ps ls L a d = x)
structure TcW (x : Tc) : Prop where
  ds : ∀ y ∈ x.ds, isI y
  ft : isI x.ft
  out : isPt x.out
/-- The program's calls. -/
structure Own9 : Prop where
  right : ∀ {vp vl vr : Value} (ps : List Int) (ls : List Lk) (L : List Ru) (w : World), NW ps ls L → IsN w vp vl vr ps ls L → Calls Try.prog 9 #[.agg #[vp, vl, vr]] w fun e w' => e = .returned (.bool (rightN ps ls L)) ∧ Below w.heap.size w w'
  step : ∀ {vp vl vr : Value} (ps : List Int) (ls : List Lk) (L : List Ru) (d : Int) (a : Nat) (w : World), RN ps ls L → NW ps ls L → inD ps d → a < 4294967296 → IsN w vp vl vr ps ls L → Calls Try.prog 13 #[.agg #[vp, vl, vr], .int .i64 d, .int .u32 a] w fun e w' => e = .returned (stepV (stepN ls L d a)) ∧ Below w.heap.size w w'
  trace : ∀ {vp vl vr : Value} (ps : List Int) (ls : List Lk) (L : List Ru) (d : Int) (a : Nat) (w : World), RN ps ls L → NW ps ls L → isI d → a < 4294967296 → IsN w vp vl vr ps ls L → Calls Try.prog 10 #[.agg #[vp, vl, vr], .int .i64 d, .int .u32 a] w fun e w' => (inD ps d ∧ TrOut (trcN ps ls L a d) w e w') ∨ (¬ inD ps d ∧ TrNo w e w')
  traceAny : ∀ {vp vl vr : Value} (ps : List Int) (ls : List Lk) (L : List Ru) (d : Int) (a : Nat) (w : World), NW ps ls L → isI d → a < 4294967296 → IsN w vp vl vr ps ls L → Calls Try.prog 10 #[.agg #[vp, vl, vr], .int .i64 d, .int .u32 a] w (TrAny w)
  genuine : ∀ {vp vl vr v : Value} (ps : List Int) (ls : List Lk) (L : List Ru) (a : Nat) (x : Tc) (w : World), RN ps ls L → NW ps ls L → a < 4294967296 → TcW x → IsN w vp vl vr ps ls L → IsF 1 intA w v x.ds → Calls Try.prog 15 #[.agg #[vp, vl, vr], .int .u32 a, tcV v x] w fun e w' => e = .returned (.bool (genT ps ls L a x)) ∧ Below w.heap.size w w'
  same : ∀ {v1 v2 : Value} (x y : Tc) (w : World), TcW x → TcW y → IsF 1 intA w v1 x.ds → IsF 1 intA w v2 y.ds → Calls Try.prog 16 #[tcV v1 x, tcV v2 y] w fun e w' => e = .returned (.bool (decide (x = y))) ∧ Below w.heap.size w w'

/-! The network of three devices. -/
def netP : List Int := [2, 3, 2]
def netK : List Lk := [⟨⟨0, 1⟩, ⟨1, 0⟩⟩, ⟨⟨1, 1⟩, ⟨2, 0⟩⟩]
def netR : List Ru := [⟨1, 0, 0, 0, 0, 99, 1⟩, ⟨2, 1, 0, 0, 0, 49, 1⟩, ⟨3, 1, 0, 0, 50, 59, 0⟩, ⟨4, 2, 0, 0, 0, 29, 1⟩, ⟨5, 2, 0, 3, 20, 24, 0⟩]
theorem net_right : RN netP netK netR := (rightN_iff _ _ _).1 (by decide +kernel)
theorem net_w : NW netP netK netR := ⟨⟨by simp [netP, isI], by simp [netK, isPt, isI]⟩, by simp [netR, Ru.wf, isI], by simp [netR]⟩
theorem net_10 : trcN netP netK netR 10 0 = ⟨[0, 1, 2], 3, ⟨2, 1⟩⟩ := by decide +kernel
theorem net_55 : trcN netP netK netR 55 0 = ⟨[0, 1, 0], 4, ⟨0, 0⟩⟩ := by decide +kernel
theorem net_22 : trcN netP netK netR 22 0 = ⟨[0, 1, 2], 2, ⟨0, 0⟩⟩ := by decide +kernel
theorem isR_of_at {w : World} {B c : Nat} {L : List Ru} {cs : Array Value} {T : TypeId} (h : At w B cs T) (hc : cs.toList = rcs L) (h1 : L.length ≤ c) (h2 : c ≤ maxLen) : IsR w (.slice (some ⟨B, 0, none⟩) L.length c) L := by
  refine ⟨_, c, rfl, h1, h2, fun _ => ⟨B, 0, rfl, h.lt, fun k hk j hj => ?_⟩⟩
  rw [Nat.zero_add, h.cell, ← Array.getElem?_toList, hc, rcs_at L k j hk hj]
theorem At.new4 (W : World) (o1 o2 o3 o4 : Obj) (cs : Array Value) (t : TypeId) : At (((((W.alloc o1).alloc o2).alloc o3).alloc o4).alloc (.cells cs t)) (W.heap.size + 1 + 1 + 1 + 1) cs t := by
  have := At.new2 ((W.alloc o1).alloc o2) o3 o4 cs t
  rwa [show ((W.alloc o1).alloc o2).heap.size = W.heap.size + 1 + 1 by simp] at this
def NetOut (w : World) (e : Ending) (w' : World) : Prop := ∃ A1 c1 A2 c2 A3 c3, e = .returned (.agg #[.slice A1 3 c1, .slice A2 2 c2, .slice A3 5 c3]) ∧ IsN w' (.slice A1 3 c1) (.slice A2 2 c2) (.slice A3 5 c3) netP netK netR ∧ Below w.heap.size w w'
set_option maxRecDepth 100000 in
set_option maxHeartbeats 2000000 in
theorem net_any (w : World) : Calls Try.prog 20 #[] w (NetOut w) := by
  go_enter Try.func20, Try.ntmps20
  go_wp2
  refine bodyPost_ret (results_cell_row rfl _ _ w.heap.size 28 _ (0, 0) _ rfl (((((At.new w _ _).alloc _).alloc _).alloc _).alloc _) Try.underlying28 rfl (by kernel_rfl)) rfl ?_
  refine ⟨_, _, _, _, _, _, rfl, ⟨⟨isF_of_at intA_size (L := netP) (c := 3) ((((At.new1 w _ _ _).alloc _).alloc _).alloc _) rfl (by decide) (by decide), isF_of_at lkA_size (L := netK) (c := 2) (((At.new2 w _ _ _ _).alloc _).alloc _) rfl (by decide) (by decide)⟩, isR_of_at (L := netR) (c := 5) (At.new4 w _ _ _ _ _ _) rfl (by decide) (by decide)⟩, ?_⟩
  exact (((((Below.refl _ _).alloc (Nat.le_refl _) _).alloc (by simp) _).alloc (by simp; omega) _).alloc (by simp; omega) _).alloc (by simp; omega) _
set_option maxRecDepth 100000 in
set_option maxHeartbeats 2000000 in
/-- Fits: right. -/
theorem lfits9_any {vp vl vr : Value} (ps : List Int) (ls : List Lk) (L : List Ru) (w : World) (hW : NW ps ls L) (h : IsN w vp vl vr ps ls L) : Calls Try.prog 17 #[.agg #[vp, vl, vr]] w fun e w' => e = .returned (.bool (rightN ps ls L)) ∧ Below w.heap.size w w' := by
  have b0 : Below w.heap.size w (w.alloc (.cells #[vp, vl, vr] 28)) := (Below.refl _ w).alloc (Nat.le_refl _) _
  have k1 := rrightN_any ps ls L _ hW (h.belows b0)
  obtain ⟨V, hV⟩ : ∃ V, V = rightN ps ls L := ⟨_, rfl⟩
  have HS : Hid (¬ (ps.length ≤ 20 ∧ ls.length ≤ 40 ∧ L.length ≤ 60) → V = false) := Lib.hid fun hn => by
    rw [hV]
    cases hr : rightN ps ls L with
    | false => rfl
    | true =>
      have hR := (rightN_iff ps ls L).1 hr
      have h1 := hR.topo.n8
      have h2 := hR.topo.l16
      have h3 := ((allB_iff L).1 hR.rules).1
      exact absurd ⟨by omega, by omega, by omega⟩ hn
  rw [← hV] at k1 ⊢
  clear hV
  obtain ⟨⟨⟨A1, c1, rfl, n1, m1, _⟩, ⟨A2, c2, rfl, n2, m2, _⟩⟩, ⟨A3, c3, rfl, n3, m3, _⟩⟩ := h
  have hM1 : ps.length ≤ 9223372036854775807 := Nat.le_trans n1 m1
  have hM2 : ls.length ≤ 9223372036854775807 := Nat.le_trans n2 m2
  have hM3 : L.length ≤ 9223372036854775807 := Nat.le_trans n3 m3
  have D0 := At.new w #[.slice A1 ps.length c1, .slice A2 ls.length c2, .slice A3 L.length c3] 28
  clear hW
  go_enter Try.func17, Try.ntmps17
  go_upto_region 1 with (fail)
  obtain ⟨w0, hw0⟩ : ∃ w0, w0 = w.alloc (.cells #[.slice A1 ps.length c1, .slice A2 ls.length c2, .slice A3 L.length c3] 28) := ⟨_, rfl⟩
  rw [← hw0] at D0 b0 k1 ⊢
  clear hw0
  have x0 := (D0.cell 0).trans rfl
  have x1 := (D0.cell 1).trans rfl
  have x2 := (D0.cell 2).trans rfl
  by_cases h1 : 20 < ps.length
  · have hf := HS.out (by omega)
    subst hf
    have e1 : decide ((20 : Int) < (ps.length : Int)) = true := decide_eq_true (by omega)
    clear k1
    go_wp2
    go_ret
    exact ⟨rfl, b0⟩
  have e1 : decide ((20 : Int) < (ps.length : Int)) = false := decide_eq_false (by omega)
  by_cases h2 : 40 < ls.length
  · have hf := HS.out (by omega)
    subst hf
    have e2 : decide ((40 : Int) < (ls.length : Int)) = true := decide_eq_true (by omega)
    clear k1
    go_wp2
    go_ret
    exact ⟨rfl, b0⟩
  have e2 : decide ((40 : Int) < (ls.length : Int)) = false := decide_eq_false (by omega)
  by_cases h3 : 60 < L.length
  · have hf := HS.out (by omega)
    subst hf
    have e3 : decide ((60 : Int) < (L.length : Int)) = true := decide_eq_true (by omega)
    clear k1
    go_wp2
    go_ret
    exact ⟨rfl, b0⟩
  have e3 : decide ((60 : Int) < (L.length : Int)) = false := decide_eq_false (by omega)
  clear h1 h2 h3
  go_wp2_with fail
  refine k1.mono ?_
  rintro e w1 ⟨rfl, b1⟩
  go_wp2
  go_ret
  exact ⟨rfl, b0.trans (b1.mono b0.size)⟩
end Go.Proofs.Ytmndgbpfophniaa
