/- Contract: fate.Trace, of any network. -/
import Derived.Test.YtmndgbpfophniaaFD
import Derived.Test.YtmndgbpfophniaaFC
import Derived.Test.YtmndgbpfophniaaF10
import Derived.Test.YtmndgbpfophniaaG1
namespace Go.Proofs.Ytmndgbpfophniaa
open Go.RowKit Go.Shelf
attribute [local go_sem] Oper.semAt_some
attribute [local go_sem] wide_fn

/-- Where Trace's loop stands: the network's box, the result's two, the devices' box, the iterator's three; the row of devices. -/
structure TrJ (A1 A2 A3 : Option Addr) (c1 c2 c3 : Nat) (ps : List Int) (ls : List Lk) (L : List Ru) (a : Nat) (d : Int) (w : World) (s : List Int) (W : World) : Prop where
  net : At W w.heap.size #[.slice A1 ps.length c1, .slice A2 ls.length c2, .slice A3 L.length c3] 28
  res : At W (w.heap.size + 1) #[.slice none 0 0, .int .i64 0, .int .i64 0, .int .i64 0] 36
  err : At W (w.heap.size + 1 + 1) #[.int .i64 0] 37
  bn : At W (w.heap.size + 1 + 1 + 1 + 1) #[.slice A1 ps.length c1, .slice A2 ls.length c2, .slice A3 L.length c3] 28
  bd : At W (w.heap.size + 1 + 1 + 1 + 1 + 1) #[.int .i64 d] 3
  ba : At W (w.heap.size + 1 + 1 + 1 + 1 + 1 + 1) #[.int .u32 a] 29
  came : ∃ v, At W (w.heap.size + 1 + 1 + 1) #[v] 22 ∧ W.ownsRow (w.heap.size + 1 + 1 + 1 + 1 + 1 + 1 + 1) 3 1 v s.length (fcs intA s)
  bel : Below w.heap.size w W
  sz : w.heap.size + 1 + 1 + 1 + 1 + 1 + 1 + 1 ≤ W.heap.size
  eq : s = dvs ls L a d s.length
  nd : s.Nodup
  go : goes ls L a d (s.length - 1)
/-- Where a round has answered. -/
structure TrX (ps : List Int) (ls : List Lk) (L : List Ru) (a : Nat) (d : Int) (w : World) (s : List Int) (W : World) : Prop where
  res : ∃ v, At W (w.heap.size + 1) #[v, .int .i64 4, .int .i64 0, .int .i64 0] 36 ∧ W.ownsRow (w.heap.size + 1 + 1 + 1 + 1 + 1 + 1 + 1) 3 1 v s.length (fcs intA s)
  err : At W (w.heap.size + 1 + 1) #[.int .i64 0] 37
  bel : Below w.heap.size w W
  val : trcA ps ls L a d = ⟨s, 4, ⟨0, 0⟩⟩
  pos : 0 < s.length
theorem at_from {W W' : World} {n B : Nat} {cs : Array Value} {t : TypeId} {row : Option Nat} (h : At W B cs t) (hg : W.grownBy W' row) (hr : ∀ r, row = some r → n ≤ r ∧ ∃ o : Obj, W.heap[r]? = some o ∧ o.isCells = false) : At W' B cs t :=
  h.kept hg fun e => by obtain ⟨_, o, ho, hc⟩ := hr B e.symm; rw [show W.heap[B]? = _ from h] at ho; cases ho; cases hc
theorem row_from {W W' : World} {n base size k : Nat} {e : TypeId} {v : Value} {xs : List Value} {row : Option Nat} (h : W.ownsRow base e size v k xs) (hg : W.grownBy W' row) (hr : ∀ r, row = some r → n ≤ r ∧ ∃ o : Obj, W.heap[r]? = some o ∧ o.isCells = false) : W'.ownsRow base e size v k xs := by
  refine h.kept hg ?_
  rcases h.2 with ⟨rfl, _⟩ | ⟨g, cap, cur, rfl, _, hgb, _⟩
  · exact .inl rfl
  · refine .inr fun e' => ?_
    obtain ⟨_, o, ho, hc⟩ := hr g e'.symm
    rw [hgb] at ho; cases ho; cases hc
theorem below_from {B n : Nat} {w W W' : World} {row : Option Nat} (h : Below B w W) (hB : B ≤ W.heap.size) (hn : B ≤ n) (hg : W.grownBy W' row) (hr : ∀ r, row = some r → n ≤ r ∧ ∃ o : Obj, W.heap[r]? = some o ∧ o.isCells = false) : Below B w W' :=
  h.grown hg hB fun k hk => Nat.le_trans hn (hr k hk).1
theorem trj_own {A1 A2 A3 : Option Addr} {c1 c2 c3 : Nat} {ps : List Int} {ls : List Lk} {L : List Ru} {a : Nat} {d : Int} {w : World} {n : Nat} (hn : w.heap.size ≤ n) : OwnFrom n (TrJ A1 A2 A3 c1 c2 c3 ps ls L a d w) := fun _ _ _ _ h hg hr =>
  ⟨at_from h.net hg hr, at_from h.res hg hr, at_from h.err hg hr, at_from h.bn hg hr, at_from h.bd hg hr, at_from h.ba hg hr, by obtain ⟨v, h1, h2⟩ := h.came; exact ⟨v, at_from h1 hg hr, row_from h2 hg hr⟩, below_from h.bel h.bel.size hn hg hr, Nat.le_trans h.sz hg.size, h.eq, h.nd, h.go⟩
theorem trx_own {ps : List Int} {ls : List Lk} {L : List Ru} {a : Nat} {d : Int} {w : World} {n : Nat} (hn : w.heap.size ≤ n) : OwnFrom n (TrX ps ls L a d w) := fun _ _ _ _ h hg hr =>
  ⟨by obtain ⟨v, h1, h2⟩ := h.res; exact ⟨v, at_from h1 hg hr, row_from h2 hg hr⟩, at_from h.err hg hr, below_from h.bel h.bel.size hn hg hr, h.val, h.pos⟩
theorem TrJ.dvc {A1 A2 A3 : Option Addr} {c1 c2 c3 : Nat} {ps : List Int} {ls : List Lk} {L : List Ru} {a : Nat} {d : Int} {w W : World} {s : List Int} (h : TrJ A1 A2 A3 c1 c2 c3 ps ls L a d w s W) (hN : IsN w (.slice A1 ps.length c1) (.slice A2 ls.length c2) (.slice A3 L.length c3) ps ls L) :
    DvC (.slice A1 ps.length c1) (.slice A2 ls.length c2) (.slice A3 L.length c3) ps ls L a d (w.heap.size + 1 + 1 + 1 + 1) (w.heap.size + 1 + 1 + 1) s W := by
  obtain ⟨v, hv, hrow⟩ := h.came
  refine ⟨h.bn, h.bd, h.ba, hN.belows h.bel, ?_, hv.lt, h.eq, h.nd, h.go⟩
  have hc := (hv.cell 0).trans rfl
  rcases hrow.2 with ⟨e, h0⟩ | ⟨g, cap, cur, e, _⟩
  · rw [e] at hc; rw [lenAt_of hc]; exact h0.symm
  · rw [e] at hc; exact lenAt_of hc
set_option maxRecDepth 100000 in
set_option maxHeartbeats 4000000 in
theorem ftrace_in {vp vl vr : Value} (ps : List Int) (ls : List Lk) (L : List Ru) (d : Int) (a : Nat) (w : World) (hW : NW ps ls L) (h : IsN w vp vl vr ps ls L) (hin : inD ps d) : CallsIn Fence.wide 5 Try.prog 10 #[.agg #[vp, vl, vr], .int .i64 d, .int .u32 a] w (TrOut (trcA ps ls L a d) w) := by
  have HN := Lib.hid h
  obtain ⟨⟨⟨A1, c1, rfl, n1, m1, _⟩, ⟨A2, c2, rfl, _⟩⟩, ⟨A3, c3, rfl, _⟩⟩ := h
  have hM : ps.length ≤ 9223372036854775807 := Nat.le_trans n1 m1
  have e1 : decide (d < 0) = false := decide_eq_false (by have := hin.1; omega)
  have e2 : decide ((ps.length : Int) ≤ d) = false := decide_eq_false (by have := hin.2; omega)
  have D0 := ((At.new w #[.slice A1 ps.length c1, .slice A2 ls.length c2, .slice A3 L.length c3] 28).alloc (.cells #[.slice none 0 0, .int .i64 0, .int .i64 0, .int .i64 0] 36)).alloc (.cells #[.int .i64 0] 37)
  have R0 := (At.new1 w (.cells #[.slice A1 ps.length c1, .slice A2 ls.length c2, .slice A3 L.length c3] 28) #[.slice none 0 0, .int .i64 0, .int .i64 0, .int .i64 0] 36).alloc (.cells #[.int .i64 0] 37)
  have E0 := At.new2 w (.cells #[.slice A1 ps.length c1, .slice A2 ls.length c2, .slice A3 L.length c3] 28) (.cells #[.slice none 0 0, .int .i64 0, .int .i64 0, .int .i64 0] 36) #[.int .i64 0] 37
  have b0 : Below w.heap.size w (((w.alloc (.cells #[.slice A1 ps.length c1, .slice A2 ls.length c2, .slice A3 L.length c3] 28)).alloc (.cells #[.slice none 0 0, .int .i64 0, .int .i64 0, .int .i64 0] 36)).alloc (.cells #[.int .i64 0] 37)) := (((Below.refl _ w).alloc (Nat.le_refl _) _).alloc (by simp) _).alloc (by simp; omega) _
  have hs0 : (((w.alloc (.cells #[.slice A1 ps.length c1, .slice A2 ls.length c2, .slice A3 L.length c3] 28)).alloc (.cells #[.slice none 0 0, .int .i64 0, .int .i64 0, .int .i64 0] 36)).alloc (.cells #[.int .i64 0] 37)).heap.size = w.heap.size + 1 + 1 + 1 := by simp
  clear hin
  refine callsIn_of_wp_marks Try.func10 rfl trivial ?_ rfl
  simp only [Try.ntmps10, List.size_toArray, List.length_cons, List.length_nil, Nat.reduceAdd, Nat.reduceSub, Array.replicate_succ, Array.replicate_zero, List.push_toArray, List.append_toArray, List.nil_append, List.cons_append]
  gi_upto_region 1 with (fail)
  obtain ⟨w0, hw0⟩ : ∃ w0, w0 = (((w.alloc (.cells #[.slice A1 ps.length c1, .slice A2 ls.length c2, .slice A3 L.length c3] 28)).alloc (.cells #[.slice none 0 0, .int .i64 0, .int .i64 0, .int .i64 0] 36)).alloc (.cells #[.int .i64 0] 37)) := ⟨_, rfl⟩
  rw [← hw0] at D0 R0 E0 b0 hs0 ⊢
  clear hw0
  have x0 := (D0.cell 0).trans rfl
  have x1 := (D0.cell 1).trans rfl
  have x2 := (D0.cell 2).trans rfl
  have HS0 := Lib.hid hs0
  have hlt0 := D0.lt
  clear hs0
  gi_wp2_with (gi_at_call 27; refine (devices_in d a _ _).mono ?_; rintro e w2 ⟨rfl, rfl⟩)
  rw [HS0.out]
  obtain ⟨W2, hW2⟩ : ∃ W2, W2 = ((((w0.alloc (.cells #[.slice none 0 0] 22)).alloc (.cells #[.slice A1 ps.length c1, .slice A2 ls.length c2, .slice A3 L.length c3] 28)).alloc (.cells #[.int .i64 d] 3)).alloc (.cells #[.int .u32 a] 29)) := ⟨_, rfl⟩
  have hsz : W2.heap.size = w.heap.size + 1 + 1 + 1 + 1 + 1 + 1 + 1 := by rw [hW2]; simp; have := HS0.out; omega
  have hJ0 : TrJ A1 A2 A3 c1 c2 c3 ps ls L a d w [] W2 := by
    have q0 := At.new w0 #[.slice none 0 0] 22
    have q1 := At.new1 w0 (.cells #[.slice none 0 0] 22) #[.slice A1 ps.length c1, .slice A2 ls.length c2, .slice A3 L.length c3] 28
    have q2 := At.new2 w0 (.cells #[.slice none 0 0] 22) (.cells #[.slice A1 ps.length c1, .slice A2 ls.length c2, .slice A3 L.length c3] 28) #[.int .i64 d] 3
    have q3 := At.new2 (w0.alloc (.cells #[.slice none 0 0] 22)) (.cells #[.slice A1 ps.length c1, .slice A2 ls.length c2, .slice A3 L.length c3] 28) (.cells #[.int .i64 d] 3) #[.int .u32 a] 29
    rw [World.size_alloc] at q3
    rw [HS0.out] at q0 q1 q2 q3
    have g : ∀ {B : Nat} {cs : Array Value} {t : TypeId}, At w0 B cs t → At W2 B cs t := fun h => by rw [hW2]; exact (((h.alloc _).alloc _).alloc _).alloc _
    refine ⟨g D0, g R0, g E0, ?_, ?_, ?_, ⟨_, ?_, World.ownsRow_nil _ _ _ _⟩, ?_, by omega, rfl, List.nodup_nil, fun i hi => absurd hi (by simp)⟩
    · rw [hW2]; exact (q1.alloc _).alloc _
    · rw [hW2]; exact q2.alloc _
    · rw [hW2]; exact q3
    · rw [hW2]; exact ((q0.alloc _).alloc _).alloc _
    · rw [hW2]; exact (((b0.alloc b0.size _).alloc (by have := b0.size; simp; omega) _).alloc (by have := b0.size; simp; omega) _).alloc (by have := b0.size; simp; omega) _
  rw [← hW2]
  have HJ0 := Lib.hid hJ0
  clear hJ0 hW2 x0 x1 x2 D0 R0 E0 b0 hlt0
  have hn2 : w.heap.size ≤ W2.heap.size := by omega
  have HSZ := Lib.hid hsz
  clear hsz
  refine range_c rfl (by omega) (gf := 45) (lb := dvB (w.heap.size + 1 + 1 + 1 + 1)) rfl trivial (enters_of Try.func45 (by kernel_rfl) rfl)
    (devices1_in ps ls L a d (w.heap.size + 1 + 1 + 1 + 1) (w.heap.size + 1 + 1 + 1) 4 (by omega)) (fun _ => rfl)
    (TrJ A1 A2 A3 c1 c2 c3 ps ls L a d w) (fun c s W => c = .ret ∧ TrX ps ls L a d w s W)
    (trj_own hn2) (fun c s W W' row hs hg hr => ⟨hs.1, trx_own hn2 s W W' row hs.2 hg hr⟩) (fun s W hs => hs.dvc HN.out) HJ0.out
    (fun x => { tmps := #[.agg #[.slice A1 ps.length c1, .slice A2 ls.length c2, .slice A3 L.length c3], .int .i64 d, .int .u32 a, .pointer (some ⟨w.heap.size, 0, none⟩), undef, undef, .pointer (some ⟨w.heap.size + 1, 0, none⟩), .pointer (some ⟨w.heap.size + 1 + 1, 0, none⟩), .pointer (some ⟨w.heap.size + 1 + 1 + 1, 0, none⟩), .int .i64 x, undef, undef, undef, .int .i64 d, .bool false, .bool false, .int .i64 d, .pointer (some ⟨w.heap.size, 0, none⟩), .pointer (some ⟨w.heap.size, 0, none⟩), .slice A1 ps.length c1, .int .i64 ps.length, .bool false, .bool false, undef, .agg #[.slice A1 ps.length c1, .slice A2 ls.length c2, .slice A3 L.length c3], .int .i64 d, .int .u32 a, .func (.func 45) #[] (dvB (w.heap.size + 1 + 1 + 1 + 1)), .int .i64 x, undef, undef, undef, undef, undef, undef, undef, undef, undef, undef, undef, undef, undef, undef, undef, undef, undef, undef, undef, undef, undef, undef, undef, undef, undef, undef], defers := [] }) ?asg ?body ?done ?stop
  case asg =>
    rintro l x W K hK
    simp only [enD]
    gi_wp2
    exact hK
  case body =>
    rintro l s x W hJ hx
    dsimp only
    obtain ⟨v, hv, hrow⟩ := hJ.came
    have HJ := Lib.hid hJ
    have HX := Lib.hid hx
    have kh := containsInts_any s x W (isF_of_row intA_size hrow)
    have hroom := (hJ.dvc HN.out).room
    have hL3 := hW.room
    have t0 := (hv.cell 0).trans rfl
    have HROW := Lib.hid hrow
    have HV := Lib.hid hv
    have hcb := hv.lt
    -- behind append
    have HAPP : Hid (∀ v' w5, w5.ownsRow (w.heap.size + 1 + 1 + 1 + 1 + 1 + 1 + 1) 3 1 v' (s ++ [x]).length (fcs intA (s ++ [x])) → (W.alloc (.cells #[.int .i64 x] 3)).grownBy w5 v.ownBlock → ∃ g cap, v' = .slice (some ⟨g, 0, none⟩) (s.length + 1) cap ∧
        At w5 (w.heap.size + 1 + 1 + 1) #[v] 22 ∧ At w5 (w.heap.size + 1) #[.slice none 0 0, .int .i64 0, .int .i64 0, .int .i64 0] 36 ∧ At w5 (w.heap.size + 1 + 1) #[.int .i64 0] 37 ∧ Below (w.heap.size + 1 + 1 + 1 + 1 + 1 + 1 + 1) (W.alloc (.cells #[.int .i64 x] 3)) w5 ∧ KeepsFrom W2.heap.size W w5) := Lib.hid fun v' w5 ho hg => by
      have hw := HJ.out
      have hsz := hw.sz
      obtain ⟨g, cap, e, _, _⟩ := row_some ho (by simp)
      have hb : Below (w.heap.size + 1 + 1 + 1 + 1 + 1 + 1 + 1) (W.alloc (.cells #[.int .i64 x] 3)) w5 := (Below.refl _ _).grown hg (by simp; omega) (fun k hk => (HROW.out.lt k hk).1)
      refine ⟨g, cap, by rw [e]; simp, (HV.out.alloc _).below hb (by omega), (hw.res.alloc _).below hb (by omega), (hw.err.alloc _).below hb (by omega), hb, ?_⟩
      refine ((KeepsOthers.alloc W _).trans (KeepsOthers.of_grownBy hg fun j o hj ho' => ?_)).from _
      rcases (HROW.out.alloc (.cells #[.int .i64 x] 3)).2 with ⟨e', _⟩ | ⟨g', cap', cur, e', _, hgb, _⟩
      · rw [e'] at hj; simp [Value.ownBlock] at hj
      · rw [e'] at hj
        obtain rfl : g' = j := by simpa [Value.ownBlock] using hj
        rw [hgb] at ho'; cases ho'; rfl
    clear hJ hx hrow hv
    obtain ⟨q, hq⟩ : ∃ q, q = decide (x ∈ s) := ⟨_, rfl⟩
    rw [← hq] at kh
    have HQ := Lib.hid hq
    clear hq
    obtain ⟨i0, hi, hz0, hz1, hz2⟩ := info_parts infoInt
    gi_upto_region 8 with (first
      | (gi_at_call 28; refine ((callsIn_wide.2 kh).inRound _).mono ?_; rintro e u2 ⟨rfl, e2⟩; rw [e2]; clear e2 u2)
      | (gi_at_builtin; refine wpListIn_append_own _ rfl _ _ 22 rfl (w.heap.size + 1 + 1 + 1 + 1 + 1 + 1 + 1) 3 i0 (.int .i64 0) 1 8 Try.underlying22 hi hz0 hz1 hz2 rfl (by decide) _ _ _ rfl (HROW.out.alloc _) ⟨W.heap.size, 0, none⟩ 1 1 [.int .i64 x] rfl rfl (f_new intA_size W [x] #[.int .i64 x] 3 rfl) (by simp [Value.oneCell']) (by simp only [maxLen]; omega) (by omega) (by have := HJ.out.sz; simp; omega) ?_; intro v' w5 ho hgrow _; obtain ⟨g, cap, rfl, C5, R5, E5, b5, k5⟩ := HAPP.out v' w5 (by rw [fcs_append, List.length_append]; exact ho) hgrow; have y0 := (C5.cell 0).trans rfl; have z0 := C5.frozen 0))
    have HJ1 := HJ.out
    have bw5 : Below w.heap.size w w5 := (HJ1.bel.alloc HJ1.bel.size _).trans (b5.mono (by omega))
    have N6 := ((HJ1.net.alloc (.cells #[.int .i64 x] 3)).below b5 (by omega)).other (B' := w.heap.size + 1 + 1 + 1) (by omega) 0 (.slice (some ⟨g, 0, none⟩) (s.length + 1) cap)
    have n6 := ((HJ1.bn.alloc (.cells #[.int .i64 x] 3)).below b5 (by omega)).other (B' := w.heap.size + 1 + 1 + 1) (by omega) 0 (.slice (some ⟨g, 0, none⟩) (s.length + 1) cap)
    have d6 := ((HJ1.bd.alloc (.cells #[.int .i64 x] 3)).below b5 (by omega)).other (B' := w.heap.size + 1 + 1 + 1) (by omega) 0 (.slice (some ⟨g, 0, none⟩) (s.length + 1) cap)
    have a6 := ((HJ1.ba.alloc (.cells #[.int .i64 x] 3)).below b5 (by omega)).other (B' := w.heap.size + 1 + 1 + 1) (by omega) 0 (.slice (some ⟨g, 0, none⟩) (s.length + 1) cap)
    have sz5 : w.heap.size + 1 + 1 + 1 + 1 + 1 + 1 + 1 ≤ w5.heap.size := by have := HJ1.sz; have := b5.size; simp at this; omega
    obtain ⟨w6, hw6⟩ : ∃ w6, w6 = w5.setCell ⟨w.heap.size + 1 + 1 + 1, 0, none⟩ (.slice (some ⟨g, 0, none⟩) (s.length + 1) cap) := ⟨_, rfl⟩
    have C6 := C5.set0 0 (.slice (some ⟨g, 0, none⟩) (s.length + 1) cap)
    have R6 := R5.other (B' := w.heap.size + 1 + 1 + 1) (by omega) 0 (.slice (some ⟨g, 0, none⟩) (s.length + 1) cap)
    have E6 := E5.other (B' := w.heap.size + 1 + 1 + 1) (by omega) 0 (.slice (some ⟨g, 0, none⟩) (s.length + 1) cap)
    have o6 := row_far ho (grownBy_set w5 (w.heap.size + 1 + 1 + 1) 0 (.slice (some ⟨g, 0, none⟩) (s.length + 1) cap)) (by omega)
    have bw6 := bw5.setCell (p := ⟨w.heap.size + 1 + 1 + 1, 0, none⟩) (by show w.heap.size ≤ w.heap.size + 1 + 1 + 1; omega) (.slice (some ⟨g, 0, none⟩) (s.length + 1) cap)
    have k6 := k5.trans ((KeepsOthers.setCell w5 ⟨w.heap.size + 1 + 1 + 1, 0, none⟩ (.slice (some ⟨g, 0, none⟩) (s.length + 1) cap)).from W2.heap.size)
    have sz6 : w.heap.size + 1 + 1 + 1 + 1 + 1 + 1 + 1 ≤ (w5.setCell ⟨w.heap.size + 1 + 1 + 1, 0, none⟩ (.slice (some ⟨g, 0, none⟩) (s.length + 1) cap)).heap.size := by simpa using sz5
    rw [← hw6] at N6 n6 d6 a6 C6 R6 E6 o6 bw6 k6 sz6 ⊢
    change At w6 _ #[.slice (some ⟨g, 0, none⟩) (s.length + 1) cap] _ at C6
    obtain ⟨hxe, hgo⟩ := HX.out
    have heq := HJ1.eq
    clear hw6 C5 R5 E5 ho bw5 b5 k5 sz5 y0 z0 HAPP hgrow kh t0 hW
    cases q with
    | false =>
      have hmem : x ∉ s := of_decide_eq_false HQ.out.symm
      have HF : Hid (TrJ A1 A2 A3 c1 c2 c3 ps ls L a d w (s ++ [x]) w6) := Lib.hid (by
        refine ⟨N6, R6, E6, n6, d6, a6, ⟨_, C6, by rw [fcs_append, List.length_append]; exact o6⟩, bw6, sz6, ?_, nodup_snoc_iff.2 ⟨HJ1.nd, hmem⟩, ?_⟩
        · rw [List.length_append, List.length_singleton, dvs_succ, ← heq, ← hxe]
        · rw [List.length_append, List.length_singleton]; exact hgo)
      have HK := Lib.hid k6
      clear N6 n6 d6 a6 C6 R6 E6 o6 bw6 k6 sz6 hxe hgo heq HJ1
      gi_wp2
      exact ⟨HK.out, trivial, HF.out⟩
    | true =>
      have hmem : x ∈ s := of_decide_eq_true HQ.out.symm
      have HV : Hid (trcA ps ls L a d = ⟨s ++ [x], 4, ⟨0, 0⟩⟩) := Lib.hid (by
        have hnd := HJ1.nd
        rw [heq] at hnd hmem
        rw [hxe] at hmem
        rw [trcA_in hgo hnd hmem, ← heq, ← hxe])
      have HO6 := Lib.hid o6
      have HB6 := Lib.hid bw6
      have HK6 := Lib.hid k6
      clear N6 n6 d6 a6 o6 bw6 k6 hxe hgo heq HJ1
      have t0 := (C6.cell 0).trans rfl
      have r0 := (R6.cell 0).trans rfl; have r1 := (R6.cell 1).trans rfl; have r2 := (R6.cell 2).trans rfl; have r3 := (R6.cell 3).trans rfl
      have q0 := R6.frozen 0; have q1 := R6.frozen 1; have q2 := R6.frozen 2; have q3 := R6.frozen 3
      have u0 := (E6.cell 0).trans rfl; have v0 := E6.frozen 0
      gi_wp2
      have Z := (putW_at (g := g) (n := s.length + 1) (cap := cap) (f := 4) (pd := 0) (pp := 0) R6).other (B' := w.heap.size + 1 + 1) (by omega) 0 (.int .i64 0)
      have hb : ∀ (U : World) (B j : Nat) (v : Value), w.heap.size ≤ B → Below w.heap.size w U → Below w.heap.size w (U.setCell ⟨B, j, none⟩ v) := fun U B j v hB h => h.setCell (p := ⟨B, j, none⟩) hB v
      have hk : ∀ (U : World) (p : Addr) (v : Value), KeepsFrom W2.heap.size W U → KeepsFrom W2.heap.size W (U.setCell p v) := fun U p v h => h.trans ((KeepsOthers.setCell U p v).from _)
      have hr : ∀ (U : World) (B j : Nat) (v : Value), B < w.heap.size + 1 + 1 + 1 → U.ownsRow (w.heap.size + 1 + 1 + 1 + 1 + 1 + 1 + 1) 3 1 (.slice (some ⟨g, 0, none⟩) (s.length + 1) cap) (s.length + 1) (fcs intA s ++ [.int .i64 x]) → (U.setCell ⟨B, j, none⟩ v).ownsRow (w.heap.size + 1 + 1 + 1 + 1 + 1 + 1 + 1) 3 1 (.slice (some ⟨g, 0, none⟩) (s.length + 1) cap) (s.length + 1) (fcs intA s ++ [.int .i64 x]) := fun U B j v hB h => row_far h (grownBy_set U B j v) (by omega)
      have Y := ((((E6.other (B' := w.heap.size + 1) (by omega) 0 (.slice (some ⟨g, 0, none⟩) (s.length + 1) cap)).other (B' := w.heap.size + 1) (by omega) 1 (.int .i64 4)).other (B' := w.heap.size + 1) (by omega) 2 (.int .i64 0)).other (B' := w.heap.size + 1) (by omega) 3 (.int .i64 0)).set0 0 (.int .i64 0)
      refine ⟨hk _ _ _ (hk _ _ _ (hk _ _ _ (hk _ _ _ (hk _ _ _ HK6.out)))), rfl, ⟨⟨_, Z, ?_⟩, Y, ?_, HV.out, by simp⟩⟩
      · rw [fcs_append, List.length_append]
        exact hr _ _ _ _ (by omega) (hr _ _ _ _ (by omega) (hr _ _ _ _ (by omega) (hr _ _ _ _ (by omega) (hr _ _ _ _ (by omega) HO6.out))))
      · exact hb _ _ _ _ (by omega) (hb _ _ _ _ (by omega) (hb _ _ _ _ (by omega) (hb _ _ _ _ (by omega) (hb _ _ _ _ (by omega) HB6.out))))
  case done =>
    rintro D s W hD ⟨k, hsk, h4⟩ hJ hK
    gi_upto_region 10 with (fail)
    obtain ⟨v, hv, hrow⟩ := hJ.came
    have HJ := Lib.hid hJ
    have hk' : s.length = k + 1 := hsk
    obtain ⟨g, cap, rfl, hgb, hglt⟩ := row_some hrow (by omega)
    have hlast : W.cell? ⟨g, k, none⟩ = some (.int .i64 (dvI ls L a d k)) := by
      have e0 := World.ownsRow.cellAt hrow k (by rw [hk']; omega)
      rw [e0]
      have he := hJ.eq
      rw [hk', dvs_succ] at he
      rw [he, fcs_append]
      have hlen : (fcs intA (dvs ls L a d k)).length = k := by rw [fcs_length intA_size, dvs_len]; omega
      rw [List.getElem?_append_right (by rw [hlen]; exact Nat.le_refl _), hlen, Nat.sub_self]
      rfl
    obtain ⟨x, hx⟩ : ∃ x, x = dvI ls L a d k := ⟨_, rfl⟩
    rw [← hx] at hlast h4
    have HX := Lib.hid hx
    obtain ⟨st, hst⟩ : ∃ st, st = stepN ls L x a := ⟨_, rfl⟩
    have HST : Hid (∀ u, Below W.heap.size W u → Calls Try.prog 13 #[.agg #[.slice A1 ps.length c1, .slice A2 ls.length c2, .slice A3 L.length c3], .int .i64 x, .int .u32 a] u fun e w' => e = .returned (stepV st) ∧ Below u.heap.size u w') := Lib.hid fun u hu => by
      rw [hst]; exact fstep_any ps ls L x a u (HN.out.belows (HJ.out.bel.trans (hu.mono HJ.out.bel.size)))
    have HV : Hid (trcA ps ls L a d = ⟨s, st.1, st.2⟩) := Lib.hid (by
      have hgo := HJ.out.go
      have hnd := HJ.out.nd
      have he := HJ.out.eq
      rw [hk'] at hgo he
      rw [he] at hnd ⊢
      rw [hst, hx]
      exact trcA_end hgo hnd (by rw [← hx]; exact h4))
    obtain ⟨f, ⟨pd, pp⟩⟩ := st
    rw [show stepV (f, ⟨pd, pp⟩) = .tuple #[.int .i64 f, .agg #[.int .i64 pd, .int .i64 pp]] from rfl] at HST
    obtain ⟨N, hN⟩ : ∃ N, N = s.length := ⟨_, rfl⟩
    rw [← hN] at hv hk'
    have SZ : Hid (∀ u, Below W.heap.size W u → u.cell? ⟨w.heap.size, 0, none⟩ = some (.slice A1 ps.length c1) ∧ u.cell? ⟨w.heap.size, 1, none⟩ = some (.slice A2 ls.length c2) ∧ u.cell? ⟨w.heap.size, 2, none⟩ = some (.slice A3 L.length c3) ∧ u.cell? ⟨w.heap.size + 1 + 1 + 1, 0, none⟩ = some (.slice (some ⟨g, 0, none⟩) N cap) ∧ u.cell? ⟨g, k, none⟩ = some (.int .i64 x)) := Lib.hid fun u hu =>
      ⟨((HJ.out.net.belows hu).cell 0).trans rfl, ((HJ.out.net.belows hu).cell 1).trans rfl, ((HJ.out.net.belows hu).cell 2).trans rfl, ((hv.belows hu).cell 0).trans rfl, (hu.cell (p := ⟨g, _, none⟩) hglt).trans hlast⟩
    have HROW := Lib.hid hrow
    have HCB := Lib.hid hv
    have hroom := (HJ.out.dvc HN.out).room
    have hL3 := hW.room
    have hNk : N ≤ 9223372036854775807 := by omega
    have i2 : IntKind.i64.wrap ((N : Int) - 1) = (k : Int) := by rw [IntWalk.i64_in _ (by omega)]; omega
    have i3 : (k : Int) < (N : Int) := by omega
    have i5 : (0 : Int) ≤ (k : Int) := by omega
    have HNN := Lib.hid hN
    clear hN hk' hroom hL3
    clear hJ hv hrow hlast hst hx h4 hW hgb hsk
    gi_cut [11, 12] from 39 (fun fr p wc => fr = .int .i64 f ∧ ∃ UB : Nat, p = .pointer (some ⟨UB, 0, none⟩) ∧ Hid (At wc UB #[.int .i64 pd, .int .i64 pp] 34 ∧ Below W.heap.size W wc))
    case first =>
      refine wpIn_wide.2 ?_
      go_region_held3 (fun W' => W'.cell? ⟨w.heap.size, 0, none⟩ = some (.slice A1 ps.length c1) ∧ W'.cell? ⟨w.heap.size, 1, none⟩ = some (.slice A2 ls.length c2) ∧ W'.cell? ⟨w.heap.size, 2, none⟩ = some (.slice A3 L.length c3) ∧ W'.cell? ⟨w.heap.size + 1 + 1 + 1, 0, none⟩ = some (.slice (some ⟨g, 0, none⟩) N cap) ∧ W'.cell? ⟨g, k, none⟩ = some (.int .i64 x))
        (first | exact SZ.out _ b5w | exact SZ.out _ (b5w.alloc b5w.size _) | exact SZ.out _ ((b5w.setCell (p := ⟨W.heap.size, 0, none⟩) (Nat.le_refl _) _).setCell (p := ⟨W.heap.size, 1, none⟩) (Nat.le_refl _) _) | exact SZ.out _ ((Below.refl _ W).alloc (Nat.le_refl _) _).drew | exact SZ.out _ (bdrewN (Below.refl _ _) 1))
        ((go_at_call 13; refine (HST.out _ (by first | exact ((Below.refl _ W).alloc (Nat.le_refl _) _).drew | exact bdrewN (Below.refl _ _) 1)).mono ?_; rintro e w5 ⟨rfl, b5⟩; have b5w : Below W.heap.size W w5 := (by first | exact Below.trans (((Below.refl _ W).alloc (Nat.le_refl _) _).drew) (b5.mono (by simp)) | exact (bdrewN (Below.refl _ _) 1).trans b5); first | (have U5 : At w5 W.heap.size #[.int .i64 0, .int .i64 0] 34 := (show At (W.alloc (.cells #[.int .i64 0, .int .i64 0] 34)).drew W.heap.size #[.int .i64 0, .int .i64 0] 34 from At.new W _ _).belows b5; have y0 := (U5.cell 0).trans rfl; have y1 := (U5.cell 1).trans rfl; have f0 := U5.frozen 0; have f1 := U5.frozen 1) | skip))
      all_goals (go_wp2_with fail; go_meet)
      · exact ⟨rfl, w5.heap.size, rfl, Lib.hid ⟨At.new w5 _ _, b5w.alloc b5w.size _⟩⟩
      · exact ⟨rfl, W.heap.size, rfl, Lib.hid ⟨(U5.set0 0 _).set0 1 _, (b5w.setCell (p := ⟨W.heap.size, 0, none⟩) (Nat.le_refl _) _).setCell (p := ⟨W.heap.size, 1, none⟩) (Nat.le_refl _) _⟩⟩
    case rest =>
      obtain ⟨rfl, UB, rfl, HU⟩ := hcut
      obtain ⟨hU, hb⟩ := HU.out
      have R6 := HJ.out.res.belows hb
      have E6 := HJ.out.err.belows hb
      have C6 := HCB.out.belows hb
      have HO6 := Lib.hid (row_belows HROW.out hb)
      have HB6 := Lib.hid (HJ.out.bel.trans (hb.mono HJ.out.bel.size))
      have HK6 : Hid (wc.heap[D]? = some (.deferred (some []))) := Lib.hid ((hb.block D (Array.getElem?_eq_some_iff.1 hK).1).trans hK)
      have p0 := (hU.cell 0).trans rfl; have p1 := (hU.cell 1).trans rfl
      have t0 := (C6.cell 0).trans rfl
      have r0 := (R6.cell 0).trans rfl; have r1 := (R6.cell 1).trans rfl; have r2 := (R6.cell 2).trans rfl; have r3 := (R6.cell 3).trans rfl
      have q0 := R6.frozen 0; have q1 := R6.frozen 1; have q2 := R6.frozen 2; have q3 := R6.frozen 3
      have u0 := (E6.cell 0).trans rfl; have v0 := E6.frozen 0
      clear hU hb HU hK SZ HST HROW
      gi_wp2
      have hN := HNN.out
      subst hN
      have hsz := HSZ.out
      obtain ⟨Wf, hWf⟩ : ∃ Wf, Wf = (putW wc (w.heap.size + 1) g s.length cap f pd pp).setCell ⟨w.heap.size + 1 + 1, 0, none⟩ (.int .i64 0) := ⟨_, rfl⟩
      have hb : ∀ (U : World) (B j : Nat) (v : Value), w.heap.size ≤ B → Below w.heap.size w U → Below w.heap.size w (U.setCell ⟨B, j, none⟩ v) := fun U B j v hB h => h.setCell (p := ⟨B, j, none⟩) hB v
      have hr : ∀ (U : World) (B j : Nat) (v : Value), B < w.heap.size + 1 + 1 + 1 → U.ownsRow (w.heap.size + 1 + 1 + 1 + 1 + 1 + 1 + 1) 3 1 (.slice (some ⟨g, 0, none⟩) s.length cap) s.length (fcs intA s) → (U.setCell ⟨B, j, none⟩ v).ownsRow (w.heap.size + 1 + 1 + 1 + 1 + 1 + 1 + 1) 3 1 (.slice (some ⟨g, 0, none⟩) s.length cap) s.length (fcs intA s) := fun U B j v hB h => row_far h (grownBy_set U B j v) (by omega)
      have hd : ∀ (U : World) (B j : Nat) (v : Value), B < w.heap.size + 1 + 1 + 1 → U.heap[D]? = some (.deferred (some [])) → (U.setCell ⟨B, j, none⟩ v).heap[D]? = some (.deferred (some [])) := fun U B j v hB h => (Below.heap_setCell U ⟨B, j, none⟩ v (k := D) (by show D ≠ B; omega)).trans h
      have hRf : At Wf (w.heap.size + 1) #[.slice (some ⟨g, 0, none⟩) s.length cap, .int .i64 f, .int .i64 pd, .int .i64 pp] 36 := by rw [hWf]; exact (putW_at R6).other (B' := w.heap.size + 1 + 1) (by omega) 0 (.int .i64 0)
      have hEf : At Wf (w.heap.size + 1 + 1) #[.int .i64 0] 37 := by rw [hWf]; exact ((((E6.other (B' := w.heap.size + 1) (by omega) 0 (.slice (some ⟨g, 0, none⟩) s.length cap)).other (B' := w.heap.size + 1) (by omega) 1 (.int .i64 f)).other (B' := w.heap.size + 1) (by omega) 2 (.int .i64 pd)).other (B' := w.heap.size + 1) (by omega) 3 (.int .i64 pp)).set0 0 (.int .i64 0)
      have hrow : Wf.ownsRow (w.heap.size + 1 + 1 + 1 + 1 + 1 + 1 + 1) 3 1 (.slice (some ⟨g, 0, none⟩) s.length cap) s.length (fcs intA s) := by rw [hWf]; exact hr _ _ _ _ (by omega) (hr _ _ _ _ (by omega) (hr _ _ _ _ (by omega) (hr _ _ _ _ (by omega) (hr _ _ _ _ (by omega) HO6.out))))
      have hbl0 : Below w.heap.size w Wf := by rw [hWf]; exact hb _ _ _ _ (by omega) (hb _ _ _ _ (by omega) (hb _ _ _ _ (by omega) (hb _ _ _ _ (by omega) (hb _ _ _ _ (by omega) HB6.out))))
      have hK : Wf.heap[D]? = some (.deferred (some [])) := by rw [hWf]; exact hd _ _ _ _ (by omega) (hd _ _ _ _ (by omega) (hd _ _ _ _ (by omega) (hd _ _ _ _ (by omega) (hd _ _ _ _ (by omega) HK6.out))))
      change bodyPostM _ _ _ _ _ _ _ ((putW wc (w.heap.size + 1) g s.length cap f pd pp).setCell ⟨w.heap.size + 1 + 1, 0, none⟩ (.int .i64 0))
      rw [← hWf]
      clear hWf R6 E6 C6 p0 p1 t0 r0 r1 r2 r3 q0 q1 q2 q3 u0 v0
      have q : ∀ {B : Nat} {cs : Array Value} {t : TypeId}, B < w.heap.size + 1 + 1 + 1 → At Wf B cs t → At (Wf.putObj D (.deferred none)) B cs t := fun hB h => (World.putObj_heap_other (by omega)).trans h
      have Z := q (by omega) hRf
      have Y := q (by omega) hEf
      have Z0 := (Z.cell 0).trans rfl; have Z1 := (Z.cell 1).trans rfl; have Z2 := (Z.cell 2).trans rfl; have Z3 := (Z.cell 3).trans rfl; have Y0 := (Y.cell 0).trans rfl
      have hbl : Below w.heap.size w (Wf.putObj D (.deferred none)) := hbl0.trans (belowK_b (w := w) (Nat.le_refl _) Wf D _ _ (by omega) hK rfl rfl)
      have hrw := ownsRow_putObj hrow (.deferred none) hK rfl
      refine ⟨by simp, .inl ⟨_, _, rfl, run_takeDeferred hK, ?_⟩⟩
      refine ⟨.tuple #[.agg #[.slice (some ⟨g, 0, none⟩) s.length cap, .int .i64 f, .int .i64 pd, .int .i64 pp], .int .i64 0], ?_, ?_⟩
      · simp at Z0 Z1 Z2 Z3 Y0
        simp [results, Try.results10, go_sem, Z0, Z1, Z2, Z3, Y0]
      · rw [HV.out]
        refine ⟨_, rfl, isF_of_row intA_size hrw, fun g' o n c e => ?_, hbl⟩
        have := (hrw.lt g' (by cases e; rfl)).1
        omega
  case stop =>
    rintro D c s W hD ⟨rfl, hX⟩ hK
    gi_wp2
    obtain ⟨v, hR, hrow⟩ := hX.res
    have hsz := HSZ.out
    have q : ∀ {B : Nat} {cs : Array Value} {t : TypeId}, B < w.heap.size + 1 + 1 + 1 → At W B cs t → At (W.putObj D (.deferred none)) B cs t := fun hB h => (World.putObj_heap_other (by omega)).trans h
    have Z := q (by omega) hR
    have Y := q (by omega) hX.err
    have Z0 := (Z.cell 0).trans rfl; have Z1 := (Z.cell 1).trans rfl; have Z2 := (Z.cell 2).trans rfl; have Z3 := (Z.cell 3).trans rfl; have Y0 := (Y.cell 0).trans rfl
    have hbl : Below w.heap.size w (W.putObj D (.deferred none)) := hX.bel.trans (belowK_b (w := w) (Nat.le_refl _) W D _ _ (by omega) hK rfl rfl)
    have hrw := ownsRow_putObj hrow (.deferred none) hK rfl
    refine ⟨by simp, .inl ⟨_, _, rfl, run_takeDeferred hK, ?_⟩⟩
    refine ⟨.tuple #[.agg #[v, .int .i64 4, .int .i64 0, .int .i64 0], .int .i64 0], ?_, ?_⟩
    · simp at Z0 Z1 Z2 Z3 Y0
      simp [results, Try.results10, go_sem, Z0, Z1, Z2, Z3, Y0]
    · rw [hX.val]
      refine ⟨v, rfl, isF_of_row intA_size hrw, fun g o n c e => ?_, hbl⟩
      have := (hrw.lt g (by rw [e]; rfl)).1
      omega
end Go.Proofs.Ytmndgbpfophniaa
