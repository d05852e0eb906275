/- FlowWhole: for any network and two devices the law returns true, and the arguments read as before. No condition. -/
import Derived.Test.YteboadppighplaaGreatZ2
import Derived.Test.YteboadppighplaaGreatZ3
import Derived.Test.YteboadppighplaaGreatZ5
import Derived.Test.YteboadppighplaaGreatZ6
/- Plain mathematics: what FateEnds asks of a trace. -/
namespace Go.Proofs.YteboadppighplaaGreat
open Go.RowKit Go.Shelf

structure EF (ps : List Int) (ls : List Lk) (L : List Ru) (a : Nat) (d : Int) (x : Tc) : Prop where
  one : 1 ≤ x.ds.length
  hd : x.ds[0]? = some d
  room : x.ds.length ≤ ps.length + 1
  twice : ∀ i j (hi : i < x.ds.length) (hij : j < i), x.ds[i] = x.ds[j]'(by omega) → i + 1 = x.ds.length ∧ x.ft = 4
  step : ∀ i (hi : i + 1 < x.ds.length), inD ps x.ds[i] ∧ (stepN ls L x.ds[i] a).1 = 4 ∧ ∃ q, nextT ls (stepN ls L x.ds[i] a).2 = some q ∧ q.d = x.ds[i + 1]
  seen : ∀ (h : x.ds.length - 1 < x.ds.length), decide (x.ds[x.ds.length - 1] ∈ x.ds.take (x.ds.length - 1)) = decide (x.ft = 4)
  out3 : x.ft = 3 → ∀ (h : x.ds.length - 1 < x.ds.length), x.out.d = x.ds[x.ds.length - 1] ∧ nextT ls x.out = none
  outn : x.ft ≠ 3 → x.out = ⟨0, 0⟩
theorem trcN_ends {ps : List Int} {ls : List Lk} {L : List Ru} (hR : RT ps ls) {a : Nat} {d : Int} (hd : inD ps d) : EF ps ls L a d (trcN ps ls L a d) := by
  obtain ⟨ini, last, h, t, ht⟩ := trcN_spec hR (L := L) (a := a) hd
  generalize trcN ps ls L a d = x at h ht ⊢
  obtain ⟨D, f, out⟩ := x
  have hD := h.ds
  dsimp only at hD ht
  subst hD
  have hlen : (ini ++ [last]).length - 1 = ini.length := by simp
  have hlast : (ini ++ [last])[ini.length]'(by simp) = last := by simp
  refine ⟨by simp, by rw [← ht]; simp, ?_, ?_, ?_, ?_, ?_, ?_⟩
  · have := nodup_room (n := ps.length) h.nd (fun y hy => h.dev y (List.mem_append_left _ hy))
    simp; omega
  · intro i j hi hij e
    dsimp only at hi e ⊢
    have hj : j < ini.length := by simp at hi; omega
    by_cases hi' : i < ini.length
    · rw [List.getElem_append_left hi', List.getElem_append_left hj] at e
      have := List.pairwise_iff_getElem.1 h.nd j i hj hi' hij
      exact absurd e.symm this
    · have hie : i = ini.length := by simp at hi; omega
      subst hie
      refine ⟨by simp, ?_⟩
      rw [hlast, List.getElem_append_left hj] at e
      have hm : last ∈ ini := e ▸ List.getElem_mem hj
      rcases h.fin with ⟨h4, _⟩ | ⟨_, hn, _⟩
      · exact h4
      · exact absurd hm hn
  · intro i hi
    obtain ⟨h4, ho⟩ := h.steps i hi (Nat.zero_le _)
    refine ⟨h.dev _ (List.getElem_mem _), h4, ?_⟩
    rcases stepN_is ls L ((ini ++ [last])[i]'(by dsimp only at hi; omega)) a with ⟨h1, h2, _⟩ | ⟨_, ⟨h3, _⟩ | ⟨_, q, hq⟩⟩
    · dsimp only at h4; omega
    · dsimp only at h4; omega
    · refine ⟨q, hq, ?_⟩
      rw [← ho]
      unfold onTo
      dsimp only
      rw [hq]; rfl
  · intro hh
    have e1 : (ini ++ [last])[(ini ++ [last]).length - 1] = last := by simp
    have e2 : (ini ++ [last]).take ((ini ++ [last]).length - 1) = ini := by simp
    show decide ((ini ++ [last])[(ini ++ [last]).length - 1] ∈ (ini ++ [last]).take ((ini ++ [last]).length - 1)) = _
    rw [e1, e2]
    rcases h.fin with ⟨h4, _, hm⟩ | ⟨h4, hm, _⟩
    · rw [decide_eq_true hm, decide_eq_true h4]
    · rw [decide_eq_false hm, decide_eq_false h4]
  · intro h3 hh
    have e1 : (ini ++ [last])[(ini ++ [last]).length - 1] = last := by simp
    show out.d = (ini ++ [last])[(ini ++ [last]).length - 1] ∧ nextT ls out = none
    rw [e1]
    rcases h.fin with ⟨h4, _⟩ | ⟨_, _, hs⟩
    · dsimp only at h3 h4; omega
    · rcases stepN_is ls L last a with ⟨_, h2, _⟩ | ⟨hd', ⟨_, hn⟩ | ⟨h4, _⟩⟩
      · rw [hs] at h2; dsimp only at h2 h3; omega
      · rw [hs] at hd' hn; exact ⟨hd', hn⟩
      · rw [hs] at h4; dsimp only at h4 h3; omega
  · intro h3
    rcases h.fin with ⟨_, ho, _⟩ | ⟨h4, _, hs⟩
    · exact ho
    · rcases stepN_is ls L last a with ⟨_, _, ho⟩ | ⟨_, ⟨h3', _⟩ | ⟨h4', _⟩⟩
      · rw [hs] at ho; exact ho
      · rw [hs] at h3'; exact absurd h3' h3
      · rw [hs] at h4'; exact absurd h4' h4
end Go.Proofs.YteboadppighplaaGreat
/- Contracts: the document's And, Or, Minus. -/
namespace Go.Proofs.YteboadppighplaaGreat.Zo
open Go.Proofs.YteboadppighplaaGreat.Tr
open Go.RowKit Go.Shelf

/-- The zone that the document builds of two. -/
def docBoth (f : Bool → Bool → Bool) (X Y : List (Nat × Nat)) : List (Nat × Nat) := build 4294967296 (fun a => f (has X a) (has Y a)) [] (cutsL 4294967296 0 (Tr.ends (X ++ Y)))
/-- What it answers. -/
def DocOut (T : List (Nat × Nat)) (w : World) (e : Ending) (w' : World) : Prop := ∃ v', e = .returned v' ∧ IsZ w' v' T ∧ Below w.heap.size w w'
theorem u32_append {X Y : List (Nat × Nat)} (hx : U32 X) (hy : U32 Y) : U32 (X ++ Y) := fun r hr => by
  rcases List.mem_append.1 hr with h | h
  · exact hx r h
  · exact hy r h

set_option maxRecDepth 100000 in
set_option maxHeartbeats 10000000 in
theorem rand0_any {v1 v2 : Value} (X Y : List (Nat × Nat)) (w : World) (ux : U32 X) (uy : U32 Y) (hlx : X.length ≤ 100000) (hly : Y.length ≤ 100000) (zx : IsZ w v1 X) (zy : IsZ w v2 Y) :
    Calls Tryz.prog 55 #[v1, v2, .int .i64 1] w (DocOut (docBoth (fun p q => p && q) X Y) w) := by
  have hh1 := fun (W : World) (hW : Below w.heap.size w W) (a : Nat) => rhas_any X a W (zx.belows hW)
  have hh2 := fun (W : World) (hW : Below w.heap.size w W) (a : Nat) => rhas_any Y a W (zy.belows hW)
  have HH1 := Lib.hid hh1
  have HH2 := Lib.hid hh2
  have hlen : (X ++ Y).length ≤ 1000000 := by simp; omega
  have hcuts := fun (W : World) (v : Value) (hv : IsZ W v (X ++ Y)) => cuts_any (X ++ Y) W (u32_append ux uy) hlen hv
  have HC := Lib.hid hcuts
  obtain ⟨A1, c1, rfl, n1, m1, z1⟩ := zx
  obtain ⟨A2, c2, rfl, n2, m2, z2⟩ := zy
  have H1 := Lib.hid z1
  have H2 := Lib.hid z2
  clear z1 z2 ux uy hh1 hh2 hcuts hlen
  have ba : Below w.heap.size w (w.alloc (.cells #[] 43)) := (Below.refl _ w).alloc (Nat.le_refl _) _
  go_enter Tryz.func55, Tryz.ntmps55
  go_wp2_with (first | (at_builtin; refine wpList_app_z rfl _ _ rfl w.heap.size _ [] rfl (Row.empty w) _ _ X rfl (H1.out.belows ba) (H1.out.none) (by simp; omega) (by simp) ?_; intro g cap w1 hrow b1; simp only [List.length_nil, Nat.zero_add, List.nil_append] at hrow; have bb := ba.trans b1) | (at_builtin; refine wpList_app_z rfl _ _ rfl w.heap.size _ X rfl hrow _ _ Y rfl (H2.out.belows bb) (H2.out.none) (by omega) bb.size ?_; intro g3 cap3 w3 hrow3 b3; have bc := bb.trans b3; have hz3 := hrow3.isZ) | (go_at_call 50; refine (HC.out _ _ hz3).mono ?_; rintro e w2 ⟨vc, rfl, hI, b2⟩))
  have hb2 : Below w.heap.size w w2 := bc.trans (b2.mono bc.size)
  have hcu := cu_cuts (Tr.ends (X ++ Y))
  obtain ⟨T, hT⟩ : ∃ T, T = docBoth (fun p q => p && q) X Y := ⟨_, rfl⟩
  have hst : BI (fun a => (fun p q => p && q) (has X a) (has Y a)) (cutsL 4294967296 0 (Tr.ends (X ++ Y))) T 0 [] := ⟨by rw [hT, List.drop_zero]; rfl, fun r hr => by simp at hr, by simp⟩
  have hend := fun k hk (W : World) (hW : Below w2.heap.size w2 W) => end_any (cutsL 4294967296 0 (Tr.ends (X ++ Y))) k W hk hcu.pos hcu.lt (hI.belows hW)
  generalize cutsL 4294967296 0 (Tr.ends (X ++ Y)) = C at hI hcu hst hend
  have HT := Lib.hid hT
  have HEND := Lib.hid hend
  have HCU := Lib.hid hcu
  obtain ⟨Ac, cc, rfl, nc, mc, zc⟩ := hI
  have HCC := Lib.hid zc
  have HST := Lib.hid hst
  clear hT hend hcu zc hst hrow hrow3 hz3
  simp only [maxLen] at mc
  go_wp2
  go_loopw [9, 10] (fun o i wq => ∃ (k : Nat) (z : List (Nat × Nat)), i = .int .i64 k ∧ k ≤ C.length ∧ Hid (BI (fun a => (fun p q => p && q) (has X a) (has Y a)) C T k z) ∧ Hid (wq.ownsRow w2.heap.size 43 2 o z.length (zcells z)) ∧ Below w2.heap.size w2 wq) (fun _ i _ => C.length - (intOf i).toNat)
  case atStart => exact ⟨0, [], rfl, by omega, HST, Lib.hid (World.ownsRow_nil _ _ _ _), Below.refl _ _⟩
  case round =>
    obtain ⟨k, z, rfl, hk, HBI, HO, hbq⟩ := hrel
    by_cases hlt : k < C.length
    · obtain ⟨g, e1, hg, hc⟩ := HCC.out (by omega)
      subst e1
      have c0 := (hbq.cell (p := ⟨g, k, none⟩) hg).trans (hc k hlt)
      have b0 := HCU.out.lt k hlt
      have hgive := HBI.out.give hlt HCU.out.lt
      have hpass := HBI.out.pass hlt
      have hE := HEND.out k hlt
      have hel := endOf_lt (C := C) (k := k) HCU.out.lt
      clear hc
      generalize C[k] = c at c0 b0 hgive hpass
      generalize endOf 4294967296 (C.drop (k + 1)) = en at hgive hE hel
      have hzl : z.length ≤ 4294967296 := by have := HBI.out.2.2; have := HCU.out.len; omega
      have hbw : Below w.heap.size w wr := hb2.trans (hbq.mono hb2.size)
      have hA := HH1.out wr hbw c
      have hB := HH2.out wr hbw c
      have j1 : IntKind.u32.wrap (c : Int) = (c : Int) := IntWalk.u32_in _ (by omega)
      have i0 : (0 : Int) ≤ (k : Int) := by omega
      have i1 : (k : Int) < (C.length : Int) := by omega
      have HGI := Lib.hid hgive
      have HPA := Lib.hid hpass
      clear hgive hpass
      go_wp2_with fail
      refine hA.mono ?_
      rintro e w5 ⟨rfl, rfl⟩
      go_wp2_with fail
      refine hB.mono ?_
      rintro e w6 ⟨rfl, rfl⟩
      cases hp : has X c with
      | true =>
        cases hq : has Y c with
        | true =>
          have HB2 := Lib.hid (HGI.out (by show (fun p q => p && q) (has X c) (has Y c) = true; rw [hp, hq]; rfl))
          go_wp2_with fail
          go_region_held3 (fun w' => w'.cell? ⟨g, k, none⟩ = some (.int .i64 c)) (first | go_keep) (first | (go_at_call 51; refine (hE _ (by first | exact hbq.drew | exact hbq)).mono ?_; rintro e w4 ⟨rfl, rfl⟩) | (go_at_call 36; refine (join_any z c en _ HBI.out.2.1 b0 hel hzl (by first | exact HO.out.drew | exact HO.out) (by first | exact hbq.drew.size | exact hbq.size)).mono ?_; rintro e w4 ⟨v', rfl, ho', b4⟩; have d0 := (b4.cell (p := ⟨g, k, none⟩) hg).trans c0))
          go_wp2
          go_roundw
          case rel => exact ⟨k + 1, joinZ z c en, by go_num, by omega, HB2, Lib.hid ho', (by first | exact hbq.drew.trans b4 | exact hbq.trans b4)⟩
          case measure => simp [intOf]; omega
        | false =>
          have HB2 := Lib.hid (HPA.out (by show (fun p q => p && q) (has X c) (has Y c) = false; rw [hp, hq]; rfl))
          go_wp2
          go_roundw
          case rel => exact ⟨k + 1, z, by go_num, by omega, HB2, HO, hbq⟩
          case measure => simp [intOf]; omega
      | false =>
        cases hq : has Y c with
        | true =>
          have HB2 := Lib.hid (HPA.out (by show (fun p q => p && q) (has X c) (has Y c) = false; rw [hp, hq]; rfl))
          go_wp2
          go_roundw
          case rel => exact ⟨k + 1, z, by go_num, by omega, HB2, HO, hbq⟩
          case measure => simp [intOf]; omega
        | false =>
          have HB2 := Lib.hid (HPA.out (by show (fun p q => p && q) (has X c) (has Y c) = false; rw [hp, hq]; rfl))
          go_wp2
          go_roundw
          case rel => exact ⟨k + 1, z, by go_num, by omega, HB2, HO, hbq⟩
          case measure => simp [intOf]; omega
    · obtain rfl : k = C.length := by omega
      have hfin := HBI.out.fin
      subst hfin
      go_wp2
      go_ret
      exact ⟨_, rfl, HT.out ▸ isZ_of_row HO.out, hb2.trans (hbq.mono hb2.size)⟩

set_option maxRecDepth 100000 in
set_option maxHeartbeats 10000000 in
theorem ror0_any {v1 v2 : Value} (X Y : List (Nat × Nat)) (w : World) (ux : U32 X) (uy : U32 Y) (hlx : X.length ≤ 100000) (hly : Y.length ≤ 100000) (zx : IsZ w v1 X) (zy : IsZ w v2 Y) :
    Calls Tryz.prog 55 #[v1, v2, .int .i64 2] w (DocOut (docBoth (fun p q => p || q) X Y) w) := by
  have hh1 := fun (W : World) (hW : Below w.heap.size w W) (a : Nat) => rhas_any X a W (zx.belows hW)
  have hh2 := fun (W : World) (hW : Below w.heap.size w W) (a : Nat) => rhas_any Y a W (zy.belows hW)
  have HH1 := Lib.hid hh1
  have HH2 := Lib.hid hh2
  have hlen : (X ++ Y).length ≤ 1000000 := by simp; omega
  have hcuts := fun (W : World) (v : Value) (hv : IsZ W v (X ++ Y)) => cuts_any (X ++ Y) W (u32_append ux uy) hlen hv
  have HC := Lib.hid hcuts
  obtain ⟨A1, c1, rfl, n1, m1, z1⟩ := zx
  obtain ⟨A2, c2, rfl, n2, m2, z2⟩ := zy
  have H1 := Lib.hid z1
  have H2 := Lib.hid z2
  clear z1 z2 ux uy hh1 hh2 hcuts hlen
  have ba : Below w.heap.size w (w.alloc (.cells #[] 43)) := (Below.refl _ w).alloc (Nat.le_refl _) _
  go_enter Tryz.func55, Tryz.ntmps55
  go_wp2_with (first | (at_builtin; refine wpList_app_z rfl _ _ rfl w.heap.size _ [] rfl (Row.empty w) _ _ X rfl (H1.out.belows ba) (H1.out.none) (by simp; omega) (by simp) ?_; intro g cap w1 hrow b1; simp only [List.length_nil, Nat.zero_add, List.nil_append] at hrow; have bb := ba.trans b1) | (at_builtin; refine wpList_app_z rfl _ _ rfl w.heap.size _ X rfl hrow _ _ Y rfl (H2.out.belows bb) (H2.out.none) (by omega) bb.size ?_; intro g3 cap3 w3 hrow3 b3; have bc := bb.trans b3; have hz3 := hrow3.isZ) | (go_at_call 50; refine (HC.out _ _ hz3).mono ?_; rintro e w2 ⟨vc, rfl, hI, b2⟩))
  have hb2 : Below w.heap.size w w2 := bc.trans (b2.mono bc.size)
  have hcu := cu_cuts (Tr.ends (X ++ Y))
  obtain ⟨T, hT⟩ : ∃ T, T = docBoth (fun p q => p || q) X Y := ⟨_, rfl⟩
  have hst : BI (fun a => (fun p q => p || q) (has X a) (has Y a)) (cutsL 4294967296 0 (Tr.ends (X ++ Y))) T 0 [] := ⟨by rw [hT, List.drop_zero]; rfl, fun r hr => by simp at hr, by simp⟩
  have hend := fun k hk (W : World) (hW : Below w2.heap.size w2 W) => end_any (cutsL 4294967296 0 (Tr.ends (X ++ Y))) k W hk hcu.pos hcu.lt (hI.belows hW)
  generalize cutsL 4294967296 0 (Tr.ends (X ++ Y)) = C at hI hcu hst hend
  have HT := Lib.hid hT
  have HEND := Lib.hid hend
  have HCU := Lib.hid hcu
  obtain ⟨Ac, cc, rfl, nc, mc, zc⟩ := hI
  have HCC := Lib.hid zc
  have HST := Lib.hid hst
  clear hT hend hcu zc hst hrow hrow3 hz3
  simp only [maxLen] at mc
  go_wp2
  go_loopw [9, 10] (fun o i wq => ∃ (k : Nat) (z : List (Nat × Nat)), i = .int .i64 k ∧ k ≤ C.length ∧ Hid (BI (fun a => (fun p q => p || q) (has X a) (has Y a)) C T k z) ∧ Hid (wq.ownsRow w2.heap.size 43 2 o z.length (zcells z)) ∧ Below w2.heap.size w2 wq) (fun _ i _ => C.length - (intOf i).toNat)
  case atStart => exact ⟨0, [], rfl, by omega, HST, Lib.hid (World.ownsRow_nil _ _ _ _), Below.refl _ _⟩
  case round =>
    obtain ⟨k, z, rfl, hk, HBI, HO, hbq⟩ := hrel
    by_cases hlt : k < C.length
    · obtain ⟨g, e1, hg, hc⟩ := HCC.out (by omega)
      subst e1
      have c0 := (hbq.cell (p := ⟨g, k, none⟩) hg).trans (hc k hlt)
      have b0 := HCU.out.lt k hlt
      have hgive := HBI.out.give hlt HCU.out.lt
      have hpass := HBI.out.pass hlt
      have hE := HEND.out k hlt
      have hel := endOf_lt (C := C) (k := k) HCU.out.lt
      clear hc
      generalize C[k] = c at c0 b0 hgive hpass
      generalize endOf 4294967296 (C.drop (k + 1)) = en at hgive hE hel
      have hzl : z.length ≤ 4294967296 := by have := HBI.out.2.2; have := HCU.out.len; omega
      have hbw : Below w.heap.size w wr := hb2.trans (hbq.mono hb2.size)
      have hA := HH1.out wr hbw c
      have hB := HH2.out wr hbw c
      have j1 : IntKind.u32.wrap (c : Int) = (c : Int) := IntWalk.u32_in _ (by omega)
      have i0 : (0 : Int) ≤ (k : Int) := by omega
      have i1 : (k : Int) < (C.length : Int) := by omega
      have HGI := Lib.hid hgive
      have HPA := Lib.hid hpass
      clear hgive hpass
      go_wp2_with fail
      refine hA.mono ?_
      rintro e w5 ⟨rfl, rfl⟩
      go_wp2_with fail
      refine hB.mono ?_
      rintro e w6 ⟨rfl, rfl⟩
      cases hp : has X c with
      | true =>
        cases hq : has Y c with
        | true =>
          have HB2 := Lib.hid (HGI.out (by show (fun p q => p || q) (has X c) (has Y c) = true; rw [hp, hq]; rfl))
          go_wp2_with fail
          go_region_held3 (fun w' => w'.cell? ⟨g, k, none⟩ = some (.int .i64 c)) (first | go_keep) (first | (go_at_call 51; refine (hE _ (by first | exact hbq.drew | exact hbq)).mono ?_; rintro e w4 ⟨rfl, rfl⟩) | (go_at_call 36; refine (join_any z c en _ HBI.out.2.1 b0 hel hzl (by first | exact HO.out.drew | exact HO.out) (by first | exact hbq.drew.size | exact hbq.size)).mono ?_; rintro e w4 ⟨v', rfl, ho', b4⟩; have d0 := (b4.cell (p := ⟨g, k, none⟩) hg).trans c0))
          go_wp2
          go_roundw
          case rel => exact ⟨k + 1, joinZ z c en, by go_num, by omega, HB2, Lib.hid ho', (by first | exact hbq.drew.trans b4 | exact hbq.trans b4)⟩
          case measure => simp [intOf]; omega
        | false =>
          have HB2 := Lib.hid (HGI.out (by show (fun p q => p || q) (has X c) (has Y c) = true; rw [hp, hq]; rfl))
          go_wp2_with fail
          go_region_held3 (fun w' => w'.cell? ⟨g, k, none⟩ = some (.int .i64 c)) (first | go_keep) (first | (go_at_call 51; refine (hE _ (by first | exact hbq.drew | exact hbq)).mono ?_; rintro e w4 ⟨rfl, rfl⟩) | (go_at_call 36; refine (join_any z c en _ HBI.out.2.1 b0 hel hzl (by first | exact HO.out.drew | exact HO.out) (by first | exact hbq.drew.size | exact hbq.size)).mono ?_; rintro e w4 ⟨v', rfl, ho', b4⟩; have d0 := (b4.cell (p := ⟨g, k, none⟩) hg).trans c0))
          go_wp2
          go_roundw
          case rel => exact ⟨k + 1, joinZ z c en, by go_num, by omega, HB2, Lib.hid ho', (by first | exact hbq.drew.trans b4 | exact hbq.trans b4)⟩
          case measure => simp [intOf]; omega
      | false =>
        cases hq : has Y c with
        | true =>
          have HB2 := Lib.hid (HGI.out (by show (fun p q => p || q) (has X c) (has Y c) = true; rw [hp, hq]; rfl))
          go_wp2_with fail
          go_region_held3 (fun w' => w'.cell? ⟨g, k, none⟩ = some (.int .i64 c)) (first | go_keep) (first | (go_at_call 51; refine (hE _ (by first | exact hbq.drew | exact hbq)).mono ?_; rintro e w4 ⟨rfl, rfl⟩) | (go_at_call 36; refine (join_any z c en _ HBI.out.2.1 b0 hel hzl (by first | exact HO.out.drew | exact HO.out) (by first | exact hbq.drew.size | exact hbq.size)).mono ?_; rintro e w4 ⟨v', rfl, ho', b4⟩; have d0 := (b4.cell (p := ⟨g, k, none⟩) hg).trans c0))
          go_wp2
          go_roundw
          case rel => exact ⟨k + 1, joinZ z c en, by go_num, by omega, HB2, Lib.hid ho', (by first | exact hbq.drew.trans b4 | exact hbq.trans b4)⟩
          case measure => simp [intOf]; omega
        | false =>
          have HB2 := Lib.hid (HPA.out (by show (fun p q => p || q) (has X c) (has Y c) = false; rw [hp, hq]; rfl))
          go_wp2
          go_roundw
          case rel => exact ⟨k + 1, z, by go_num, by omega, HB2, HO, hbq⟩
          case measure => simp [intOf]; omega
    · obtain rfl : k = C.length := by omega
      have hfin := HBI.out.fin
      subst hfin
      go_wp2
      go_ret
      exact ⟨_, rfl, HT.out ▸ isZ_of_row HO.out, hb2.trans (hbq.mono hb2.size)⟩

theorem ror_any {v1 v2 : Value} (X Y : List (Nat × Nat)) (w : World) (ux : U32 X) (uy : U32 Y) (hlx : X.length ≤ 100000) (hly : Y.length ≤ 100000) (zx : IsZ w v1 X) (zy : IsZ w v2 Y) :
    Calls Tryz.prog 23 #[v1, v2] w (DocOut (docBoth (fun p q => p || q) X Y) w) := by
  have h := ror0_any X Y w ux uy hlx hly zx zy
  obtain ⟨A1, c1, rfl, _⟩ := zx
  obtain ⟨A2, c2, rfl, _⟩ := zy
  go_enter Tryz.func23, Tryz.ntmps23
  go_wp2_with (go_at_call 55; refine h.mono ?_; rintro e w1 ⟨v', rfl, hz, b1⟩)
  go_ret
  exact ⟨v', rfl, hz, b1⟩

set_option maxRecDepth 100000 in
set_option maxHeartbeats 10000000 in
theorem rminus0_any {v1 v2 : Value} (X Y : List (Nat × Nat)) (w : World) (ux : U32 X) (uy : U32 Y) (hlx : X.length ≤ 100000) (hly : Y.length ≤ 100000) (zx : IsZ w v1 X) (zy : IsZ w v2 Y) :
    Calls Tryz.prog 55 #[v1, v2, .int .i64 3] w (DocOut (docBoth (fun p q => p && !q) X Y) w) := by
  have hh1 := fun (W : World) (hW : Below w.heap.size w W) (a : Nat) => rhas_any X a W (zx.belows hW)
  have hh2 := fun (W : World) (hW : Below w.heap.size w W) (a : Nat) => rhas_any Y a W (zy.belows hW)
  have HH1 := Lib.hid hh1
  have HH2 := Lib.hid hh2
  have hlen : (X ++ Y).length ≤ 1000000 := by simp; omega
  have hcuts := fun (W : World) (v : Value) (hv : IsZ W v (X ++ Y)) => cuts_any (X ++ Y) W (u32_append ux uy) hlen hv
  have HC := Lib.hid hcuts
  obtain ⟨A1, c1, rfl, n1, m1, z1⟩ := zx
  obtain ⟨A2, c2, rfl, n2, m2, z2⟩ := zy
  have H1 := Lib.hid z1
  have H2 := Lib.hid z2
  clear z1 z2 ux uy hh1 hh2 hcuts hlen
  have ba : Below w.heap.size w (w.alloc (.cells #[] 43)) := (Below.refl _ w).alloc (Nat.le_refl _) _
  go_enter Tryz.func55, Tryz.ntmps55
  go_wp2_with (first | (at_builtin; refine wpList_app_z rfl _ _ rfl w.heap.size _ [] rfl (Row.empty w) _ _ X rfl (H1.out.belows ba) (H1.out.none) (by simp; omega) (by simp) ?_; intro g cap w1 hrow b1; simp only [List.length_nil, Nat.zero_add, List.nil_append] at hrow; have bb := ba.trans b1) | (at_builtin; refine wpList_app_z rfl _ _ rfl w.heap.size _ X rfl hrow _ _ Y rfl (H2.out.belows bb) (H2.out.none) (by omega) bb.size ?_; intro g3 cap3 w3 hrow3 b3; have bc := bb.trans b3; have hz3 := hrow3.isZ) | (go_at_call 50; refine (HC.out _ _ hz3).mono ?_; rintro e w2 ⟨vc, rfl, hI, b2⟩))
  have hb2 : Below w.heap.size w w2 := bc.trans (b2.mono bc.size)
  have hcu := cu_cuts (Tr.ends (X ++ Y))
  obtain ⟨T, hT⟩ : ∃ T, T = docBoth (fun p q => p && !q) X Y := ⟨_, rfl⟩
  have hst : BI (fun a => (fun p q => p && !q) (has X a) (has Y a)) (cutsL 4294967296 0 (Tr.ends (X ++ Y))) T 0 [] := ⟨by rw [hT, List.drop_zero]; rfl, fun r hr => by simp at hr, by simp⟩
  have hend := fun k hk (W : World) (hW : Below w2.heap.size w2 W) => end_any (cutsL 4294967296 0 (Tr.ends (X ++ Y))) k W hk hcu.pos hcu.lt (hI.belows hW)
  generalize cutsL 4294967296 0 (Tr.ends (X ++ Y)) = C at hI hcu hst hend
  have HT := Lib.hid hT
  have HEND := Lib.hid hend
  have HCU := Lib.hid hcu
  obtain ⟨Ac, cc, rfl, nc, mc, zc⟩ := hI
  have HCC := Lib.hid zc
  have HST := Lib.hid hst
  clear hT hend hcu zc hst hrow hrow3 hz3
  simp only [maxLen] at mc
  go_wp2
  go_loopw [9, 10] (fun o i wq => ∃ (k : Nat) (z : List (Nat × Nat)), i = .int .i64 k ∧ k ≤ C.length ∧ Hid (BI (fun a => (fun p q => p && !q) (has X a) (has Y a)) C T k z) ∧ Hid (wq.ownsRow w2.heap.size 43 2 o z.length (zcells z)) ∧ Below w2.heap.size w2 wq) (fun _ i _ => C.length - (intOf i).toNat)
  case atStart => exact ⟨0, [], rfl, by omega, HST, Lib.hid (World.ownsRow_nil _ _ _ _), Below.refl _ _⟩
  case round =>
    obtain ⟨k, z, rfl, hk, HBI, HO, hbq⟩ := hrel
    by_cases hlt : k < C.length
    · obtain ⟨g, e1, hg, hc⟩ := HCC.out (by omega)
      subst e1
      have c0 := (hbq.cell (p := ⟨g, k, none⟩) hg).trans (hc k hlt)
      have b0 := HCU.out.lt k hlt
      have hgive := HBI.out.give hlt HCU.out.lt
      have hpass := HBI.out.pass hlt
      have hE := HEND.out k hlt
      have hel := endOf_lt (C := C) (k := k) HCU.out.lt
      clear hc
      generalize C[k] = c at c0 b0 hgive hpass
      generalize endOf 4294967296 (C.drop (k + 1)) = en at hgive hE hel
      have hzl : z.length ≤ 4294967296 := by have := HBI.out.2.2; have := HCU.out.len; omega
      have hbw : Below w.heap.size w wr := hb2.trans (hbq.mono hb2.size)
      have hA := HH1.out wr hbw c
      have hB := HH2.out wr hbw c
      have j1 : IntKind.u32.wrap (c : Int) = (c : Int) := IntWalk.u32_in _ (by omega)
      have i0 : (0 : Int) ≤ (k : Int) := by omega
      have i1 : (k : Int) < (C.length : Int) := by omega
      have HGI := Lib.hid hgive
      have HPA := Lib.hid hpass
      clear hgive hpass
      go_wp2_with fail
      refine hA.mono ?_
      rintro e w5 ⟨rfl, rfl⟩
      go_wp2_with fail
      refine hB.mono ?_
      rintro e w6 ⟨rfl, rfl⟩
      cases hp : has X c with
      | true =>
        cases hq : has Y c with
        | true =>
          have HB2 := Lib.hid (HPA.out (by show (fun p q => p && !q) (has X c) (has Y c) = false; rw [hp, hq]; rfl))
          go_wp2
          go_roundw
          case rel => exact ⟨k + 1, z, by go_num, by omega, HB2, HO, hbq⟩
          case measure => simp [intOf]; omega
        | false =>
          have HB2 := Lib.hid (HGI.out (by show (fun p q => p && !q) (has X c) (has Y c) = true; rw [hp, hq]; rfl))
          go_wp2_with fail
          go_region_held3 (fun w' => w'.cell? ⟨g, k, none⟩ = some (.int .i64 c)) (first | go_keep) (first | (go_at_call 51; refine (hE _ (by first | exact hbq.drew | exact hbq)).mono ?_; rintro e w4 ⟨rfl, rfl⟩) | (go_at_call 36; refine (join_any z c en _ HBI.out.2.1 b0 hel hzl (by first | exact HO.out.drew | exact HO.out) (by first | exact hbq.drew.size | exact hbq.size)).mono ?_; rintro e w4 ⟨v', rfl, ho', b4⟩; have d0 := (b4.cell (p := ⟨g, k, none⟩) hg).trans c0))
          go_wp2
          go_roundw
          case rel => exact ⟨k + 1, joinZ z c en, by go_num, by omega, HB2, Lib.hid ho', (by first | exact hbq.drew.trans b4 | exact hbq.trans b4)⟩
          case measure => simp [intOf]; omega
      | false =>
        cases hq : has Y c with
        | true =>
          have HB2 := Lib.hid (HPA.out (by show (fun p q => p && !q) (has X c) (has Y c) = false; rw [hp, hq]; rfl))
          go_wp2
          go_roundw
          case rel => exact ⟨k + 1, z, by go_num, by omega, HB2, HO, hbq⟩
          case measure => simp [intOf]; omega
        | false =>
          have HB2 := Lib.hid (HPA.out (by show (fun p q => p && !q) (has X c) (has Y c) = false; rw [hp, hq]; rfl))
          go_wp2
          go_roundw
          case rel => exact ⟨k + 1, z, by go_num, by omega, HB2, HO, hbq⟩
          case measure => simp [intOf]; omega
    · obtain rfl : k = C.length := by omega
      have hfin := HBI.out.fin
      subst hfin
      go_wp2
      go_ret
      exact ⟨_, rfl, HT.out ▸ isZ_of_row HO.out, hb2.trans (hbq.mono hb2.size)⟩

theorem rminus_any {v1 v2 : Value} (X Y : List (Nat × Nat)) (w : World) (ux : U32 X) (uy : U32 Y) (hlx : X.length ≤ 100000) (hly : Y.length ≤ 100000) (zx : IsZ w v1 X) (zy : IsZ w v2 Y) :
    Calls Tryz.prog 24 #[v1, v2] w (DocOut (docBoth (fun p q => p && !q) X Y) w) := by
  have h := rminus0_any X Y w ux uy hlx hly zx zy
  obtain ⟨A1, c1, rfl, _⟩ := zx
  obtain ⟨A2, c2, rfl, _⟩ := zy
  go_enter Tryz.func24, Tryz.ntmps24
  go_wp2_with (go_at_call 55; refine h.mono ?_; rintro e w1 ⟨v', rfl, hz, b1⟩)
  go_ret
  exact ⟨v', rfl, hz, b1⟩
end Go.Proofs.YteboadppighplaaGreat.Zo
/- Plain: five zones that are all, each once; who leaves by a device came to it (FlowWhole). No program's walk. -/
namespace Go.Proofs.YteboadppighplaaGreat
open Go.RowKit Go.Shelf

theorem joinZ_len (z : List (Nat × Nat)) (f t : Nat) : (Zo.joinZ z f t).length ≤ z.length + 1 := by
  unfold Zo.joinZ
  split
  · split <;> simp <;> omega
  · simp
theorem build_len (m : Nat) (p : Nat → Bool) : ∀ (C : List Nat) (z : List (Nat × Nat)), (Zo.build m p z C).length ≤ z.length + C.length
  | [], z => by simp [Zo.build]
  | c :: C, z => by
    have h1 := build_len m p C (if p c then Zo.joinZ z c (Tr.endOf m C) else z)
    have h2 := joinZ_len z c (Tr.endOf m C)
    rw [Zo.build, List.length_cons]
    by_cases h : p c = true
    · rw [if_pos h] at h1 ⊢; omega
    · rw [if_neg h] at h1 ⊢; omega
theorem bnds_shortH (L : List (Nat × Nat)) : (Tr.bnds L).length ≤ 1 + 2 * L.length := by
  have := Tr.rise_len (ks := (Tr.ends L).map (fun c : Nat => (c : Int))) (Tr.rising_pw (Tr.bnds_rise L)) (fun a ha => by
    obtain ⟨x, hx, rfl⟩ := List.mem_map.1 ha
    exact List.mem_map.2 ⟨x, ((Tr.bnds_mem L x).1 hx).1, rfl⟩)
  rwa [List.length_map, List.length_map, Tr.ends_len] at this
theorem pickZ_len (p : Nat → Bool) (R : List (Nat × Nat)) : (pickZ p R).length ≤ 1 + 2 * R.length := by
  unfold pickZ
  have h1 := build_len 4294967296 p (Tr.bnds R) []
  have h2 := bnds_shortH R
  simp only [List.length_nil] at h1
  omega
theorem zn_u32 {z : List (Nat × Nat)} (h : Zo.RZ 0 z ∧ Zo.Under 4294967296 z) : Tr.U32 z := fun r hr => by
  have h2 := h.2 r hr
  obtain ⟨k, hk, e⟩ := List.getElem_of_mem hr
  have h1 := (Zo.rz_at h.1 h.2 (k := k) hk)
  rw [e] at h1
  omega
/-- Those whose fate is less. -/
def ltP (ps : List Int) (ls : List Lk) (L : List Ru) (d : Int) (k : Nat) (a : Nat) : Bool := decide ((trcN ps ls L a d).ft < (k : Int))
theorem ltP_near {ps : List Int} {ls : List Lk} {L : List Ru} {d : Int} {k : Nat} : ∀ c a, c ≤ a → Near (rgL L) c a → ltP ps ls L d k a = ltP ps ls L d k c := fun c a hca h => by unfold ltP; rw [trcN_near (rgL_in L) hca h]
def orZ (ps : List Int) (ls : List Lk) (L : List Ru) (d : Int) (k : Nat) : List (Nat × Nat) := pickZ (ltP ps ls L d k) (rgL L)
section
variable {ps : List Int} {ls : List Lk} {L : List Ru} {d : Int}
theorem orZ_zn (k : Nat) : Zo.RZ 0 (orZ ps ls L d k) ∧ Zo.Under 4294967296 (orZ ps ls L d k) := (pickZ_is ltP_near).1
theorem orZ_has (k : Nat) {a : Nat} (ha : a < 4294967296) : Zo.has (orZ ps ls L d k) a = ltP ps ls L d k a := (pickZ_is ltP_near).2 a ha
theorem fatZ_zn (k : Int) : Zo.RZ 0 (fatZ ps ls L d k) ∧ Zo.Under 4294967296 (fatZ ps ls L d k) := by
  unfold fatZ
  split
  · exact (pickZ_is fateP_near).1
  · exact zn_nil
theorem visZ_zn (b : Int) : Zo.RZ 0 (visZ ps ls L d b) ∧ Zo.Under 4294967296 (visZ ps ls L d b) := by
  unfold visZ
  split
  · exact (pickZ_is visP_near).1
  · exact zn_nil
theorem delZ_zn (b : Int) : Zo.RZ 0 (delZ ps ls L d b) ∧ Zo.Under 4294967296 (delZ ps ls L d b) := by
  unfold delZ
  split
  · exact (pickZ_is delP_near).1
  · exact zn_nil
theorem fatZ_has (hd : inD ps d) (k : Int) {a : Nat} (ha : a < 4294967296) : Zo.has (fatZ ps ls L d k) a = fateP ps ls L d k a := by
  unfold fatZ
  rw [if_pos hd]
  exact (pickZ_is fateP_near).2 a ha
theorem visZ_has (hd : inD ps d) {b : Int} (hb : inD ps b) {a : Nat} (ha : a < 4294967296) : Zo.has (visZ ps ls L d b) a = visP ps ls L d b a := by
  unfold visZ
  rw [if_pos ⟨hd, hb⟩]
  exact (pickZ_is visP_near).2 a ha
theorem delZ_has (hd : inD ps d) {b : Int} (hb : inD ps b) {a : Nat} (ha : a < 4294967296) : Zo.has (delZ ps ls L d b) a = delP ps ls L d b a := by
  unfold delZ
  rw [if_pos ⟨hd, hb⟩]
  exact (pickZ_is delP_near).2 a ha
theorem rgL_few (hR : RN ps ls L) : (rgL L).length ≤ 40 := by
  have := ((allB_pw L).1 hR.rules).1
  unfold rgL
  rw [List.length_map]
  exact this
theorem orZ_few (hR : RN ps ls L) (k : Nat) : (orZ ps ls L d k).length ≤ 100 := by
  have h1 := pickZ_len (ltP ps ls L d k) (rgL L)
  have h2 := rgL_few hR
  unfold orZ
  omega
theorem fatZ_few (hR : RN ps ls L) (k : Int) : (fatZ ps ls L d k).length ≤ 100 := by
  have h1 := pickZ_len (fateP ps ls L d k) (rgL L)
  have h2 := rgL_few hR
  unfold fatZ
  split
  · omega
  · simp
theorem visZ_few (hR : RN ps ls L) (b : Int) : (visZ ps ls L d b).length ≤ 100 := by
  have h1 := pickZ_len (visP ps ls L d b) (rgL L)
  have h2 := rgL_few hR
  unfold visZ
  split
  · omega
  · simp
theorem delZ_few (hR : RN ps ls L) (b : Int) : (delZ ps ls L d b).length ≤ 100 := by
  have h1 := pickZ_len (delP ps ls L d b) (rgL L)
  have h2 := rgL_few hR
  unfold delZ
  split
  · omega
  · simp
theorem orZ_zero (hR : RN ps ls L) (hd : inD ps d) : orZ ps ls L d 0 = [] := zn_eq (orZ_zn 0) zn_nil fun a ha => by
  rw [orZ_has 0 ha]
  have := (trcN_small (a := a) hR hd).1
  unfold ltP
  rw [decide_eq_false (by omega)]
  rfl
theorem orZ_succ (hd : inD ps d) (k : Nat) : Zo.docBoth (fun p q => p || q) (orZ ps ls L d k) (fatZ ps ls L d (k : Nat)) = orZ ps ls L d (k + 1) := by
  obtain ⟨h1, h2, h3⟩ := Zo.doc_both (x := orZ ps ls L d k) (y := fatZ ps ls L d (k : Nat)) fun p q => p || q
  refine zn_eq ⟨h1, h2⟩ (orZ_zn (k + 1)) fun a ha => ?_
  refine (h3 a ha).trans ?_
  rw [orZ_has k ha, orZ_has (k + 1) ha, fatZ_has hd _ ha]
  unfold ltP fateP
  rw [Bool.eq_iff_iff]
  simp only [Bool.or_eq_true, decide_eq_true_eq]
  omega
theorem orZ_count (hd : inD ps d) (k : Nat) : Zo.count (orZ ps ls L d (k + 1)) = Zo.count (orZ ps ls L d k) + Zo.count (fatZ ps ls L d (k : Nat)) := by
  rw [zn_count (orZ_zn (k + 1)) (fun a ha => orZ_has (k + 1) ha), zn_count (orZ_zn k) (fun a ha => orZ_has k ha), zn_count (fatZ_zn (k : Nat)) (fun a ha => fatZ_has hd (k : Nat) ha), ← Zo.cnt_disj]
  · refine Zo.cnt_congr fun a _ => ?_
    unfold ltP fateP
    rw [Bool.eq_iff_iff]
    simp only [Bool.or_eq_true, decide_eq_true_eq]
    omega
  · intro a _
    unfold ltP fateP
    rw [Bool.and_eq_false_iff]
    simp only [decide_eq_false_iff_not]
    omega
theorem orZ_le (k : Nat) : Zo.count (orZ ps ls L d k) ≤ 4294967296 := Zo.count_le (orZ_zn k).1 (orZ_zn k).2
theorem fatZ_le (k : Int) : Zo.count (fatZ ps ls L d k) ≤ 4294967296 := Zo.count_le (fatZ_zn k).1 (fatZ_zn k).2
theorem orZ_all (hR : RN ps ls L) (hd : inD ps d) : Zo.count (orZ ps ls L d 5) = 4294967296 := by
  rw [zn_count (orZ_zn 5) (fun a ha => orZ_has 5 ha)]
  refine cnt_one fun a _ => ?_
  have := (trcN_small (a := a) hR hd).1
  unfold ltP
  exact decide_eq_true (by omega)
theorem self_all (hR : RN ps ls L) (hd : inD ps d) : Zo.count (visZ ps ls L d d) = 4294967296 := by
  rw [zn_count (visZ_zn d) (fun a ha => visZ_has hd hd ha)]
  refine cnt_one fun a _ => ?_
  have := (trcN_ends (L := L) hR.topo (a := a) hd).hd
  unfold visP
  exact decide_eq_true (List.mem_of_getElem? this)
theorem out_none (hd : inD ps d) {b : Int} (hb : inD ps b) : Zo.docBoth (fun p q => p && !q) (delZ ps ls L d b) (fatZ ps ls L d ((3 : Nat) : Int)) = [] := by
  obtain ⟨h1, h2, h3⟩ := Zo.doc_both (x := delZ ps ls L d b) (y := fatZ ps ls L d ((3 : Nat) : Int)) fun p q => p && !q
  refine zn_eq ⟨h1, h2⟩ zn_nil fun a ha => ?_
  refine (h3 a ha).trans ?_
  rw [delZ_has hd hb ha, fatZ_has hd _ ha]
  unfold delP fateP
  show _ = false
  cases h : decide ((trcN ps ls L a d).ft = 3)
  · rfl
  · simp
theorem came_none (hR : RN ps ls L) (hd : inD ps d) {b : Int} (hb : inD ps b) : Zo.docBoth (fun p q => p && !q) (delZ ps ls L d b) (visZ ps ls L d b) = [] := by
  obtain ⟨h1, h2, h3⟩ := Zo.doc_both (x := delZ ps ls L d b) (y := visZ ps ls L d b) fun p q => p && !q
  refine zn_eq ⟨h1, h2⟩ zn_nil fun a ha => ?_
  refine (h3 a ha).trans ?_
  rw [delZ_has hd hb ha, visZ_has hd hb ha]
  have E := trcN_ends (L := L) hR.topo (a := a) hd
  unfold delP visP
  show _ = false
  by_cases h3 : (trcN ps ls L a d).ft = 3
  · by_cases hb' : (trcN ps ls L a d).out.d = b
    · have hl : (trcN ps ls L a d).ds.length - 1 < (trcN ps ls L a d).ds.length := by have := E.one; omega
      have hm : b ∈ (trcN ps ls L a d).ds := by
        rw [← hb', (E.out3 h3 hl).1]
        exact List.getElem_mem hl
      rw [decide_eq_true hm]
      simp
    · rw [decide_eq_false hb']
      simp
  · rw [decide_eq_false h3]
    rfl
end
end Go.Proofs.YteboadppighplaaGreat
/- Law: FlowWhole (stage 11), over the program's calls. -/
namespace Go.Proofs.YteboadppighplaaGreat
open Go.RowKit Go.Shelf

/-- What any answer of Fates is, slices by name. -/
theorem fatAny_slices {w : World} {e : Ending} {w' : World} (h : FatAny w e w') : ∃ y0 n0 d0 y1 n1 d1 y2 n2 d2 y3 n3 d3 y4 n4 d4 er, e = .returned (.tuple #[.agg #[.slice y0 n0 d0, .slice y1 n1 d1, .slice y2 n2 d2, .slice y3 n3 d3, .slice y4 n4 d4], .int .i64 er]) ∧ Below w.heap.size w w' := by
  obtain ⟨v0, v1, v2, v3, v4, er, rfl, ⟨⟨y0, n0, d0, rfl⟩, ⟨y1, n1, d1, rfl⟩, ⟨y2, n2, d2, rfl⟩, ⟨y3, n3, d3, rfl⟩, ⟨y4, n4, d4, rfl⟩⟩, b⟩ := h
  exact ⟨_, _, _, _, _, _, _, _, _, _, _, _, _, _, _, _, rfl, b⟩
theorem znAny_slices {w : World} {e : Ending} {w' : World} (h : ZnAny w e w') : ∃ y n d er, e = .returned (.tuple #[.slice y n d, .int .i64 er]) ∧ Below w.heap.size w w' := by
  obtain ⟨v, er, rfl, ⟨y, n, d, rfl⟩, b⟩ := h
  exact ⟨_, _, _, _, rfl, b⟩
theorem right_is {v : Value} {L : List (Nat × Nat)} (hz : Zo.RZ 0 L ∧ Zo.Under 4294967296 L) (w : World) (h : Tr.IsZ w v L) : Calls Tryz.prog 21 #[v] w fun e w' => e = .returned (.bool true) ∧ Below w.heap.size w w' := by
  have k := Zo.right_any L w (zn_u32 hz) h
  rwa [Zo.rzB_iff.2 hz.1] at k
set_option maxRecDepth 100000 in
set_option maxHeartbeats 4000000 in
theorem whole11_walk (O : Own11) {vp vl vr : Value} (ps : List Int) (ls : List Lk) (L : List Ru) (a b : Int) (w : World) (h : IsN w vp vl vr ps ls L) (hW : NW ps ls L) (ia : isI a) (ib : isI b) :
    Calls Tryz.prog 5 #[.agg #[vp, vl, vr], .int .i64 a, .int .i64 b] w fun e w' => e = .returned (.bool true) ∧ Below w.heap.size w w' := by
  have HO := Lib.hid O
  have KA : Hid (∀ u : World, Calls Tryz.prog 9 #[] u fun e w' => e = .returned (.bool true) ∧ Below u.heap.size u w') := Lib.hid fun u => alive11_any O u
  obtain ⟨w1, hw1⟩ : ∃ w1, w1 = w.alloc (.cells #[vp, vl, vr] 28) := ⟨_, rfl⟩
  have b1 : Below w.heap.size w w1 := by rw [hw1]; exact (Below.refl _ w).alloc (Nat.le_refl _) _
  have N1 : At w1 w.heap.size #[vp, vl, vr] 28 := by rw [hw1]; exact At.new w _ _
  have HN1 := Lib.hid (h.belows b1)
  have HNB := Lib.hid N1
  have HB1 := Lib.hid b1
  have HW := Lib.hid hW
  have HIA := Lib.hid ia
  have HIB := Lib.hid ib
  have KF := lfits9_any ps ls L w1 hW HN1.out
  obtain ⟨⟨⟨A1, c1, rfl, _, _, _⟩, ⟨A2, c2, rfl, _, _, _⟩⟩, ⟨A3, c3, rfl, _, _, _⟩⟩ := h
  have SX : Hid (∀ u, Below w1.heap.size w1 u → u.cell? ⟨w.heap.size, 0, none⟩ = some (.slice A1 ps.length c1) ∧ u.cell? ⟨w.heap.size, 1, none⟩ = some (.slice A2 ls.length c2) ∧ u.cell? ⟨w.heap.size, 2, none⟩ = some (.slice A3 L.length c3)) := Lib.hid fun u hu => ⟨((HNB.out.belows hu).cell 0).trans rfl, ((HNB.out.belows hu).cell 1).trans rfl, ((HNB.out.belows hu).cell 2).trans rfl⟩
  obtain ⟨x0, x1, x2⟩ := SX.out w1 (Below.refl _ _)
  clear N1 b1 hW ia ib O
  cases hq : rightN ps ls L with
  | false =>
    rw [hq] at KF
    clear hq
    go_enter Tryz.func5, Tryz.ntmps5
    go_upto_region 1 with (fail)
    rw [← hw1]
    clear hw1
    go_upto_region 2 with (go_at_call 8; refine KF.mono ?_; rintro e w2 ⟨rfl, b2⟩)
    have HB2 := Lib.hid b2
    obtain ⟨x0, x1, x2⟩ := SX.out w2 b2
    have k1 := HO.out.fatesAny ps ls L a w2 HW.out HIA.out (HN1.out.belows b2)
    clear b2 KF
    go_upto_region 3 with (go_at_call 10; refine k1.mono ?_; rintro e w3 h3; obtain ⟨y0, n0, d0, y1, n1, d1, y2, n2, d2, y3, n3, d3, y4, n4, d4, er1, rfl, b3⟩ := fatAny_slices h3; clear h3)
    obtain ⟨w4, hw4⟩ : ∃ w4, w4 = w3.alloc (.cells #[.slice y0 n0 d0, .slice y1 n1 d1, .slice y2 n2 d2, .slice y3 n3 d3, .slice y4 n4 d4] 32) := ⟨_, rfl⟩
    have b34 : Below w3.heap.size w3 w4 := by rw [hw4]; exact (Below.refl _ _).alloc (Nat.le_refl _) _
    have HB4 := Lib.hid (HB2.out.trans ((b3.trans (b34.mono b3.size)).mono HB2.out.size))
    rw [← hw4]
    clear hw4 b34 b3 k1
    obtain ⟨x0, x1, x2⟩ := SX.out w4 HB4.out
    have k2 := HO.out.visitsAny ps ls L a b w4 HW.out HIA.out HIB.out (HN1.out.belows HB4.out)
    go_upto_region 4 with (go_at_call 13; refine k2.mono ?_; rintro e w5 h5; obtain ⟨y5, n5, d5, er2, rfl, b5⟩ := znAny_slices h5; clear h5)
    have HB5 := Lib.hid (HB4.out.trans (b5.mono HB4.out.size))
    clear b5 k2
    obtain ⟨x0, x1, x2⟩ := SX.out w5 HB5.out
    have k3 := HO.out.deliversAny ps ls L a b w5 HW.out HIA.out HIB.out (HN1.out.belows HB5.out)
    go_upto_region 5 with (go_at_call 15; refine k3.mono ?_; rintro e w6 h6; obtain ⟨y6, n6, d6, er3, rfl, b6⟩ := znAny_slices h6; clear h6)
    have HB6 := Lib.hid (HB5.out.trans (b6.mono HB5.out.size))
    clear b6 k3
    go_wp2_with (go_at_call 9; refine (KA.out _).mono ?_; rintro e w7 ⟨rfl, b7⟩)
    go_ret
    exact ⟨rfl, HB1.out.trans ((HB6.out.trans (b7.mono HB6.out.size)).mono HB1.out.size)⟩
  | true =>
    have HR := Lib.hid ((rightN_iff _ _ _).1 hq)
    rw [hq] at KF
    clear hq
    go_enter Tryz.func5, Tryz.ntmps5
    go_upto_region 1 with (fail)
    rw [← hw1]
    clear hw1
    go_upto_region 2 with (go_at_call 8; refine KF.mono ?_; rintro e w2 ⟨rfl, b2⟩)
    have HB2 := Lib.hid b2
    obtain ⟨x0, x1, x2⟩ := SX.out w2 b2
    have k1 := HO.out.fates ps ls L a w2 HR.out HW.out HIA.out (HN1.out.belows b2)
    obtain ⟨er, her⟩ : ∃ er, er = errIn (inD ps a) := ⟨_, rfl⟩
    obtain ⟨e2, he2⟩ : ∃ e2, e2 = errIn (inD ps a ∧ inD ps b) := ⟨_, rfl⟩
    obtain ⟨Z, hZ⟩ : ∃ Z : Nat → List (Nat × Nat), Z = fun k => fatZ ps ls L a (k : Nat) := ⟨_, rfl⟩
    obtain ⟨V, hV⟩ : ∃ V, V = visZ ps ls L a b := ⟨_, rfl⟩
    obtain ⟨D, hD⟩ : ∃ D, D = delZ ps ls L a b := ⟨_, rfl⟩
    have HER := Lib.hid her
    have HE2 := Lib.hid he2
    have HZ := Lib.hid hZ
    have HV := Lib.hid hV
    have HD := Lib.hid hD
    rw [← her, ← hZ] at k1
    have K2 : Hid (∀ u, Below w1.heap.size w1 u → Calls Tryz.prog 13 #[.agg #[.slice A1 ps.length c1, .slice A2 ls.length c2, .slice A3 L.length c3], .int .i64 a, .int .i64 b] u (ZnOut V e2 u)) := Lib.hid fun u hu => by rw [hV, he2]; exact HO.out.visits ps ls L a b u HR.out HW.out HIA.out HIB.out (HN1.out.belows hu)
    have K3 : Hid (∀ u, Below w1.heap.size w1 u → Calls Tryz.prog 15 #[.agg #[.slice A1 ps.length c1, .slice A2 ls.length c2, .slice A3 L.length c3], .int .i64 a, .int .i64 b] u (ZnOut D e2 u)) := Lib.hid fun u hu => by rw [hD, he2]; exact HO.out.delivers ps ls L a b u HR.out HW.out HIA.out HIB.out (HN1.out.belows hu)
    clear her he2 hZ hV hD b2 KF
    go_upto_region 3 with (go_at_call 10; refine k1.mono ?_; rintro e w3 h3; obtain ⟨y0, n0, d0, y1, n1, d1, y2, n2, d2, y3, n3, d3, y4, n4, d4, rfl, hz3, b3⟩ := fatOut_slices h3; clear h3)
    have X4 := five5_new hz3.out
    obtain ⟨w4, hw4⟩ : ∃ w4, w4 = w3.alloc (.cells #[.slice y0 n0 d0, .slice y1 n1 d1, .slice y2 n2 d2, .slice y3 n3 d3, .slice y4 n4 d4] 32) := ⟨_, rfl⟩
    have b34 : Below w3.heap.size w3 w4 := by rw [hw4]; exact (Below.refl _ _).alloc (Nat.le_refl _) _
    obtain ⟨XB, hXB⟩ : ∃ XB, XB = w3.heap.size := ⟨_, rfl⟩
    have hXs : XB < w4.heap.size := by rw [hw4, hXB]; simp
    rw [← hw4, ← hXB] at X4
    rw [← hXB]
    rw [← hw4]
    have HB4 := Lib.hid (HB2.out.trans ((b3.trans (b34.mono b3.size)).mono HB2.out.size))
    have HX4 := Lib.hid X4
    clear hw4 hXB X4 hz3 k1 b3 b34
    obtain ⟨x0, x1, x2⟩ := SX.out w4 HB4.out
    have k2 := K2.out w4 HB4.out
    go_upto_region 4 with (go_at_call 13; refine k2.mono ?_; rintro e w5 h5; obtain ⟨yv, nv, dv, rfl, hzv, b5⟩ := znOut_slices h5; clear h5)
    have HB45 := Lib.hid b5
    have HB5 := Lib.hid (HB4.out.trans (b5.mono HB4.out.size))
    clear b5 k2
    obtain ⟨x0, x1, x2⟩ := SX.out w5 HB5.out
    have k3 := K3.out w5 HB5.out
    go_upto_region 5 with (go_at_call 15; refine k3.mono ?_; rintro e w6 h6; obtain ⟨yd, nd, dd, rfl, hzd, b6⟩ := znOut_slices h6; clear h6)
    have HB46 := Lib.hid (HB45.out.trans (b6.mono HB45.out.size))
    have HB6 := Lib.hid (HB5.out.trans (b6.mono HB5.out.size))
    have HZV := Lib.hid (hzv.out.belows b6)
    have HZD := Lib.hid hzd.out
    have HX6 := Lib.hid (HX4.out.belows HB46.out)
    clear b6 k3 hzv hzd HB45 HX4
    by_cases hia : inD ps a
    case neg =>
      have h91 : er = 91 := HER.out.trans (if_neg hia)
      subst h91
      go_wp2_with (go_at_call 9; refine (KA.out _).mono ?_; rintro e w7 ⟨rfl, b7⟩)
      go_ret
      exact ⟨rfl, HB1.out.trans ((HB6.out.trans (b7.mono HB6.out.size)).mono HB1.out.size)⟩
    case pos =>
      have h0 : er = 0 := HER.out.trans (if_pos hia)
      subst h0
      by_cases hib : inD ps b
      case neg =>
        have h91 : e2 = 91 := HE2.out.trans (if_neg fun h => hib h.2)
        subst h91
        clear hia hib
        go_wp2_with (go_at_call 9; refine (KA.out _).mono ?_; rintro e w7 ⟨rfl, b7⟩)
        go_ret
        exact ⟨rfl, HB1.out.trans ((HB6.out.trans (b7.mono HB6.out.size)).mono HB1.out.size)⟩
      case pos =>
        have h0 : e2 = 0 := HE2.out.trans (if_pos ⟨hia, hib⟩)
        subst h0
        have HIN := Lib.hid hia
        have HIN2 := Lib.hid hib
        clear hia hib
        have HO0 := Lib.hid (orZ_zero (L := L) HR.out HIN.out)
        have hC0 : Zo.count (orZ ps ls L a 0) = 0 := by rw [HO0.out]; rfl
        have HC0 := Lib.hid hC0
        clear hC0
        have HUD : Hid (Tr.U32 D ∧ D.length ≤ 100000) := Lib.hid (by rw [HD.out]; exact ⟨zn_u32 (delZ_zn b), Nat.le_trans (delZ_few HR.out b) (by decide)⟩)
        have HUV : Hid (Tr.U32 V ∧ V.length ≤ 100000) := Lib.hid (by rw [HV.out]; exact ⟨zn_u32 (visZ_zn b), Nat.le_trans (visZ_few HR.out b) (by decide)⟩)
        have HUZ : Hid (∀ k, Tr.U32 (Z k) ∧ (Z k).length ≤ 100000) := Lib.hid fun k => by rw [HZ.out]; exact ⟨zn_u32 (fatZ_zn _), Nat.le_trans (fatZ_few HR.out _) (by decide)⟩
        have HAT : Hid (Tr.IsZ w6 (.slice none 0 0) (orZ ps ls L a 0) ∧ Below w6.heap.size w6 w6) := Lib.hid ⟨by rw [HO0.out]; exact ⟨none, 0, rfl, Nat.le_refl _, by decide, Tr.Zs.nil _ _⟩, Below.refl _ _⟩
        go_wp2
        go_loopw [14, 15, 16] (fun cv lv i wr => ∃ k : Nat, i = .int .i64 k ∧ k ≤ 5 ∧ cv = .int .u64 (Zo.count (orZ ps ls L a k) : Nat) ∧ Hid (Tr.IsZ wr lv (orZ ps ls L a k) ∧ Below w6.heap.size w6 wr)) (fun _ _ i _ => 5 - (intOf i).toNat)
        case atStart => exact ⟨0, rfl, by omega, by rw [HC0.out]; rfl, HAT⟩
        case round =>
          obtain ⟨k, rfl, hk, rfl, HI⟩ := hrel
          have hzl := HI.out.1
          obtain ⟨Al, cl, rfl, nl, ml, zl⟩ := hzl
          have HZL : Hid (Tr.IsZ wr (.slice Al (orZ ps ls L a k).length cl) (orZ ps ls L a k)) := Lib.hid ⟨Al, cl, rfl, nl, ml, zl⟩
          have HBr := Lib.hid HI.out.2
          clear nl ml zl HI
          by_cases hlt : k < 5
          · obtain ⟨AX, cX, p0, pz⟩ := (HX6.out.belows HBr.out).at hlt
            have i0 : (0 : Int) ≤ (k : Int) := by omega
            have i1 : (k : Int) < 5 := by omega
            have HPZ := Lib.hid pz
            have SZ : Hid (∀ u, Below wr.heap.size wr u → u.cell? ⟨XB, k, none⟩ = some (.slice AX (Z k).length cX)) := Lib.hid fun u hu => (World.cell?_of_block (a := ⟨XB, k, none⟩) (hu.block XB (World.block_lt_of_cell? wr _ p0))).trans p0
            have HZZ : Hid (Zo.RZ 0 (Z k) ∧ Zo.Under 4294967296 (Z k)) := Lib.hid (by rw [HZ.out]; exact fatZ_zn _)
            have kR := right_is HZZ.out wr pz
            have KC : Hid (∀ u, Below wr.heap.size wr u → Calls Tryz.prog 22 #[.slice AX (Z k).length cX] u fun e w' => e = .returned (.int .u64 (Zo.count (Z k) : Nat)) ∧ Below u.heap.size u w') := Lib.hid fun u hu => Zo.rcount_any (Z k) u HZZ.out.1 HZZ.out.2 (HPZ.out.belows hu)
            have KO : Hid (∀ u, Below wr.heap.size wr u → Calls Tryz.prog 23 #[.slice Al (orZ ps ls L a k).length cl, .slice AX (Z k).length cX] u fun e w' => ∃ v, e = .returned v ∧ Tr.IsZ w' v (orZ ps ls L a (k + 1)) ∧ Below u.heap.size u w') := Lib.hid fun u hu => by
              have k1 := Zo.ror_any (orZ ps ls L a k) (Z k) u (zn_u32 (orZ_zn k)) (HUZ.out k).1 (Nat.le_trans (orZ_few HR.out k) (by decide)) (HUZ.out k).2 (HZL.out.belows hu) (HPZ.out.belows hu)
              have e := orZ_succ (L := L) (ls := ls) HIN.out k
              rw [HZ.out] at k1 ⊢
              rw [e] at k1
              exact k1
            have HSUM : Hid (Zo.count (orZ ps ls L a (k + 1)) = Zo.count (orZ ps ls L a k) + Zo.count (Z k)) := Lib.hid (by rw [HZ.out]; exact orZ_count HIN.out k)
            have l1 := orZ_le (ps := ps) (ls := ls) (L := L) (d := a) k
            have l2 : Zo.count (Z k) ≤ 4294967296 := Zo.count_le HZZ.out.1 HZZ.out.2
            generalize Zo.count (orZ ps ls L a k) = C at HSUM l1 ⊢
            generalize Zo.count (Z k) = c at HSUM l2 KC
            clear pz hk
            go_upto_region 14 with (go_at_call 21; refine kR.mono ?_; rintro e w7 ⟨rfl, b7⟩)
            have p0 := SZ.out w7 b7
            have HB7 := Lib.hid b7
            clear b7 kR
            go_upto_region 15 with (go_at_call 22; refine (KC.out _ HB7.out).mono ?_; rintro e w8 ⟨rfl, b8⟩)
            have HB8 := Lib.hid (HB7.out.trans (b8.mono HB7.out.size))
            have p0 := SZ.out w8 HB8.out
            clear b8
            go_wp2_with (go_at_call 23; refine (KO.out _ HB8.out).mono ?_; rintro e w9 ⟨v9, rfl, z9, b9⟩)
            have HF9 : Hid (Tr.IsZ w9 v9 (orZ ps ls L a (k + 1)) ∧ Below w6.heap.size w6 w9) := Lib.hid ⟨z9, HBr.out.trans ((HB8.out.trans (b9.mono HB8.out.size)).mono HBr.out.size)⟩
            clear z9 b9
            go_roundw
            case rel => exact ⟨k + 1, by go_num, by omega, by rw [HSUM.out]; go_num, HF9⟩
            case measure => simp [intOf]; omega
          · obtain rfl : k = 5 := by omega
            have hall := orZ_all (L := L) HR.out HIN.out
            have hzn := orZ_zn (ps := ps) (ls := ls) (L := L) (d := a) 5
            generalize orZ ps ls L a 5 = W5 at HZL hall hzn ⊢
            have HZN := Lib.hid hzn
            clear hzn
            obtain ⟨AX, cX, p0, pz⟩ := (HX6.out.belows HBr.out).at (i := 3) (by omega)
            have HB9 := Lib.hid (HB6.out.trans (HBr.out.mono HB6.out.size))
            have HKA : Hid (∀ u, Below wr.heap.size wr u → Calls Tryz.prog 22 #[.slice Al W5.length cl] u fun e w' => e = .returned (.int .u64 4294967296) ∧ Below u.heap.size u w') := Lib.hid fun u hu => by
              have := Zo.rcount_any W5 u HZN.out.1 HZN.out.2 (HZL.out.belows hu)
              rwa [hall] at this
            have kM1 : Calls Tryz.prog 24 #[.slice yd nd dd, .slice AX (Z 3).length cX] wr fun e w' => ∃ v, e = .returned v ∧ Tr.IsZ w' v [] ∧ Below wr.heap.size wr w' := by
              have k1 := Zo.rminus_any D (Z 3) wr HUD.out.1 (HUZ.out 3).1 HUD.out.2 (HUZ.out 3).2 (HZD.out.belows HBr.out) pz
              have e := out_none (L := L) (ls := ls) HIN.out HIN2.out
              rw [HD.out, HZ.out] at k1
              rw [HZ.out]
              rw [e] at k1
              exact k1
            have KM2 : Hid (∀ u, Below wr.heap.size wr u → Calls Tryz.prog 24 #[.slice yd nd dd, .slice yv nv dv] u fun e w' => ∃ v, e = .returned v ∧ Tr.IsZ w' v [] ∧ Below u.heap.size u w') := Lib.hid fun u hu => by
              have k1 := Zo.rminus_any D V u HUD.out.1 HUV.out.1 HUD.out.2 HUV.out.2 (HZD.out.belows (HBr.out.trans (hu.mono HBr.out.size))) (HZV.out.belows (HBr.out.trans (hu.mono HBr.out.size)))
              have e := came_none (L := L) HR.out HIN.out HIN2.out
              rw [HD.out, HV.out] at k1
              rw [e] at k1
              exact k1
            rw [hall]
            have KV : Hid (∀ u, Below wr.heap.size wr u → Calls Tryz.prog 13 #[.agg #[.slice A1 ps.length c1, .slice A2 ls.length c2, .slice A3 L.length c3], .int .i64 a, .int .i64 a] u (ZnOut (visZ ps ls L a a) (errIn (inD ps a ∧ inD ps a)) u)) := Lib.hid fun u hu => HO.out.visits ps ls L a a u HR.out HW.out HIA.out HIA.out (HN1.out.belows (HB9.out.trans (hu.mono HB9.out.size)))
            clear hall pz hk hlt
            go_upto_region 17 with (go_at_call 24; refine kM1.mono ?_; rintro e w7 ⟨v7, rfl, ⟨A7, c7, rfl, n7, m7, z7⟩, b7⟩)
            have HB7 := Lib.hid b7
            clear n7 m7 z7 b7 kM1 p0
            go_upto_region 18 with (go_at_call 24; refine (KM2.out _ HB7.out).mono ?_; rintro e w8 ⟨v8, rfl, ⟨A8, c8, rfl, n8, m8, z8⟩, b8⟩)
            have HB8 := Lib.hid (HB7.out.trans (b8.mono HB7.out.size))
            clear n8 m8 z8 b8
            obtain ⟨x0, x1, x2⟩ := SX.out w8 (HB9.out.trans (HB8.out.mono HB9.out.size))
            have k9 := KV.out w8 HB8.out
            obtain ⟨es, hes⟩ : ∃ es, es = errIn (inD ps a ∧ inD ps a) := ⟨_, rfl⟩
            rw [← hes] at k9
            clear hes
            go_upto_region 19 with (go_at_call 13; refine k9.mono ?_; rintro e w9 h9; obtain ⟨ys, ns, dq, rfl, hzs, b9⟩ := znOut_slices h9; clear h9)
            have HB10 := Lib.hid (HB8.out.trans (b9.mono HB8.out.size))
            have KCC : Hid (∀ u, Below w9.heap.size w9 u → ∀ y n d, ((y = Al ∧ n = W5.length ∧ d = cl) ∨ (y = ys ∧ n = ns ∧ d = dq)) → Calls Tryz.prog 22 #[.slice y n d] u fun e w' => e = .returned (.int .u64 4294967296) ∧ Below u.heap.size u w') := Lib.hid fun u hu y n d hp => by
              rcases hp with ⟨rfl, rfl, rfl⟩ | ⟨rfl, rfl, rfl⟩
              · exact HKA.out u (HB10.out.trans (hu.mono HB10.out.size))
              · have := Zo.rcount_any (visZ ps ls L a a) u (visZ_zn a).1 (visZ_zn a).2 (hzs.out.belows hu)
                rwa [self_all (L := L) HR.out HIN.out] at this
            clear b9 k9 hzs x0 x1 x2
            go_wp2_with (first
              | (go_at_call 9; refine (KA.out _).mono ?_; rintro e w10 ⟨rfl, b10⟩)
              | (go_at_call 22; refine (KCC.out _ b10 _ _ _ (by first | exact .inl ⟨rfl, rfl, rfl⟩ | exact .inr ⟨rfl, rfl, rfl⟩)).mono ?_; rintro e w11 ⟨rfl, b11⟩; replace b10 := b10.trans (b11.mono b10.size); clear b11))
            go_ret
            have b9z := HB10.out.trans (b10.mono HB10.out.size)
            exact ⟨rfl, HB1.out.trans ((HB9.out.trans (b9z.mono HB9.out.size)).mono HB1.out.size)⟩
end Go.Proofs.YteboadppighplaaGreat
namespace Go.Proofs.YteboadppighplaaGreat.flowWhole
open Go.ChangeShapes Go.WideShapes Go.ChangeAt Go.RowKit
open Go.ChangeMaps (open_string shut_string)
set_option linter.unusedVariables false

theorem own : ownKnob Tryz.prog.godebug = none := by kernel_rfl
theorem laidOut : laidOutB Tryz.prog = true := by kernel_rfl
theorem readable : (Tryz.f5.params.toList.all fun t => Tryz.prog.readableRec t && decide (t < Tryz.prog.types.size)) = true := by kernel_rfl

set_option maxRecDepth 100000 in
theorem lifted (os : Os) (started : os.Started) (H : Type) (enc : TypeId × Value → H) :
    ReturnsInHanded {} Tryz.checked os 5 .any (Rows.flowWholeSpec.pre6 enc Tryz.prog Tryz.f5 Rows.flowWholeRow.domain false) (Rows.flowWholeSpec.post enc Tryz.prog Tryz.f5 false true false false) := by
  refine returnsInHanded_of_change_sized (C := Tryz.checked) own started (by kernel_rfl) Tryz.func5
    (ChangeSpec.witness6 (enc := enc) (C := Tryz.checked) false ⟨#[], #[.agg #[.slice none 0 0, .slice none 0 0, .slice none 0 0], .int .i64 0, .int .i64 0], []⟩ 8 (by kernel_rfl) (by kernel_rfl) (by kernel_rfl) (by kernel_rfl)) ?_
  intro W base args ds gs before hval0 hW hcnd hsz0 _
  have hsz : (DataW.weightsEach Tryz.prog (Tryz.f5.params.toList ++ Rows.flowWholeSpec.plain.varTypes Tryz.prog) (ds ++ gs)).all (· ≤ reachBytes) = true := hsz0
  have hval : ∀ (j : Nat) t v, Tryz.f5.params[j]? = some t → args[j]? = some v → Value.okWide Tryz.prog W .any base t v := hval0
  have hW' := hW
  obtain ⟨p, q, hA0, hV, rfl, hfz, hnd⟩ := hW
  have hA : DataW.TrodAll enc Tryz.prog W 0 (fun _ => true) true Tryz.f5.params.toList args.toList ds p := hA0
  rw [Tryz.params5] at hA hval hsz
  obtain ⟨v0, vs0, d0, ds0, p0, q0, hargs, rfl, rfl, h0, r0⟩ := trodAll_cons hA
  obtain ⟨v1, vs1, d1, ds1, p1, q1, rfl, rfl, rfl, h1, r1⟩ := trodAll_cons r0
  obtain ⟨v2, vs2, d2, ds2, p2, q2, rfl, rfl, rfl, h2, r2⟩ := trodAll_cons r1
  obtain ⟨rfl, rfl, rfl⟩ := trodAll_nil r2
  obtain rfl : args = #[v0, v1, v2] := by cases args; simp_all
  obtain ⟨rfl, rfl⟩ := trodVars_none hV
  have fin : ∀ (e : Ending) (W' : World), e = .returned (.bool true) ∧ Below W.heap.size W W' → ∃ v, e = .returned v ∧ Rows.flowWholeSpec.post enc Tryz.prog Tryz.f5 false true false false W #[v0, v1, v2] v W' := by
    rintro e W' ⟨rfl, bel⟩
    exact ⟨_, rfl, post_law (tb := 4) laidOut readable (by kernel_rfl) Tryz.underlying4 rfl hW' rfl bel⟩
  clear hW' hA0 hval0 hcnd hfz hnd hsz0
  obtain ⟨va0, vb0, vc0, ps0, ls0, l0, rfl, hh0, ww0⟩ := open_net (hval 0 28 v0 rfl rfl) h0 (net_room hsz)
  obtain ⟨a1, rfl, rfl, rfl, w1⟩ := open_int Tryz.underlying3 (hval 1 3 v1 rfl rfl) h1
  have wi1 := i64_wf w1
  obtain ⟨a2, rfl, rfl, rfl, w2⟩ := open_int Tryz.underlying3 (hval 2 3 v2 rfl rfl) h2
  have wi2 := i64_wf w2
  exact (whole11_walk ownCalls11 ps0 ls0 l0 a1 a2 W hh0 ww0 wi1 wi2).mono fun e W' h => fin e W' h

theorem over : Rows.flowWholeRow.holds Tryz.pinned (OpenSpec.ofChange Rows.flowWholeSpec) :=
  OpenClaim.holds_of_wide 5 Tryz.f5 rfl rfl rfl rfl rfl rfl rfl ⟨rfl, rfl, rfl, rfl, rfl⟩ rfl rfl rfl rfl rfl (by kernel_rfl) Tryz.func5 (by kernel_rfl)
    (of_decide_eq_true (by kernel_rfl)) (by unfold Func.isWrapper; first | (rw [if_pos (by decide +kernel)]; kernel_rfl) | (rw [if_neg (by decide +kernel)]; exact ⟨rfl, rfl⟩))
    (fun os started H enc _ => lifted os started H enc)

theorem proved : Rows.FlowWholeSaid := over
#print axioms proved
end Go.Proofs.YteboadppighplaaGreat.flowWhole
