/- Contracts: the document's And, Or, Minus. -/
import Derived.Test.YtonhmppobdbidaaD3
namespace Go.Proofs.Ytonhmppobdbidaa
open Go.RowKit Go.Shelf

theorem Zs.none {w : World} {A : Option Addr} {L : List (Nat × Nat)} (h : Zs w A L) (hA : A = none) : L = [] := by
  cases L with
  | nil => rfl
  | cons r L => obtain ⟨g, o, e, _⟩ := h (by simp); rw [hA] at e; cases e
/-- The zone that the document builds of two. -/
def docBoth (f : Bool → Bool → Bool) (X Y : List (Nat × Nat)) : List (Nat × Nat) := build 4294967296 (fun a => f (has X a) (has Y a)) [] (cutsL 4294967296 0 (ends (X ++ Y)))
/-- What it answers. -/
def DocOut (T : List (Nat × Nat)) (w : World) (e : Ending) (w' : World) : Prop := ∃ v', e = .returned v' ∧ IsZ w' v' T ∧ Below w.heap.size w w'
theorem u32_append {X Y : List (Nat × Nat)} (hx : U32 X) (hy : U32 Y) : U32 (X ++ Y) := fun r hr => by
  rcases List.mem_append.1 hr with h | h
  · exact hx r h
  · exact hy r h

set_option maxRecDepth 100000 in
set_option maxHeartbeats 10000000 in
theorem rand0_any {v1 v2 : Value} (X Y : List (Nat × Nat)) (w : World) (ux : U32 X) (uy : U32 Y) (hlx : X.length ≤ 100000) (hly : Y.length ≤ 100000) (zx : IsZ w v1 X) (zy : IsZ w v2 Y) :
    Calls Try.prog 42 #[v1, v2, .int .i64 1] w (DocOut (docBoth (fun p q => p && q) X Y) w) := by
  have hh1 := fun (W : World) (hW : Below w.heap.size w W) (a : Nat) => rhas_any X a W (zx.belows hW)
  have hh2 := fun (W : World) (hW : Below w.heap.size w W) (a : Nat) => rhas_any Y a W (zy.belows hW)
  have HH1 := Lib.hid hh1
  have HH2 := Lib.hid hh2
  have hlen : (X ++ Y).length ≤ 1000000 := by simp; omega
  have hcuts := fun (W : World) (v : Value) (hv : IsZ W v (X ++ Y)) => cuts_any (X ++ Y) W (u32_append ux uy) hlen hv
  have HC := Lib.hid hcuts
  obtain ⟨A1, c1, rfl, n1, m1, z1⟩ := zx
  obtain ⟨A2, c2, rfl, n2, m2, z2⟩ := zy
  have H1 := Lib.hid z1
  have H2 := Lib.hid z2
  clear z1 z2 ux uy hh1 hh2 hcuts hlen
  have ba : Below w.heap.size w (w.alloc (.cells #[] 33)) := (Below.refl _ w).alloc (Nat.le_refl _) _
  go_enter Try.func42, Try.ntmps42
  go_wp2_with (first | (at_builtin; refine wpList_app_z rfl _ _ rfl w.heap.size _ [] rfl (Row.empty w) _ _ X rfl (H1.out.belows ba) (H1.out.none) (by simp; omega) (by simp) ?_; intro g cap w1 hrow b1; simp only [List.length_nil, Nat.zero_add, List.nil_append] at hrow; have bb := ba.trans b1) | (at_builtin; refine wpList_app_z rfl _ _ rfl w.heap.size _ X rfl hrow _ _ Y rfl (H2.out.belows bb) (H2.out.none) (by omega) bb.size ?_; intro g3 cap3 w3 hrow3 b3; have bc := bb.trans b3; have hz3 := hrow3.isZ) | (go_at_call 35; refine (HC.out _ _ hz3).mono ?_; rintro e w2 ⟨vc, rfl, hI, b2⟩))
  have hb2 : Below w.heap.size w w2 := bc.trans (b2.mono bc.size)
  have hcu := cu_cuts (ends (X ++ Y))
  obtain ⟨T, hT⟩ : ∃ T, T = docBoth (fun p q => p && q) X Y := ⟨_, rfl⟩
  have hst : BI (fun a => (fun p q => p && q) (has X a) (has Y a)) (cutsL 4294967296 0 (ends (X ++ Y))) T 0 [] := ⟨by rw [hT, List.drop_zero]; rfl, fun r hr => by simp at hr, by simp⟩
  have hend := fun k hk (W : World) (hW : Below w2.heap.size w2 W) => end_any (cutsL 4294967296 0 (ends (X ++ Y))) k W hk hcu.pos hcu.lt (hI.belows hW)
  generalize cutsL 4294967296 0 (ends (X ++ Y)) = C at hI hcu hst hend
  have HT := Lib.hid hT
  have HEND := Lib.hid hend
  have HCU := Lib.hid hcu
  obtain ⟨Ac, cc, rfl, nc, mc, zc⟩ := hI
  have HCC := Lib.hid zc
  have HST := Lib.hid hst
  clear hT hend hcu zc hst hrow hrow3 hz3
  simp only [maxLen] at mc
  go_wp2
  go_loopw [9, 10] (fun o i wq => ∃ (k : Nat) (z : List (Nat × Nat)), i = .int .i64 k ∧ k ≤ C.length ∧ Hid (BI (fun a => (fun p q => p && q) (has X a) (has Y a)) C T k z) ∧ Hid (wq.ownsRow w2.heap.size 33 2 o z.length (pcells z)) ∧ Below w2.heap.size w2 wq) (fun _ i _ => C.length - (intOf i).toNat)
  case atStart => exact ⟨0, [], rfl, by omega, HST, Lib.hid (World.ownsRow_nil _ _ _ _), Below.refl _ _⟩
  case round =>
    obtain ⟨k, z, rfl, hk, HBI, HO, hbq⟩ := hrel
    by_cases hlt : k < C.length
    · obtain ⟨g, e1, hg, hc⟩ := HCC.out (by omega)
      subst e1
      have c0 := (hbq.cell (p := ⟨g, k, none⟩) hg).trans (hc k hlt)
      have b0 := HCU.out.lt k hlt
      have hgive := HBI.out.give hlt HCU.out.lt
      have hpass := HBI.out.pass hlt
      have hE := HEND.out k hlt
      have hel := endOf_lt (C := C) (k := k) HCU.out.lt
      clear hc
      generalize C[k] = c at c0 b0 hgive hpass
      generalize endOf 4294967296 (C.drop (k + 1)) = en at hgive hE hel
      have hzl : z.length ≤ 4294967296 := by have := HBI.out.2.2; have := HCU.out.len; omega
      have hbw : Below w.heap.size w wr := hb2.trans (hbq.mono hb2.size)
      have hA := HH1.out wr hbw c
      have hB := HH2.out wr hbw c
      have j1 : IntKind.u32.wrap (c : Int) = (c : Int) := IntWalk.u32_in _ (by omega)
      have i0 : (0 : Int) ≤ (k : Int) := by omega
      have i1 : (k : Int) < (C.length : Int) := by omega
      have HGI := Lib.hid hgive
      have HPA := Lib.hid hpass
      clear hgive hpass
      go_wp2_with fail
      refine hA.mono ?_
      rintro e w5 ⟨rfl, rfl⟩
      go_wp2_with fail
      refine hB.mono ?_
      rintro e w6 ⟨rfl, rfl⟩
      cases hp : has X c with
      | true =>
        cases hq : has Y c with
        | true =>
          have HB2 := Lib.hid (HGI.out (by show (fun p q => p && q) (has X c) (has Y c) = true; rw [hp, hq]; rfl))
          go_wp2_with fail
          go_region_held3 (fun w' => w'.cell? ⟨g, k, none⟩ = some (.int .i64 c)) (first | go_keep) (first | (go_at_call 37; refine (hE _ (by first | exact hbq.drew | exact hbq)).mono ?_; rintro e w4 ⟨rfl, rfl⟩) | (go_at_call 36; refine (join_any z c en _ HBI.out.2.1 b0 hel hzl (by first | exact HO.out.drew | exact HO.out) (by first | exact hbq.drew.size | exact hbq.size)).mono ?_; rintro e w4 ⟨v', rfl, ho', b4⟩; have d0 := (b4.cell (p := ⟨g, k, none⟩) hg).trans c0))
          go_wp2
          go_roundw
          case rel => exact ⟨k + 1, joinZ z c en, by go_num, by omega, HB2, Lib.hid ho', (by first | exact hbq.drew.trans b4 | exact hbq.trans b4)⟩
          case measure => simp [intOf]; omega
        | false =>
          have HB2 := Lib.hid (HPA.out (by show (fun p q => p && q) (has X c) (has Y c) = false; rw [hp, hq]; rfl))
          go_wp2
          go_roundw
          case rel => exact ⟨k + 1, z, by go_num, by omega, HB2, HO, hbq⟩
          case measure => simp [intOf]; omega
      | false =>
        cases hq : has Y c with
        | true =>
          have HB2 := Lib.hid (HPA.out (by show (fun p q => p && q) (has X c) (has Y c) = false; rw [hp, hq]; rfl))
          go_wp2
          go_roundw
          case rel => exact ⟨k + 1, z, by go_num, by omega, HB2, HO, hbq⟩
          case measure => simp [intOf]; omega
        | false =>
          have HB2 := Lib.hid (HPA.out (by show (fun p q => p && q) (has X c) (has Y c) = false; rw [hp, hq]; rfl))
          go_wp2
          go_roundw
          case rel => exact ⟨k + 1, z, by go_num, by omega, HB2, HO, hbq⟩
          case measure => simp [intOf]; omega
    · obtain rfl : k = C.length := by omega
      have hfin := HBI.out.fin
      subst hfin
      go_wp2
      go_ret
      exact ⟨_, rfl, HT.out ▸ isZ_of_row HO.out, hb2.trans (hbq.mono hb2.size)⟩

theorem rand_any {v1 v2 : Value} (X Y : List (Nat × Nat)) (w : World) (ux : U32 X) (uy : U32 Y) (hlx : X.length ≤ 100000) (hly : Y.length ≤ 100000) (zx : IsZ w v1 X) (zy : IsZ w v2 Y) :
    Calls Try.prog 21 #[v1, v2] w (DocOut (docBoth (fun p q => p && q) X Y) w) := by
  have h := rand0_any X Y w ux uy hlx hly zx zy
  obtain ⟨A1, c1, rfl, _⟩ := zx
  obtain ⟨A2, c2, rfl, _⟩ := zy
  go_enter Try.func21, Try.ntmps21
  go_wp2_with (go_at_call 42; refine h.mono ?_; rintro e w1 ⟨v', rfl, hz, b1⟩)
  go_ret
  exact ⟨v', rfl, hz, b1⟩

set_option maxRecDepth 100000 in
set_option maxHeartbeats 10000000 in
theorem ror0_any {v1 v2 : Value} (X Y : List (Nat × Nat)) (w : World) (ux : U32 X) (uy : U32 Y) (hlx : X.length ≤ 100000) (hly : Y.length ≤ 100000) (zx : IsZ w v1 X) (zy : IsZ w v2 Y) :
    Calls Try.prog 42 #[v1, v2, .int .i64 2] w (DocOut (docBoth (fun p q => p || q) X Y) w) := by
  have hh1 := fun (W : World) (hW : Below w.heap.size w W) (a : Nat) => rhas_any X a W (zx.belows hW)
  have hh2 := fun (W : World) (hW : Below w.heap.size w W) (a : Nat) => rhas_any Y a W (zy.belows hW)
  have HH1 := Lib.hid hh1
  have HH2 := Lib.hid hh2
  have hlen : (X ++ Y).length ≤ 1000000 := by simp; omega
  have hcuts := fun (W : World) (v : Value) (hv : IsZ W v (X ++ Y)) => cuts_any (X ++ Y) W (u32_append ux uy) hlen hv
  have HC := Lib.hid hcuts
  obtain ⟨A1, c1, rfl, n1, m1, z1⟩ := zx
  obtain ⟨A2, c2, rfl, n2, m2, z2⟩ := zy
  have H1 := Lib.hid z1
  have H2 := Lib.hid z2
  clear z1 z2 ux uy hh1 hh2 hcuts hlen
  have ba : Below w.heap.size w (w.alloc (.cells #[] 33)) := (Below.refl _ w).alloc (Nat.le_refl _) _
  go_enter Try.func42, Try.ntmps42
  go_wp2_with (first | (at_builtin; refine wpList_app_z rfl _ _ rfl w.heap.size _ [] rfl (Row.empty w) _ _ X rfl (H1.out.belows ba) (H1.out.none) (by simp; omega) (by simp) ?_; intro g cap w1 hrow b1; simp only [List.length_nil, Nat.zero_add, List.nil_append] at hrow; have bb := ba.trans b1) | (at_builtin; refine wpList_app_z rfl _ _ rfl w.heap.size _ X rfl hrow _ _ Y rfl (H2.out.belows bb) (H2.out.none) (by omega) bb.size ?_; intro g3 cap3 w3 hrow3 b3; have bc := bb.trans b3; have hz3 := hrow3.isZ) | (go_at_call 35; refine (HC.out _ _ hz3).mono ?_; rintro e w2 ⟨vc, rfl, hI, b2⟩))
  have hb2 : Below w.heap.size w w2 := bc.trans (b2.mono bc.size)
  have hcu := cu_cuts (ends (X ++ Y))
  obtain ⟨T, hT⟩ : ∃ T, T = docBoth (fun p q => p || q) X Y := ⟨_, rfl⟩
  have hst : BI (fun a => (fun p q => p || q) (has X a) (has Y a)) (cutsL 4294967296 0 (ends (X ++ Y))) T 0 [] := ⟨by rw [hT, List.drop_zero]; rfl, fun r hr => by simp at hr, by simp⟩
  have hend := fun k hk (W : World) (hW : Below w2.heap.size w2 W) => end_any (cutsL 4294967296 0 (ends (X ++ Y))) k W hk hcu.pos hcu.lt (hI.belows hW)
  generalize cutsL 4294967296 0 (ends (X ++ Y)) = C at hI hcu hst hend
  have HT := Lib.hid hT
  have HEND := Lib.hid hend
  have HCU := Lib.hid hcu
  obtain ⟨Ac, cc, rfl, nc, mc, zc⟩ := hI
  have HCC := Lib.hid zc
  have HST := Lib.hid hst
  clear hT hend hcu zc hst hrow hrow3 hz3
  simp only [maxLen] at mc
  go_wp2
  go_loopw [9, 10] (fun o i wq => ∃ (k : Nat) (z : List (Nat × Nat)), i = .int .i64 k ∧ k ≤ C.length ∧ Hid (BI (fun a => (fun p q => p || q) (has X a) (has Y a)) C T k z) ∧ Hid (wq.ownsRow w2.heap.size 33 2 o z.length (pcells z)) ∧ Below w2.heap.size w2 wq) (fun _ i _ => C.length - (intOf i).toNat)
  case atStart => exact ⟨0, [], rfl, by omega, HST, Lib.hid (World.ownsRow_nil _ _ _ _), Below.refl _ _⟩
  case round =>
    obtain ⟨k, z, rfl, hk, HBI, HO, hbq⟩ := hrel
    by_cases hlt : k < C.length
    · obtain ⟨g, e1, hg, hc⟩ := HCC.out (by omega)
      subst e1
      have c0 := (hbq.cell (p := ⟨g, k, none⟩) hg).trans (hc k hlt)
      have b0 := HCU.out.lt k hlt
      have hgive := HBI.out.give hlt HCU.out.lt
      have hpass := HBI.out.pass hlt
      have hE := HEND.out k hlt
      have hel := endOf_lt (C := C) (k := k) HCU.out.lt
      clear hc
      generalize C[k] = c at c0 b0 hgive hpass
      generalize endOf 4294967296 (C.drop (k + 1)) = en at hgive hE hel
      have hzl : z.length ≤ 4294967296 := by have := HBI.out.2.2; have := HCU.out.len; omega
      have hbw : Below w.heap.size w wr := hb2.trans (hbq.mono hb2.size)
      have hA := HH1.out wr hbw c
      have hB := HH2.out wr hbw c
      have j1 : IntKind.u32.wrap (c : Int) = (c : Int) := IntWalk.u32_in _ (by omega)
      have i0 : (0 : Int) ≤ (k : Int) := by omega
      have i1 : (k : Int) < (C.length : Int) := by omega
      have HGI := Lib.hid hgive
      have HPA := Lib.hid hpass
      clear hgive hpass
      go_wp2_with fail
      refine hA.mono ?_
      rintro e w5 ⟨rfl, rfl⟩
      go_wp2_with fail
      refine hB.mono ?_
      rintro e w6 ⟨rfl, rfl⟩
      cases hp : has X c with
      | true =>
        cases hq : has Y c with
        | true =>
          have HB2 := Lib.hid (HGI.out (by show (fun p q => p || q) (has X c) (has Y c) = true; rw [hp, hq]; rfl))
          go_wp2_with fail
          go_region_held3 (fun w' => w'.cell? ⟨g, k, none⟩ = some (.int .i64 c)) (first | go_keep) (first | (go_at_call 37; refine (hE _ (by first | exact hbq.drew | exact hbq)).mono ?_; rintro e w4 ⟨rfl, rfl⟩) | (go_at_call 36; refine (join_any z c en _ HBI.out.2.1 b0 hel hzl (by first | exact HO.out.drew | exact HO.out) (by first | exact hbq.drew.size | exact hbq.size)).mono ?_; rintro e w4 ⟨v', rfl, ho', b4⟩; have d0 := (b4.cell (p := ⟨g, k, none⟩) hg).trans c0))
          go_wp2
          go_roundw
          case rel => exact ⟨k + 1, joinZ z c en, by go_num, by omega, HB2, Lib.hid ho', (by first | exact hbq.drew.trans b4 | exact hbq.trans b4)⟩
          case measure => simp [intOf]; omega
        | false =>
          have HB2 := Lib.hid (HGI.out (by show (fun p q => p || q) (has X c) (has Y c) = true; rw [hp, hq]; rfl))
          go_wp2_with fail
          go_region_held3 (fun w' => w'.cell? ⟨g, k, none⟩ = some (.int .i64 c)) (first | go_keep) (first | (go_at_call 37; refine (hE _ (by first | exact hbq.drew | exact hbq)).mono ?_; rintro e w4 ⟨rfl, rfl⟩) | (go_at_call 36; refine (join_any z c en _ HBI.out.2.1 b0 hel hzl (by first | exact HO.out.drew | exact HO.out) (by first | exact hbq.drew.size | exact hbq.size)).mono ?_; rintro e w4 ⟨v', rfl, ho', b4⟩; have d0 := (b4.cell (p := ⟨g, k, none⟩) hg).trans c0))
          go_wp2
          go_roundw
          case rel => exact ⟨k + 1, joinZ z c en, by go_num, by omega, HB2, Lib.hid ho', (by first | exact hbq.drew.trans b4 | exact hbq.trans b4)⟩
          case measure => simp [intOf]; omega
      | false =>
        cases hq : has Y c with
        | true =>
          have HB2 := Lib.hid (HGI.out (by show (fun p q => p || q) (has X c) (has Y c) = true; rw [hp, hq]; rfl))
          go_wp2_with fail
          go_region_held3 (fun w' => w'.cell? ⟨g, k, none⟩ = some (.int .i64 c)) (first | go_keep) (first | (go_at_call 37; refine (hE _ (by first | exact hbq.drew | exact hbq)).mono ?_; rintro e w4 ⟨rfl, rfl⟩) | (go_at_call 36; refine (join_any z c en _ HBI.out.2.1 b0 hel hzl (by first | exact HO.out.drew | exact HO.out) (by first | exact hbq.drew.size | exact hbq.size)).mono ?_; rintro e w4 ⟨v', rfl, ho', b4⟩; have d0 := (b4.cell (p := ⟨g, k, none⟩) hg).trans c0))
          go_wp2
          go_roundw
          case rel => exact ⟨k + 1, joinZ z c en, by go_num, by omega, HB2, Lib.hid ho', (by first | exact hbq.drew.trans b4 | exact hbq.trans b4)⟩
          case measure => simp [intOf]; omega
        | false =>
          have HB2 := Lib.hid (HPA.out (by show (fun p q => p || q) (has X c) (has Y c) = false; rw [hp, hq]; rfl))
          go_wp2
          go_roundw
          case rel => exact ⟨k + 1, z, by go_num, by omega, HB2, HO, hbq⟩
          case measure => simp [intOf]; omega
    · obtain rfl : k = C.length := by omega
      have hfin := HBI.out.fin
      subst hfin
      go_wp2
      go_ret
      exact ⟨_, rfl, HT.out ▸ isZ_of_row HO.out, hb2.trans (hbq.mono hb2.size)⟩

theorem ror_any {v1 v2 : Value} (X Y : List (Nat × Nat)) (w : World) (ux : U32 X) (uy : U32 Y) (hlx : X.length ≤ 100000) (hly : Y.length ≤ 100000) (zx : IsZ w v1 X) (zy : IsZ w v2 Y) :
    Calls Try.prog 23 #[v1, v2] w (DocOut (docBoth (fun p q => p || q) X Y) w) := by
  have h := ror0_any X Y w ux uy hlx hly zx zy
  obtain ⟨A1, c1, rfl, _⟩ := zx
  obtain ⟨A2, c2, rfl, _⟩ := zy
  go_enter Try.func23, Try.ntmps23
  go_wp2_with (go_at_call 42; refine h.mono ?_; rintro e w1 ⟨v', rfl, hz, b1⟩)
  go_ret
  exact ⟨v', rfl, hz, b1⟩

set_option maxRecDepth 100000 in
set_option maxHeartbeats 10000000 in
theorem rminus0_any {v1 v2 : Value} (X Y : List (Nat × Nat)) (w : World) (ux : U32 X) (uy : U32 Y) (hlx : X.length ≤ 100000) (hly : Y.length ≤ 100000) (zx : IsZ w v1 X) (zy : IsZ w v2 Y) :
    Calls Try.prog 42 #[v1, v2, .int .i64 3] w (DocOut (docBoth (fun p q => p && !q) X Y) w) := by
  have hh1 := fun (W : World) (hW : Below w.heap.size w W) (a : Nat) => rhas_any X a W (zx.belows hW)
  have hh2 := fun (W : World) (hW : Below w.heap.size w W) (a : Nat) => rhas_any Y a W (zy.belows hW)
  have HH1 := Lib.hid hh1
  have HH2 := Lib.hid hh2
  have hlen : (X ++ Y).length ≤ 1000000 := by simp; omega
  have hcuts := fun (W : World) (v : Value) (hv : IsZ W v (X ++ Y)) => cuts_any (X ++ Y) W (u32_append ux uy) hlen hv
  have HC := Lib.hid hcuts
  obtain ⟨A1, c1, rfl, n1, m1, z1⟩ := zx
  obtain ⟨A2, c2, rfl, n2, m2, z2⟩ := zy
  have H1 := Lib.hid z1
  have H2 := Lib.hid z2
  clear z1 z2 ux uy hh1 hh2 hcuts hlen
  have ba : Below w.heap.size w (w.alloc (.cells #[] 33)) := (Below.refl _ w).alloc (Nat.le_refl _) _
  go_enter Try.func42, Try.ntmps42
  go_wp2_with (first | (at_builtin; refine wpList_app_z rfl _ _ rfl w.heap.size _ [] rfl (Row.empty w) _ _ X rfl (H1.out.belows ba) (H1.out.none) (by simp; omega) (by simp) ?_; intro g cap w1 hrow b1; simp only [List.length_nil, Nat.zero_add, List.nil_append] at hrow; have bb := ba.trans b1) | (at_builtin; refine wpList_app_z rfl _ _ rfl w.heap.size _ X rfl hrow _ _ Y rfl (H2.out.belows bb) (H2.out.none) (by omega) bb.size ?_; intro g3 cap3 w3 hrow3 b3; have bc := bb.trans b3; have hz3 := hrow3.isZ) | (go_at_call 35; refine (HC.out _ _ hz3).mono ?_; rintro e w2 ⟨vc, rfl, hI, b2⟩))
  have hb2 : Below w.heap.size w w2 := bc.trans (b2.mono bc.size)
  have hcu := cu_cuts (ends (X ++ Y))
  obtain ⟨T, hT⟩ : ∃ T, T = docBoth (fun p q => p && !q) X Y := ⟨_, rfl⟩
  have hst : BI (fun a => (fun p q => p && !q) (has X a) (has Y a)) (cutsL 4294967296 0 (ends (X ++ Y))) T 0 [] := ⟨by rw [hT, List.drop_zero]; rfl, fun r hr => by simp at hr, by simp⟩
  have hend := fun k hk (W : World) (hW : Below w2.heap.size w2 W) => end_any (cutsL 4294967296 0 (ends (X ++ Y))) k W hk hcu.pos hcu.lt (hI.belows hW)
  generalize cutsL 4294967296 0 (ends (X ++ Y)) = C at hI hcu hst hend
  have HT := Lib.hid hT
  have HEND := Lib.hid hend
  have HCU := Lib.hid hcu
  obtain ⟨Ac, cc, rfl, nc, mc, zc⟩ := hI
  have HCC := Lib.hid zc
  have HST := Lib.hid hst
  clear hT hend hcu zc hst hrow hrow3 hz3
  simp only [maxLen] at mc
  go_wp2
  go_loopw [9, 10] (fun o i wq => ∃ (k : Nat) (z : List (Nat × Nat)), i = .int .i64 k ∧ k ≤ C.length ∧ Hid (BI (fun a => (fun p q => p && !q) (has X a) (has Y a)) C T k z) ∧ Hid (wq.ownsRow w2.heap.size 33 2 o z.length (pcells z)) ∧ Below w2.heap.size w2 wq) (fun _ i _ => C.length - (intOf i).toNat)
  case atStart => exact ⟨0, [], rfl, by omega, HST, Lib.hid (World.ownsRow_nil _ _ _ _), Below.refl _ _⟩
  case round =>
    obtain ⟨k, z, rfl, hk, HBI, HO, hbq⟩ := hrel
    by_cases hlt : k < C.length
    · obtain ⟨g, e1, hg, hc⟩ := HCC.out (by omega)
      subst e1
      have c0 := (hbq.cell (p := ⟨g, k, none⟩) hg).trans (hc k hlt)
      have b0 := HCU.out.lt k hlt
      have hgive := HBI.out.give hlt HCU.out.lt
      have hpass := HBI.out.pass hlt
      have hE := HEND.out k hlt
      have hel := endOf_lt (C := C) (k := k) HCU.out.lt
      clear hc
      generalize C[k] = c at c0 b0 hgive hpass
      generalize endOf 4294967296 (C.drop (k + 1)) = en at hgive hE hel
      have hzl : z.length ≤ 4294967296 := by have := HBI.out.2.2; have := HCU.out.len; omega
      have hbw : Below w.heap.size w wr := hb2.trans (hbq.mono hb2.size)
      have hA := HH1.out wr hbw c
      have hB := HH2.out wr hbw c
      have j1 : IntKind.u32.wrap (c : Int) = (c : Int) := IntWalk.u32_in _ (by omega)
      have i0 : (0 : Int) ≤ (k : Int) := by omega
      have i1 : (k : Int) < (C.length : Int) := by omega
      have HGI := Lib.hid hgive
      have HPA := Lib.hid hpass
      clear hgive hpass
      go_wp2_with fail
      refine hA.mono ?_
      rintro e w5 ⟨rfl, rfl⟩
      go_wp2_with fail
      refine hB.mono ?_
      rintro e w6 ⟨rfl, rfl⟩
      cases hp : has X c with
      | true =>
        cases hq : has Y c with
        | true =>
          have HB2 := Lib.hid (HPA.out (by show (fun p q => p && !q) (has X c) (has Y c) = false; rw [hp, hq]; rfl))
          go_wp2
          go_roundw
          case rel => exact ⟨k + 1, z, by go_num, by omega, HB2, HO, hbq⟩
          case measure => simp [intOf]; omega
        | false =>
          have HB2 := Lib.hid (HGI.out (by show (fun p q => p && !q) (has X c) (has Y c) = true; rw [hp, hq]; rfl))
          go_wp2_with fail
          go_region_held3 (fun w' => w'.cell? ⟨g, k, none⟩ = some (.int .i64 c)) (first | go_keep) (first | (go_at_call 37; refine (hE _ (by first | exact hbq.drew | exact hbq)).mono ?_; rintro e w4 ⟨rfl, rfl⟩) | (go_at_call 36; refine (join_any z c en _ HBI.out.2.1 b0 hel hzl (by first | exact HO.out.drew | exact HO.out) (by first | exact hbq.drew.size | exact hbq.size)).mono ?_; rintro e w4 ⟨v', rfl, ho', b4⟩; have d0 := (b4.cell (p := ⟨g, k, none⟩) hg).trans c0))
          go_wp2
          go_roundw
          case rel => exact ⟨k + 1, joinZ z c en, by go_num, by omega, HB2, Lib.hid ho', (by first | exact hbq.drew.trans b4 | exact hbq.trans b4)⟩
          case measure => simp [intOf]; omega
      | false =>
        cases hq : has Y c with
        | true =>
          have HB2 := Lib.hid (HPA.out (by show (fun p q => p && !q) (has X c) (has Y c) = false; rw [hp, hq]; rfl))
          go_wp2
          go_roundw
          case rel => exact ⟨k + 1, z, by go_num, by omega, HB2, HO, hbq⟩
          case measure => simp [intOf]; omega
        | false =>
          have HB2 := Lib.hid (HPA.out (by show (fun p q => p && !q) (has X c) (has Y c) = false; rw [hp, hq]; rfl))
          go_wp2
          go_roundw
          case rel => exact ⟨k + 1, z, by go_num, by omega, HB2, HO, hbq⟩
          case measure => simp [intOf]; omega
    · obtain rfl : k = C.length := by omega
      have hfin := HBI.out.fin
      subst hfin
      go_wp2
      go_ret
      exact ⟨_, rfl, HT.out ▸ isZ_of_row HO.out, hb2.trans (hbq.mono hb2.size)⟩

theorem rminus_any {v1 v2 : Value} (X Y : List (Nat × Nat)) (w : World) (ux : U32 X) (uy : U32 Y) (hlx : X.length ≤ 100000) (hly : Y.length ≤ 100000) (zx : IsZ w v1 X) (zy : IsZ w v2 Y) :
    Calls Try.prog 25 #[v1, v2] w (DocOut (docBoth (fun p q => p && !q) X Y) w) := by
  have h := rminus0_any X Y w ux uy hlx hly zx zy
  obtain ⟨A1, c1, rfl, _⟩ := zx
  obtain ⟨A2, c2, rfl, _⟩ := zy
  go_enter Try.func25, Try.ntmps25
  go_wp2_with (go_at_call 42; refine h.mono ?_; rintro e w1 ⟨v', rfl, hz, b1⟩)
  go_ret
  exact ⟨v', rfl, hz, b1⟩
end Go.Proofs.Ytonhmppobdbidaa
