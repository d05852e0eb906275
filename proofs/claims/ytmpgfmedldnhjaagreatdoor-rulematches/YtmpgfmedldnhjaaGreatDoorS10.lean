/- Contracts: rule.Text. -/
import Derived.Test.YtmpgfmedldnhjaaGreatDoorS9
import Derived.Test.YtmpgfmedldnhjaaGreatDoorTail
namespace Go.Proofs.YtmpgfmedldnhjaaGreatDoor
open Go.RowKit Go.Shelf

theorem row_belows {W W' : World} {base : Nat} {e : TypeId} {size : Nat} {v : Value} {k : Nat} {xs : List Value} (h : W.ownsRow base e size v k xs) (hb : Below W.heap.size W W') : W'.ownsRow base e size v k xs := by
  refine h.kept (row := none) ⟨hb.os, hb.tape, hb.output, hb.size, fun k hk _ => hb.block k hk⟩ ?_
  cases hv : v.ownBlock with
  | none => exact .inl rfl
  | some g => exact .inr (by simp)
/-- Texts as cells. -/
def scs (ps : List (List UInt8)) : List Value := ps.map fun p => .string ⟨p.toArray⟩
theorem inf9 : (Tryz.prog.info? 9).map (fun i => (i.zero, i.size, i.bytes)) = some (some (.string ⟨#[]⟩), 1, 16) := by kernel_rfl
theorem one_new (w : World) (v : Value) (t : TypeId) : ∀ (j : Nat) (u : Value), [v][j]? = some u → (w.alloc (.cells #[v] t)).cell? ((⟨w.heap.size, 0, none⟩ : Addr).add j) = some u := by
  intro j u h
  rw [add_none, (At.new w #[v] t).cell j]
  cases j with
  | zero => simpa using h
  | succ j => simp at h
/-- strings.Join of a row of texts. -/
theorem join_row {w : World} {base n : Nat} {v : Value} {ps : List (List UInt8)} (h : w.ownsRow base 9 1 v n (scs ps)) (hn : n = ps.length) (h0 : 0 < n) (h1 : n ≤ 1000) (hl : (Lib.join ps [32]).length ≤ 1000) :
    Calls Tryz.prog 29 #[v, .string ⟨#[32]⟩] w fun e w' => e = .returned (.string ⟨(Lib.join ps [32]).toArray⟩) ∧ Below w.heap.size w w' := by
  subst hn
  rcases h.2 with ⟨rfl, e⟩ | ⟨g, cap, cur, rfl, hb, hg, hnc, hm, _⟩
  · omega
  have hc := World.ownsRow.cells h (g := g) rfl
  have hx : (ps.map fun p => (⟨p.toArray⟩ : ByteArray)).map (·.data.toList) = ps := by
    rw [List.map_map]; exact List.map_id' ps
  have := join_lib g 0 cap (ps.map fun p => (⟨p.toArray⟩ : ByteArray)) ⟨#[32]⟩ w (fun j x hjx => by
    rw [List.getElem?_map, Option.map_eq_some_iff] at hjx
    obtain ⟨p, hp, rfl⟩ := hjx
    have := hc j (.string ⟨p.toArray⟩) (by rw [scs, List.getElem?_map, hp]; rfl)
    rw [add_none] at this
    rw [Nat.zero_add]; exact this) (Array.getElem?_eq_some_iff.1 hg).1 (by simp; omega) (by simpa using hnc) (by rw [hx]; show (Lib.join ps [32]).length ≤ _; omega)
  rw [hx, List.length_map] at this
  exact this
/-- A rule that is not right has no text. -/
theorem text_wrong (r : Ru) (w : World) (h : ruB r = false) : Calls Tryz.prog 15 #[.agg (ruA r)] w fun e w' => e = .returned (.string ⟨#[]⟩) ∧ Below w.heap.size w w' := by
  have hr := fun u : World => ruright_any r u
  rw [h] at hr
  clear h
  obtain ⟨id, dv, pr, kd, f, t, pt⟩ := r
  rw [ruA_mk] at hr ⊢
  go_enter Tryz.func15, Tryz.ntmps15
  go_wp2_with (go_at_call 26; refine (hr _).mono ?_; rintro e w1 ⟨rfl, b1⟩)
  go_ret
  exact ⟨rfl, ((Below.refl _ _).alloc (Nat.le_refl _) _).trans (b1.mono (by simp))⟩

set_option maxRecDepth 100000 in
set_option maxHeartbeats 1000000 in
theorem text_right (r : Ru) (w : World) (hT : Tb w) (h : ruB r = true) (hwf : r.wf) : Calls Tryz.prog 15 #[.agg (ruA r)] w fun e w' => e = .returned (.string ⟨(textL r).toArray⟩) ∧ Below w.heap.size w w' := by
  have hr := fun u : World => ruright_any r u
  rw [h] at hr
  obtain ⟨⟨h1, h2⟩, ⟨h3, h4⟩, ⟨h5, h6⟩, h7, h8, h9, h10, h11, h12⟩ := (ruB_iff r).1 h
  have wt := hwf.2.2.2.2.2.1
  have hlen := text_len h
  obtain ⟨S, hS⟩ : ∃ S, S = (⟨(textL r).toArray⟩ : ByteArray) := ⟨_, rfl⟩
  rw [← hS]
  clear hwf h
  obtain ⟨id, dv, pr, kd, f, t, pt⟩ := r
  dsimp only at h1 h2 h3 h4 h5 h6 h7 h8 h9 h10 h11 h12 wt
  have kA : ∀ u : World, Tb u → ∀ x : Sub u, Calls Tryz.prog 27 #[.int .i64 id] x.u fun e w' => e = .returned (.string ⟨(dg id).toArray⟩) ∧ Below x.u.heap.size x.u w' := fun u hu x => itoa_any id _ (by omega) (by omega) (hu.below x.h)
  have kB : ∀ u : World, Tb u → ∀ x : Sub u, Calls Tryz.prog 27 #[.int .i64 dv] x.u fun e w' => e = .returned (.string ⟨(dg dv).toArray⟩) ∧ Below x.u.heap.size x.u w' := fun u hu x => itoa_any dv _ (by omega) (by omega) (hu.below x.h)
  have kC : ∀ u : World, Tb u → ∀ x : Sub u, Calls Tryz.prog 27 #[.int .i64 pr] x.u fun e w' => e = .returned (.string ⟨(dg pr).toArray⟩) ∧ Below x.u.heap.size x.u w' := fun u hu x => itoa_any pr _ (by omega) (by omega) (hu.below x.h)
  have kD : ∀ u : World, Tb u → ∀ x : Sub u, Calls Tryz.prog 28 #[.agg #[.int .u32 f, .int .u32 t]] x.u fun e w' => e = .returned (.string ⟨(rngT f t).toArray⟩) ∧ Below x.u.heap.size x.u w' := fun u hu x => rtext_any f t _ h9 wt (hu.below x.h)
  have kE : ∀ u : World, Tb u → Calls Tryz.prog 27 #[.int .i64 pt] u fun e w' => e = .returned (.string ⟨(dg pt).toArray⟩) ∧ Below u.heap.size u w' := fun u hu => itoa_any pt _ (by omega) (by omega) hu
  obtain ⟨kn, hkn⟩ : ∃ kn : Nat, kd = kn := ⟨kd.toNat, by omega⟩
  have kW : ∀ u : World, Tb u → ∀ x : Sub u, x.u.cell? ⟨0, kn, none⟩ = some (.string ⟨(word kd).toArray⟩) := fun u hu x => by
    rw [(hu.below x.h).word kn]
    have : kn = 0 ∨ kn = 1 ∨ kn = 2 ∨ kn = 3 := by omega
    rcases this with rfl | rfl | rfl | rfl <;> (subst hkn; rfl)
  have X0 := At.new w (ruA ⟨id, dv, pr, kd, f, t, pt⟩) 31
  have T0 := hT.alloc (.cells (ruA ⟨id, dv, pr, kd, f, t, pt⟩) 31)
  have HP : Hid (textL ⟨id, dv, pr, kd, f, t, pt⟩ = Lib.join ([dg id, dg dv, dg pr, word kd, rngT f t] ++ (if kd = 0 then [dg pt] else [])) [32]) := Lib.hid rfl
  generalize textL ⟨id, dv, pr, kd, f, t, pt⟩ = TL at HP hS hlen
  have HS := Lib.hid hS
  generalize dg id = gI at *
  generalize dg dv = gD at *
  generalize dg pr = gP at *
  generalize word kd = gW at *
  generalize rngT f t = gR at *
  generalize dg pt = gT at *
  subst hkn
  rw [ruA_mk] at hr X0 T0 ⊢
  clear hT hS
  have i0 : (0 : Int) ≤ (kn : Int) := by omega
  have i1 : (kn : Int) < 4 := by omega
  go_enter Tryz.func15, Tryz.ntmps15
  go_wp2_with (go_at_call 26; refine (hr _).mono ?_; rintro e w1 ⟨rfl, b1⟩)
  have X1 := X0.belows b1
  have T1 := T0.below b1
  have fl : ∀ (j : Nat) (x : Sub w1), x.u.cell? ⟨w.heap.size, j, none⟩ = w1.cell? ⟨w.heap.size, j, none⟩ := fun j x => x.h.cell (p := ⟨w.heap.size, j, none⟩) (by have := b1.size; simp at this; show w.heap.size < _; omega)
  have c0 : ∀ x : Sub w1, x.u.cell? ⟨w.heap.size, 0, none⟩ = some (.int .i64 id) := fun x => (fl 0 x).trans ((X1.cell 0).trans rfl)
  have c1 : ∀ x : Sub w1, x.u.cell? ⟨w.heap.size, 1, none⟩ = some (.int .i64 dv) := fun x => (fl 1 x).trans ((X1.cell 1).trans rfl)
  have c2 : ∀ x : Sub w1, x.u.cell? ⟨w.heap.size, 2, none⟩ = some (.int .i64 pr) := fun x => (fl 2 x).trans ((X1.cell 2).trans rfl)
  have c3 : ∀ x : Sub w1, x.u.cell? ⟨w.heap.size, 3, none⟩ = some (.int .i64 kn) := fun x => (fl 3 x).trans ((X1.cell 3).trans rfl)
  have c4 : ∀ x : Sub w1, x.u.cell? ⟨w.heap.size, 4, none⟩ = some (.int .u32 f) := fun x => (fl 4 x).trans ((X1.cell 4).trans rfl)
  have c5 : ∀ x : Sub w1, x.u.cell? ⟨w.heap.size, 5, none⟩ = some (.int .u32 t) := fun x => (fl 5 x).trans ((X1.cell 5).trans rfl)
  have kA1 := kA w1 T1
  have kB1 := kB w1 T1
  have kC1 := kC w1 T1
  have kD1 := kD w1 T1
  have kW1 := kW w1 T1
  clear kA kB kC kD kW fl
  go_wp2_with fail
  refine wp_region_cls_tail 16 (by kernel_rfl) (by kernel_rfl) ?_
  show wpQuiet _ _ _ _ [_, _, _, _, _, _, _, _, _, _, _, _, _, _, _, _] _
  repeat (go_big_quiet_step ((first | (go_at_call 27; with_reducible exact Calls.cls_of (kA1 _)) | (go_at_call 27; with_reducible exact Calls.cls_of (kB1 _)) | (go_at_call 27; with_reducible exact Calls.cls_of (kC1 _)) | (go_at_call 28; with_reducible exact Calls.cls_of (kD1 _)))))
  refine wpQuiet_nil ?_
  intro x
  have d3 := c3 x
  have TX := T1.below x.h
  have bX := x.h
  have X2 := X1.belows x.h
  generalize x.u = u at d3 TX bX X2 ⊢
  clear c0 c1 c2 c3 c4 c5 kA1 kB1 kC1 kD1 kW1 T1 X1 x
  have own0 : (u.alloc (.cells #[.string ⟨gI.toArray⟩, .string ⟨gD.toArray⟩, .string ⟨gP.toArray⟩, .string ⟨gW.toArray⟩, .string ⟨gR.toArray⟩] 9)).ownsRow u.heap.size 9 1 (.slice (some ⟨u.heap.size, 0, none⟩) 5 5) 5 (scs [gI, gD, gP, gW, gR]) :=
    ⟨by simp [scs], .inr ⟨u.heap.size, 5, #[.string ⟨gI.toArray⟩, .string ⟨gD.toArray⟩, .string ⟨gP.toArray⟩, .string ⟨gW.toArray⟩, .string ⟨gR.toArray⟩], rfl, Nat.le_refl _, heap_alloc_new u _, by simp, by simp [maxLen], by simp, by simp [scs]⟩⟩
  have hsz : w.heap.size < u.heap.size := X2.lt
  have X3 := X2.alloc (.cells #[.string ⟨gI.toArray⟩, .string ⟨gD.toArray⟩, .string ⟨gP.toArray⟩, .string ⟨gW.toArray⟩, .string ⟨gR.toArray⟩] 9)
  have e3 : (u.alloc (.cells #[.string ⟨gI.toArray⟩, .string ⟨gD.toArray⟩, .string ⟨gP.toArray⟩, .string ⟨gW.toArray⟩, .string ⟨gR.toArray⟩] 9)).cell? ⟨w.heap.size, 3, none⟩ = some (.int .i64 kn) := X3.cell 3
  have e6 : (u.alloc (.cells #[.string ⟨gI.toArray⟩, .string ⟨gD.toArray⟩, .string ⟨gP.toArray⟩, .string ⟨gW.toArray⟩, .string ⟨gR.toArray⟩] 9)).cell? ⟨w.heap.size, 6, none⟩ = some (.int .i64 pt) := X3.cell 6
  have T3 := TX.alloc (.cells #[.string ⟨gI.toArray⟩, .string ⟨gD.toArray⟩, .string ⟨gP.toArray⟩, .string ⟨gW.toArray⟩, .string ⟨gR.toArray⟩] 9)
  have hb0 : Below w.heap.size w u := (((Below.refl _ w).alloc (Nat.le_refl _) _).trans (b1.mono (by simp))).trans (bX.mono (by have := b1.size; simp at this; omega))
  have B3 : Below w.heap.size w (u.alloc (.cells #[.string ⟨gI.toArray⟩, .string ⟨gD.toArray⟩, .string ⟨gP.toArray⟩, .string ⟨gW.toArray⟩, .string ⟨gR.toArray⟩] 9)) := hb0.alloc (by omega) _
  clear X0 T0 b1 bX X2 TX hb0 d3 X3 hr
  show wpList _ _ _ [_, _] _ _
  by_cases hk0 : kn = 0
  · have d0 : ((kn : Int) == 0) = true := by simp [hk0]
    have d1 : (kn == 0) = true := by simp [hk0]
    have hj : TL = Lib.join ([gI, gD, gP, gW, gR] ++ [gT]) [32] := by rw [HP.out, if_pos (by omega)]
    clear HP hk0 h12
    have kE3 := kE _ T3
    clear kE T3
    obtain ⟨i9, hi, hz0, hz1, hz2⟩ := info_parts inf9
    generalize hU : u.alloc (.cells #[.string ⟨gI.toArray⟩, .string ⟨gD.toArray⟩, .string ⟨gP.toArray⟩, .string ⟨gW.toArray⟩, .string ⟨gR.toArray⟩] 9) = U at own0 kE3 B3 e3 e6
    have hUs : U.heap.size = u.heap.size + 1 := by rw [← hU]; simp
    go_wp2_with fail
    clear hU
    refine kE3.mono ?_
    rintro e w2 ⟨rfl, b2⟩
    have OW := Lib.hid (row_belows own0 b2)
    have hs2 := b2.size
    go_wp2_with (at_builtin; refine wpList_append_own _ rfl (.tmp 27) (.tmp 31) 52 rfl u.heap.size 9 i9 (.string ⟨#[]⟩) 1 16 Tryz.underlying52 hi hz0 hz1 hz2 rfl (by decide) _ _ _ rfl (OW.out.alloc _) ⟨w2.heap.size, 0, none⟩ 1 1 [.string ⟨gT.toArray⟩] rfl rfl (one_new _ _ _) (by simp [Value.oneCell']) (by simp only [maxLen]; omega) (by omega) (by simp; omega) ?_; intro v' w3 hown' hgrow _)
    have J := join_row (ps := [gI, gD, gP, gW, gR] ++ [gT]) (by simpa [scs] using hown') rfl (by simp) (by simp) (by rw [← hj]; omega)
    have B4 : Below w.heap.size w w3 := ((B3.trans (b2.mono B3.size)).alloc (Nat.le_trans B3.size b2.size) _).grown hgrow (by simp; omega) (fun k hk => by cases hk; exact Nat.le_of_lt hsz)
    rw [← hj] at J
    clear hj
    go_wp2_with (go_at_call 29; refine J.mono ?_; rintro e w4 ⟨rfl, b4⟩)
    go_ret
    exact ⟨congrArg (fun z => Ending.returned (.string z)) HS.out.symm, B4.trans (b4.mono B4.size)⟩
  · have d0 : ((kn : Int) == 0) = false := by simp; omega
    have d1 : (kn == 0) = false := by simp; omega
    have hj : TL = Lib.join [gI, gD, gP, gW, gR] [32] := by rw [HP.out, if_neg (by omega), List.append_nil]
    have J := join_row own0 rfl (by simp) (by simp) (by rw [← hj]; omega)
    rw [← hj] at J
    clear hj
    clear HP hk0 h12 kE T3
    go_wp2_with (go_at_call 29; refine J.mono ?_; rintro e w4 ⟨rfl, b4⟩)
    go_ret
    exact ⟨congrArg (fun z => Ending.returned (.string z)) HS.out.symm, B3.trans (b4.mono B3.size)⟩
end Go.Proofs.YtmpgfmedldnhjaaGreatDoor
