/- Contracts: the document's Digits, Kinds, Text. -/
import Derived.Test.YtmpgfmedldnhjaaGreatDoorR6
import Derived.Test.YtmpgfmedldnhjaaGreatDoorS9
import Derived.Test.YtmpgfmedldnhjaaGreatDoorRW
namespace Go.Proofs.YtmpgfmedldnhjaaGreatDoor
open Go.RowKit Go.Shelf

set_option maxRecDepth 100000 in
theorem rdigits_any (n : Nat) (w : World) (hn : n < 4294967296000) : Calls Tryz.prog 30 #[.int .i64 n] w fun e w' => e = .returned (.string ⟨(Lib.decDigits n).toArray⟩) ∧ w = w' := by
  go_enter Tryz.func30, Tryz.ntmps30
  go_wp2
  go_loop [0, 3] (fun i s => ∃ (k : Nat) (S : ByteArray), i = .int .i64 k ∧ s = .string S ∧ k ≤ n ∧ Dg n k S) (fun i s => match s with | .string S => if S.size = 0 then n + 1 else (intOf i).toNat | _ => 0)
  case atStart => exact ⟨n, ⟨#[]⟩, rfl, rfl, by omega, .inl ⟨rfl, rfl⟩⟩
  case round =>
    obtain ⟨k, S, rfl, rfl, hk, hd⟩ := hrel
    have hsm := hd.small (by omega)
    have HD := Lib.hid hd
    clear hd
    have hsl := ten_run (w := w) k
    have hadd := str_add (P := Tryz.prog) (w := w) ⟨#[dch (k % 10)]⟩ S (by show 1 + _ ≤ _; omega)
    by_cases hS : S.data.toList = []
    · have d1 : S.toList.isEmpty = true := by rw [ByteArray.toList_eq, hS]; rfl
      have HS := Lib.hid hS
      clear hS
      go_wp2
      go_round
      case rel => exact ⟨k / 10, _, by go_num, rfl, by omega, HD.out.step (.inl HS.out)⟩
      case measure =>
        have e0 : S.size = 0 := by rw [str_size, HS.out]; rfl
        have e1 : (⟨#[dch (k % 10)]⟩ ++ S : ByteArray).size ≠ 0 := by rw [str_size, str_app]; simp
        simp only [e0, e1, if_true, if_false, intOf]; omega
    · have d1 : S.toList.isEmpty = false := by
        rw [ByteArray.toList_eq]
        cases h : S.data.toList with
        | nil => exact absurd h hS
        | cons a l => rfl
      have HS := Lib.hid hS
      clear hS
      by_cases hk0 : 0 < k
      · go_wp2
        go_round
        case rel => exact ⟨k / 10, _, by go_num, rfl, by omega, HD.out.step (.inr hk0)⟩
        case measure =>
          have e0 : S.size ≠ 0 := by rw [str_size]; intro e; exact HS.out (List.eq_nil_of_length_eq_zero e)
          have e1 : (⟨#[dch (k % 10)]⟩ ++ S : ByteArray).size ≠ 0 := by rw [str_size, str_app]; simp
          simp only [e0, e1, if_false, intOf]; omega
      · have hk1 : ¬ 0 < k := hk0
        clear hsl hadd
        go_wp2
        go_ret
        refine ⟨?_, rfl⟩
        have : S = ⟨(Lib.decDigits n).toArray⟩ := by
          apply str_eq
          rcases HD.out with ⟨h, _⟩ | ⟨_, _, h⟩ | ⟨_, h, _⟩
          · exact absurd h HS.out
          · rw [str_mk, h]
          · omega
        rw [← this]; rfl

/-- A number's figures. -/
theorem rdig (x : Int) (w : World) (h0 : 0 ≤ x) (h1 : x < 4294967296) : Calls Tryz.prog 30 #[.int .i64 x] w fun e w' => e = .returned (.string ⟨(dg x).toArray⟩) ∧ w = w' := by
  obtain ⟨n, rfl⟩ := Int.eq_ofNat_of_zero_le h0
  exact rdigits_any n w (by omega)
/-- The words, as the document lists them. -/
def KindsOut (u : World) (e : Ending) (w' : World) : Prop := ∃ B, e = .returned (.slice (some ⟨B, 0, none⟩) 4 4) ∧ At w' B #[.string (wS 0), .string (wS 1), .string (wS 2), .string (wS 3)] 9 ∧ Below u.heap.size u w'
theorem kinds_any (w : World) : Calls Tryz.prog 31 #[] w (KindsOut w) := by
  go_enter Tryz.func31, Tryz.ntmps31
  go_wp2
  go_ret
  exact ⟨_, rfl, At.new w _ _, (Below.refl _ _).alloc (Nat.le_refl _) _⟩
theorem At.word {u : World} {B : Nat} (h : At u B #[.string (wS 0), .string (wS 1), .string (wS 2), .string (wS 3)] 9) (k : Nat) (hk : k ≤ 3) : u.cell? ⟨B, k, none⟩ = some (.string (wS k)) := by
  rw [h.cell k]
  have : k = 0 ∨ k = 1 ∨ k = 2 ∨ k = 3 := by omega
  rcases this with rfl | rfl | rfl | rfl <;> rfl
theorem wS_size (k : Nat) : (wS k).size ≤ 7 := by
  have := word_len k
  rw [str_size]; exact this
theorem dg_size (x : Int) (h0 : 0 ≤ x) (h1 : x < 4294967296) : (⟨(dg x).toArray⟩ : ByteArray).size ≤ 10 := by
  rw [str_len]; exact dd_len 9 x.toNat (by omega)
theorem blank_size : (⟨#[32]⟩ : ByteArray).size = 1 := rfl
set_option maxRecDepth 100000 in
set_option maxHeartbeats 4000000 in
/-- The document's Text, of a right rule. -/
theorem rtext7_any (r : Ru) (w : World) (hr : ruB r = true) (hwf : r.wf) : Calls Tryz.prog 16 #[.agg (ruA r)] w fun e w' => e = .returned (.string ⟨(textL r).toArray⟩) ∧ Below w.heap.size w w' := by
  obtain ⟨⟨a1, a2⟩, ⟨a3, a4⟩, ⟨a5, a6⟩, a7, a8, a9, a10, a11, a12⟩ := (ruB_iff r).1 hr
  obtain ⟨_, _, _, _, f4, f5, _⟩ := hwf
  clear hr
  have O0 := At.new w (ruA r) 31
  have b0 : Below w.heap.size w (w.alloc (.cells (ruA r) 31)) := (Below.refl _ _).alloc (Nat.le_refl _) _
  have s1 := dg_size r.id (by omega) (by omega)
  have s2 := dg_size r.dv (by omega) (by omega)
  have s3 := dg_size r.pr (by omega) (by omega)
  have s4 := wS_size r.kd.toNat
  have s5 : (⟨(rngT r.f r.t).toArray⟩ : ByteArray).size ≤ 31 := by rw [str_len]; exact rngT_len _ _
  have s6 := dg_size r.pt (by omega) (by omega)
  have k1 := fun u : World => rdig r.id u (by omega) (by omega)
  have k2 := fun u : World => rdig r.dv u (by omega) (by omega)
  have k3 := fun u : World => rdig r.pr u (by omega) (by omega)
  have k5 := fun u : World => rfrtext_any r.f r.t u f4 f5
  have k6 := fun u : World => rdig r.pt u (by omega) (by omega)
  obtain ⟨kn, hkn⟩ : ∃ kn : Nat, r.kd = kn := ⟨r.kd.toNat, by omega⟩
  obtain ⟨T, hT⟩ : ∃ T, T = (⟨(textL r).toArray⟩ : ByteArray) := ⟨_, rfl⟩
  have hE : kn ≠ 0 → ((((((((⟨(dg r.id).toArray⟩ : ByteArray) ++ ⟨#[32]⟩) ++ ⟨(dg r.dv).toArray⟩) ++ ⟨#[32]⟩) ++ ⟨(dg r.pr).toArray⟩) ++ ⟨#[32]⟩) ++ wS r.kd.toNat) ++ ⟨#[32]⟩) ++ ⟨(rngT r.f r.t).toArray⟩ = T := fun h => by
    rw [hT]; apply str_eq
    rw [text_oth (by omega)]
    simp [str_app, wS, hkn]
  have hF : kn = 0 → (((((((((⟨(dg r.id).toArray⟩ : ByteArray) ++ ⟨#[32]⟩) ++ ⟨(dg r.dv).toArray⟩) ++ ⟨#[32]⟩) ++ ⟨(dg r.pr).toArray⟩) ++ ⟨#[32]⟩) ++ wS r.kd.toNat) ++ ⟨#[32]⟩) ++ ⟨(rngT r.f r.t).toArray⟩ ++ ⟨#[32]⟩) ++ ⟨(dg r.pt).toArray⟩ = T := fun h => by
    rw [hT]; apply str_eq
    rw [text_fwd (by omega)]
    simp [str_app, wS, hkn]
  rw [← hT]
  clear hT
  have hk3 : kn ≤ 3 := by omega
  have ekn : r.kd.toNat = kn := by omega
  rw [ekn] at hE hF s4
  generalize (⟨(dg r.id).toArray⟩ : ByteArray) = D1 at s1 k1 hE hF
  generalize (⟨(dg r.dv).toArray⟩ : ByteArray) = D2 at s2 k2 hE hF
  generalize (⟨(dg r.pr).toArray⟩ : ByteArray) = D3 at s3 k3 hE hF
  generalize (⟨(rngT r.f r.t).toArray⟩ : ByteArray) = D5 at s5 k5 hE hF
  generalize (⟨(dg r.pt).toArray⟩ : ByteArray) = D6 at s6 k6 hE hF
  obtain ⟨W, hW⟩ : ∃ W, W = wS kn := ⟨_, rfl⟩
  rw [← hW] at hE hF s4
  have bl := blank_size
  have z7 : (D1 ++ ⟨#[32]⟩ : ByteArray).size ≤ 11 := by rw [ByteArray.size_append]; omega
  have z11 : ((D1 ++ ⟨#[32]⟩) ++ D2 : ByteArray).size ≤ 21 := by rw [ByteArray.size_append]; omega
  have z12 : (((D1 ++ ⟨#[32]⟩) ++ D2) ++ ⟨#[32]⟩ : ByteArray).size ≤ 22 := by rw [ByteArray.size_append]; omega
  have z16 : ((((D1 ++ ⟨#[32]⟩) ++ D2) ++ ⟨#[32]⟩) ++ D3 : ByteArray).size ≤ 32 := by rw [ByteArray.size_append]; omega
  have z17 : (((((D1 ++ ⟨#[32]⟩) ++ D2) ++ ⟨#[32]⟩) ++ D3) ++ ⟨#[32]⟩ : ByteArray).size ≤ 33 := by rw [ByteArray.size_append]; omega
  have z23 : ((((((D1 ++ ⟨#[32]⟩) ++ D2) ++ ⟨#[32]⟩) ++ D3) ++ ⟨#[32]⟩) ++ W : ByteArray).size ≤ 40 := by rw [ByteArray.size_append]; omega
  have z24 : (((((((D1 ++ ⟨#[32]⟩) ++ D2) ++ ⟨#[32]⟩) ++ D3) ++ ⟨#[32]⟩) ++ W) ++ ⟨#[32]⟩ : ByteArray).size ≤ 41 := by rw [ByteArray.size_append]; omega
  have z28 : ((((((((D1 ++ ⟨#[32]⟩) ++ D2) ++ ⟨#[32]⟩) ++ D3) ++ ⟨#[32]⟩) ++ W) ++ ⟨#[32]⟩) ++ D5 : ByteArray).size ≤ 72 := by rw [ByteArray.size_append]; omega
  have z33 : (((((((((D1 ++ ⟨#[32]⟩) ++ D2) ++ ⟨#[32]⟩) ++ D3) ++ ⟨#[32]⟩) ++ W) ++ ⟨#[32]⟩) ++ D5) ++ ⟨#[32]⟩ : ByteArray).size ≤ 73 := by rw [ByteArray.size_append]; omega
  have g7 := fun u : World => str_add (P := Tryz.prog) (w := u) D1 ⟨#[32]⟩ (by omega)
  have g11 := fun u : World => str_add (P := Tryz.prog) (w := u) (D1 ++ ⟨#[32]⟩) D2 (by omega)
  have g12 := fun u : World => str_add (P := Tryz.prog) (w := u) ((D1 ++ ⟨#[32]⟩) ++ D2) ⟨#[32]⟩ (by omega)
  have g16 := fun u : World => str_add (P := Tryz.prog) (w := u) (((D1 ++ ⟨#[32]⟩) ++ D2) ++ ⟨#[32]⟩) D3 (by omega)
  have g17 := fun u : World => str_add (P := Tryz.prog) (w := u) ((((D1 ++ ⟨#[32]⟩) ++ D2) ++ ⟨#[32]⟩) ++ D3) ⟨#[32]⟩ (by omega)
  have g23 := fun u : World => str_add (P := Tryz.prog) (w := u) (((((D1 ++ ⟨#[32]⟩) ++ D2) ++ ⟨#[32]⟩) ++ D3) ++ ⟨#[32]⟩) W (by omega)
  have g24 := fun u : World => str_add (P := Tryz.prog) (w := u) ((((((D1 ++ ⟨#[32]⟩) ++ D2) ++ ⟨#[32]⟩) ++ D3) ++ ⟨#[32]⟩) ++ W) ⟨#[32]⟩ (by omega)
  have g28 := fun u : World => str_add (P := Tryz.prog) (w := u) (((((((D1 ++ ⟨#[32]⟩) ++ D2) ++ ⟨#[32]⟩) ++ D3) ++ ⟨#[32]⟩) ++ W) ++ ⟨#[32]⟩) D5 (by omega)
  have g33 := fun u : World => str_add (P := Tryz.prog) (w := u) ((((((((D1 ++ ⟨#[32]⟩) ++ D2) ++ ⟨#[32]⟩) ++ D3) ++ ⟨#[32]⟩) ++ W) ++ ⟨#[32]⟩) ++ D5) ⟨#[32]⟩ (by omega)
  have g37 := fun u : World => str_add (P := Tryz.prog) (w := u) (((((((((D1 ++ ⟨#[32]⟩) ++ D2) ++ ⟨#[32]⟩) ++ D3) ++ ⟨#[32]⟩) ++ W) ++ ⟨#[32]⟩) ++ D5) ++ ⟨#[32]⟩) D6 (by omega)
  have HE := Lib.hid hE
  have HF := Lib.hid hF
  have HW := Lib.hid hW
  obtain ⟨id, dv, pr, kd, f, t, pt⟩ := r
  dsimp only at hkn k1 k2 k3 k5 k6
  subst hkn
  rw [ruA_mk] at O0 b0 ⊢
  clear hE hF hW bl z7 z11 z12 z16 z17 z23 z24 z28 z33 s1 s2 s3 s4 s5 s6 a1 a2 a3 a4 a5 a6 a7 a8 a9 a10 a11 a12 f4 f5 ekn
  go_enter Tryz.func16, Tryz.ntmps16
  obtain ⟨w0, hw0⟩ : ∃ w0, w0 = w.alloc (.cells #[.int .i64 id, .int .i64 dv, .int .i64 pr, .int .i64 kn, .int .u32 f, .int .u32 t, .int .i64 pt] 31) := ⟨_, rfl⟩
  go_wp2_with fail
  rw [← hw0] at O0 b0 ⊢
  clear hw0
  have x0 : ∀ x : Sub w0, x.u.cell? ⟨w.heap.size, 0, none⟩ = some (.int .i64 id) := fun x => ((O0.belows x.h).cell 0).trans rfl
  have x1 : ∀ x : Sub w0, x.u.cell? ⟨w.heap.size, 1, none⟩ = some (.int .i64 dv) := fun x => ((O0.belows x.h).cell 1).trans rfl
  have x2 : ∀ x : Sub w0, x.u.cell? ⟨w.heap.size, 2, none⟩ = some (.int .i64 pr) := fun x => ((O0.belows x.h).cell 2).trans rfl
  have x3 : ∀ x : Sub w0, x.u.cell? ⟨w.heap.size, 3, none⟩ = some (.int .i64 (kn : Int)) := fun x => ((O0.belows x.h).cell 3).trans rfl
  have x4 : ∀ x : Sub w0, x.u.cell? ⟨w.heap.size, 4, none⟩ = some (.int .u32 f) := fun x => ((O0.belows x.h).cell 4).trans rfl
  have x5 : ∀ x : Sub w0, x.u.cell? ⟨w.heap.size, 5, none⟩ = some (.int .u32 t) := fun x => ((O0.belows x.h).cell 5).trans rfl
  have HO := Lib.hid O0
  have HB := Lib.hid b0
  clear O0 b0
  refine wp_region_seg 2 24 (by kernel_rfl) (by kernel_rfl) rfl (by kernel_rfl) (by kernel_rfl) ?_
  show wpQuiet _ _ _ _ [_, _] _
  repeat (go_big_quiet_step (fail))
  refine wpQuiet_nil ?_
  intro u1 hu1
  refine held_more 2 22 4 (by kernel_rfl) (by kernel_rfl) (by kernel_rfl) hu1 ?_
  show wpQuiet _ _ _ _ [_, _] ⟨List.toArray (_ :: _ :: _ :: _ :: _ :: _ :: _ :: _ :: _ :: _ :: _ :: _ :: _ :: _ :: _ :: _ :: _ :: _ :: _ :: _ :: _ :: _ :: _ :: _ :: _ :: _ :: _ :: _ :: _ :: _ :: _ :: _ :: _ :: _ :: _ :: _ :: _ :: _ :: _ :: []), _⟩
  repeat (go_big_quiet_step (fail))
  refine wpQuiet_nil ?_
  intro u2 hu2
  refine held_more 2 20 9 (by kernel_rfl) (by kernel_rfl) (by kernel_rfl) hu2 ?_
  show wpQuiet _ _ _ _ [_, _] ⟨List.toArray (_ :: _ :: _ :: _ :: _ :: _ :: _ :: _ :: _ :: _ :: _ :: _ :: _ :: _ :: _ :: _ :: _ :: _ :: _ :: _ :: _ :: _ :: _ :: _ :: _ :: _ :: _ :: _ :: _ :: _ :: _ :: _ :: _ :: _ :: _ :: _ :: _ :: _ :: _ :: []), _⟩
  repeat (go_big_quiet_step (fail))
  refine wpQuiet_nil ?_
  intro u3 hu3
  refine held_more 2 18 15 (by kernel_rfl) (by kernel_rfl) (by kernel_rfl) hu3 ?_
  show wpQuiet _ _ _ _ [_, _] ⟨List.toArray (_ :: _ :: _ :: _ :: _ :: _ :: _ :: _ :: _ :: _ :: _ :: _ :: _ :: _ :: _ :: _ :: _ :: _ :: _ :: _ :: _ :: _ :: _ :: _ :: _ :: _ :: _ :: _ :: _ :: _ :: _ :: _ :: _ :: _ :: _ :: _ :: _ :: _ :: _ :: []), _⟩
  repeat (go_big_quiet_step (fail))
  refine wpQuiet_nil ?_
  intro u4 hu4
  refine held_more 2 16 21 (by kernel_rfl) (by kernel_rfl) (by kernel_rfl) hu4 ?_
  show wpQuiet _ _ _ _ [_, _] ⟨List.toArray (_ :: _ :: _ :: _ :: _ :: _ :: _ :: _ :: _ :: _ :: _ :: _ :: _ :: _ :: _ :: _ :: _ :: _ :: _ :: _ :: _ :: _ :: _ :: _ :: _ :: _ :: _ :: _ :: _ :: _ :: _ :: _ :: _ :: _ :: _ :: _ :: _ :: _ :: _ :: []), _⟩
  repeat (go_big_quiet_step (fail))
  refine wpQuiet_nil ?_
  intro u5 hu5
  clear x0 x1 x2 x3 x4 x5
  refine held_call (k := 2) (ys := #[.int .i64 id]) (by kernel_rfl) rfl (by kernel_rfl) rfl Tryz.func30 (by kernel_rfl) (by kernel_rfl) hu5 (by simp only [List.map_toArray, List.map_cons, List.map_nil, Act.eval] <;> rfl) (fun v => rfl) ?_
  refine (k1 u5).mono ?_
  rintro e wA ⟨rfl, rfl⟩
  refine ⟨_, rfl, Below.refl _ _, ?_⟩
  refine held_more 1 14 3 (by kernel_rfl) (by kernel_rfl) (by kernel_rfl) (Below.refl _ _) ?_
  show wpQuiet _ _ _ _ [_] ⟨List.toArray (_ :: _ :: _ :: _ :: _ :: _ :: _ :: _ :: _ :: _ :: _ :: _ :: _ :: _ :: _ :: _ :: _ :: _ :: _ :: _ :: _ :: _ :: _ :: _ :: _ :: _ :: _ :: _ :: _ :: _ :: _ :: _ :: _ :: _ :: _ :: _ :: _ :: _ :: _ :: []), _⟩
  repeat (go_big_quiet_step (fail))
  refine wpQuiet_nil ?_
  intro u6 hu6
  refine held_call (k := 6) (ys := #[.int .i64 dv]) (by kernel_rfl) rfl (by kernel_rfl) rfl Tryz.func30 (by kernel_rfl) (by kernel_rfl) hu6 (by simp only [List.map_toArray, List.map_cons, List.map_nil, Act.eval] <;> rfl) (fun v => rfl) ?_
  refine (k2 u6).mono ?_
  rintro e wA ⟨rfl, rfl⟩
  refine ⟨_, rfl, Below.refl _ _, ?_⟩
  refine held_more 2 11 7 (by kernel_rfl) (by kernel_rfl) (by kernel_rfl) (Below.refl _ _) ?_
  show wpQuiet _ _ _ _ [_, _] ⟨List.toArray (_ :: _ :: _ :: _ :: _ :: _ :: _ :: _ :: _ :: _ :: _ :: _ :: _ :: _ :: _ :: _ :: _ :: _ :: _ :: _ :: _ :: _ :: _ :: _ :: _ :: _ :: _ :: _ :: _ :: _ :: _ :: _ :: _ :: _ :: _ :: _ :: _ :: _ :: _ :: []), _⟩
  repeat (go_big_quiet_step (fail))
  refine wpQuiet_nil ?_
  intro u7 hu7
  refine held_call (k := 11) (ys := #[.int .i64 pr]) (by kernel_rfl) rfl (by kernel_rfl) rfl Tryz.func30 (by kernel_rfl) (by kernel_rfl) hu7 (by simp only [List.map_toArray, List.map_cons, List.map_nil, Act.eval] <;> rfl) (fun v => rfl) ?_
  refine (k3 u7).mono ?_
  rintro e wA ⟨rfl, rfl⟩
  refine ⟨_, rfl, Below.refl _ _, ?_⟩
  refine held_more 2 8 12 (by kernel_rfl) (by kernel_rfl) (by kernel_rfl) (Below.refl _ _) ?_
  show wpQuiet _ _ _ _ [_, _] ⟨List.toArray (_ :: _ :: _ :: _ :: _ :: _ :: _ :: _ :: _ :: _ :: _ :: _ :: _ :: _ :: _ :: _ :: _ :: _ :: _ :: _ :: _ :: _ :: _ :: _ :: _ :: _ :: _ :: _ :: _ :: _ :: _ :: _ :: _ :: _ :: _ :: _ :: _ :: _ :: _ :: []), _⟩
  repeat (go_big_quiet_step (fail))
  refine wpQuiet_nil ?_
  intro u8 hu8
  have c8 : Below w0.heap.size w0 u8 := hu5.trans ((hu6.trans ((hu7.trans (hu8.mono hu7.size)).mono hu6.size)).mono hu5.size)
  refine held_call (k := 14) (ys := #[]) (by kernel_rfl) rfl (by kernel_rfl) rfl Tryz.func31 (by kernel_rfl) (by kernel_rfl) hu8 (by simp only [List.map_toArray, List.map_cons, List.map_nil, Act.eval] <;> rfl) (fun v => rfl) ?_
  refine (kinds_any u8).mono ?_
  rintro e w1 ⟨B, rfl, hB, b1⟩
  refine ⟨_, rfl, b1, ?_⟩
  have c1 := c8.trans (b1.mono c8.size)
  have y0 : ∀ x : Sub w1, x.u.cell? ⟨B, kn, none⟩ = some (.string W) := fun x => by rw [HW.out]; exact (hB.belows x.h).word kn hk3
  have i0 : (0 : Int) ≤ (kn : Int) := by omega
  have i1 : (kn : Int) < 4 := by omega
  have HC1 := Lib.hid c1
  clear hB b1 c1 c8 hu5 hu6 hu7 hu8
  refine held_more 4 3 17 (by kernel_rfl) (by kernel_rfl) (by kernel_rfl) (Below.refl _ _) ?_
  show wpQuiet _ _ _ _ [_, _, _, _] ⟨List.toArray (_ :: _ :: _ :: _ :: _ :: _ :: _ :: _ :: _ :: _ :: _ :: _ :: _ :: _ :: _ :: _ :: _ :: _ :: _ :: _ :: _ :: _ :: _ :: _ :: _ :: _ :: _ :: _ :: _ :: _ :: _ :: _ :: _ :: _ :: _ :: _ :: _ :: _ :: _ :: []), _⟩
  repeat (go_big_quiet_step (fail))
  refine wpQuiet_nil ?_
  intro u9 hu9
  refine held_call (k := 23) (ys := #[.agg #[.int .u32 f, .int .u32 t]]) (by kernel_rfl) rfl (by kernel_rfl) rfl Tryz.func32 (by kernel_rfl) (by kernel_rfl) hu9 (by simp only [List.map_toArray, List.map_cons, List.map_nil, Act.eval] <;> rfl) (fun v => rfl) ?_
  refine (k5 u9).mono ?_
  rintro e w2 ⟨rfl, b2⟩
  refine ⟨_, rfl, b2, ?_⟩
  have c2 := hu9.trans (b2.mono hu9.size)
  refine held_more 2 0 24 (by kernel_rfl) (by kernel_rfl) (by kernel_rfl) (Below.refl _ _) ?_
  show wpQuiet _ _ _ _ [_, _] ⟨List.toArray (_ :: _ :: _ :: _ :: _ :: _ :: _ :: _ :: _ :: _ :: _ :: _ :: _ :: _ :: _ :: _ :: _ :: _ :: _ :: _ :: _ :: _ :: _ :: _ :: _ :: _ :: _ :: _ :: _ :: _ :: _ :: _ :: _ :: _ :: _ :: _ :: _ :: _ :: _ :: []), _⟩
  repeat (go_big_quiet_step (fail))
  refine wpQuiet_nil ?_
  intro u10 hu10
  have hu5 := c2.trans (hu10.mono c2.size)
  clear c2 hu9 b2 hu10
  refine held_end (by kernel_rfl) ?_
  have c5 := HC1.out.trans (hu5.mono HC1.out.size)
  have O5 := HO.out.belows c5
  have d5 := HB.out.trans (c5.mono HB.out.size)
  have x3 := (O5.cell 3).trans rfl
  have x6 := (O5.cell 6).trans rfl
  clear y0 c5 O5 HC1 g7 g11 g12 g16 g17 g23 g24 g28 HO HB
  by_cases h0 : kn = 0
  · have q : ((kn : Int) == 0) = true := by simp [h0]
    have HV := Lib.hid (HF.out h0)
    clear HE HF h0
    go_wp2_with fail
    refine (k6 _).mono ?_
    rintro e w9 ⟨rfl, rfl⟩
    go_wp2
    go_ret
    exact ⟨by rw [HV.out]; rfl, d5⟩
  · have q : ((kn : Int) == 0) = false := by simp [h0]
    have HV := Lib.hid (HE.out h0)
    clear HE HF h0
    go_wp2
    go_ret
    exact ⟨by rw [HV.out]; rfl, d5⟩
end Go.Proofs.YtmpgfmedldnhjaaGreatDoor
