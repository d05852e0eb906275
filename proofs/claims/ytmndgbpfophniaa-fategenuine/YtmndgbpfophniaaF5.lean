/- Contracts: taking, Match, Denies, Find. -/
import Derived.Test.YtmndgbpfophniaaF4
namespace Go.Proofs.Ytmndgbpfophniaa
open Go.RowKit Go.Shelf

/-- What taking answers. -/
def TakeOut (d one oth : Int) (a : Nat) (w : World) (e : Ending) (w' : World) : Prop := ∃ C0 C1 C2 C3 : Nat, e = .returned (.func (.func 55) #[] #[.pointer (some ⟨C0, 0, none⟩), .pointer (some ⟨C1, 0, none⟩), .pointer (some ⟨C2, 0, none⟩), .pointer (some ⟨C3, 0, none⟩)]) ∧
  At w' C0 #[.int .i64 d] 3 ∧ At w' C1 #[.int .i64 one] 59 ∧ At w' C2 #[.int .i64 oth] 59 ∧ At w' C3 #[.int .u32 a] 29 ∧ Below w.heap.size w w'
theorem taking_any (d one oth : Int) (a : Nat) (w : World) : Calls Try.prog 48 #[.int .i64 d, .int .u32 a, .int .i64 one, .int .i64 oth] w (TakeOut d one oth a w) := by
  go_enter Try.func48, Try.ntmps48
  go_wp2
  go_ret
  refine ⟨w.heap.size, w.heap.size + 1 + 1, w.heap.size + 1 + 1 + 1, w.heap.size + 1, rfl, ?_, ?_, ?_, ?_, ?_⟩
  · exact (((At.new w _ _).alloc _).alloc _).alloc _
  · exact (At.new2 w _ _ _ _).alloc _
  · have := At.new2 (w.alloc (.cells #[.int .i64 d] 3)) (.cells #[.int .u32 a] 29) (.cells #[.int .i64 one] 59) #[.int .i64 oth] 59
    rwa [World.size_alloc] at this
  · exact ((At.new1 w _ _ _).alloc _).alloc _
  · exact ((((Below.refl _ _).alloc (Nat.le_refl _) _).alloc (by simp) _).alloc (by simp; omega) _).alloc (by simp; omega) _

theorem taking_asks {d one oth : Int} {a C0 C1 C2 C3 : Nat} {w : World} (L : List Ru) (h0 : At w C0 #[.int .i64 d] 3) (h1 : At w C1 #[.int .i64 one] 59) (h2 : At w C2 #[.int .i64 oth] 59) (h3 : At w C3 #[.int .u32 a] 29) :
    Asks 55 #[.pointer (some ⟨C0, 0, none⟩), .pointer (some ⟨C1, 0, none⟩), .pointer (some ⟨C2, 0, none⟩), .pointer (some ⟨C3, 0, none⟩)] L (tk d one oth a) w :=
  fun k hk W hb => taking1_any L[k] d one oth a C0 C1 C2 C3 W (h0.belows hb) (h1.belows hb) (h2.belows hb) (h3.belows hb)
theorem enters_taking1 : ∀ args w, (callFunc 55 args).run Try.prog w = .ok (.enter 55 args) w := enters_of Try.func55 (by kernel_rfl) rfl

set_option maxRecDepth 100000 in
/-- rule.Match. -/
theorem match_any {v : Value} (L : List Ru) (d : Int) (a : Nat) (w : World) (h : IsR w v L) : Calls Try.prog 31 #[v, .int .i64 d, .int .u32 a] w fun e w' => e = .returned (firstV (firstL (tk d 0 1 a) L)) ∧ Below w.heap.size w w' := by
  have H := Lib.hid h
  obtain ⟨A1, c1, rfl, n1, m1, z1⟩ := h
  clear z1
  obtain ⟨y, hy⟩ : ∃ y, y = firstL (tk d 0 1 a) L := ⟨_, rfl⟩
  rw [← hy]
  obtain ⟨x, hx⟩ : ∃ x, x = y.getD ru0 := ⟨_, rfl⟩
  have hV : firstV y = .tuple #[.agg (ruA x), .bool y.isSome] := by rw [hx]; rfl
  rw [hV]
  generalize hq : y.isSome = q at hV ⊢
  have HV := Lib.hid hV
  have HY := Lib.hid hy
  clear hV hx hq hy
  obtain ⟨id, dv, pr, kd, f, t, pt⟩ := x
  have Z0 := At.new w (ruA ru0) 63
  have b0 : Below w.heap.size w (w.alloc (.cells (ruA ru0) 63)) := (Below.refl _ _).alloc (Nat.le_refl _) _
  rw [rd0] at Z0 b0
  go_enter Try.func31, Try.ntmps31
  go_wp2_with (first | (go_at_call 48; refine (taking_any _ _ _ _ _).mono ?_; rintro e w1 ⟨C0, C1, C2, C3, rfl, k0, k1, k2, k3, b1⟩; have Z1 := Z0.belows b1; have H1 : Hid (IsR w1 (.slice A1 L.length c1) L) := Lib.hid ((H.out.belows b0).belows b1); have HK : Hid (Asks 55 #[.pointer (some ⟨C0, 0, none⟩), .pointer (some ⟨C1, 0, none⟩), .pointer (some ⟨C2, 0, none⟩), .pointer (some ⟨C3, 0, none⟩)] L (tk d 0 1 a) w1) := Lib.hid (taking_asks L k0 k1 k2 k3); clear k0 k1 k2 k3) | (go_at_call 47; refine (first_any _ _ enters_taking1 L (tk d 0 1 a) _ HK.out H1.out).mono ?_; rintro e w2 ⟨rfl, b2⟩; rw [← HY.out, HV.out, ruA_mk]; have Z2 := Z1.belows b2; have y0 := (Z2.cell 0).trans rfl; have q0 := Z2.frozen 0; have y1 := (Z2.cell 1).trans rfl; have q1 := Z2.frozen 1; have y2 := (Z2.cell 2).trans rfl; have q2 := Z2.frozen 2; have y3 := (Z2.cell 3).trans rfl; have q3 := Z2.frozen 3; have y4 := (Z2.cell 4).trans rfl; have q4 := Z2.frozen 4; have y5 := (Z2.cell 5).trans rfl; have q5 := Z2.frozen 5; have y6 := (Z2.cell 6).trans rfl; have q6 := Z2.frozen 6))
  have Z := At.fill (y := ru0) Z2 ⟨id, dv, pr, kd, f, t, pt⟩
  unfold fillW ruA at Z
  have y0 := Z.cell 0; have y1 := Z.cell 1; have y2 := Z.cell 2; have y3 := Z.cell 3; have y4 := Z.cell 4; have y5 := Z.cell 5; have y6 := Z.cell 6
  dsimp only at y0 y1 y2 y3 y4 y5 y6
  refine bodyPost_ret (v := .tuple #[.agg (ruA ⟨id, dv, pr, kd, f, t, pt⟩), .bool q]) ?_ rfl ⟨rfl, below_fill ((b0.trans (b1.mono b0.size)).trans (b2.mono (Nat.le_trans b0.size b1.size))) (Nat.le_refl _) ⟨id, dv, pr, kd, f, t, pt⟩⟩
  simp [results, Try.results31, go_sem, y0, y1, y2, y3, y4, y5, y6, ruA_mk]

set_option maxRecDepth 100000 in
/-- rule.Denies. -/
theorem denies_any {v : Value} (L : List Ru) (d : Int) (a : Nat) (w : World) (h : IsR w v L) : Calls Try.prog 30 #[v, .int .i64 d, .int .u32 a] w fun e w' => e = .returned (.bool ((firstL (tk d 2 3 a) L).isSome && decide (((firstL (tk d 2 3 a) L).getD ru0).kd = 3))) ∧ Below w.heap.size w w' := by
  have H := Lib.hid h
  obtain ⟨A1, c1, rfl, n1, m1, z1⟩ := h
  clear z1
  obtain ⟨y, hy⟩ : ∃ y, y = firstL (tk d 2 3 a) L := ⟨_, rfl⟩
  rw [← hy]
  obtain ⟨x, hx⟩ : ∃ x, x = y.getD ru0 := ⟨_, rfl⟩
  have hV : firstV y = .tuple #[.agg (ruA x), .bool y.isSome] := by rw [hx]; rfl
  rw [← hx]
  generalize hq : y.isSome = q at hV ⊢
  have HV := Lib.hid hV
  have HY := Lib.hid hy
  clear hV hx hq hy
  obtain ⟨id, dv, pr, kd, f, t, pt⟩ := x
  dsimp only
  have hk : (kd == 3) = decide (kd = 3) := rfl
  have fin : ∀ (w1 w2 : World), Below w.heap.size w w1 → Below w1.heap.size w1 w2 → Below w.heap.size w (w2.alloc (.cells (ruA ⟨id, dv, pr, kd, f, t, pt⟩) 63)) := fun w1 w2 b1 b2 => (b1.trans (b2.mono b1.size)).alloc (Nat.le_trans b1.size b2.size) _
  cases q with
  | false =>
    simp only [Bool.false_and]
    go_enter Try.func30, Try.ntmps30
    go_wp2_with (first | (go_at_call 48; refine (taking_any _ _ _ _ _).mono ?_; rintro e w1 ⟨C0, C1, C2, C3, rfl, k0, k1, k2, k3, b1⟩; have H1 : Hid (IsR w1 (.slice A1 L.length c1) L) := Lib.hid (H.out.belows b1); have HK : Hid (Asks 55 #[.pointer (some ⟨C0, 0, none⟩), .pointer (some ⟨C1, 0, none⟩), .pointer (some ⟨C2, 0, none⟩), .pointer (some ⟨C3, 0, none⟩)] L (tk d 2 3 a) w1) := Lib.hid (taking_asks L k0 k1 k2 k3); clear k0 k1 k2 k3) | (go_at_call 47; refine (first_any _ _ enters_taking1 L (tk d 2 3 a) _ HK.out H1.out).mono ?_; rintro e w2 ⟨rfl, b2⟩; rw [← HY.out, HV.out, ruA_mk]))
    go_ret
    exact ⟨rfl, fin w1 w2 b1 b2⟩
  | true =>
    simp only [Bool.true_and]
    go_enter Try.func30, Try.ntmps30
    go_wp2_with (first | (go_at_call 48; refine (taking_any _ _ _ _ _).mono ?_; rintro e w1 ⟨C0, C1, C2, C3, rfl, k0, k1, k2, k3, b1⟩; have H1 : Hid (IsR w1 (.slice A1 L.length c1) L) := Lib.hid (H.out.belows b1); have HK : Hid (Asks 55 #[.pointer (some ⟨C0, 0, none⟩), .pointer (some ⟨C1, 0, none⟩), .pointer (some ⟨C2, 0, none⟩), .pointer (some ⟨C3, 0, none⟩)] L (tk d 2 3 a) w1) := Lib.hid (taking_asks L k0 k1 k2 k3); clear k0 k1 k2 k3) | (go_at_call 47; refine (first_any _ _ enters_taking1 L (tk d 2 3 a) _ HK.out H1.out).mono ?_; rintro e w2 ⟨rfl, b2⟩; rw [← HY.out, HV.out, ruA_mk]))
    go_ret
    exact ⟨rfl, fin w1 w2 b1 b2⟩

end Go.Proofs.Ytmndgbpfophniaa
