/- Contracts: the document's Of. -/
import Derived.Test.YtonhmppobdbidaaD2
import Derived.Test.YtonhmppobdbidaaO1
namespace Go.Proofs.Ytonhmppobdbidaa
open Go.RowKit Go.Shelf

theorem joinZ_u32 {z : List (Nat × Nat)} {f t : Nat} (hz : U32 z) (hf : f < 4294967296) (ht : t < 4294967296) : U32 (joinZ z f t) := by
  rcases List.eq_nil_or_concat z with rfl | ⟨l, s, hls⟩
  · intro q hq; simp [joinZ_nil] at hq; subst hq; exact ⟨hf, ht⟩
  · obtain rfl : z = l ++ [s] := by rw [hls]; simp
    have hs := hz s (by simp)
    by_cases h : s.2 + 1 = f
    · rw [joinZ_into h]
      intro q hq
      rcases List.mem_append.1 hq with h | h
      · exact hz q (by simp [h])
      · simp at h; subst h; exact ⟨hs.1, ht⟩
    · rw [joinZ_more h]
      intro q hq
      rcases List.mem_append.1 hq with h | h
      · exact hz q h
      · simp at h; subst h; exact ⟨hf, ht⟩
theorem joinZ_len (z : List (Nat × Nat)) (f t : Nat) : (joinZ z f t).length ≤ z.length + 1 := by
  rcases List.eq_nil_or_concat z with rfl | ⟨l, s, hls⟩
  · simp [joinZ_nil]
  · obtain rfl : z = l ++ [s] := by rw [hls]; simp
    by_cases h : s.2 + 1 = f
    · rw [joinZ_into h]; simp
    · rw [joinZ_more h]; simp
/-- How far the building has come. -/
def BI (p : Nat → Bool) (C : List Nat) (T : List (Nat × Nat)) (k : Nat) (z : List (Nat × Nat)) : Prop := build 4294967296 p z (C.drop k) = T ∧ U32 z ∧ z.length ≤ k
theorem endOf_lt {C : List Nat} {k : Nat} (hb : ∀ j (hj : j < C.length), C[j] < 4294967296) : endOf 4294967296 (C.drop (k + 1)) < 4294967296 := by
  by_cases h : k + 1 < C.length
  · rw [List.drop_eq_getElem_cons h]; have := hb (k + 1) h; simp only [endOf]; omega
  · rw [List.drop_eq_nil_of_le (by omega)]; simp [endOf]
theorem BI.give {p : Nat → Bool} {C : List Nat} {T : List (Nat × Nat)} {k : Nat} {z : List (Nat × Nat)} (h : BI p C T k z) (hk : k < C.length) (hb : ∀ j (hj : j < C.length), C[j] < 4294967296) (hp : p C[k] = true) : BI p C T (k + 1) (joinZ z C[k] (endOf 4294967296 (C.drop (k + 1)))) := by
  obtain ⟨h1, h2, h3⟩ := h
  rw [List.drop_eq_getElem_cons hk, build, if_pos hp] at h1
  have := joinZ_len z C[k] (endOf 4294967296 (C.drop (k + 1)))
  exact ⟨h1, joinZ_u32 h2 (hb k hk) (endOf_lt hb), by omega⟩
theorem BI.pass {p : Nat → Bool} {C : List Nat} {T : List (Nat × Nat)} {k : Nat} {z : List (Nat × Nat)} (h : BI p C T k z) (hk : k < C.length) (hp : p C[k] = false) : BI p C T (k + 1) z := by
  obtain ⟨h1, h2, h3⟩ := h
  rw [List.drop_eq_getElem_cons hk, build, if_neg (by rw [hp]; simp)] at h1
  exact ⟨h1, h2, by omega⟩
theorem BI.fin {p : Nat → Bool} {C : List Nat} {T z : List (Nat × Nat)} (h : BI p C T C.length z) : z = T := by
  have := h.1
  rw [List.drop_length, build] at this
  exact this
/-- What the cuts of a list are like. -/
structure Cu (C : List Nat) : Prop where
  lt : ∀ j (hj : j < C.length), C[j] < 4294967296
  pos : ∀ j (hj : j < C.length), 0 < j → 0 < C[j]
  len : C.length ≤ 4294967296
theorem rising_at : ∀ {l : List Nat} {lo m : Nat}, Rising lo m l → ∀ j (hj : j < l.length), lo + j ≤ l[j] ∧ l[j] < m
  | [], _, _, _, j, hj => by simp at hj
  | c :: l, lo, m, h, 0, _ => by have := h.1; have := h.2.1; simp; omega
  | c :: l, lo, m, h, j + 1, hj => by have := rising_at h.2.2 j (by simpa using hj); have := h.1; simp; omega
theorem cu_cuts (all : List Nat) : Cu (cutsL 4294967296 0 all) := by
  have hr := (cutsL_spec 4294967296 all 4294967296 0 (by omega)).1
  refine ⟨fun j hj => (rising_at hr j hj).2, fun j hj h0 => by have := (rising_at hr j hj).1; omega, ?_⟩
  rcases rising_len hr with h | h
  · omega
  · rw [h]; simp
/-- End and Join, as calls that never end otherwise. -/
def EndIs (C : List Nat) (v : Value) (k : Nat) (base : Nat) (W : World) : Prop := ∀ u, Below base W u → Calls Try.prog 37 #[v, .int .i64 k] u fun e w' => e = .returned (.int .i64 (endOf 4294967296 (C.drop (k + 1)) : Nat)) ∧ w' = u

/-- All ranges are right. -/
def okB (L : List (Nat × Nat)) : Bool := L.all fun r => decide (r.1 ≤ r.2)
theorem okB_drop {L : List (Nat × Nat)} {k : Nat} (hk : k < L.length) : okB (L.drop k) = (decide (L[k].1 ≤ L[k].2) && okB (L.drop (k + 1))) := by
  unfold okB
  rw [List.drop_eq_getElem_cons hk, List.all_cons]
/-- The zone that the document builds of a list. -/
def docOf (L : List (Nat × Nat)) : List (Nat × Nat) := build 4294967296 (has L) [] (cutsL 4294967296 0 (ends L))

/-- What Of answers, its zone being T if all is right. -/
def OfOut (L T : List (Nat × Nat)) (w : World) (e : Ending) (w' : World) : Prop := ∃ v', e = .returned (.tuple #[v', .int .i64 (if okB L then 0 else 31)]) ∧ IsZ w' v' (if okB L then T else []) ∧ Below w.heap.size w w'
theorem OfOut.no {L T : List (Nat × Nat)} {w w' : World} (h : okB L = false) (hb : Below w.heap.size w w') : OfOut L T w (.returned (.tuple #[.slice none 0 0, .int .i64 31])) w' :=
  ⟨_, by rw [h]; rfl, by rw [h]; exact ⟨none, 0, rfl, Nat.le_refl _, by simp, Zs.nil _ _⟩, hb⟩
theorem OfOut.yes {L T : List (Nat × Nat)} {w w' : World} {v : Value} (h : okB L = true) (hz : IsZ w' v T) (hb : Below w.heap.size w w') : OfOut L T w (.returned (.tuple #[v, .int .i64 0])) w' :=
  ⟨_, by rw [h]; rfl, by rw [h]; exact hz, hb⟩
set_option maxRecDepth 100000 in
set_option maxHeartbeats 4000000 in
theorem rof_any {v : Value} (L : List (Nat × Nat)) (w : World) (hu : U32 L) (hlen : L.length ≤ 1000000) (hz : IsZ w v L) :
    Calls Try.prog 10 #[v] w (OfOut L (docOf L) w) := by
  have HZ := Lib.hid hz
  have HU := Lib.hid hu
  have hcuts := fun (W : World) (hW : Below w.heap.size w W) => cuts_any L W hu hlen (hz.belows hW)
  have hhas := fun (W : World) (hW : Below w.heap.size w W) (a : Nat) => rhas_any L a W (hz.belows hW)
  have HC := Lib.hid hcuts
  have HH := Lib.hid hhas
  obtain ⟨A1, c1, rfl, n1, m1, z1⟩ := hz
  have H1 := Lib.hid z1
  clear z1 hu hcuts hhas
  go_enter Try.func10, Try.ntmps10
  go_wp2
  go_loopw [4] (fun i wr => ∃ k : Nat, i = .int .i64 k ∧ k ≤ L.length ∧ Hid (okB L = okB (L.drop k)) ∧ ∃ q, wr = w.drewN q) (fun i _ => L.length - (intOf i).toNat)
  case atStart => exact ⟨0, rfl, by omega, Lib.hid (by simp), 0, rfl⟩
  case round =>
    obtain ⟨k, rfl, hk, HR, q, rfl⟩ := hrel
    by_cases hlt : k < L.length
    · obtain ⟨g1, o1, e1, hg1, r1⟩ := H1.out (by omega)
      subst e1
      obtain ⟨c10, c11⟩ := r1 k hlt
      have e0 := okB_drop hlt
      generalize L[k] = x at c10 c11 e0
      clear r1
      have i0 : (0 : Int) ≤ (k : Int) := by omega
      have i1 : (k : Int) < (L.length : Int) := by omega
      by_cases hx : x.2 < x.1
      · rw [show decide (x.1 ≤ x.2) = false by simp; omega, Bool.false_and] at e0
        have HE := Lib.hid e0
        clear e0
        go_wp2_with fail
        go_quiet (fail)
        go_wp2
        go_ret2
        exact OfOut.no (by rw [HR.out, HE.out]) (bdrewN (bdrewN (Below.refl _ _) _) _)
      · rw [show decide (x.1 ≤ x.2) = true by simp; omega, Bool.true_and] at e0
        have HE := Lib.hid e0
        clear e0
        go_wp2_with fail
        go_quiet (fail)
        go_wp2
        go_roundw
        case rel => exact ⟨k + 1, by go_num, by omega, Lib.hid (by rw [HR.out, HE.out]), q + nq, rfl⟩
        case measure => simp [intOf]; omega
    · obtain rfl : k = L.length := by omega
      have hok : okB L = true := by rw [HR.out, List.drop_length]; rfl
      have HOK := Lib.hid hok
      clear hok HR
      have hbq : Below w.heap.size w (w.drewN q) := bdrewN (Below.refl _ _) q
      go_wp2_with fail
      refine (HC.out _ hbq).mono ?_
      rintro e w2 ⟨vc, rfl, hI, b2⟩
      have hb2 : Below w.heap.size w w2 := hbq.trans b2
      have hcu := cu_cuts (ends L)
      obtain ⟨T, hT⟩ : ∃ T, T = docOf L := ⟨_, rfl⟩
      have hst : BI (has L) (cutsL 4294967296 0 (ends L)) T 0 [] := ⟨by rw [hT, List.drop_zero]; rfl, fun r hr => by simp at hr, by simp⟩
      have hend := fun k hk (W : World) (hW : Below w2.heap.size w2 W) => end_any (cutsL 4294967296 0 (ends L)) k W hk hcu.pos hcu.lt (hI.belows hW)
      generalize cutsL 4294967296 0 (ends L) = C at hI hcu hst hend
      have HT := Lib.hid hT
      have HEND := Lib.hid hend
      have HCU := Lib.hid hcu
      obtain ⟨Ac, cc, rfl, nc, mc, zc⟩ := hI
      have HCC := Lib.hid zc
      have HST := Lib.hid hst
      clear hT hend hcu zc hst
      simp only [maxLen] at mc
      go_wp2
      go_loopw [5, 7] (fun o i wq => ∃ (k : Nat) (z : List (Nat × Nat)), i = .int .i64 k ∧ k ≤ C.length ∧ Hid (BI (has L) C T k z) ∧ Hid (wq.ownsRow w2.heap.size 33 2 o z.length (pcells z)) ∧ Below w2.heap.size w2 wq) (fun _ i _ => C.length - (intOf i).toNat)
      case atStart => exact ⟨0, [], rfl, by omega, HST, Lib.hid (World.ownsRow_nil _ _ _ _), Below.refl _ _⟩
      case round =>
        obtain ⟨k, z, rfl, hk, HBI, HO, hbq⟩ := hrel
        by_cases hlt : k < C.length
        · obtain ⟨g, e1, hg, hc⟩ := HCC.out (by omega)
          subst e1
          have c0 := (hbq.cell (p := ⟨g, k, none⟩) hg).trans (hc k hlt)
          have b0 := HCU.out.lt k hlt
          have hgive := HBI.out.give hlt HCU.out.lt
          have hpass := HBI.out.pass hlt
          have hE := HEND.out k hlt
          have hel := endOf_lt (C := C) (k := k) HCU.out.lt
          clear hc
          generalize C[k] = c at c0 b0 hgive hpass
          generalize endOf 4294967296 (C.drop (k + 1)) = en at hgive hE hel
          have hzl : z.length ≤ 4294967296 := by have := HBI.out.2.2; have := HCU.out.len; omega
          have hbw : Below w.heap.size w wr := hb2.trans (hbq.mono hb2.size)
          have hH := HH.out wr hbw c
          have j1 : IntKind.u32.wrap (c : Int) = (c : Int) := IntWalk.u32_in _ (by omega)
          have i0 : (0 : Int) ≤ (k : Int) := by omega
          have i1 : (k : Int) < (C.length : Int) := by omega
          have HGI := Lib.hid hgive
          have HPA := Lib.hid hpass
          clear hgive hpass
          go_wp2_with fail
          refine hH.mono ?_
          rintro e w3 ⟨rfl, rfl⟩
          cases hp : has L c with
          | true =>
            have HB2 := Lib.hid (HGI.out hp)
            go_wp2_with fail
            go_region_held3 (fun w' => w'.cell? ⟨g, k, none⟩ = some (.int .i64 c)) (first | go_keep) (first | (go_at_call 37; refine (hE _ (by first | exact hbq.drew | exact hbq)).mono ?_; rintro e w4 ⟨rfl, rfl⟩) | (go_at_call 36; refine (join_any z c en _ HBI.out.2.1 b0 hel hzl (by first | exact HO.out.drew | exact HO.out) (by first | exact hbq.drew.size | exact hbq.size)).mono ?_; rintro e w4 ⟨v', rfl, ho', b4⟩; have d0 := (b4.cell (p := ⟨g, k, none⟩) hg).trans c0))
            go_wp2
            go_roundw
            case rel => exact ⟨k + 1, joinZ z c en, by go_num, by omega, HB2, Lib.hid ho', (by first | exact hbq.drew.trans b4 | exact hbq.trans b4)⟩
            case measure => simp [intOf]; omega
          | false =>
            have HB2 := Lib.hid (HPA.out hp)
            go_wp2
            go_roundw
            case rel => exact ⟨k + 1, z, by go_num, by omega, HB2, HO, hbq⟩
            case measure => simp [intOf]; omega
        · obtain rfl : k = C.length := by omega
          have hfin := HBI.out.fin
          subst hfin
          go_wp2
          go_ret2
          exact OfOut.yes HOK.out (HT.out ▸ isZ_of_row HO.out) (hb2.trans (hbq.mono hb2.size))
end Go.Proofs.Ytonhmppobdbidaa
