/- Contracts of the document: less, Ranges. -/
import Derived.Test.YtjljkpecpofbcaaD3
import Derived.Deep.CutBlock
namespace Go.Proofs.Ytjljkpecpofbcaa
open Go.RowKit Go.Shelf

theorem keyI_lt {a b : Nat × Nat} (ha : a.2 < 4294967296) (hb : b.2 < 4294967296) : keyI a < keyI b ↔ a.1 < b.1 ∨ a.1 = b.1 ∧ a.2 < b.2 := by
  unfold keyI; omega
set_option maxRecDepth 100000 in
theorem less_any (a b : Nat × Nat) (w : World) (ha : a.2 < 4294967296) (hb : b.2 < 4294967296) : Calls Try.prog 32 #[.agg #[.int .u32 a.1, .int .u32 a.2], .agg #[.int .u32 b.1, .int .u32 b.2]] w fun e w' => e = .returned (.bool (decide (keyI a < keyI b))) ∧ Below w.heap.size w w' := by
  have hk := keyI_lt ha hb
  obtain ⟨a1, a2⟩ := a
  obtain ⟨b1, b2⟩ := b
  simp only at ha hb hk ⊢
  have bb : Below w.heap.size w ((w.alloc (.cells #[.int .u32 a1, .int .u32 a2] 32)).alloc (.cells #[.int .u32 b1, .int .u32 b2] 32)) := ((Below.refl _ w).alloc (Nat.le_refl _) _).alloc (by simp) _
  rcases Nat.lt_trichotomy a1 b1 with h | h | h
  · rw [show decide (keyI (a1, a2) < keyI (b1, b2)) = true by rw [decide_eq_true_iff, hk]; omega]
    clear hk
    go_enter Try.func32, Try.ntmps32
    go_wp2
    go_ret
    exact ⟨rfl, bb⟩
  · subst h
    by_cases h2 : a2 < b2
    · rw [show decide (keyI (a1, a2) < keyI (a1, b2)) = true by rw [decide_eq_true_iff, hk]; omega]
      clear hk
      go_enter Try.func32, Try.ntmps32
      go_wp2
      go_ret
      exact ⟨rfl, bb⟩
    · rw [show decide (keyI (a1, a2) < keyI (a1, b2)) = false by rw [decide_eq_false_iff_not, hk]; omega]
      clear hk
      go_enter Try.func32, Try.ntmps32
      go_wp2
      go_ret
      exact ⟨rfl, bb⟩
  · rw [show decide (keyI (a1, a2) < keyI (b1, b2)) = false by rw [decide_eq_false_iff_not, hk]; omega]
    have d1 : decide ((a1 : Int) < (b1 : Int)) = false := by simp; omega
    have d2 : ((a1 : Int) == (b1 : Int)) = false := by rw [beq_eq_false_iff_ne]; omega
    have d3 : decide (a1 < b1) = false := by simp; omega
    clear hk
    go_enter Try.func32, Try.ntmps32
    go_wp2
    go_ret
    exact ⟨rfl, bb⟩

/-- Where a range's place is sought. -/
def Pk (O : List (Nat × Nat)) (r : Nat × Nat) (k : Nat) : Prop := k ≤ O.length ∧ ∀ j (hj : j < O.length), j < k → keyI O[j] < keyI r
def Pend (O : List (Nat × Nat)) (r : Nat × Nat) (k : Nat) : Prop := Pk O r k ∧ ∀ hk : k < O.length, ¬ keyI O[k] < keyI r
theorem RsL.nil : RsL [] [] := ⟨List.Pairwise.nil, fun _ => Iff.rfl⟩
theorem mem_take_succ {L : List (Nat × Nat)} {i : Nat} (hi : i < L.length) (r : Nat × Nat) : r ∈ L.take (i + 1) ↔ r ∈ L.take i ∨ r = L[i] := by
  rw [List.take_succ_eq_append_getElem hi, List.mem_append]; simp
theorem RsL.there {O L : List (Nat × Nat)} {i k : Nat} (h : RsL O (L.take i)) (hi : i < L.length) (hk : k < O.length) (e : O[k] = L[i]) : RsL O (L.take (i + 1)) := by
  refine h.perm fun r => ?_
  rw [mem_take_succ hi]
  constructor
  · exact .inl
  · rintro (h1 | rfl)
    · exact h1
    · rw [← h.2, ← e]; exact List.getElem_mem hk
theorem RsL.ins {O L : List (Nat × Nat)} {i k : Nat} (hu : ∀ r ∈ L, r.2 < 4294967296) (h : RsL O (L.take i)) (hi : i < L.length) (hp : Pend O L[i] k) (hne : ∀ hk : k < O.length, O[k] ≠ L[i]) : RsL (O.take k ++ [L[i]] ++ O.drop k) (L.take (i + 1)) := by
  obtain ⟨⟨hk, h1⟩, h2⟩ := hp
  have hO : ∀ r ∈ O, r.2 < 4294967296 := fun r hr => hu r (List.mem_of_mem_take ((h.2 r).1 hr))
  have hri := hu L[i] (List.getElem_mem hi)
  have hpw : ∀ a b (ha : a < O.length) (hb : b < O.length), a < b → keyI O[a] < keyI O[b] := fun a b ha hb hab => by
    have := List.pairwise_iff_getElem.1 h.1 a b (by simpa using ha) (by simpa using hb) hab
    simpa using this
  refine ⟨?_, fun r => ?_⟩
  · rw [List.map_append, List.map_append]
    have hlow : ∀ x ∈ (O.take k).map keyI, x < keyI L[i] := fun x hx => by
      obtain ⟨r, hr, rfl⟩ := List.mem_map.1 hx
      obtain ⟨j, hj, rfl⟩ := List.getElem_of_mem hr
      rw [List.length_take] at hj
      rw [List.getElem_take]
      exact h1 j (by omega) (by omega)
    have hhigh : ∀ x ∈ (O.drop k).map keyI, keyI L[i] < x := fun x hx => by
      obtain ⟨r, hr, rfl⟩ := List.mem_map.1 hx
      obtain ⟨j, hj, rfl⟩ := List.getElem_of_mem hr
      rw [List.length_drop] at hj
      rw [List.getElem_drop]
      have hk' : k < O.length := by omega
      have h3 := h2 hk'
      have h4 : keyI O[k] ≠ keyI L[i] := fun e => hne hk' (keyI_inj (hO _ (List.getElem_mem hk')) hri e)
      by_cases e : j = 0
      · subst e; simp only [Nat.add_zero]; omega
      · have := hpw k (k + j) hk' (by omega) (by omega); omega
    have hsub1 : ((O.take k).map keyI).Pairwise (· < ·) := h.1.sublist ((List.take_sublist k O).map keyI)
    have hsub2 : ((O.drop k).map keyI).Pairwise (· < ·) := h.1.sublist ((List.drop_sublist k O).map keyI)
    rw [List.pairwise_append, List.pairwise_append]
    refine ⟨⟨hsub1, by simp, fun a ha b hb => ?_⟩, hsub2, fun a ha b hb => ?_⟩
    · simp at hb; subst hb; exact hlow a ha
    · have hb' := hhigh b hb
      rcases List.mem_append.1 ha with ha | ha
      · have := hlow a ha; omega
      · simp at ha; subst ha; exact hb'
  · rw [mem_take_succ hi, ← h.2]
    constructor
    · intro hr
      rcases List.mem_append.1 hr with hr | hr
      · rcases List.mem_append.1 hr with hr | hr
        · exact .inl (List.mem_of_mem_take hr)
        · simp at hr; exact .inr hr
      · exact .inl (List.mem_of_mem_drop hr)
    · rintro (hr | rfl)
      · rw [← List.take_append_drop k O] at hr
        rcases List.mem_append.1 hr with hr | hr
        · simp [hr]
        · simp [hr]
      · simp
/-- Where the loop over the ranges stands. -/
def QI (w : World) (L O : List (Nat × Nat)) (i : Nat) (v : Value) (W : World) : Prop := RsL O (L.take i) ∧ O.length ≤ i ∧ IsZ W v O ∧ Below w.heap.size w W
/-- Where the search stands. -/
def SI (O : List (Nat × Nat)) (r : Nat × Nat) (k : Nat) (b : Bool) : Prop := Pk O r k ∧ (b = false → Pend O r k)
theorem SI.fin {O : List (Nat × Nat)} {r : Nat × Nat} {k : Nat} {b : Bool} (h : SI O r k b) (h2 : k < O.length → b = false) : Pend O r k := by
  by_cases hk : k < O.length
  · exact h.2 (h2 hk)
  · exact ⟨h.1, fun h => absurd h hk⟩
theorem SI.more {O : List (Nat × Nat)} {r : Nat × Nat} {k : Nat} {b : Bool} (h : SI O r k b) (hk : k < O.length) (hl : keyI O[k] < keyI r) : SI O r (k + 1) true :=
  ⟨⟨hk, fun j hj hjk => by
    by_cases e : j = k
    · subst e; exact hl
    · exact h.1.2 j hj (by omega)⟩, fun h => by cases h⟩
theorem SI.stop {O : List (Nat × Nat)} {r : Nat × Nat} {k : Nat} {b : Bool} (h : SI O r k b) (hk : k < O.length) (hl : ¬ keyI O[k] < keyI r) : SI O r k false :=
  ⟨h.1, fun _ => ⟨h.1, fun _ => hl⟩⟩
set_option maxRecDepth 100000 in
set_option maxHeartbeats 4000000 in
theorem rranges_any {v : Value} (L : List (Nat × Nat)) (w : World) (hL : RL L) (hz : IsZ w v L) : Calls Try.prog 16 #[v] w (RngOut w L) := by
  obtain ⟨A, c, rfl, n1, m1, z1⟩ := hz
  have HS : Hid (∀ W, Below w.heap.size w W → Zs W A L) := Lib.hid fun W hW => z1.belows hW
  have hlen := hL.2
  have HU : Hid (∀ r ∈ L, r.2 < 4294967296) := Lib.hid fun r hr => (hL.1 r hr).2
  have HF : Hid (L.take L.length = L) := Lib.hid List.take_length
  clear z1 hL
  go_enter Try.func16, Try.ntmps16
  go_wp2_with fail
  go_loopw [3, 4] (fun ov i wr => ∃ k : Nat, i = .int .i64 k ∧ k ≤ L.length ∧ Hid (∃ O, QI w L O k ov wr)) (fun _ i _ => L.length - (intOf i).toNat)
  case atStart => exact ⟨0, rfl, by omega, Lib.hid ⟨[], by simpa using RsL.nil, by simp, ⟨none, 0, rfl, by simp, by simp [maxLen], Zs.nil _ _⟩, Below.refl _ _⟩⟩
  case round =>
    obtain ⟨i, rfl, hi, HQ⟩ := hrel
    obtain ⟨O, hO, hOl, hOz, hb⟩ := HQ.out
    have hm1 : c ≤ 9223372036854775807 := m1
    by_cases hlt : i < L.length
    · obtain ⟨w0, rfl⟩ : ∃ w0, w0 = wr := ⟨_, rfl⟩
      obtain ⟨A3, c3, rfl, n3, m3, z3⟩ := hOz
      have HOZ : Hid (∀ W, Below w0.heap.size w0 W → Zs W A3 O) := Lib.hid fun W hW => z3.belows hW
      obtain ⟨g, o, rfl, hg, hc⟩ := HS.out w (Below.refl _ _) (by omega)
      have HR : Hid (∀ W, Below w.heap.size w W → W.cell? ⟨g, o + i * 2, none⟩ = some (.int .u32 L[i].1) ∧ W.cell? ⟨g, o + i * 2 + 1, none⟩ = some (.int .u32 L[i].2)) := Lib.hid fun W hW => ⟨(hW.cell (p := ⟨g, _, none⟩) hg).trans (hc i hlt).1, (hW.cell (p := ⟨g, _, none⟩) hg).trans (hc i hlt).2⟩
      have HB := Lib.hid hb
      have HOO := Lib.hid hO
      have hm3 : c3 ≤ 9223372036854775807 := m3
      have i1 : (i : Int) < (L.length : Int) := by omega
      have i0 : (0 : Int) ≤ (i : Int) := by omega
      have hr := HU.out L[i] (List.getElem_mem hlt)
      have hOu : Hid (∀ r ∈ O, r.2 < 4294967296) := Lib.hid fun r hr => HU.out r (List.mem_of_mem_take ((hO.2 r).1 hr))
      have HINS : Hid (∀ k, Pend O L[i] k → (∀ hk : k < O.length, O[k] ≠ L[i]) → RsL (O.take k ++ [L[i]] ++ O.drop k) (L.take (i + 1))) := Lib.hid fun k hp hne => hO.ins HU.out hlt hp hne
      have HTHERE : Hid (∀ k (hk : k < O.length), O[k] = L[i] → RsL O (L.take (i + 1))) := Lib.hid fun k hk e => hO.there hlt hk e
      clear hc z3 hb hO HQ
      generalize L[i] = r at HR hr HINS HTHERE
      go_upto_block 2 with (fail)
      go_cut [5, 6] (fun k _ wc => ∃ kn : Nat, k = .int .i64 kn ∧ kn ≤ O.length ∧ Hid (Pend O r kn ∧ Below w0.heap.size w0 wc))
      case first =>
        go_wp2_with fail
        go_loopw [5, 6] (fun kv bv wr => ∃ (kn : Nat) (b : Bool), kv = .int .i64 kn ∧ bv = .bool b ∧ kn ≤ O.length ∧ Hid (SI O r kn b ∧ Below w0.heap.size w0 wr)) (fun kv bv _ => 2 * (O.length - (intOf kv).toNat) + moreOf bv)
        case atStart => exact ⟨0, true, rfl, rfl, by omega, Lib.hid ⟨⟨⟨by omega, fun j hj h => by omega⟩, fun h => by cases h⟩, Below.refl _ _⟩⟩
        case round =>
          obtain ⟨k, b, rfl, rfl, hk, HSI⟩ := hrel
          by_cases hkl : k < O.length
          · cases b with
            | false =>
              have HP := Lib.hid (And.intro (HSI.out.1.fin (fun _ => rfl)) HSI.out.2)
              have i2 : (k : Int) < (O.length : Int) := by omega
              go_wp2_with fail
              go_meet
              exact ⟨k, rfl, hk, HP⟩
            | true =>
              obtain ⟨hsi, hbq⟩ := HSI.out
              obtain ⟨wq, rfl⟩ : ∃ wq, wq = wr := ⟨_, rfl⟩
              obtain ⟨g3, o3, rfl, hg3, hc3⟩ := HOZ.out w0 (Below.refl _ _) (by omega)
              have hx2 := hOu.out O[k] (List.getElem_mem hkl)
              obtain ⟨bv, hbv⟩ : ∃ bv, bv = decide (keyI O[k] < keyI r) := ⟨_, rfl⟩
              have HM : Hid (bv = true → SI O r (k + 1) true) := Lib.hid fun h => hsi.more hkl (by rw [hbv] at h; simpa using h)
              have HT : Hid (bv = false → SI O r k false) := Lib.hid fun h => hsi.stop hkl (by rw [hbv] at h; simpa using h)
              have KS : Hid (∀ W, Below w0.heap.size w0 W → W.cell? ⟨g3, o3 + k * 2, none⟩ = some (.int .u32 O[k].1) ∧ W.cell? ⟨g3, o3 + k * 2 + 1, none⟩ = some (.int .u32 O[k].2) ∧ W.cell? ⟨g, o + i * 2, none⟩ = some (.int .u32 r.1) ∧ W.cell? ⟨g, o + i * 2 + 1, none⟩ = some (.int .u32 r.2)) := Lib.hid fun W hW => by
                obtain ⟨x1, x2⟩ := HR.out W (HB.out.trans (hW.mono HB.out.size))
                exact ⟨(hW.cell (p := ⟨g3, _, none⟩) hg3).trans (hc3 k hkl).1, (hW.cell (p := ⟨g3, _, none⟩) hg3).trans (hc3 k hkl).2, x1, x2⟩
              obtain ⟨q0, q1, q2, q3⟩ := KS.out wq hbq
              have HLE : Hid (∀ W : World, Calls Try.prog 32 #[.agg #[.int .u32 O[k].1, .int .u32 O[k].2], .agg #[.int .u32 r.1, .int .u32 r.2]] W fun e w' => e = .returned (.bool bv) ∧ Below W.heap.size W w') := Lib.hid fun W => by rw [hbv]; exact less_any O[k] r W hx2 hr
              have i2 : (k : Int) < (O.length : Int) := by omega
              have k0 : (0 : Int) ≤ (k : Int) := by omega
              clear hsi hc3 HSI hx2 hbv
              generalize O[k] = x at KS q0 q1 HLE
              go_wp2_with fail
              go_region_held3 (fun W => W.cell? ⟨g3, o3 + k * 2, none⟩ = some (.int .u32 x.1) ∧ W.cell? ⟨g3, o3 + k * 2 + 1, none⟩ = some (.int .u32 x.2) ∧ W.cell? ⟨g, o + i * 2, none⟩ = some (.int .u32 r.1) ∧ W.cell? ⟨g, o + i * 2 + 1, none⟩ = some (.int .u32 r.2)) (first | exact KS.out _ bb2 | exact KS.out _ hbq.drew | exact KS.out _ hbq) (first
                | (go_at_call 32; refine (HLE.out _).mono ?_; rintro e w2 ⟨rfl, b2⟩; have bb2 : Below w0.heap.size w0 w2 := (by first | exact hbq.trans (b2.mono hbq.size) | exact hbq.drew.trans (b2.mono hbq.size))))
              rename_i hHeld
              clear hHeld q0 q1 q2 q3
              cases bv with
              | true =>
                have HS2 := Lib.hid (HM.out rfl)
                clear HM HT
                go_wp2
                go_roundw
                case rel => exact ⟨k + 1, true, by go_num, rfl, by omega, Lib.hid ⟨HS2.out, bb2⟩⟩
                case measure => simp [intOf, moreOf]; omega
              | false =>
                have HS2 := Lib.hid (HT.out rfl)
                clear HM HT
                go_wp2
                go_roundw
                case rel => exact ⟨k, false, rfl, rfl, hk, Lib.hid ⟨HS2.out, bb2⟩⟩
                case measure => simp [intOf, moreOf]
          · obtain rfl : k = O.length := by omega
            have HP := Lib.hid (And.intro (HSI.out.1.fin (fun h => absurd h (by omega))) HSI.out.2)
            go_wp2_with fail
            go_meet
            exact ⟨_, rfl, hk, HP⟩
      case rest =>
        obtain ⟨k, rfl, hk, HP⟩ := hcut
        obtain ⟨hpend, hbc⟩ := HP.out
        obtain ⟨wq, ew⟩ : ∃ wq, wc = wq := ⟨_, rfl⟩
        rw [ew] at hbc ⊢
        clear ew
        obtain ⟨y2, y3⟩ := HR.out wq (HB.out.trans (hbc.mono HB.out.size))
        have k0 : (0 : Int) ≤ (k : Int) := by omega
        by_cases hkl : k < O.length
        · obtain ⟨g3, o3, eA, hg3, hc3⟩ := HOZ.out w0 (Below.refl _ _) (by omega)
          subst eA
          have q0 := (hbc.cell (p := ⟨g3, o3 + k * 2, none⟩) hg3).trans (hc3 k hkl).1
          have q1 := (hbc.cell (p := ⟨g3, o3 + k * 2 + 1, none⟩) hg3).trans (hc3 k hkl).2
          have i2 : (k : Int) < (O.length : Int) := by omega
          clear hc3
          by_cases hx : O[k] = r
          · have HT := Lib.hid (HTHERE.out k hkl hx)
            rw [hx] at q0 q1
            have HZO := Lib.hid (HOZ.out wq hbc)
            clear hx hpend HP HINS HTHERE
            go_wp2_with fail
            go_quiet (fail)
            go_wp2
            go_roundw
            case rel => exact ⟨i + 1, by go_num, by omega, Lib.hid ⟨O, HT.out, by omega, ⟨_, c3, rfl, n3, m3, HOZ.out _ (bdrewN hbc _)⟩, HB.out.trans ((bdrewN hbc _).mono HB.out.size)⟩⟩
            case measure => simp [intOf]; omega
          · have HINSD := Lib.hid (HINS.out k hpend (fun _ => hx))
            generalize O[k] = x at q0 q1 hx
            clear hpend HP HINS HTHERE
            by_cases hx1 : x.1 = r.1
            · have hx2 : x.2 ≠ r.2 := fun e => hx (Prod.ext hx1 e)
              have d1 : ((x.1 : Int) == (r.1 : Int)) = true := by rw [beq_iff_eq]; omega
              have d2 : ((x.2 : Int) == (r.2 : Int)) = false := by rw [beq_eq_false_iff_ne]; omega
              clear hx hx1 hx2
              go_wp2_with fail
              go_quiet (fail)
              obtain ⟨W1, hW1, bW1⟩ : ∃ W1, wq.drewN nq = W1 ∧ Below w0.heap.size w0 W1 := ⟨_, rfl, bdrewN hbc _⟩
              rw [hW1]
              clear hW1
              clear q0 q1 y2 y3 d1 d2
              obtain ⟨A2, c2, hs2, n2, m2, z2⟩ := slice_from (some ⟨g3, o3, none⟩) c3 O k (by omega) n3 m3
              have hs1 := slice_to (some ⟨g3, o3, none⟩) c3 O k (by omega) n3 m3
              have HZ : Hid (∀ W, Below w0.heap.size w0 W → Zs W (some ⟨g3, o3, none⟩) (O.take k) ∧ Zs W A2 (O.drop k)) := Lib.hid fun W hW => ⟨(HOZ.out W hW).take k, z2 W (HOZ.out W hW)⟩
              have hm2 : c2 ≤ 9223372036854775807 := m2
              clear z2
              have ba : Below w0.heap.size w0 (W1.alloc (.cells #[] 32)) := bW1.alloc bW1.size _
              have hsz := bW1.size
              have hOl2 : O.length ≤ 500 := by omega
              go_wp2_with (first
                | (at_builtin; refine wpList_app_y rfl (.tmp 60) (.tmp 63) rfl W1.heap.size _ (O.take k ++ [r]) rfl HR2.out _ _ _ (O.drop k) rfl (by rw [List.length_drop]) (HZ.out _ bb3).2 (by simp; omega) hsz3 ?_; intro g4 cap4 w4 hrow4 b4; have bb4 : Below w0.heap.size w0 w4 := bb3.trans (b4.mono hsz))
                | (at_builtin; refine wpList_app_y rfl (.tmp 53) (.tmp 58) rfl W1.heap.size _ (O.take k) rfl (HR1.out.alloc _) _ _ _ [r] rfl rfl (zs_one w2 r) (by simp; omega) (by simp; omega) ?_; intro g3 cap3 w3 hrow3 b3; have hsz3 : W1.heap.size ≤ w3.heap.size := (by have := b3.size; simp at this; omega); have bb3 : Below w0.heap.size w0 w3 := (bb2.alloc bb2.size _).trans (b3.mono hsz); have HR2 : Hid (Row w3 W1.heap.size (.slice (some ⟨g3, 0, none⟩) (k + 1) cap3) (O.take k ++ [r])) := Lib.hid (by rw [List.length_take, Nat.min_eq_left (by omega)] at hrow3; exact hrow3); clear hrow3)
                | (at_builtin; refine wpList_app_y rfl (.tmp 48) (.tmp 51) rfl W1.heap.size _ [] rfl (Row.empty W1) _ _ _ (O.take k) rfl (by rw [List.length_take]; omega) (HZ.out _ ba).1 (by simp; omega) (by simp) ?_; intro g2 cap2 w2 hrow1 b2; simp only [List.length_nil, Nat.zero_add, List.nil_append] at hrow1; have bb2 : Below w0.heap.size w0 w2 := ba.trans (b2.mono hsz); have hsz2 : W1.heap.size ≤ w2.heap.size := (by have := b2.size; simp at this; omega); have HR1 : Hid (Row w2 W1.heap.size (.slice (some ⟨g2, 0, none⟩) k cap2) (O.take k)) := Lib.hid (by rw [List.length_take, Nat.min_eq_left (by omega)] at hrow1; exact hrow1); clear hrow1; obtain ⟨y0, y1⟩ := HR.out w2 (HB.out.trans (bb2.mono HB.out.size))))
              have HW4 : Hid (QI w L (O.take k ++ [r] ++ O.drop k) (i + 1) (.slice (some ⟨g4, 0, none⟩) (O.length + 1) cap4) w4) := Lib.hid ⟨HINSD.out, by simp; omega, by have := hrow4.isZ; rw [show (O.take k ++ [r]).length + (O.drop k).length = O.length + 1 by simp; omega] at this; exact this, HB.out.trans (bb4.mono HB.out.size)⟩
              refine ⟨⟨i + 1, by go_num, by omega, Lib.hid ⟨_, by rw [show k + 1 + (O.length - k) = O.length + 1 by omega]; exact HW4.out⟩⟩, by simp [intOf]; omega⟩
            · have d1 : ((x.1 : Int) == (r.1 : Int)) = false := by rw [beq_eq_false_iff_ne]; omega
              clear hx hx1
              go_wp2_with fail
              go_quiet (fail)
              obtain ⟨W1, hW1, bW1⟩ : ∃ W1, wq.drewN nq = W1 ∧ Below w0.heap.size w0 W1 := ⟨_, rfl, bdrewN hbc _⟩
              rw [hW1]
              clear hW1
              clear q0 q1 y2 y3 d1
              obtain ⟨A2, c2, hs2, n2, m2, z2⟩ := slice_from (some ⟨g3, o3, none⟩) c3 O k (by omega) n3 m3
              have hs1 := slice_to (some ⟨g3, o3, none⟩) c3 O k (by omega) n3 m3
              have HZ : Hid (∀ W, Below w0.heap.size w0 W → Zs W (some ⟨g3, o3, none⟩) (O.take k) ∧ Zs W A2 (O.drop k)) := Lib.hid fun W hW => ⟨(HOZ.out W hW).take k, z2 W (HOZ.out W hW)⟩
              have hm2 : c2 ≤ 9223372036854775807 := m2
              clear z2
              have ba : Below w0.heap.size w0 (W1.alloc (.cells #[] 32)) := bW1.alloc bW1.size _
              have hsz := bW1.size
              have hOl2 : O.length ≤ 500 := by omega
              go_wp2_with (first
                | (at_builtin; refine wpList_app_y rfl (.tmp 60) (.tmp 63) rfl W1.heap.size _ (O.take k ++ [r]) rfl HR2.out _ _ _ (O.drop k) rfl (by rw [List.length_drop]) (HZ.out _ bb3).2 (by simp; omega) hsz3 ?_; intro g4 cap4 w4 hrow4 b4; have bb4 : Below w0.heap.size w0 w4 := bb3.trans (b4.mono hsz))
                | (at_builtin; refine wpList_app_y rfl (.tmp 53) (.tmp 58) rfl W1.heap.size _ (O.take k) rfl (HR1.out.alloc _) _ _ _ [r] rfl rfl (zs_one w2 r) (by simp; omega) (by simp; omega) ?_; intro g3 cap3 w3 hrow3 b3; have hsz3 : W1.heap.size ≤ w3.heap.size := (by have := b3.size; simp at this; omega); have bb3 : Below w0.heap.size w0 w3 := (bb2.alloc bb2.size _).trans (b3.mono hsz); have HR2 : Hid (Row w3 W1.heap.size (.slice (some ⟨g3, 0, none⟩) (k + 1) cap3) (O.take k ++ [r])) := Lib.hid (by rw [List.length_take, Nat.min_eq_left (by omega)] at hrow3; exact hrow3); clear hrow3)
                | (at_builtin; refine wpList_app_y rfl (.tmp 48) (.tmp 51) rfl W1.heap.size _ [] rfl (Row.empty W1) _ _ _ (O.take k) rfl (by rw [List.length_take]; omega) (HZ.out _ ba).1 (by simp; omega) (by simp) ?_; intro g2 cap2 w2 hrow1 b2; simp only [List.length_nil, Nat.zero_add, List.nil_append] at hrow1; have bb2 : Below w0.heap.size w0 w2 := ba.trans (b2.mono hsz); have hsz2 : W1.heap.size ≤ w2.heap.size := (by have := b2.size; simp at this; omega); have HR1 : Hid (Row w2 W1.heap.size (.slice (some ⟨g2, 0, none⟩) k cap2) (O.take k)) := Lib.hid (by rw [List.length_take, Nat.min_eq_left (by omega)] at hrow1; exact hrow1); clear hrow1; obtain ⟨y0, y1⟩ := HR.out w2 (HB.out.trans (bb2.mono HB.out.size))))
              have HW4 : Hid (QI w L (O.take k ++ [r] ++ O.drop k) (i + 1) (.slice (some ⟨g4, 0, none⟩) (O.length + 1) cap4) w4) := Lib.hid ⟨HINSD.out, by simp; omega, by have := hrow4.isZ; rw [show (O.take k ++ [r]).length + (O.drop k).length = O.length + 1 by simp; omega] at this; exact this, HB.out.trans (bb4.mono HB.out.size)⟩
              refine ⟨⟨i + 1, by go_num, by omega, Lib.hid ⟨_, by rw [show k + 1 + (O.length - k) = O.length + 1 by omega]; exact HW4.out⟩⟩, by simp [intOf]; omega⟩
        · have HINSD := Lib.hid (HINS.out k hpend (fun h => absurd h hkl))
          have i2 : ¬ (k : Int) < (O.length : Int) := by omega
          clear hpend HP HINS HTHERE
          go_wp2_with fail
          go_quiet (fail)
          obtain ⟨W1, hW1, bW1⟩ : ∃ W1, wq.drewN nq = W1 ∧ Below w0.heap.size w0 W1 := ⟨_, rfl, bdrewN hbc _⟩
          rw [hW1]
          clear hW1
          clear y2 y3 i2
          obtain ⟨A2, c2, hs2, n2, m2, z2⟩ := slice_from A3 c3 O k (by omega) n3 m3
          have hs1 := slice_to A3 c3 O k (by omega) n3 m3
          have HZ : Hid (∀ W, Below w0.heap.size w0 W → Zs W A3 (O.take k) ∧ Zs W A2 (O.drop k)) := Lib.hid fun W hW => ⟨(HOZ.out W hW).take k, z2 W (HOZ.out W hW)⟩
          have hm2 : c2 ≤ 9223372036854775807 := m2
          clear z2
          have ba : Below w0.heap.size w0 (W1.alloc (.cells #[] 32)) := bW1.alloc bW1.size _
          have hsz := bW1.size
          have hOl2 : O.length ≤ 500 := by omega
          go_wp2_with (first
            | (at_builtin; refine wpList_app_y rfl (.tmp 60) (.tmp 63) rfl W1.heap.size _ (O.take k ++ [r]) rfl HR2.out _ _ _ (O.drop k) rfl (by rw [List.length_drop]) (HZ.out _ bb3).2 (by simp; omega) hsz3 ?_; intro g4 cap4 w4 hrow4 b4; have bb4 : Below w0.heap.size w0 w4 := bb3.trans (b4.mono hsz))
            | (at_builtin; refine wpList_app_y rfl (.tmp 53) (.tmp 58) rfl W1.heap.size _ (O.take k) rfl (HR1.out.alloc _) _ _ _ [r] rfl rfl (zs_one w2 r) (by simp; omega) (by simp; omega) ?_; intro g3 cap3 w3 hrow3 b3; have hsz3 : W1.heap.size ≤ w3.heap.size := (by have := b3.size; simp at this; omega); have bb3 : Below w0.heap.size w0 w3 := (bb2.alloc bb2.size _).trans (b3.mono hsz); have HR2 : Hid (Row w3 W1.heap.size (.slice (some ⟨g3, 0, none⟩) (k + 1) cap3) (O.take k ++ [r])) := Lib.hid (by rw [List.length_take, Nat.min_eq_left (by omega)] at hrow3; exact hrow3); clear hrow3)
            | (at_builtin; refine wpList_app_y rfl (.tmp 48) (.tmp 51) rfl W1.heap.size _ [] rfl (Row.empty W1) _ _ _ (O.take k) rfl (by rw [List.length_take]; omega) (HZ.out _ ba).1 (by simp; omega) (by simp) ?_; intro g2 cap2 w2 hrow1 b2; simp only [List.length_nil, Nat.zero_add, List.nil_append] at hrow1; have bb2 : Below w0.heap.size w0 w2 := ba.trans (b2.mono hsz); have hsz2 : W1.heap.size ≤ w2.heap.size := (by have := b2.size; simp at this; omega); have HR1 : Hid (Row w2 W1.heap.size (.slice (some ⟨g2, 0, none⟩) k cap2) (O.take k)) := Lib.hid (by rw [List.length_take, Nat.min_eq_left (by omega)] at hrow1; exact hrow1); clear hrow1; obtain ⟨y0, y1⟩ := HR.out w2 (HB.out.trans (bb2.mono HB.out.size))))
          have HW4 : Hid (QI w L (O.take k ++ [r] ++ O.drop k) (i + 1) (.slice (some ⟨g4, 0, none⟩) (O.length + 1) cap4) w4) := Lib.hid ⟨HINSD.out, by simp; omega, by have := hrow4.isZ; rw [show (O.take k ++ [r]).length + (O.drop k).length = O.length + 1 by simp; omega] at this; exact this, HB.out.trans (bb4.mono HB.out.size)⟩
          refine ⟨⟨i + 1, by go_num, by omega, Lib.hid ⟨_, by rw [show k + 1 + (O.length - k) = O.length + 1 by omega]; exact HW4.out⟩⟩, by simp [intOf]; omega⟩
    · obtain rfl : i = L.length := by omega
      have HO2 := Lib.hid (And.intro (HF.out ▸ hO) hOz)
      clear hO hOz HQ
      go_wp2
      go_ret
      exact ⟨_, O, rfl, HO2.out.1, HO2.out.2, hb⟩
end Go.Proofs.Ytjljkpecpofbcaa
