/- Contracts: the document's Join, End, Cuts. -/
import Derived.Test.YtonhmppobdbidaaG6
import Derived.Deep.RegionLaw
import Derived.Laws.OwnMore
namespace Go.Proofs.Ytonhmppobdbidaa
open Go.RowKit Go.Shelf

theorem joinZ_into {l : List (Nat × Nat)} {r : Nat × Nat} {f t : Nat} (h : r.2 + 1 = f) : joinZ (l ++ [r]) f t = l ++ [(r.1, t)] := by unfold joinZ; simp [h]
theorem joinZ_more {l : List (Nat × Nat)} {r : Nat × Nat} {f t : Nat} (h : ¬ r.2 + 1 = f) : joinZ (l ++ [r]) f t = l ++ [r] ++ [(f, t)] := by unfold joinZ; simp [h]
theorem joinZ_nil {f t : Nat} : joinZ [] f t = [(f, t)] := rfl

/-- What Join answers. -/
def JoinOut (base : Nat) (z : List (Nat × Nat)) (w : World) (e : Ending) (w' : World) : Prop := ∃ v', e = .returned v' ∧ w'.ownsRow base 33 2 v' z.length (pcells z) ∧ Below base w w'
set_option maxRecDepth 100000 in
set_option maxHeartbeats 1000000 in
theorem join_any {v : Value} {base : Nat} (z : List (Nat × Nat)) (f t : Nat) (w : World) (hu : U32 z) (hf : f < 4294967296) (ht : t < 4294967296) (hlen : z.length ≤ 4294967296) (hrow : w.ownsRow base 33 2 v z.length (pcells z)) (hbase : base ≤ w.heap.size) :
    Calls Try.prog 36 #[v, .int .i64 f, .int .i64 t] w (JoinOut base (joinZ z f t) w) := by
  obtain ⟨i0, hi, hz0, hz1, hz2⟩ := info_parts info33
  have HROW := Lib.hid hrow
  have j1 : IntKind.u32.wrap (f : Int) = (f : Int) := IntWalk.u32_in _ (by omega)
  have j2 : IntKind.u32.wrap (t : Int) = (t : Int) := IntWalk.u32_in _ (by omega)
  rcases List.eq_nil_or_concat z with rfl | ⟨zl, s, hls⟩
  · have hv0 : ∃ A c, v = .slice A 0 c := by rcases hrow.2 with ⟨rfl, _⟩ | ⟨g, cap, cur, rfl, _⟩ <;> exact ⟨_, _, rfl⟩
    obtain ⟨A, c, rfl⟩ := hv0
    rw [joinZ_nil]
    clear hrow
    go_enter Try.func36, Try.ntmps36
    go_wp2_with (at_builtin; refine wpList_append_own _ rfl _ _ 22 rfl base 33 i0 (.agg #[.int .u32 0, .int .u32 0]) 2 8 Try.underlying22 hi hz0 hz1 hz2 rfl (by decide) _ _ _ rfl (HROW.out.alloc _) ⟨w.heap.size, 0, none⟩ 1 1 [.int .u32 f, .int .u32 t] rfl rfl (World.news_of_block (cs := #[.int .u32 f, .int .u32 t]) (t := 33) (fr := (0, 0)) (heap_alloc_new w _)) (by simp [Value.oneCell']) (by simp [maxLen]) (by simp) (by simp; omega) ?_; intro v' w3 hown' hgrow _)
    go_ret
    refine ⟨v', rfl, by simpa [pcells] using hown', ((Below.refl _ w).alloc hbase _).grown hgrow (by simp; omega) (fun k hk => (HROW.out.lt k hk).1)⟩
  · obtain rfl : z = zl ++ [s] := by rw [hls]; simp
    have hlen1 : (zl ++ [s]).length = zl.length + 1 := by simp
    have hg0 : ∃ g cap, v = .slice (some ⟨g, 0, none⟩) (zl.length + 1) cap ∧ zl.length + 1 ≤ cap ∧ base ≤ g := by
      rcases hrow.2 with ⟨_, h0⟩ | ⟨g, cap, cur, rfl, hb, hg, hnc, _⟩
      · rw [hlen1] at h0; omega
      · exact ⟨g, cap, by rw [hlen1], by rw [← hlen1]; exact hnc, hb⟩
    obtain ⟨g, cap, rfl, hcap, hgb⟩ := hg0
    obtain ⟨us1, us2⟩ := hu s (by simp)
    rw [hlen1] at hrow HROW hlen
    obtain ⟨_, hs1⟩ := pcells_at (zl ++ [s]) zl.length (by simp)
    have hcs1 : w.cell? ⟨g, zl.length * 2 + 1, none⟩ = some (.int .u32 s.2) := by
      rw [World.ownsRow.cellAt hrow _ (by omega), Nat.mul_comm]
      simpa using hs1
    have hfz : w.frozen? ⟨g, zl.length * 2 + 1, none⟩ = false := World.ownsRow.frozenAt hrow _
    have hpc : (pcells (zl ++ [s])).set (zl.length * 2 + 1) (.int .u32 (t : Nat)) = pcells (zl ++ [(s.1, t)]) := by
      rw [pcells_snoc, pcells_snoc, List.set_append_right _ _ (by rw [pcells_length]; omega), pcells_length]
      simp [show zl.length * 2 + 1 - zl.length * 2 = 1 by omega]
    have HPC := Lib.hid hpc
    have k0 : (0 : Int) ≤ (zl.length : Int) := by omega
    have k1 : (zl.length : Int) < (zl.length : Int) + 1 := by omega
    clear hrow hpc hs1 hu
    by_cases hcond : s.2 + 1 = f
    · have hd : ((s.2 : Int) + 1 == (f : Int)) = true := by rw [beq_iff_eq]; omega
      rw [joinZ_into hcond]
      go_enter Try.func36, Try.ntmps36
      go_wp2
      go_ret
      obtain ⟨q1, q2⟩ := HROW.out.stored (zl.length * 2 + 1) (.int .u32 (t : Nat))
      refine ⟨_, rfl, ?_, (Below.refl base w).setCell (p := ⟨g, _, none⟩) hgb _⟩
      rw [← HPC.out]
      simpa using q1
    · have hd : ((s.2 : Int) + 1 == (f : Int)) = false := by rw [beq_eq_false_iff_ne]; omega
      rw [joinZ_more hcond]
      have hd2 : (s.2 + 1 == f) = false := by rw [beq_eq_false_iff_ne]; exact hcond
      clear hcond hls hlen1
      go_enter Try.func36, Try.ntmps36
      go_wp2_with (at_builtin; refine wpList_append_own _ rfl _ _ 22 rfl base 33 i0 (.agg #[.int .u32 0, .int .u32 0]) 2 8 Try.underlying22 hi hz0 hz1 hz2 rfl (by decide) _ _ _ rfl (HROW.out.alloc _) ⟨w.heap.size, 0, none⟩ 1 1 [.int .u32 f, .int .u32 t] rfl rfl (World.news_of_block (cs := #[.int .u32 f, .int .u32 t]) (t := 33) (fr := (0, 0)) (heap_alloc_new w _)) (by simp [Value.oneCell']) (by simp only [maxLen]; omega) (by omega) (by simp; omega) ?_; intro v' w3 hown' hgrow _)
      go_ret
      refine ⟨v', rfl, ?_, ((Below.refl _ w).alloc hbase _).grown hgrow (by simp; omega) (fun k hk => (HROW.out.lt k hk).1)⟩
      rw [pcells_snoc (zl ++ [s])]
      simpa using hown'

/-- Cuts as cells. -/
def icells (C : List Nat) : List Value := C.map fun (c : Nat) => .int .i64 c
theorem icells_append (C D : List Nat) : icells (C ++ D) = icells C ++ icells D := by simp [icells]
theorem icells_length (C : List Nat) : (icells C).length = C.length := by simp [icells]
theorem icells_get (C : List Nat) (k : Nat) (hk : k < C.length) : (icells C)[k]? = some (.int .i64 C[k]) := by simp [icells, hk]
/-- A slice that reads as these cuts. -/
def IsI (w : World) (v : Value) (C : List Nat) : Prop := ∃ A c, v = .slice A C.length c ∧ C.length ≤ c ∧ c ≤ maxLen ∧ (0 < C.length → ∃ g, A = some ⟨g, 0, none⟩ ∧ g < w.heap.size ∧ ∀ k (hk : k < C.length), w.cell? ⟨g, k, none⟩ = some (.int .i64 C[k]))
theorem IsI.belows {w w' : World} {v : Value} {C : List Nat} (h : IsI w v C) (hb : Below w.heap.size w w') : IsI w' v C := by
  obtain ⟨A, c, e, h1, h2, h3⟩ := h
  refine ⟨A, c, e, h1, h2, fun hn => ?_⟩
  obtain ⟨g, e, hg, hc⟩ := h3 hn
  exact ⟨g, e, Nat.lt_of_lt_of_le hg hb.size, fun k hk => (hb.cell (p := ⟨g, k, none⟩) hg).trans (hc k hk)⟩
theorem isI_of_row {w : World} {base : Nat} {v : Value} {C : List Nat} (h : w.ownsRow base 3 1 v C.length (icells C)) : IsI w v C := by
  rcases h.2 with ⟨rfl, h0⟩ | ⟨g, cap, cur, rfl, hb, hg, hnc, hm, _⟩
  · obtain rfl := List.eq_nil_of_length_eq_zero h0
    exact ⟨none, 0, rfl, Nat.le_refl _, by simp, fun h => absurd h (by simp)⟩
  · refine ⟨_, cap, rfl, hnc, hm, fun _ => ⟨g, rfl, (Array.getElem?_eq_some_iff.1 hg).1, fun k hk => ?_⟩⟩
    rw [World.ownsRow.cellAt h k (by omega)]
    exact icells_get C k hk
/-- The document's End. -/
theorem end_any {v : Value} (C : List Nat) (i : Nat) (w : World) (hi : i < C.length) (hpos : ∀ k (hk : k < C.length), 0 < k → 0 < C[k]) (hb : ∀ k (hk : k < C.length), C[k] < 4294967296) (h : IsI w v C) : Calls Try.prog 37 #[v, .int .i64 i] w fun e w' => e = .returned (.int .i64 (endOf 4294967296 (C.drop (i + 1)) : Nat)) ∧ w' = w := by
  obtain ⟨A, c, rfl, h1, h2, h3⟩ := h
  obtain ⟨g, rfl, hg, hc⟩ := h3 (by omega)
  simp only [maxLen] at h2
  by_cases hlt : i + 1 < C.length
  · have c1 := hc (i + 1) hlt
    have p1 := hpos (i + 1) hlt (by omega)
    have p2 := hb (i + 1) hlt
    have e0 : endOf 4294967296 (C.drop (i + 1)) = C[i + 1] - 1 := by rw [List.drop_eq_getElem_cons hlt]; rfl
    rw [e0]
    generalize C[i + 1] = y at c1 p1 p2
    clear e0 hc h3 hpos hb
    have i0 : (0 : Int) ≤ (i : Int) + 1 := by omega
    have i1 : (i : Int) + 1 < (C.length : Int) := by omega
    go_enter Try.func37, Try.ntmps37
    go_wp2
    go_ret
    exact ⟨ret_int (by omega), rfl⟩
  · have e0 : endOf 4294967296 (C.drop (i + 1)) = 4294967295 := by rw [List.drop_eq_nil_of_le (by omega)]; rfl
    rw [e0]
    have i1 : ¬ (i : Int) + 1 < (C.length : Int) := by omega
    clear hc h3 hpos hb
    go_enter Try.func37, Try.ntmps37
    go_wp2
    go_ret
    exact ⟨rfl, rfl⟩
end Go.Proofs.Ytonhmppobdbidaa
