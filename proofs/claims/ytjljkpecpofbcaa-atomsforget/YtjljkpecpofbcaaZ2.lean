/- Contracts: the document's End, Cuts. -/
import Derived.Test.YtjljkpecpofbcaaZ1
import Derived.Deep.RegionLaw
import Derived.Laws.OwnMore
namespace Go.Proofs.Ytjljkpecpofbcaa
open Go.RowKit Go.Shelf

/-- Cuts as cells. -/
def icells (C : List Nat) : List Value := C.map fun (c : Nat) => .int .i64 c
theorem icells_append (C D : List Nat) : icells (C ++ D) = icells C ++ icells D := by simp [icells]
theorem icells_length (C : List Nat) : (icells C).length = C.length := by simp [icells]
theorem icells_get (C : List Nat) (k : Nat) (hk : k < C.length) : (icells C)[k]? = some (.int .i64 C[k]) := by simp [icells, hk]
/-- A slice that reads as these cuts. -/
def IsI (w : World) (v : Value) (C : List Nat) : Prop := ∃ A c, v = .slice A C.length c ∧ C.length ≤ c ∧ c ≤ maxLen ∧ (0 < C.length → ∃ g, A = some ⟨g, 0, none⟩ ∧ g < w.heap.size ∧ ∀ k (hk : k < C.length), w.cell? ⟨g, k, none⟩ = some (.int .i64 C[k]))
theorem IsI.belows {w w' : World} {v : Value} {C : List Nat} (h : IsI w v C) (hb : Below w.heap.size w w') : IsI w' v C := by
  obtain ⟨A, c, e, h1, h2, h3⟩ := h
  refine ⟨A, c, e, h1, h2, fun hn => ?_⟩
  obtain ⟨g, e, hg, hc⟩ := h3 hn
  exact ⟨g, e, Nat.lt_of_lt_of_le hg hb.size, fun k hk => (hb.cell (p := ⟨g, k, none⟩) hg).trans (hc k hk)⟩
theorem isI_of_row {w : World} {base : Nat} {v : Value} {C : List Nat} (h : w.ownsRow base 3 1 v C.length (icells C)) : IsI w v C := by
  rcases h.2 with ⟨rfl, h0⟩ | ⟨g, cap, cur, rfl, hb, hg, hnc, hm, _⟩
  · obtain rfl := List.eq_nil_of_length_eq_zero h0
    exact ⟨none, 0, rfl, Nat.le_refl _, by simp, fun h => absurd h (by simp)⟩
  · refine ⟨_, cap, rfl, hnc, hm, fun _ => ⟨g, rfl, (Array.getElem?_eq_some_iff.1 hg).1, fun k hk => ?_⟩⟩
    rw [World.ownsRow.cellAt h k (by omega)]
    exact icells_get C k hk
/-- The document's End. -/
theorem end_any {v : Value} (C : List Nat) (i : Nat) (w : World) (hi : i < C.length) (hpos : ∀ k (hk : k < C.length), 0 < k → 0 < C[k]) (hb : ∀ k (hk : k < C.length), C[k] < 4294967296) (h : IsI w v C) : Calls Try.prog 34 #[v, .int .i64 i] w fun e w' => e = .returned (.int .i64 (endOf 4294967296 (C.drop (i + 1)) : Nat)) ∧ w' = w := by
  obtain ⟨A, c, rfl, h1, h2, h3⟩ := h
  obtain ⟨g, rfl, hg, hc⟩ := h3 (by omega)
  simp only [maxLen] at h2
  by_cases hlt : i + 1 < C.length
  · have c1 := hc (i + 1) hlt
    have p1 := hpos (i + 1) hlt (by omega)
    have p2 := hb (i + 1) hlt
    have e0 : endOf 4294967296 (C.drop (i + 1)) = C[i + 1] - 1 := by rw [List.drop_eq_getElem_cons hlt]; rfl
    rw [e0]
    generalize C[i + 1] = y at c1 p1 p2
    clear e0 hc h3 hpos hb
    have i0 : (0 : Int) ≤ (i : Int) + 1 := by omega
    have i1 : (i : Int) + 1 < (C.length : Int) := by omega
    go_enter Try.func34, Try.ntmps34
    go_wp2
    go_ret
    exact ⟨ret_int (by omega), rfl⟩
  · have e0 : endOf 4294967296 (C.drop (i + 1)) = 4294967295 := by rw [List.drop_eq_nil_of_le (by omega)]; rfl
    rw [e0]
    have i1 : ¬ (i : Int) + 1 < (C.length : Int) := by omega
    clear hc h3 hpos hb
    go_enter Try.func34, Try.ntmps34
    go_wp2
    go_ret
    exact ⟨rfl, rfl⟩
theorem step_append_own {P : Program} {ops : Array Oper} {o : Oper} {a : Act} {w : World} {K : Act → World → Prop} {Q : Exit → Act → World → Prop} {E : Prop} (hg : o.guard = none) (s x : Operand) (t : TypeId)
    (ho : o.op = .call { callee := .builtin .append, args := #[s, x], argTypes := #[t, t] })
    (base : Nat) (e : TypeId) (i : TypeInfo) (z : Value) (size bytes : Nat) (ht : P.underlying t = some (.slice e)) (hi : P.info? e = some i) (hz : i.zero = some z)
    (hsize : i.size = size) (hby : i.bytes = bytes) (hzs : z.cells.size = size) (hsz : 0 < size)
    (v : Value) (n : Nat) (xs : List Value) (hs : a.eval s = v) (hown : w.ownsRow base e size v n xs)
    (ad : Addr) (m c : Nat) (news : List Value) (hx : a.eval x = .slice (some ad) m c) (hl : news.length = m * size) (hnews : ∀ j u, news[j]? = some u → w.cell? (ad.add j) = some u) (h1 : ∀ u ∈ news, u.oneCell' = true)
    (h63 : n + m ≤ maxLen) (hbytes : (n + m) * bytes ≤ 140737488355328) (hbase : base ≤ w.heap.size)
    (h : ∀ v' w', w'.ownsRow base e size v' (n + m) (xs ++ news) → w.grownBy w' v.ownBlock → K (a.put o.dst v') w') : if Region.wanted o (yielded ops a.tmps) = true then Oper.wp P o a w K Q else E := by
  rw [if_pos (by simp [Region.wanted, hg])]
  exact wp_append_own w s x t ho base e i z size bytes ht hi hz hsize hby hzs hsz v n xs hs hown ad m c news hx hl hnews h1 h63 hbytes hbase fun v' w' q1 q2 _ => h v' w' q1 q2
theorem info3 : (Try.prog.info? 3).map (fun i => (i.zero, i.size, i.bytes)) = some (some (.int .i64 0), 1, 8) := by kernel_rfl
theorem ends_take {L : List (Nat × Nat)} {k : Nat} (hk : k < L.length) : ends (L.take (k + 1)) = ends (L.take k) ++ [L[k].1, L[k].2 + 1] := by
  rw [List.take_succ_eq_append_getElem hk, ends_snoc]
theorem ends_len (L : List (Nat × Nat)) : (ends L).length = 1 + 2 * L.length := by
  unfold ends
  induction L with
  | nil => rfl
  | cons r L ih => simp at *; omega
/-- The row of all ends. -/
def EI (w : World) (L : List (Nat × Nat)) (k : Nat) (v : Value) (W : World) : Prop := W.ownsRow w.heap.size 3 1 v (ends (L.take k)).length (icells (ends (L.take k))) ∧ Below w.heap.size w W

/-- Where the search for cuts stands. -/
def CS (all C : List Nat) (lo : Nat) (more : Bool) : Prop := (more = true ∧ C ++ cutsL 4294967296 lo all = cutsL 4294967296 0 all) ∨ (more = false ∧ C = cutsL 4294967296 0 all)
theorem CS.len {all C : List Nat} {lo : Nat} {more : Bool} (h : CS all C lo more) : C.length ≤ 4294967296 := by
  have h1 : (cutsL 4294967296 0 all).length ≤ 4294967296 := by
    rcases rising_len (cutsL_spec 4294967296 all 4294967296 0 (by omega)).1 with h | h
    · omega
    · rw [h]; simp
  rcases h with ⟨_, h⟩ | ⟨_, h⟩
  · rw [← h] at h1; simp at h1; omega
  · rw [h]; exact h1
theorem CS.next {all C : List Nat} {lo : Nat} (h : CS all C lo true) (hn : nx 4294967296 lo all < 4294967296) : CS all (C ++ [nx 4294967296 lo all]) (nx 4294967296 lo all + 1) true := by
  rcases h with ⟨_, h⟩ | ⟨h, _⟩
  · refine .inl ⟨rfl, ?_⟩
    rw [← h, cutsL_cons hn]; simp
  · cases h
theorem CS.stop {all C : List Nat} {lo : Nat} (h : CS all C lo true) (hn : ¬ nx 4294967296 lo all < 4294967296) : CS all C lo false := by
  rcases h with ⟨_, h⟩ | ⟨h, _⟩
  · refine .inr ⟨rfl, ?_⟩
    rw [← h, cutsL_nil hn]; simp
  · cases h
theorem CS.fin {all C : List Nat} {lo : Nat} (h : CS all C lo false) : C = cutsL 4294967296 0 all := by
  rcases h with ⟨h, _⟩ | ⟨_, h⟩
  · cases h
  · exact h
theorem nx_take {m lo : Nat} {all : List Nat} {k : Nat} (hk : k < all.length) : nx m lo (all.take (k + 1)) = if lo ≤ all[k] ∧ all[k] < nx m lo (all.take k) then all[k] else nx m lo (all.take k) := by
  rw [List.take_succ_eq_append_getElem hk, nx_snoc]
theorem nx_le (m lo : Nat) (all : List Nat) : nx m lo all ≤ m := (nx_fold lo all m).1
theorem ends_bound {L : List (Nat × Nat)} (hu : U32 L) : ∀ k (hk : k < (ends L).length), (ends L)[k] ≤ 4294967296 := by
  intro k hk
  have hm := List.getElem_mem hk
  unfold ends at hm
  rcases List.mem_cons.1 hm with e | hm
  · show (ends L)[k] ≤ _; unfold ends; omega
  · obtain ⟨r, hr, h⟩ := List.mem_flatMap.1 hm
    have := hu r hr
    show (ends L)[k] ≤ _
    unfold ends
    simp at h
    rcases h with h | h <;> omega
def moreOf : Value → Nat
  | .bool true => 1
  | _ => 0

set_option maxRecDepth 100000 in
set_option maxHeartbeats 4000000 in
theorem cuts_any {v : Value} (L : List (Nat × Nat)) (w : World) (hu : U32 L) (hlen : L.length ≤ 1000000) (hz : IsZ w v L) :
    Calls Try.prog 33 #[v] w fun e w' => ∃ v', e = .returned v' ∧ IsI w' v' (cutsL 4294967296 0 (ends L)) ∧ Below w.heap.size w w' := by
  obtain ⟨A1, c1, rfl, n1, m1, z1⟩ := hz
  obtain ⟨i0, hi, hz0, hz1, hz2⟩ := info_parts info3
  have H1 := Lib.hid z1
  have HU := Lib.hid hu
  clear z1 hu
  go_enter Try.func33, Try.ntmps33
  go_wp2
  go_loopw [3, 4] (fun s i wr => ∃ (k g cap : Nat), i = .int .i64 k ∧ s = .slice (some ⟨g, 0, none⟩) (1 + 2 * k) cap ∧ k ≤ L.length ∧ Hid (EI w L k s wr)) (fun _ i _ => L.length - (intOf i).toNat)
  case atStart =>
    refine ⟨0, w.heap.size, 1, rfl, rfl, by omega, Lib.hid ⟨?_, (Below.refl _ w).alloc (Nat.le_refl _) _⟩⟩
    exact World.ownsRow_lit w #[.int .i64 0] 1 (Nat.le_refl _) (by simp [maxLen]) rfl
  case round =>
    obtain ⟨k, g, cap, rfl, rfl, hk, HE⟩ := hrel
    have hlk : (ends (L.take k)).length = 1 + 2 * k := by rw [ends_len, List.length_take]; omega
    by_cases hlt : k < L.length
    · have hb := HE.out.2
      have hrow := HE.out.1
      rw [hlk] at hrow
      obtain ⟨g1, o1, e1, hg1, r1⟩ := H1.out (by omega)
      subst e1
      have c10 := (hb.cell (p := ⟨g1, o1 + k * 2, none⟩) hg1).trans (r1 k hlt).1
      have c11 := (hb.cell (p := ⟨g1, o1 + k * 2 + 1, none⟩) hg1).trans (r1 k hlt).2
      have b1 := HU.out.at k hlt
      have het := ends_take hlt
      clear r1
      generalize L[k] = x at c10 c11 b1 het
      have HET := Lib.hid het
      clear het
      have j1 : IntKind.i64.wrap (x.1 : Int) = (x.1 : Int) := IntWalk.i64_in _ (by omega)
      have j2 : IntKind.i64.wrap (x.2 : Int) = (x.2 : Int) := IntWalk.i64_in _ (by omega)
      have j3 : IntKind.i64.wrap ((x.2 : Int) + 1) = (x.2 : Int) + 1 := IntWalk.i64_in _ (by omega)
      have k0 : (0 : Int) ≤ (k : Int) := by omega
      have k1 : (k : Int) < (L.length : Int) := by omega
      go_wp2_with fail
      go_region_held3 (fun w' => w'.cell? ⟨g1, o1 + k * 2, none⟩ = some (.int .u32 x.1) ∧ w'.cell? ⟨g1, o1 + k * 2 + 1, none⟩ = some (.int .u32 x.2)) (first | go_keep) ((refine step_append_own rfl (.tmp 17) (.tmp 31) 71 rfl w.heap.size 3 i0 (.int .i64 0) 1 8 Try.underlying71 hi hz0 hz1 hz2 rfl (by decide) (.slice (some ⟨g, 0, none⟩) (1 + 2 * k) cap) (1 + 2 * k) (icells (ends (L.take k))) (by simp [Act.eval, Act.put]) (hrow.alloc _) ⟨wr.heap.size, 0, none⟩ 2 2 [.int .i64 x.1, .int .i64 ((x.2 : Int) + 1)] (by simp [Act.eval, Act.put]) rfl (World.news_of_block (cs := #[.int .i64 x.1, .int .i64 ((x.2 : Int) + 1)]) (t := 3) (fr := (0, 0)) (heap_alloc_new wr _)) (by simp [Value.oneCell']) (by simp only [maxLen]; omega) (by omega) (by have := hb.size; simp; omega) ?_; intro v' w3 hown' hgrow; obtain ⟨g', cap', rfl⟩ := ownsRow_succ hown'; have hb3 : Below w.heap.size wr w3 := Below.grown (by first | exact ((Below.refl w.heap.size wr).alloc hb.size _).drew | exact (Below.refl w.heap.size wr).drew.alloc hb.size _ | exact (Below.refl w.heap.size wr).alloc hb.size _) hgrow (by have := hb.size; simp; omega) (fun k hk => (hrow.lt k hk).1); have d10 := (hb3.cell (p := ⟨g1, o1 + k * 2, none⟩) hg1).trans c10; have d11 := (hb3.cell (p := ⟨g1, o1 + k * 2 + 1, none⟩) hg1).trans c11))
      go_wp2
      go_roundw
      case rel =>
        refine ⟨k + 1, g', cap', by go_num, rfl, by omega, Lib.hid ⟨?_, hb.trans hb3⟩⟩
        rw [HET.out, icells_append]
        simpa [hlk, icells] using hown'
      case measure => simp [intOf]; omega
    · obtain rfl : k = L.length := by omega
      obtain ⟨w1, rfl⟩ : ∃ w1, w1 = wr := ⟨_, rfl⟩
      have hall : IsI w1 (.slice (some ⟨g, 0, none⟩) (1 + 2 * L.length) cap) (ends L) := by
        have := isI_of_row HE.out.1
        rwa [List.take_length] at this
      have hb := HE.out.2
      obtain ⟨P2, c2, e2, n2, m2, z2⟩ := hall
      have hlk' : (ends L).length = 1 + 2 * L.length := ends_len L
      have hg : ∀ W, Below w1.heap.size w1 W → ∀ (j x : Nat), (ends L)[j]? = some x → W.cell? ⟨g, j, none⟩ = some (.int .i64 x) := fun W hW j x hx => by
        obtain ⟨hj, rfl⟩ := List.getElem?_eq_some_iff.1 hx
        obtain ⟨g', e', hg', hc'⟩ := z2 (by omega)
        rw [e'] at e2
        simp only [Value.slice.injEq, Option.some.injEq, Addr.mk.injEq] at e2
        obtain ⟨⟨rfl, _⟩, _⟩ := e2
        exact (hW.cell (p := ⟨g, j, none⟩) hg').trans (hc' j hj)
      have hbd : ∀ (j x : Nat), (ends L)[j]? = some x → x ≤ 4294967296 := fun j x hx => by
        obtain ⟨hj, rfl⟩ := List.getElem?_eq_some_iff.1 hx
        exact ends_bound HU.out j hj
      obtain ⟨all, hall⟩ : ∃ all, all = ends L := ⟨_, rfl⟩
      rw [← hall] at hlk'
      rw [← hall] at hg hbd
      have HALL := Lib.hid hall
      have HG := Lib.hid hg
      have HBD := Lib.hid hbd
      clear hg hbd z2 e2 hall HE H1 HU hlk n2 m2
      go_wp2
      go_loopw [5, 6, 7] (fun o l m wq => ∃ (lo : Nat) (C : List Nat) (b : Bool), l = .int .i64 ((lo : Int) - 1) ∧ m = .bool b ∧ lo ≤ 4294967296 ∧ Hid (CS all C lo b) ∧ Hid (wq.ownsRow w1.heap.size 3 1 o C.length (icells C)) ∧ Below w1.heap.size w1 wq) (fun _ l m _ => 2 * (4294967297 - (intOf l + 1).toNat) + moreOf m)
      case atStart => exact ⟨0, [], true, rfl, rfl, by omega, Lib.hid (.inl ⟨rfl, rfl⟩), Lib.hid (World.ownsRow_nil _ _ _ _), Below.refl _ _⟩
      case round =>
        obtain ⟨lo, C, b, rfl, rfl, hlo, HC, HO, hbq⟩ := hrel
        cases b with
        | false =>
          go_wp2
          go_ret
          have hfin := HC.out.fin
          rw [HALL.out] at hfin
          subst hfin
          exact ⟨_, rfl, isI_of_row HO.out, hb.trans (hbq.mono hb.size)⟩
        | true =>
          obtain ⟨wq, rfl⟩ : ∃ wq, wq = wr := ⟨_, rfl⟩
          go_wp2
          go_loopw [8, 9] (fun nv iv wx => ∃ k : Nat, iv = .int .i64 k ∧ nv = .int .i64 (nx 4294967296 lo (all.take k) : Nat) ∧ k ≤ all.length ∧ wx = wq) (fun _ iv _ => all.length - (intOf iv).toNat)
          case atStart => exact ⟨0, rfl, rfl, by omega, rfl⟩
          case round =>
            obtain ⟨k, rfl, rfl, hk, rfl⟩ := hrel
            by_cases hlt : k < all.length
            · have c0 := HG.out wr hbq k _ (List.getElem?_eq_getElem hlt)
              have hx := HBD.out k _ (List.getElem?_eq_getElem hlt)
              have hnx := nx_take (m := 4294967296) (lo := lo) hlt
              have hnl := nx_le 4294967296 lo (all.take k)
              generalize all[k] = x at c0 hx hnx
              generalize nx 4294967296 lo (all.take k) = n at hnx hnl ⊢
              have k0 : (0 : Int) ≤ (k : Int) := by omega
              have k1 : (k : Int) < 1 + 2 * (L.length : Int) := by omega
              have k2 : (k : Int) < ((1 + 2 * L.length : Nat) : Int) := by omega
              by_cases h1 : lo ≤ x
              · by_cases h2 : x < n
                · rw [if_pos ⟨h1, h2⟩] at hnx
                  have HN := Lib.hid hnx
                  have h1' : (lo : Int) - 1 < (x : Int) := by omega
                  clear hnx h1
                  go_wp2
                  go_roundw
                  case rel => exact ⟨k + 1, by go_num, by rw [HN.out], by omega, trivial⟩
                  case measure => simp [intOf]; omega
                · rw [if_neg (by omega)] at hnx
                  have HN := Lib.hid hnx
                  have h1' : (lo : Int) - 1 < (x : Int) := by omega
                  clear hnx h1
                  go_wp2
                  go_roundw
                  case rel => exact ⟨k + 1, by go_num, by rw [HN.out], by omega, trivial⟩
                  case measure => simp [intOf]; omega
              · rw [if_neg (by omega)] at hnx
                have HN := Lib.hid hnx
                have h1' : ¬ (lo : Int) - 1 < (x : Int) := by omega
                clear hnx h1
                go_wp2
                go_roundw
                case rel => exact ⟨k + 1, by go_num, by rw [HN.out], by omega, trivial⟩
                case measure => simp [intOf]; omega
            · obtain rfl : k = all.length := by omega
              rw [List.take_length]
              have hnl := nx_le 4294967296 lo all
              have hcl := HC.out.len
              by_cases hn : nx 4294967296 lo all < 4294967296
              · have hnlo := (nx_lo hn).1
                have HC2 := Lib.hid (HC.out.next hn)
                generalize nx 4294967296 lo all = n at hn hnl hnlo HC2 ⊢
                have k1 : ¬ (all.length : Int) < (all.length : Int) := by omega
                have k3 : ¬ (all.length : Int) < 1 + 2 * (L.length : Int) := by omega
                have k4 : ¬ (all.length : Int) < ((1 + 2 * L.length : Nat) : Int) := by omega
                go_wp2_with (at_builtin; refine wpList_append_own _ rfl _ _ 71 rfl w1.heap.size 3 i0 (.int .i64 0) 1 8 Try.underlying71 hi hz0 hz1 hz2 rfl (by decide) _ _ _ rfl (HO.out.alloc _) ⟨wr.heap.size, 0, none⟩ 1 1 [.int .i64 n] rfl rfl (cell_one_new _ _ _) (by simp [Value.oneCell']) (by simp only [maxLen]; omega) (by omega) (by have := hbq.size; simp; omega) ?_; intro v' w3 hown' hgrow _)
                go_roundw
                case rel =>
                  refine ⟨n + 1, C ++ [n], true, by go_num, rfl, by omega, HC2, Lib.hid ?_, (hbq.alloc hbq.size _).grown hgrow (by have := hbq.size; simp; omega) (fun k hk => (HO.out.lt k hk).1)⟩
                  rw [icells_append]
                  simpa [icells] using hown'
                case measure => simp [intOf, moreOf]; omega
              · have HC2 := Lib.hid (HC.out.stop hn)
                generalize nx 4294967296 lo all = n at hn hnl HC2 ⊢
                have k1 : ¬ (all.length : Int) < (all.length : Int) := by omega
                have k3 : ¬ (all.length : Int) < 1 + 2 * (L.length : Int) := by omega
                have k4 : ¬ (all.length : Int) < ((1 + 2 * L.length : Nat) : Int) := by omega
                have dn : decide ((n : Int) ≤ 4294967295) = false := by simp; omega
                go_wp2
                go_roundw
                case rel => exact ⟨lo, C, false, rfl, rfl, hlo, HC2, HO, hbq⟩
                case measure => simp only [moreOf]; omega
end Go.Proofs.Ytjljkpecpofbcaa
