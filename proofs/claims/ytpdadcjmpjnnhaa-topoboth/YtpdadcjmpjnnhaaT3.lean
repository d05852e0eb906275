/- Contracts: the document's Edges. -/
import Derived.Test.YtpdadcjmpjnnhaaT2
namespace Go.Proofs.Ytpdadcjmpjnnhaa
open Go.RowKit Go.Shelf

theorem infoPt : (Try.prog.info? 27).map (fun i => (i.zero, i.size, i.bytes)) = some (some (.agg (ptA ⟨0, 0⟩)), 2, 16) := by kernel_rfl
/-- The ports that are joined to none, of the devices ahead of one, and of that ahead of a port. -/
def edgK (ps : List Int) (ls : List Lk) (i k : Nat) : List Pt := (((List.range i).flatMap (portsOf ps)) ++ ((List.range k).map fun j : Nat => (⟨(i : Int), (j : Int)⟩ : Pt))).filter fun p => (nextT ls p).isNone
theorem edgK_zero (ps : List Int) (ls : List Lk) : edgK ps ls 0 0 = [] := rfl
theorem edgK_port (ps : List Int) (ls : List Lk) (i k : Nat) : edgK ps ls i (k + 1) = edgK ps ls i k ++ (if (nextT ls ⟨i, k⟩).isNone then [⟨i, k⟩] else []) := by
  unfold edgK
  rw [List.range_succ, List.map_append, ← List.append_assoc, List.filter_append (l₁ := _ ++ _)]
  congr 1
  cases h : (nextT ls ⟨i, k⟩).isNone <;> simp [h]
theorem edgK_dev (ps : List Int) (ls : List Lk) (i : Nat) (x : Int) (hx : ps[i]?.getD 0 = x) (k : Nat) (hk : k = x.toNat) : edgK ps ls (i + 1) 0 = edgK ps ls i k := by
  unfold edgK
  rw [List.range_succ, List.flatMap_append]
  subst hk
  simp [portsOf, hx]
theorem edgK_all (ps : List Int) (ls : List Lk) : edgK ps ls ps.length 0 = edgesT ps ls := by
  unfold edgK edgesT allP; simp
theorem edgK_len (ps : List Int) (ls : List Lk) (hp : ∀ x ∈ ps, 1 ≤ x ∧ x ≤ 4) (i k : Nat) (hi : i ≤ 8) (hk : k ≤ 4) : (edgK ps ls i k).length ≤ 36 := by
  have h1 := List.length_filter_le (fun p => (nextT ls p).isNone) (((List.range i).flatMap (portsOf ps)) ++ ((List.range k).map fun j : Nat => (⟨(i : Int), (j : Int)⟩ : Pt)))
  have h2 : ((List.range i).flatMap (portsOf ps)).length ≤ 4 * i := by
    clear h1 hi
    induction i with
    | zero => simp
    | succ i ih =>
      rw [List.range_succ, List.flatMap_append, List.length_append]
      have : (portsOf ps i).length ≤ 4 := by
        unfold portsOf
        rw [List.length_map, List.length_range]
        by_cases h : i < ps.length
        · have := hp ps[i] (List.getElem_mem h)
          rw [List.getElem?_eq_getElem h]; simp; omega
        · rw [List.getElem?_eq_none (by omega)]; simp
      simp only [List.flatMap_cons, List.flatMap_nil, List.append_nil]
      omega
  rw [List.length_append, List.length_map, List.length_range] at h1
  unfold edgK
  omega
/-- What Edges answers. -/
def EdgOut (E : List Pt) (w : World) (e : Ending) (w' : World) : Prop := ∃ v, e = .returned v ∧ IsF 2 ptA w' v E ∧ Below w.heap.size w w'
/-- Where the loops stand. -/
def EdI (ps : List Int) (ls : List Lk) (w w0 : World) (i k : Nat) (out : Value) (W : World) : Prop := W.ownsRow w0.heap.size 27 2 out (edgK ps ls i k).length (fcs ptA (edgK ps ls i k)) ∧ Below w0.heap.size w0 W
set_option maxRecDepth 100000 in
set_option maxHeartbeats 4000000 in
/-- The document's Edges, of a right topology. -/
theorem redges_any {vp vl : Value} (ps : List Int) (ls : List Lk) (w : World) (hR : RT ps ls) (h : IsT w vp vl ps ls) : Calls Try.prog 19 #[.agg #[vp, vl]] w (EdgOut (edgesT ps ls) w) := by
  obtain ⟨⟨A1, c1, rfl, n1, m1, z1⟩, ⟨A2, c2, rfl, n2, m2, z2⟩⟩ := h
  have hL : ls.length ≤ 9223372036854775807 := Nat.le_trans n2 m2
  have hM : ps.length ≤ 9223372036854775807 := Nat.le_trans n1 m1
  have HT : Hid (∀ u, Below w.heap.size w u → IsT u (.slice A1 ps.length c1) (.slice A2 ls.length c2) ps ls) := Lib.hid fun u hu => ⟨⟨A1, c1, rfl, n1, m1, z1.belows hu⟩, ⟨A2, c2, rfl, n2, m2, z2.belows hu⟩⟩
  have D0 := At.new w #[.slice A1 ps.length c1, .slice A2 ls.length c2] 25
  have b0 : Below w.heap.size w (w.alloc (.cells #[.slice A1 ps.length c1, .slice A2 ls.length c2] 25)) := (Below.refl _ w).alloc (Nat.le_refl _) _
  have HP := Lib.hid hR.ports
  have hn8 := hR.n8
  have HZ := Lib.hid z1
  clear z1 z2 hR
  go_enter Try.func19, Try.ntmps19
  obtain ⟨w0, hw0⟩ : ∃ w0, w0 = w.alloc (.cells #[.slice A1 ps.length c1, .slice A2 ls.length c2] 25) := ⟨_, rfl⟩
  go_wp2
  rw [← hw0] at D0 b0 ⊢
  clear hw0
  have hw0s : w.heap.size < w0.heap.size := D0.lt
  go_loopw [3, 4] (fun out i wr => ∃ ik : Nat, i = .int .i64 ik ∧ ik ≤ ps.length ∧ Hid (EdI ps ls w w0 ik 0 out wr)) (fun _ i => fun _ => ps.length - (intOf i).toNat)
  case atStart => exact ⟨0, rfl, by omega, Lib.hid ⟨⟨by simp [edgK_zero, fcs], .inl ⟨rfl, by simp [edgK_zero]⟩⟩, Below.refl _ _⟩⟩
  case round =>
    obtain ⟨ik, rfl, hik, HI⟩ := hrel
    obtain ⟨hrow, hb⟩ := HI.out
    have Dr := D0.belows hb
    have x0 := (Dr.cell 0).trans rfl
    have x1 := (Dr.cell 1).trans rfl
    by_cases hlt : ik < ps.length
    · have i0 : (0 : Int) ≤ (ik : Int) := by omega
      have i1 : (ik : Int) < (ps.length : Int) := by omega
      have hx := HP.out ps[ik] (List.getElem_mem hlt)
      have HX : Hid (ps[ik]?.getD 0 = ps[ik]) := Lib.hid (by simp [hlt])
      obtain ⟨g, o, e, hg, hc⟩ := HZ.out.at ik hlt
      subst e
      have r0 : w.cell? ⟨g, o + ik, none⟩ = some (.int .i64 ps[ik]) := by have := hc 0 (by decide); simpa [intA] using this
      have HR0 : Hid (∀ u, Below w0.heap.size w0 u → u.cell? ⟨g, o + ik, none⟩ = some (.int .i64 ps[ik])) := Lib.hid fun u hu => ((b0.trans (hu.mono b0.size)).cell (p := ⟨g, o + ik, none⟩) hg).trans r0
      clear hc r0
      generalize ps[ik] = x at HR0 HX hx
      clear HI
      obtain ⟨wo, rfl⟩ : ∃ wo, wo = wr := ⟨_, rfl⟩
      have HROW := Lib.hid hrow
      have HBo := Lib.hid hb
      clear hrow hb Dr
      go_wp2
      go_loopw [3, 5] (fun out k wr => ∃ kk : Nat, k = .int .i64 kk ∧ (kk : Int) ≤ x ∧ Hid (EdI ps ls w w0 ik kk out wr)) (fun _ k => fun _ => x.toNat - (intOf k).toNat)
      case atStart => exact ⟨0, rfl, by omega, Lib.hid ⟨HROW.out, HBo.out⟩⟩
      case round =>
        obtain ⟨kk, rfl, hkk, HJ⟩ := hrel
        obtain ⟨hrow, hb⟩ := HJ.out
        have Dr := D0.belows hb
        have x0 := (Dr.cell 0).trans rfl
        have x1 := (Dr.cell 1).trans rfl
        have r0 := HR0.out _ hb
        clear HJ
        by_cases hk2 : (kk : Int) < x
        · have hle : (edgK ps ls ik kk).length ≤ 36 := edgK_len ps ls HP.out ik kk (by omega) (by omega)
          have HE := Lib.hid (edgK_port ps ls ik kk)
          have hnx := rnext_any ps ls ⟨ik, kk⟩ wr (HT.out _ (b0.trans (hb.mono b0.size)))
          have hv : nextV (nextT ls ⟨ik, kk⟩) = .tuple #[.agg (ptA ((nextT ls ⟨ik, kk⟩).getD ⟨0, 0⟩)), .bool (nextT ls ⟨ik, kk⟩).isSome] := rfl
          rw [hv] at hnx
          rw [show ptA ⟨ik, kk⟩ = #[.int .i64 ik, .int .i64 kk] from rfl] at hnx
          generalize (nextT ls ⟨ik, kk⟩).getD ⟨0, 0⟩ = y at hnx
          generalize hno : nextT ls ⟨ik, kk⟩ = no at hnx HE
          clear hv hno
          obtain ⟨yd, yp⟩ := y
          rw [show ptA ⟨yd, yp⟩ = #[.int .i64 yd, .int .i64 yp] from rfl] at hnx
          generalize hfl : edgK ps ls ik kk = fl at HE hrow hle
          clear hfl
          have hat := World.ownsRow.lt hrow
          have HRW := Lib.hid hrow
          have HBB := Lib.hid hb
          clear hrow
          cases no with
          | some z =>
            have HN : Hid (edgK ps ls ik (kk + 1) = fl) := Lib.hid (by rw [HE.out]; simp)
            clear HE
            rw [show (some z : Option Pt).isSome = true from rfl] at hnx
            go_wp2_with fail
            refine hnx.mono ?_
            rintro e w3 ⟨rfl, b3⟩
            have c3 := HBB.out.trans (b3.mono HBB.out.size)
            have HR3 : Hid (w3.ownsRow w0.heap.size 27 2 u3 fl.length (fcs ptA fl)) := Lib.hid (row_belows HRW.out b3)
            go_wp2
            go_roundw
            case rel => exact ⟨kk + 1, by go_num, by omega, Lib.hid ⟨by rw [HN.out]; exact World.ownsRow.alloc HR3.out _, c3.alloc c3.size _⟩⟩
            case measure => simp [intOf]; omega
          | none =>
            have HN : Hid (edgK ps ls ik (kk + 1) = fl ++ [⟨ik, kk⟩]) := Lib.hid (by rw [HE.out]; simp)
            clear HE
            rw [show (none : Option Pt).isSome = false from rfl] at hnx
            go_wp2_with fail
            refine hnx.mono ?_
            rintro e w3 ⟨rfl, b3⟩
            have c3 := HBB.out.trans (b3.mono HBB.out.size)
            have HR3 : Hid (w3.ownsRow w0.heap.size 27 2 u3 fl.length (fcs ptA fl)) := Lib.hid (row_belows HRW.out b3)
            have hs3 := b3.size
            have c4 := c3.alloc c3.size (.cells #[.int .i64 yd, .int .i64 yp] 27)
            have hs4 : w0.heap.size ≤ w3.heap.size := c3.size
            go_wp2_with (at_builtin; refine wpList_app_new ptA_size ptA_one Try.underlying35 infoPt rfl (by decide) rfl (.tmp 34) (.tmp 38) rfl w0.heap.size _ fl rfl (World.ownsRow.alloc (World.ownsRow.alloc HR3.out _) _) ⟨w3.heap.size + 1, 0, none⟩ 1 [⟨ik, kk⟩] rfl (by have := f_new ptA_size (w3.alloc (.cells #[.int .i64 yd, .int .i64 yp] 27)) [(⟨ik, kk⟩ : Pt)] #[.int .i64 ik, .int .i64 kk] 27 rfl; simpa using this) (by simp only [maxLen, List.length_singleton]; omega) (by simp only [List.length_singleton]; omega) (by simp; omega) ?_; intro v' w5 hown' b5)
            have c5 : Below w0.heap.size w0 w5 := (c4.alloc (by simp; omega) (.cells #[.int .i64 ik, .int .i64 kk] 27)).trans b5
            refine ⟨⟨kk + 1, by go_num, by omega, Lib.hid ⟨by rw [HN.out]; exact hown', c5⟩⟩, by simp [intOf]; omega⟩
        · have HV : Hid (edgK ps ls (ik + 1) 0 = edgK ps ls ik kk) := Lib.hid (edgK_dev ps ls ik x HX.out kk (by omega))
          have HRW := Lib.hid hrow
          clear hrow
          go_wp2
          go_roundw
          case rel => exact ⟨ik + 1, by go_num, by omega, Lib.hid ⟨by rw [HV.out]; exact HRW.out, hb⟩⟩
          case measure => simp [intOf]; omega
    · obtain rfl : ik = ps.length := by omega
      rw [edgK_all] at hrow
      have hR := isF_of_row ptA_size hrow
      have HR := Lib.hid hR
      clear hR hrow HI
      go_wp2
      go_ret
      exact ⟨_, rfl, HR.out, b0.trans (hb.mono b0.size)⟩
end Go.Proofs.Ytpdadcjmpjnnhaa
