/- An argument that is a slice of acts: what lies in memory, element by element. -/
import Derived.Test.YtnjghodjpbalcaaRows
import Derived.Test.YtnjghodjpbalcaaBase
import Derived.Deep.Slices
import Derived.Deep.Fields
import Derived.ProofKit
import Derived.OpenShut
import Derived.ChangeOld
namespace Go.Proofs.Ytnjghodjpbalcaa
open Go.ChangeShapes Go.WideShapes Go.ChangeAt Go.RowKit

section
variable {H : Type} {enc : TypeId × Value → H} {P : Program} {w : World}
/-- Of a slice of structs of one-cell fields: each field's cell and its own reading. -/
theorem struct_cells {t e : TypeId} {fs : Array Field} {v : Value} {d : DataW H} {p : List MemPlace} (ht : P.underlying t = some (.slice e)) (he : P.underlying e = some (.struct fs))
    (hone : Deep.oneCellFields P fs = true) (hC : P.cellsOf e = fs.size) (hpos : 0 < fs.size) (h : DataW.Trod enc P w 0 (fun _ => true) true t v d p) (hv : ∃ A n c, v = .slice A n c) :
    ∃ A n c, v = .slice A n c ∧ n ≤ c ∧ c ≤ maxLen ∧ (n = 0 ∨ ∃ a : Addr, A = some a ∧ a.block < w.heap.size ∧
      ∀ i, i < n → ∀ (j : Nat) (f : Field), fs[j]? = some f → ∃ (u : Value) (m : Nat) (y : DataW H × List MemPlace), w.cell? (a.add (i * fs.size + j)) = some u ∧ DataW.trod enc P w 0 (fun _ => true) true m f.type [u] = some y) := by
  obtain ⟨A, n, c, rfl⟩ := hv
  obtain ⟨fuel, hf⟩ := h
  rcases Deep.open_slice ht hf with ⟨hcs, _⟩ | ⟨a, len, cap, m, k, D, Pl, hcs, _, hl, hm, hmm, hx, hi⟩
  · simp [Value.cells] at hcs
    obtain ⟨rfl, rfl, rfl⟩ := hcs
    exact ⟨none, 0, 0, rfl, Nat.le_refl _, by simp, .inl rfl⟩
  · simp [Value.cells] at hcs
    obtain ⟨rfl, rfl, rfl⟩ := hcs
    simp at hmm
    subst hmm
    refine ⟨_, n, m, rfl, hl, hm, ?_⟩
    rcases Nat.eq_zero_or_pos n with h0 | h0
    · exact .inl h0
    have cellsAt : ∀ i, i < n → ∀ (j : Nat) (f : Field), fs[j]? = some f → ∃ (u : Value) (m : Nat) (y : DataW H × List MemPlace), w.cell? (a.add (i * fs.size + j)) = some u ∧ DataW.trod enc P w 0 (fun _ => true) true m f.type [u] = some y := by
      intro i hin j f hj
      obtain ⟨cs, hc, ht'⟩ := hi i (by omega)
      rw [hC] at hc
      obtain ⟨ys, n', _, _, _, hyl, hg⟩ := DataW.trod_struct he ht'
      obtain ⟨_, hcl, hat⟩ := World.cells?_some hc
      obtain ⟨ho, hk⟩ := Deep.hone_of hone j f hj
      have hjl : j < fs.size := (Array.getElem?_eq_some_iff.1 hj).1
      have h1 := hg j f hj
      rw [ho, hk, List.drop_eq_getElem_cons (by omega)] at h1
      have hys : ys[j]? = some (ys[j]'(by omega)) := List.getElem?_eq_getElem (by omega)
      refine ⟨cs[j]'(by omega), n', ys[j]'(by omega), ?_, h1.trans hys⟩
      rw [← addr_add, hat j hjl, List.getElem?_eq_getElem (by omega)]
    refine .inr ⟨a, rfl, ?_, cellsAt⟩
    obtain ⟨u, _, _, hu, _⟩ := cellsAt 0 h0 0 fs[0] (by simp [hpos])
    have := World.block_lt_of_cell? w _ hu
    rwa [addr_block] at this
end

/-- An act's fields. -/
structure ActV where
  kind : Int
  long : Int
  n : Nat
  most : Nat
  s : ByteArray
instance : Inhabited ActV := ⟨⟨0, 0, 0, 0, ByteArray.empty⟩⟩

/-- An act's cells from the address p on. -/
structure ActAt (w : World) (p : Addr) (x : ActV) : Prop where
  kind : w.cell? p = some (.int .i64 x.kind)
  long : w.cell? ⟨p.block, p.off + 1, none⟩ = some (.int .i64 x.long)
  n : w.cell? ⟨p.block, p.off + 2, none⟩ = some (.int .u64 x.n)
  most : w.cell? ⟨p.block, p.off + 3, none⟩ = some (.int .u64 x.most)
  s : w.cell? ⟨p.block, p.off + 4, none⟩ = some (.string x.s)
  bl : -9223372036854775808 ≤ x.long ∧ x.long < 9223372036854775808
  bn : x.n < 18446744073709551616
  bm : x.most < 18446744073709551616
  bs : x.s.size ≤ maxLen
/-- The acts of a slice, below block B. -/
def ActsAt (w : World) (B : Nat) (A : Option Addr) (l : List ActV) : Prop := 0 < l.length → ∃ ad, A = some ad ∧ ad.block < B ∧ ∀ i x, l[i]? = some x → ActAt w (ad.add (i * 5)) x

theorem ActAt.keep {w w' : World} {p : Addr} {x : ActV} (h : ActAt w p x) (hk : ∀ q : Addr, q.block = p.block → w'.cell? q = w.cell? q) : ActAt w' p x :=
  ⟨(hk p rfl).trans h.kind, (hk ⟨p.block, _, none⟩ rfl).trans h.long, (hk ⟨p.block, _, none⟩ rfl).trans h.n, (hk ⟨p.block, _, none⟩ rfl).trans h.most, (hk ⟨p.block, _, none⟩ rfl).trans h.s, h.bl, h.bn, h.bm, h.bs⟩
theorem ActAt.below {w w' : World} {B : Nat} {p : Addr} {x : ActV} (h : ActAt w p x) (hb : Below B w w') (hp : p.block < B) : ActAt w' p x := h.keep fun q hq => hb.cell (by rw [hq]; exact hp)
theorem ActsAt.below {w w' : World} {B : Nat} {A : Option Addr} {l : List ActV} (h : ActsAt w B A l) (hb : Below B w w') : ActsAt w' B A l := fun hn => by
  obtain ⟨ad, e, hB, hc⟩ := h hn
  exact ⟨ad, e, hB, fun i x hx => (hc i x hx).below hb (by rw [addr_block]; exact hB)⟩
theorem ActsAt.get {w : World} {B : Nat} {A : Option Addr} {l : List ActV} (h : ActsAt w B A l) {k : Nat} (hk : k < l.length) : ∃ ad x, A = some ad ∧ l[k]? = some x ∧ (ad.add (k * 5)).block < B ∧ ActAt w (ad.add (k * 5)) x := by
  obtain ⟨ad, e, hB, hc⟩ := h (by omega)
  exact ⟨ad, l[k], e, List.getElem?_eq_getElem hk, by rw [addr_block]; exact hB, hc k _ (List.getElem?_eq_getElem hk)⟩
theorem addr_succ (a : Addr) (i j : Nat) : a.add (i + (j + 1)) = ⟨(a.add i).block, (a.add i).off + (j + 1), none⟩ := by
  rw [← addr_add]
  generalize a.add i = q
  simp [Addr.add]

theorem i64_wf {a : Int} (h : (Lit.int .i64 a).wf = true) : -9223372036854775808 ≤ a ∧ a < 9223372036854775808 := by
  simp [Lit.wf, IntKind.min, IntKind.max, IntKind.signed, IntKind.bits] at h
  omega
theorem u64_wf {a : Int} (h : (Lit.int .u64 a).wf = true) : ∃ n : Nat, a = n ∧ n < 18446744073709551616 := by
  simp [Lit.wf, IntKind.min, IntKind.max, IntKind.signed, IntKind.bits] at h
  exact ⟨a.toNat, by omega, by omega⟩

theorem list_of_fun {α : Type} [Inhabited α] (n : Nat) (p : Nat → α → Prop) (h : ∀ i, i < n → ∃ x, p i x) : ∃ l : List α, l.length = n ∧ ∀ i x, l[i]? = some x → p i x := by
  induction n with
  | zero => exact ⟨[], rfl, by simp⟩
  | succ n ih =>
    obtain ⟨l, hl, hp⟩ := ih (fun i hi => h i (by omega))
    obtain ⟨x, hx⟩ := h n (by omega)
    refine ⟨l ++ [x], by simp [hl], fun i y hy => ?_⟩
    rw [List.getElem?_append] at hy
    split at hy
    · exact hp i y hy
    · rename_i hge
      have : i = n := by
        rcases Nat.lt_or_ge (i - l.length) 1 with h1 | h1
        · omega
        · rw [List.getElem?_eq_none (by simpa using h1)] at hy; cases hy
      subst this
      rw [hl] at hy
      simp at hy
      subst hy
      exact hx

/-- The opener of an argument of the acts' type. -/
theorem open_acts {H : Type} {enc : TypeId × Value → H} {W : World} {v : Value} {d : DataW H} {p : List MemPlace} (h : DataW.Trod enc Try.prog W 0 (fun _ => true) true 22 v d p) (hv : ∃ A n c, v = .slice A n c) :
    ∃ A c l, v = .slice A (l : List ActV).length c ∧ l.length ≤ c ∧ c ≤ maxLen ∧ ActsAt W W.heap.size A l := by
  obtain ⟨A, n, c, rfl, hnc, hcm, hr⟩ := struct_cells Try.underlying22 Try.underlying26 (by kernel_rfl) (by kernel_rfl) (by decide) h hv
  rcases hr with rfl | ⟨a, rfl, hB, hc⟩
  · exact ⟨A, c, [], rfl, hnc, hcm, fun h => absurd h (by simp)⟩
  · obtain ⟨l, hl, hp⟩ := list_of_fun n (fun i x => ActAt W (a.add (i * 5)) x) (fun i hi => by
      obtain ⟨u0, m0, y0, e0, t0⟩ := hc i hi 0 _ rfl
      obtain ⟨u1, m1, y1, e1, t1⟩ := hc i hi 1 _ rfl
      obtain ⟨u2, m2, y2, e2, t2⟩ := hc i hi 2 _ rfl
      obtain ⟨u3, m3, y3, e3, t3⟩ := hc i hi 3 _ rfl
      obtain ⟨u4, m4, y4, e4, t4⟩ := hc i hi 4 _ rfl
      obtain ⟨z0, q0, _, w0⟩ := DataW.trod_int Try.underlying3 t0
      obtain ⟨z1, q1, _, w1⟩ := DataW.trod_int Try.underlying3 t1
      obtain ⟨z2, q2, _, w2⟩ := DataW.trod_int Try.underlying24 t2
      obtain ⟨z3, q3, _, w3⟩ := DataW.trod_int Try.underlying24 t3
      obtain ⟨z4, q4, _, w4⟩ := DataW.trod_string Try.underlying9 t4
      injection q0 with q0; injection q1 with q1; injection q2 with q2; injection q3 with q3; injection q4 with q4
      subst q0 q1 q2 q3 q4
      obtain ⟨n2, rfl, b2⟩ := u64_wf w2
      obtain ⟨n3, rfl, b3⟩ := u64_wf w3
      refine ⟨⟨z0, z1, n2, n3, z4⟩, ?_⟩
      exact ⟨e0, (addr_succ a (i * 5) 0) ▸ e1, (addr_succ a (i * 5) 1) ▸ e2, (addr_succ a (i * 5) 2) ▸ e3, (addr_succ a (i * 5) 3) ▸ e4, i64_wf w1, b2, b3, w4⟩)
    subst hl
    exact ⟨_, c, l, rfl, hnc, hcm, fun _ => ⟨a, rfl, hB, hp⟩⟩

/-- The opener of an argument that is a slice of bytes. -/
theorem open_bytes {H : Type} {enc : TypeId × Value → H} {W : World} {v : Value} {d : DataW H} {p : List MemPlace} (h : DataW.Trod enc Try.prog W 0 (fun _ => true) true 23 v d p) (hv : ∃ A n c, v = .slice A n c) :
    ∃ A c l, v = .slice A (l : List UInt8).length c ∧ l.length ≤ c ∧ c ≤ maxLen ∧ Rd W W.heap.size A l := by
  obtain ⟨A, n, c, rfl⟩ := hv
  obtain ⟨fuel, hf⟩ := h
  rcases open_ints Try.underlying23 Try.underlying5 (by kernel_rfl) hf with ⟨hcs, _⟩ | ⟨x, len, cap, zs, hcs, _, hl, hm, hz, _, hcell, hwz⟩
  · simp [Value.cells] at hcs
    obtain ⟨rfl, rfl, rfl⟩ := hcs
    exact ⟨none, 0, [], rfl, by simp, by simp, Rd.nil _ _ _⟩
  · simp [Value.cells] at hcs
    obtain ⟨rfl, rfl, rfl⟩ := hcs
    have hzl : zs.length = c := by simpa using hz
    have hlen : ((zs.take n).map fun z => UInt8.ofNat z.toNat).length = n := by simp; omega
    refine ⟨_, c, (zs.take n).map fun z => UInt8.ofNat z.toNat, by rw [hlen], by rw [hlen]; exact hl, hm, fun hn => ?_⟩
    rw [hlen] at hn
    have key : ∀ j b, ((zs.take n).map fun z => UInt8.ofNat z.toNat)[j]? = some b → W.cell? (x.add j) = some (bcell b) := by
      intro j b hj
      rw [List.getElem?_map, List.getElem?_take] at hj
      split at hj
      · rename_i hjn
        have hjz : j < zs.length := by omega
        rw [List.getElem?_eq_getElem hjz] at hj
        simp at hj
        subst hj
        have h1 := hcell j hjz
        have h2 := hwz zs[j] (List.getElem_mem hjz)
        simp [Lit.wf, IntKind.min, IntKind.max, IntKind.signed, IntKind.bits] at h2
        rw [List.getD_eq_getElem?_getD, List.getElem?_eq_getElem hjz] at h1
        rw [h1]
        simp only [Option.getD_some, bcell]
        congr 2
        rw [UInt8.toNat_ofNat']
        show zs[j] = ((zs[j].toNat % 256 : Nat) : Int)
        omega
      · cases hj
    refine ⟨x, rfl, ?_, key⟩
    have h3 := key 0 (((zs.take n).map fun z => UInt8.ofNat z.toNat)[0]'(by omega)) (List.getElem?_eq_getElem _)
    have := World.block_lt_of_cell? W _ h3
    rwa [addr_block] at this
end Go.Proofs.Ytnjghodjpbalcaa
