/- The contract of the document's own Reader.Number. -/
import Derived.Test.YtnjghodjpbalcaaR1
import Derived.Test.YtnjghodjpbalcaaBackPlain
import Derived.Test.YtnjghodjpbalcaaW4
import Derived.Test.YtnjghodjpbalcaaFew
import Derived.Test.YtnjghodjpbalcaaSeg
namespace Go.Proofs.Ytnjghodjpbalcaa
open Go.RowKit

/-- The document's reader: its block. -/
def MR (w : World) (gm : Nat) (A : Option Addr) (n c i : Nat) : Prop := ∃ bad, w.heap[gm]? = some (.cells #[.slice A n c, .int .i64 i, .bool bad] 37 (0, 0))
theorem MR.lt {w : World} {gm : Nat} {A : Option Addr} {n c i : Nat} (h : MR w gm A n c i) : gm < w.heap.size := by
  obtain ⟨b, h⟩ := h
  exact (Array.getElem?_eq_some_iff.1 h).1
theorem MR.keep {w w' : World} {gm : Nat} {A : Option Addr} {n c i : Nat} (h : MR w gm A n c i) (hk : w'.heap[gm]? = w.heap[gm]?) : MR w' gm A n c i := by
  obtain ⟨b, h⟩ := h
  exact ⟨b, hk.trans h⟩

/-- What the document's Number leaves. -/
def RefOut (r : List UInt8) (most : Nat) (gm : Nat) (A : Option Addr) (n c i : Nat) (w : World) (e : Ending) (w' : World) : Prop :=
  w.grownBy w' (some gm) ∧
  match numAt r most with
  | none => e = .returned (.tuple #[.int .u64 0, .int .i64 11]) ∧ MR w' gm A n c i
  | some (v, m) => e = .returned (.tuple #[.int .u64 v, .int .i64 0]) ∧ MR w' gm A n c (i + m)

theorem grownBy_trans {a b c : World} {row : Option Nat} (h : a.grownBy b row) (k : b.grownBy c row) : a.grownBy c row :=
  ⟨k.os.trans h.os, k.tape.trans h.tape, k.output.trans h.output, Nat.le_trans h.size k.size, fun j hj hne => (k.block j (Nat.lt_of_lt_of_le hj h.size) hne).trans (h.block j hj hne)⟩
theorem grownBy_of_below {a b : World} {row : Option Nat} (h : Below a.heap.size a b) : a.grownBy b row := ⟨h.os, h.tape, h.output, h.size, fun j hj _ => h.block j hj⟩
theorem grownBy_set (w : World) (g j : Nat) (v : Value) : w.grownBy (w.setCell ⟨g, j, none⟩ v) (some g) :=
  ⟨rfl, rfl, rfl, by simp [World.setCell], fun k _ hk => Below.heap_setCell w ⟨g, j, none⟩ v k (fun e => hk (by rw [e]))⟩

/-- The answer 'none such': the reader's mark is set. -/
theorem RefOut.no {r : List UInt8} {most gm n c i : Nat} {A : Option Addr} {w u : World} (h : numAt r most = none) (hm : MR w gm A n c i) (hu : Below w.heap.size w u) :
    RefOut r most gm A n c i w (.returned (.tuple #[.int .u64 0, .int .i64 11])) (u.setCell ⟨gm, 2, none⟩ (.bool true)) := by
  refine ⟨grownBy_trans (grownBy_of_below hu) (grownBy_set _ _ _ _), ?_⟩
  rw [h]
  obtain ⟨b, hb⟩ := hm
  have h1 : u.heap[gm]? = some (.cells #[.slice A n c, .int .i64 i, .bool b] 37 (0, 0)) := (hu.block gm (Array.getElem?_eq_some_iff.1 hb).1).trans hb
  exact ⟨rfl, true, by simp [World.setCell, Array.getElem?_modify, h1]⟩
theorem RefOut.yes {r : List UInt8} {most gm n c i v m : Nat} {A : Option Addr} {w u : World} (h : numAt r most = some (v, m)) (hm : MR w gm A n c i) (hu : Below w.heap.size w u) (V I : Int) (hV : V = v) (hI : I = ((i + m : Nat) : Int)) :
    RefOut r most gm A n c i w (.returned (.tuple #[.int .u64 V, .int .i64 0])) (u.setCell ⟨gm, 1, none⟩ (.int .i64 I)) := by
  subst hV hI
  refine ⟨grownBy_trans (grownBy_of_below hu) (grownBy_set _ _ _ _), ?_⟩
  rw [h]
  obtain ⟨b, hb⟩ := hm
  have h1 : u.heap[gm]? = some (.cells #[.slice A n c, .int .i64 i, .bool b] 37 (0, 0)) := (hu.block gm (Array.getElem?_eq_some_iff.1 hb).1).trans hb
  exact ⟨rfl, b, by simp [World.setCell, Array.getElem?_modify, h1]⟩

set_option maxRecDepth 100000 in
set_option maxHeartbeats 1000000 in
theorem ref_empty (A : Option Addr) (n c gm most : Nat) (w : World) (hm : MR w gm A n c n) (hc : n ≤ c) (hcm : c ≤ 9223372036854775807) (hn : n ≤ 1000) :
    Calls Try.prog 16 #[.pointer (some ⟨gm, 0, none⟩), .int .u64 most] w (RefOut [] most gm A n c n w) := by
  have HM := Lib.hid hm
  obtain ⟨bad, hb⟩ := hm
  have c0 : ∀ k, (w.drewN k).cell? ⟨gm, 0, none⟩ = some (.slice A n c) := fun k => by show w.cell? _ = _; rw [cell_of_row w gm 0 _ 37 (0, 0) hb]; rfl
  have c0' : w.cell? ⟨gm, 0, none⟩ = some (.slice A n c) := c0 0
  have c1' : w.cell? ⟨gm, 1, none⟩ = some (.int .i64 n) := by rw [cell_of_row w gm 1 _ 37 (0, 0) hb]; rfl
  have c2' : w.cell? ⟨gm, 2, none⟩ = some (.bool bad) := by rw [cell_of_row w gm 2 _ 37 (0, 0) hb]; rfl
  have fz : ∀ j, w.frozen? ⟨gm, j, none⟩ = false := fun j => by simp [World.frozen?, hb]
  have HN := Lib.hid (numAt_none (l := []) (most := most) rfl)
  clear hb c0
  go_enter Try.func16, Try.ntmps16
  go_wp2_with fail
  go_quiet (fail)
  go_wp2
  all_goals
    go_quiet (fail)
    go_wp2
    go_ret2
    first
      | exact RefOut.no HN.out HM.out ⟨rfl, rfl, rfl, Nat.le_refl _, fun _ _ => rfl⟩
      | (trace_state; sorry)

/-- What is known at the beginning, where something is left. -/
structure RefAt (w : World) (gm : Nat) (ad : Addr) (b : UInt8) (r : List UInt8) (c i : Nat) : Prop where
  c0 : w.cell? ⟨gm, 0, none⟩ = some (.slice (some ad) (i + (r.length + 1)) c)
  c1 : w.cell? ⟨gm, 1, none⟩ = some (.int .i64 i)
  c2 : ∃ bad, w.cell? ⟨gm, 2, none⟩ = some (.bool bad)
  fz : ∀ j, w.frozen? ⟨gm, j, none⟩ = false
  b0 : w.cell? (ad.add i) = some (.int .u8 b.toNat)
  bs : ∀ j x, r[j]? = some x → w.cell? ((ad.add i).add (j + 1)) = some (.int .u8 x.toNat)
  rd : Rd w w.heap.size (some (ad.add i)) (b :: r)
theorem refAt {w : World} {gm B : Nat} {ad : Addr} {b : UInt8} {r l : List UInt8} {c i : Nat} (hm : MR w gm (some ad) l.length c i) (hl : l.drop i = b :: r) (hr : Rd w B (some ad) l) (hB : B ≤ w.heap.size) : RefAt w gm ad b r c i := by
  have hi : i < l.length := by
    rcases Nat.lt_or_ge i l.length with h | h
    · exact h
    · rw [List.drop_of_length_le h] at hl; cases hl
  have hlen : l.length = i + (r.length + 1) := by have := congrArg List.length hl; simp at this; omega
  obtain ⟨bad, hb⟩ := hm
  rw [hlen] at hb
  obtain ⟨ad', e, hbl, hc⟩ := hr (by omega)
  injection e with e
  subst e
  have hat : ∀ j x, (b :: r)[j]? = some x → w.cell? (ad.add (i + j)) = some (bcell x) := fun j x hx => hc (i + j) x (by rw [← List.getElem?_drop, hl]; exact hx)
  refine ⟨?_, ?_, ⟨bad, ?_⟩, fun j => by simp [World.frozen?, hb], hat 0 b rfl, fun j x hx => ?_, fun _ => ⟨_, rfl, by rw [addr_block]; omega, fun j x hx => by rw [addr_add]; exact hat j x hx⟩⟩
  · rw [cell_of_row w gm 0 _ 37 (0, 0) hb]; rfl
  · rw [cell_of_row w gm 1 _ 37 (0, 0) hb]; rfl
  · rw [cell_of_row w gm 2 _ 37 (0, 0) hb]; rfl
  · rw [addr_add]; exact hat (j + 1) x (by simpa using hx)

set_option maxRecDepth 100000 in
set_option maxHeartbeats 1000000 in
theorem ref_none (ad : Addr) (b : UInt8) (r : List UInt8) (c i gm most : Nat) (w : World) (hm : MR w gm (some ad) (i + (r.length + 1)) c i) (hat : RefAt w gm ad b r c i) (hc : i + (r.length + 1) ≤ c) (hcm : c ≤ 9223372036854775807) (hn : i + (r.length + 1) ≤ 1000)
    (hb : 248 ≤ b.toNat ∨ (240 ≤ b.toNat ∧ b.toNat < 248 ∧ r.length < b.toNat - 239)) (hnone : num1 (b :: r) = none) :
    Calls Try.prog 16 #[.pointer (some ⟨gm, 0, none⟩), .int .u64 most] w (RefOut (b :: r) most gm (some ad) (i + (r.length + 1)) c i w) := by
  have HM := Lib.hid hm
  have HN := Lib.hid (numAt_none (most := most) hnone)
  obtain ⟨c0, c1, ⟨bad, c2⟩, fz, b0, _, hrd⟩ := hat
  have hci : ¬ c = i := by omega
  have hb8 : b.toNat < 256 := b.toNat_lt
  clear hm hnone
  rcases hb with hb | ⟨hb1, hb2, hb3⟩
  all_goals
    go_enter Try.func16, Try.ntmps16
    go_wp2_with fail
    go_quiet (fail)
    go_wp2
    go_quiet (fail)
    go_wp2
    go_ret2
    exact RefOut.no HN.out HM.out ⟨rfl, rfl, rfl, Nat.le_refl _, fun _ _ => rfl⟩

set_option maxRecDepth 100000 in
set_option maxHeartbeats 1000000 in
theorem ref_low_more (ad : Addr) (b : UInt8) (r : List UInt8) (c i gm most : Nat) (w : World) (hm : MR w gm (some ad) (i + (r.length + 1)) c i) (hat : RefAt w gm ad b r c i) (hc : i + (r.length + 1) ≤ c) (hcm : c ≤ 9223372036854775807) (hn : i + (r.length + 1) ≤ 1000)
    (hb : b.toNat < 240) (hmo : most < b.toNat) :
    Calls Try.prog 16 #[.pointer (some ⟨gm, 0, none⟩), .int .u64 most] w (RefOut (b :: r) most gm (some ad) (i + (r.length + 1)) c i w) := by
  have HM := Lib.hid hm
  have HN := Lib.hid (numAt_no (most := most) (num1_low r hb) (by omega))
  obtain ⟨c0, c1, ⟨bad, c2⟩, fz, b0, _, hrd⟩ := hat
  have hci : ¬ c = i := by omega
  have hd : decide (most < b.toNat) = true := by simp; omega
  clear hm
  go_enter Try.func16, Try.ntmps16
  go_wp2_with fail
  go_quiet (fail)
  go_wp2
  go_quiet (fail)
  go_wp2
  go_ret2
  exact RefOut.no HN.out HM.out ⟨rfl, rfl, rfl, Nat.le_refl _, fun _ _ => rfl⟩

set_option maxRecDepth 100000 in
set_option maxHeartbeats 1000000 in
theorem ref_low (ad : Addr) (b : UInt8) (r : List UInt8) (c i gm most : Nat) (w : World) (hm : MR w gm (some ad) (i + (r.length + 1)) c i) (hat : RefAt w gm ad b r c i) (hc : i + (r.length + 1) ≤ c) (hcm : c ≤ 9223372036854775807) (hn : i + (r.length + 1) ≤ 1000)
    (hb : b.toNat < 240) (hmo : b.toNat ≤ most) :
    Calls Try.prog 16 #[.pointer (some ⟨gm, 0, none⟩), .int .u64 most] w (RefOut (b :: r) most gm (some ad) (i + (r.length + 1)) c i w) := by
  have HM := Lib.hid hm
  have HN := Lib.hid (numAt_yes (most := most) (num1_low r hb) (by omega))
  obtain ⟨c0, c1, ⟨bad, c2⟩, fz, b0, _, hrd⟩ := hat
  have hci : ¬ c = i := by omega
  have hd : decide (most < b.toNat) = false := by simp; omega
  clear hm
  go_enter Try.func16, Try.ntmps16
  go_wp2_with fail
  go_quiet (fail)
  go_wp2
  have hck : ∀ x : Sub (w.drewN nq), Sem.run Try.prog (convert 23 9 (.slice (some (ad.add i)) 1 (c - i))) x.u = .ok (.string ⟨((b :: r).take 1).toArray⟩) x.u := fun x => by
    have h1 := conv_any x.u _ (some (ad.add i)) ((b :: r).take 1) (c - i) (((hrd.take 1).drewN nq).below x.h)
    rwa [show ((b :: r).take 1).length = 1 from by first | (simp; done) | (simp; omega)] at h1
  generalize hSK : (⟨((b :: r).take 1).toArray⟩ : ByteArray) = SK at hck
  have HSK := Lib.hid hSK
  clear hSK
  refine wp_region_seg 9 8 (by kernel_rfl) (by kernel_rfl) rfl (by kernel_rfl) (by kernel_rfl) ?_
  show wpQuiet _ _ _ _ [_, _, _, _, _, _, _, _, _] _
  repeat (go_big_quiet_step (fail))
  refine wpQuiet_nil ?_
  intro u hu
  refine held_more 4 4 11 (by kernel_rfl) (by kernel_rfl) (by kernel_rfl) hu ?_
  show wpQuiet _ _ _ _ [_, _, _, _] _
  repeat (go_big_quiet_step (fail))
  refine wpQuiet_nil ?_
  intro u2 hu2
  refine held_call (k := 9) (ys := #[.int .u64 (b.toNat : Nat)]) (by kernel_rfl) rfl (by kernel_rfl) rfl Try.func11 (by kernel_rfl) (by kernel_rfl) hu2 (by simp only [List.map_toArray, List.map_cons, List.map_nil, Act.eval]; rfl) (fun v => rfl) ?_
  refine (rput_any b.toNat u2 (by omega)).mono ?_
  rintro e wA ⟨AA, cA, LA, rfl, HA, oA, bA⟩
  refine ⟨_, rfl, bA, ?_⟩
  clear hck
  obtain ⟨_, _, _, rA⟩ := oA.rd
  have hSA : ∀ x : Sub wA, Sem.run Try.prog (convert 23 9 (.slice AA LA.length cA)) x.u = .ok (.string ⟨LA.toArray⟩) x.u := fun x => conv_any x.u _ AA LA cA (rA.below x.h)
  have hcmp : ((⟨LA.toArray⟩ : ByteArray).toList == SK.toList) = true := by rw [← HSK.out, ByteArray.toList_mk, ByteArray.toList_mk, HA.out]; exact (by rw [enc_low hb]; simp)
  generalize (⟨LA.toArray⟩ : ByteArray) = SA at hSA hcmp
  have bwA : Below w.heap.size w wA := (show Below w.heap.size w (w.drewN nq) from ⟨rfl, rfl, rfl, Nat.le_refl _, fun _ _ => rfl⟩).trans (hu2.trans (bA.mono hu2.size))
  clear oA rA
  refine held_more 1 2 10 (by kernel_rfl) (by kernel_rfl) (by kernel_rfl) (Below.refl _ _) ?_
  show wpQuiet _ _ _ _ [_] ⟨List.toArray (_ :: _ :: _ :: _ :: _ :: _ :: _ :: _ :: _ :: _ :: _ :: _ :: _ :: _ :: _ :: _ :: _ :: _ :: _ :: _ :: _ :: _ :: _ :: _ :: _ :: _ :: _ :: _ :: _ :: _ :: _ :: _ :: _ :: _ :: _ :: _ :: _ :: _ :: _ :: _ :: _ :: _ :: _ :: _ :: _ :: _ :: _ :: _ :: _ :: _ :: _ :: _ :: _ :: _ :: _ :: _ :: _ :: _ :: _ :: _ :: _ :: _ :: _ :: _ :: _ :: _ :: _ :: _ :: _ :: _ :: _ :: _ :: _ :: _ :: _ :: _ :: _ :: _ :: _ :: _ :: _ :: _ :: _ :: _ :: _ :: _ :: _ :: _ :: _ :: _ :: _ :: _ :: _ :: _ :: _ :: _ :: _ :: _ :: _ :: _ :: _ :: _ :: _ :: _ :: _ :: []), _⟩
  repeat (go_big_quiet_step (fail))
  refine wpQuiet_nil ?_
  intro u3 hu3
  refine held_more 2 0 15 (by kernel_rfl) (by kernel_rfl) (by kernel_rfl) hu3 ?_
  show wpQuiet _ _ _ _ [_, _] _
  repeat (go_big_quiet_step (fail))
  refine wpQuiet_nil ?_
  intro u4 hu4
  refine held_end (by kernel_rfl) ?_
  have bw4 : Below w.heap.size w u4 := bwA.trans (hu4.mono bwA.size)
  have hgm := HM.out.lt
  have c0u := (bw4.cell (p := ⟨gm, 0, none⟩) hgm).trans c0
  have c1u := (bw4.cell (p := ⟨gm, 1, none⟩) hgm).trans c1
  have c2u := (bw4.cell (p := ⟨gm, 2, none⟩) hgm).trans c2
  have fzu : ∀ j, u4.frozen? ⟨gm, j, none⟩ = false := fun j => (bw4.frozen (p := ⟨gm, j, none⟩) hgm).trans (fz j)
  clear c0 c1 c2 fz b0 hcmp hSA
  go_wp2
  go_ret2
  exact RefOut.yes HN.out HM.out bw4 _ _ rfl (by simp)
end Go.Proofs.Ytnjghodjpbalcaa
