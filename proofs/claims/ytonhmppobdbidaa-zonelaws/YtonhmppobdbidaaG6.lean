/- Contracts: zone.And, Or, Minus: right zones that have what is asked. -/
import Derived.Test.YtonhmppobdbidaaG3
import Derived.Test.YtonhmppobdbidaaG4
import Derived.Test.YtonhmppobdbidaaG5
namespace Go.Proofs.Ytonhmppobdbidaa
open Go.RowKit Go.Shelf

/-- A right zone of addresses. -/
def Zn (L : List (Nat × Nat)) : Prop := RZ 0 L ∧ Under 4294967296 L
theorem Zn.u32 {L : List (Nat × Nat)} (h : Zn L) : U32 L := h.1.u32 h.2
theorem Zn.len {L : List (Nat × Nat)} (h : Zn L) : L.length ≤ 2147483648 := zone_len32 h.1 h.2
theorem Zn.eq {X Y : List (Nat × Nat)} (hx : Zn X) (hy : Zn Y) (h : ∀ a, a < 4294967296 → has X a = has Y a) : X = Y := zone_eq hx.1 hy.1 hx.2 hy.2 h
theorem zn_gather {xs : List (Nat × Nat)} (h : Asc 0 xs) (hu : U32 xs) : Zn (gatherZ xs) ∧ ∀ a, has (gatherZ xs) a = has xs a := by
  obtain ⟨h1, h2, h3⟩ := gatherZ_spec h hu.under
  exact ⟨⟨h1, h2⟩, h3⟩
/-- It hands back a right zone that has just what p says. -/
def ZOut (w : World) (p : Nat → Bool) (e : Ending) (w' : World) : Prop := ∃ v L, e = .returned v ∧ IsZ w' v L ∧ Zn L ∧ (∀ a, a < 4294967296 → has L a = p a) ∧ Below w.heap.size w w'
theorem two_boxes (w : World) (v1 v2 : Value) : Below w.heap.size w ((w.alloc (.cells #[v1] 22)).alloc (.cells #[v2] 22)) ∧ At ((w.alloc (.cells #[v1] 22)).alloc (.cells #[v2] 22)) w.heap.size #[v1] 22 ∧ At ((w.alloc (.cells #[v1] 22)).alloc (.cells #[v2] 22)) (w.heap.size + 1) #[v2] 22 :=
  ⟨((Below.refl _ w).alloc (Nat.le_refl _) _).alloc (by simp) _, (At.new w _ _).alloc _, At.new1 w _ _ _⟩

theorem and_any {v1 v2 : Value} (X Y : List (Nat × Nat)) (w : World) (hX : Zn X) (hY : Zn Y) (h1 : IsZ w v1 X) (h2 : IsZ w v2 Y) : Calls Try.prog 20 #[v1, v2] w (ZOut w fun a => has X a && has Y a) := by
  obtain ⟨xs, hxs⟩ := vals_of (comm_u32 X Y hX.u32 hY.u32)
  obtain ⟨b1, A1, A2⟩ := two_boxes w v1 v2
  have hlen : xs.length ≤ 4294967297 := by rw [← vals_len, hxs]; have := comm_len X Y; have := hX.len; have := hY.len; omega
  have hg := gather_any 50 #[.pointer (some ⟨w.heap.size, 0, none⟩), .pointer (some ⟨w.heap.size + 1, 0, none⟩)] (enters_of Try.func50 (by kernel_rfl) rfl) xs _ hlen (common_hands _ _ _ _ X Y xs _ hxs A1 A2 (h1.belows b1) (h2.belows b1) hX.u32 hY.u32)
  obtain ⟨c1, c2⟩ := comm_spec X Y 0 0 hX.1 hY.1
  obtain ⟨g1, g2⟩ := zn_gather (by rw [hxs]; exact c1) (vals_u32 xs)
  rw [hxs] at hg g1 g2
  obtain ⟨P1, k1, rfl, _⟩ := h1
  obtain ⟨P2, k2, rfl, _⟩ := h2
  clear A1 A2
  go_enter Try.func20, Try.ntmps20
  go_wp2_with (first | (go_at_call 41; refine (common_any _ _ _ _ _ _ _).mono ?_; rintro e w1 ⟨rfl, rfl⟩) | (go_at_call 33; refine hg.mono ?_; rintro e w2 ⟨v, rfl, hz, b2⟩))
  go_ret
  exact ⟨v, _, rfl, hz, g1, fun a _ => by rw [g2, c2], b1.trans (b2.mono b1.size)⟩

theorem or_any {v1 v2 : Value} (X Y : List (Nat × Nat)) (w : World) (hX : Zn X) (hY : Zn Y) (h1 : IsZ w v1 X) (h2 : IsZ w v2 Y) : Calls Try.prog 22 #[v1, v2] w (ZOut w fun a => has X a || has Y a) := by
  obtain ⟨xs, hxs⟩ := vals_of (mrg_u32 X Y hX.u32 hY.u32)
  obtain ⟨b1, A1, A2⟩ := two_boxes w v1 v2
  have hlen : xs.length ≤ 4294967297 := by rw [← vals_len, hxs, mrg_len]; have := hX.len; have := hY.len; omega
  have hg := gather_any 51 #[.pointer (some ⟨w.heap.size, 0, none⟩), .pointer (some ⟨w.heap.size + 1, 0, none⟩)] (enters_of Try.func51 (by kernel_rfl) rfl) xs _ hlen (both_hands _ _ _ _ X Y xs _ hxs A1 A2 (h1.belows b1) (h2.belows b1))
  obtain ⟨c1, c2⟩ := mrg_spec X Y 0 hX.1 hY.1
  obtain ⟨g1, g2⟩ := zn_gather (by rw [hxs]; exact c1) (vals_u32 xs)
  rw [hxs] at hg g1 g2
  obtain ⟨P1, k1, rfl, _⟩ := h1
  obtain ⟨P2, k2, rfl, _⟩ := h2
  clear A1 A2
  go_enter Try.func22, Try.ntmps22
  go_wp2_with (first | (go_at_call 43; refine (zboth_any _ _ _ _ _ _ _).mono ?_; rintro e w1 ⟨rfl, rfl⟩) | (go_at_call 33; refine hg.mono ?_; rintro e w2 ⟨v, rfl, hz, b2⟩))
  go_ret
  exact ⟨v, _, rfl, hz, g1, fun a _ => by rw [g2, c2], b1.trans (b2.mono b1.size)⟩

theorem minus_any {v1 v2 : Value} (X Y : List (Nat × Nat)) (w : World) (hX : Zn X) (hY : Zn Y) (h1 : IsZ w v1 X) (h2 : IsZ w v2 Y) : Calls Try.prog 24 #[v1, v2] w (ZOut w fun a => has X a && !has Y a) := by
  obtain ⟨xs, hxs⟩ := vals_of (gaps_u32 Y 0 hY.u32)
  have b1 : Below w.heap.size w (w.alloc (.cells #[v2] 22)) := (Below.refl _ w).alloc (Nat.le_refl _) _
  have hlen : xs.length ≤ 4294967297 := by rw [← vals_len, hxs]; have := gaps_len Y 0; have := hY.len; omega
  have hg := gather_any 52 #[.pointer (some ⟨w.heap.size, 0, none⟩)] (enters_of Try.func52 (by kernel_rfl) rfl) xs _ hlen (gaps_hands _ _ Y xs _ hxs (At.new w #[v2] 22) (h2.belows b1) hY.u32)
  obtain ⟨c1, c2⟩ := gaps_spec Y 0 hY.1 hY.2
  obtain ⟨g1, g2⟩ := zn_gather (by rw [hxs]; exact c1) (vals_u32 xs)
  rw [hxs] at hg g1 g2
  have H1 := Lib.hid h1
  obtain ⟨P1, k1, rfl, _⟩ := h1
  obtain ⟨P2, k2, rfl, _⟩ := h2
  go_enter Try.func24, Try.ntmps24
  go_wp2_with (first | (go_at_call 44; refine (gaps_any _ _ _ _).mono ?_; rintro e w1 ⟨rfl, rfl⟩) | (go_at_call 33; refine hg.mono ?_; rintro e w2 ⟨v, rfl, hz, b2⟩; obtain ⟨P3, k3, rfl, n3, m3, z3⟩ := hz) | (go_at_call 20; refine (and_any X (gatherZ (gapsL 0 Y)) _ hX g1 (H1.out.belows (b1.trans (b2.mono b1.size))) ⟨P3, k3, rfl, n3, m3, z3⟩).mono ?_; rintro e w3 ⟨v, L, rfl, q1, q2, q3, b3⟩))
  go_ret
  refine ⟨v, L, rfl, q1, q2, fun a ha => ?_, (b1.trans (b2.mono b1.size)).trans (b3.mono (b1.trans (b2.mono b1.size)).size)⟩
  rw [q3 a ha, g2, c2 a (by omega) ha]
end Go.Proofs.Ytonhmppobdbidaa
