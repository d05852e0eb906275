/- Contract: the document's 'Words'. -/
import Derived.Test.YtmpgfmedldnhjaaGreatDoorR1
namespace Go.Proofs.YtmpgfmedldnhjaaGreatDoor
open Go.RowKit

set_option maxRecDepth 100000 in
set_option maxHeartbeats 2000000 in
theorem words_any (s : ByteArray) (w : World) (hz : s.size ≤ 80) : Calls Tryz.prog 34 #[.string s] w (PartsOut 32 s.data.toList w) := by
  obtain ⟨i0, hi, hz0, hz1, hz2⟩ := info_parts info9
  go_enter Tryz.func34, Tryz.ntmps34
  go_wp2
  go_loopw [3, 4] (fun out i wr => ∃ k : Nat, i = .int .i64 k ∧ k ≤ s.size ∧ PS s 32 w k out wr) (fun _ i _ => s.size - (intOf i).toNat)
  case atStart =>
    refine ⟨0, rfl, by omega, ?_, (Below.refl _ _).alloc (Nat.le_refl _) _⟩
    exact ⟨by simp [scells, partsL], .inr ⟨w.heap.size, 1, #[.string ⟨#[]⟩], rfl, Nat.le_refl _, heap_alloc_new w _, by simp [partsL], by simp [maxLen], by simp, by simp [scells, partsL]⟩⟩
  case round =>
    obtain ⟨k, rfl, hk, hrow, bel⟩ := hrel
    have hle := parts_le 32 (s.data.toList.take k)
    have hlt0 : (s.data.toList.take k).length ≤ k := List.length_take_le _ _
    by_cases hlt : k < s.size
    · by_cases hc : s[k] = 32
      · have d1 : ((s[k].toNat : Int) == 32) = true := by rw [beq_iff_eq, hc]; rfl
        have d2 : (s[k].toNat == 32) = true := by rw [beq_iff_eq, hc]; rfl
        have HE : Hid (partsL 32 (s.data.toList.take (k + 1)) = partsL 32 (s.data.toList.take k) ++ [[]]) := by
          rw [take_snoc s k hlt, hc]; exact parts_snoc_sep 32 _
        clear hc
        obtain ⟨ps, hps⟩ : ∃ ps, partsL 32 (s.data.toList.take k) = ps := ⟨_, rfl⟩
        rw [hps] at hrow hle HE
        clear hps
        have hat := World.ownsRow.lt hrow
        have HROW := Lib.hid hrow
        go_wp2_with (at_builtin; refine wpList_append_own _ rfl (.tmp 16) (.tmp 17) 52 rfl w.heap.size 9 i0 (.string ⟨#[]⟩) 1 16 Tryz.underlying52 hi hz0 hz1 hz2 rfl (by decide) _ _ _ rfl (HROW.out.alloc _) ⟨wr.heap.size, 0, none⟩ 1 1 [.string ⟨#[]⟩] rfl rfl (cell_one_new _ _ _) (by simp [Value.oneCell']) (by simp only [maxLen]; omega) (by omega) (by have := bel.size; simp; omega) ?_; intro v' w3 hown' hgrow _)
        have hgrow' : (wr.alloc (.cells #[.string ⟨#[]⟩] 9)).grownBy w3 u3.ownBlock := hgrow
        refine ⟨⟨k + 1, by go_num, by omega, ?_, (bel.alloc bel.size _).grown hgrow' (by simp; have := bel.size; omega) (fun j e => (hat j e).1)⟩, by simp [intOf]; omega⟩
        rw [HE.out, scells_app]
        simpa [scells] using hown'
      · have d1 : ((s[k].toNat : Int) == 32) = false := by
          rw [beq_eq_false_iff_ne]; intro e; exact hc (UInt8.toNat_inj.1 (by show _ = 32; omega))
        have d2 : (s[k].toNat == 32) = false := by
          rw [beq_eq_false_iff_ne]; intro e; exact hc (UInt8.toNat_inj.1 (by rw [e]; rfl))
        obtain ⟨ini, p, h1, h2⟩ := parts_snoc hc (s.data.toList.take k)
        have HE : Hid (partsL 32 (s.data.toList.take (k + 1)) = ini ++ [p ++ [s[k]]]) := by rw [take_snoc s k hlt]; exact h2
        have hsp : p.length ≤ 1000 := by have := part_len 32 (s.data.toList.take k) p (by rw [h1]; simp); omega
        rw [h1] at hrow hle
        clear hc h1 h2
        rw [scells_app, List.length_append, List.length_singleton] at hrow
        have hrow' : wr.ownsRow w.heap.size 9 1 u3 (ini.length + 1) (scells ini ++ [.string ⟨p.toArray⟩]) := hrow
        obtain ⟨g, cap, rfl⟩ := ownsRow_succ hrow'
        obtain ⟨q1, q2, q3⟩ := row_last hrow'
        rw [scells_len] at q1 q2
        have hini : ini.length ≤ 80 := by simp at hle; omega
        have HROW := Lib.hid hrow'
        clear hrow hrow'
        have hsl : ∀ u : World, (Instr.slice 9 (.string s) (some (.int .i64 (k : Int))) (some (.int .i64 ((k : Int) + 1))) none).run Tryz.prog u = .ok (.string ⟨#[s[k]]⟩) u := fun u => by
          rw [run_slice_string u 9 s .i64 .i64 _ _ Tryz.underlying9 (by omega) (by omega) (by omega), show ((k : Int)).toNat = k by omega, show ((k : Int) + 1).toNat = k + 1 by omega, one_piece s k hlt]
        have hadd : ∀ u : World, (Op.stringOp .add ⟨p.toArray⟩ ⟨#[s[k]]⟩).run Tryz.prog u = .ok (.string (⟨p.toArray⟩ ++ ⟨#[s[k]]⟩)) u := fun u => str_add _ _ (by rw [str_len]; show _ + 1 ≤ _; omega)
        have e1 : IntKind.i64.wrap ((k : Int) + 1) = (k : Int) + 1 := IntWalk.i64_in _ (by omega)
        have e2 : IntKind.i64.wrap ((ini.length : Int) + 1 - 1) = (ini.length : Int) := by rw [show (ini.length : Int) + 1 - 1 = (ini.length : Int) by omega]; exact IntWalk.i64_in _ (by omega)
        have e3 : IntKind.i64.wrap (ini.length : Int) = (ini.length : Int) := IntWalk.i64_in _ (by omega)
        have i1 : (0 : Int) ≤ (ini.length : Int) := by omega
        have i2 : (ini.length : Int) < (ini.length : Int) + 1 := by omega
        have q1d : ({ heap := wr.heap, tape := wr.tape, drawn := wr.drawn + 1, os := wr.os, output := wr.output } : World).cell? ⟨g, ini.length, none⟩ = some (.string ⟨p.toArray⟩) := q1
        have q2d : ({ heap := wr.heap, tape := wr.tape, drawn := wr.drawn + 1, os := wr.os, output := wr.output } : World).frozen? ⟨g, ini.length, none⟩ = false := q2
        go_wp2_with fail
        go_still_tail 17, (by kernel_rfl)
        clear q1d q2d
        change wpList _ _ _ _ _ wr.drew
        have q1d : wr.drew.cell? ⟨g, ini.length, none⟩ = some (.string ⟨p.toArray⟩) := q1
        have q2d : wr.drew.frozen? ⟨g, ini.length, none⟩ = false := q2
        have HROW2 : Hid (wr.drew.ownsRow w.heap.size 9 1 (.slice (some ⟨g, 0, none⟩) (ini.length + 1) cap) (ini.length + 1) (scells ini ++ [.string ⟨p.toArray⟩])) := HROW.out
        have bel2 : Below w.heap.size w wr.drew := bel.drew
        generalize wr.drew = w2 at q1d q2d HROW2 bel2 ⊢
        clear q1 q2 HROW hsl hadd e1 e2 e3
        go_wp2
        have hset := row_set (.string (⟨p.toArray⟩ ++ ⟨#[s[k]]⟩)) (by rw [scells_len]) HROW2.out
        rw [scells_len] at hset
        refine ⟨⟨k + 1, by go_num, by omega, ?_, bel2.setCell (by exact q3) _⟩, by simp [intOf]; omega⟩
        rw [HE.out, scells_app, List.length_append, List.length_singleton]
        have e : (⟨p.toArray⟩ ++ ⟨#[s[k]]⟩ : ByteArray) = ⟨(p ++ [s[k]]).toArray⟩ := by apply str_eq; rw [str_app]
        rw [e] at hset ⊢
        exact hset
    · have hkk : s.data.toList.take k = s.data.toList := List.take_of_length_le (by rw [← str_size]; omega)
      rw [hkk] at hrow
      have HROW := Lib.hid hrow
      have n1 : ¬ k < s.size := hlt
      clear hrow hkk hle hlt0
      go_wp2
      go_ret
      exact ⟨_, rfl, HROW.out, bel⟩
end Go.Proofs.YtmpgfmedldnhjaaGreatDoor
