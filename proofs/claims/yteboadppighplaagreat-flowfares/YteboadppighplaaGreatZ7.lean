/- Texts of this seat, put together: FFc. -/
import Derived.Test.YteboadppighplaaGreatZ6
import Derived.Test.YteboadppighplaaGreatZ3
/- Words for FlowFares (stage 11). -/
namespace Go.Proofs.YteboadppighplaaGreat
open Go.RowKit Go.Shelf

/-- What Trace answers of any network; of a right one as the chapter says. -/
def TrY (p : Bool) (x : Tc) (er : Int) (w : World) (e : Ending) (w' : World) : Prop := ∃ (x' : Tc) (A : Option Addr) (c : Nat) (er' : Int), e = .returned (.tuple #[.agg #[.slice A x'.ds.length c, .int .i64 x'.ft, .int .i64 x'.out.d, .int .i64 x'.out.p], .int .i64 er']) ∧ Hid (IsF 1 intA w' (.slice A x'.ds.length c) x'.ds) ∧ Hid (p = true → x' = x ∧ er' = er) ∧ Below w.heap.size w w'
theorem ftraceY {vp vl vr : Value} (ps : List Int) (ls : List Lk) (L : List Ru) (d : Int) (a : Nat) (w : World) (hW : NW ps ls L) (h : IsN w vp vl vr ps ls L) :
    Calls Tryz.prog 25 #[.agg #[vp, vl, vr], .int .i64 d, .int .u32 a] w (TrY (rightN ps ls L) (trQ ps ls L d a) (erQ ps d) w) := by
  cases hr : rightN ps ls L with
  | true =>
    refine (ftraceX ps ls L d a w ((rightN_iff _ _ _).1 hr) hW h).mono fun e w' h => ?_
    obtain ⟨A, c, rfl, hf, _, hb⟩ := h
    exact ⟨_, A, c, _, rfl, hf, Lib.hid fun _ => ⟨rfl, rfl⟩, hb⟩
  | false =>
    refine (ftrace_any ps ls L d a w hW h).mono fun e w' h => ?_
    rcases h with ⟨hin, v, rfl, hf, hfr, hb⟩ | ⟨hno, A, c, hc, rfl, hb⟩
    · have hf' := hf
      obtain ⟨A, c, rfl, h1, h2, h3⟩ := hf
      exact ⟨_, A, c, 0, rfl, Lib.hid hf', Lib.hid fun h => (by cases h), hb⟩
    · exact ⟨⟨[], 0, ⟨0, 0⟩⟩, A, c, 91, rfl, Lib.hid ⟨A, c, rfl, Nat.zero_le _, hc, Fs.nil _ _⟩, Lib.hid fun h => (by cases h), hb⟩
theorem has_fat {ps : List Int} {ls : List Lk} {L : List Ru} {d : Int} (hd : inD ps d) {k : Int} {a : Nat} (ha : a < 4294967296) : Zo.has (fatZ ps ls L d k) a = decide ((trcN ps ls L a d).ft = k) := by
  unfold fatZ
  rw [if_pos hd]
  exact (pickZ_is fateP_near).2 a ha
theorem has_vis {ps : List Int} {ls : List Lk} {L : List Ru} {d b : Int} (hd : inD ps d) (hb : inD ps b) {a : Nat} (ha : a < 4294967296) : Zo.has (visZ ps ls L d b) a = decide (b ∈ (trcN ps ls L a d).ds) := by
  unfold visZ
  rw [if_pos ⟨hd, hb⟩]
  exact (pickZ_is visP_near).2 a ha
theorem has_del {ps : List Int} {ls : List Lk} {L : List Ru} {d b : Int} (hd : inD ps d) (hb : inD ps b) {a : Nat} (ha : a < 4294967296) : Zo.has (delZ ps ls L d b) a = (decide ((trcN ps ls L a d).ft = 3) && decide ((trcN ps ls L a d).out.d = b)) := by
  unfold delZ
  rw [if_pos ⟨hd, hb⟩]
  exact (pickZ_is delP_near).2 a ha
theorem has_dif {ps : List Int} {ls : List Lk} {L : List Ru} {qs : List Int} {ms : List Lk} {M : List Ru} {d : Int} (hd : inD ps d) (hb : inD qs d) {a : Nat} (ha : a < 4294967296) : Zo.has (difZ ps ls L qs ms M d) a = !decide (trcN ps ls L a d = trcN qs ms M a d) := by
  unfold difZ
  rw [if_pos ⟨hd, hb⟩]
  exact (pickZ_is difP_near).2 a ha
/-- Which of five ways a packet fares: delivered; or not, by the device that is asked about and whether it came there. -/
def sel11 (y : Tc) (b : Int) : Nat := if y.ft = 3 then 0 else if y.out.d = b then (if b ∈ y.ds then 1 else 2) else (if b ∈ y.ds then 3 else 4)
theorem sel_le (y : Tc) (b : Int) : sel11 y b ≤ 4 := by unfold sel11; split <;> (try split) <;> (try split) <;> omega
theorem sel_ft {y : Tc} {b : Int} (h : y.ft = 3) : sel11 y b = 0 := if_pos h
theorem sel_at {y : Tc} {b : Int} (h : ¬ y.ft = 3) (hd : y.out.d = b) (hc : true = decide (b ∈ y.ds)) : sel11 y b = 1 := by unfold sel11; rw [if_neg h, if_pos hd, if_pos (of_decide_eq_true hc.symm)]
theorem sel_at' {y : Tc} {b : Int} (h : ¬ y.ft = 3) (hd : y.out.d = b) (hc : false = decide (b ∈ y.ds)) : sel11 y b = 2 := by unfold sel11; rw [if_neg h, if_pos hd, if_neg (of_decide_eq_false hc.symm)]
theorem sel_far {y : Tc} {b : Int} (h : ¬ y.ft = 3) (hd : ¬ y.out.d = b) (hc : true = decide (b ∈ y.ds)) : sel11 y b = 3 := by unfold sel11; rw [if_neg h, if_neg hd, if_pos (of_decide_eq_true hc.symm)]
theorem sel_far' {y : Tc} {b : Int} (h : ¬ y.ft = 3) (hd : ¬ y.out.d = b) (hc : false = decide (b ∈ y.ds)) : sel11 y b = 4 := by unfold sel11; rw [if_neg h, if_neg hd, if_neg (of_decide_eq_false hc.symm)]
end Go.Proofs.YteboadppighplaaGreat
