/- Plain mathematics: what FateEnds asks of a trace. -/
import Derived.Test.YtmndgbpfophniaaGP
namespace Go.Proofs.Ytmndgbpfophniaa
open Go.RowKit Go.Shelf

structure EF (ps : List Int) (ls : List Lk) (L : List Ru) (a : Nat) (d : Int) (x : Tc) : Prop where
  one : 1 ≤ x.ds.length
  hd : x.ds[0]? = some d
  room : x.ds.length ≤ ps.length + 1
  twice : ∀ i j (hi : i < x.ds.length) (hij : j < i), x.ds[i] = x.ds[j]'(by omega) → i + 1 = x.ds.length ∧ x.ft = 4
  step : ∀ i (hi : i + 1 < x.ds.length), inD ps x.ds[i] ∧ (stepN ls L x.ds[i] a).1 = 4 ∧ ∃ q, nextT ls (stepN ls L x.ds[i] a).2 = some q ∧ q.d = x.ds[i + 1]
  seen : ∀ (h : x.ds.length - 1 < x.ds.length), decide (x.ds[x.ds.length - 1] ∈ x.ds.take (x.ds.length - 1)) = decide (x.ft = 4)
  out3 : x.ft = 3 → ∀ (h : x.ds.length - 1 < x.ds.length), x.out.d = x.ds[x.ds.length - 1] ∧ nextT ls x.out = none
  outn : x.ft ≠ 3 → x.out = ⟨0, 0⟩
theorem trcN_ends {ps : List Int} {ls : List Lk} {L : List Ru} (hR : RT ps ls) {a : Nat} {d : Int} (hd : inD ps d) : EF ps ls L a d (trcN ps ls L a d) := by
  obtain ⟨ini, last, h, t, ht⟩ := trcN_spec hR (L := L) (a := a) hd
  generalize trcN ps ls L a d = x at h ht ⊢
  obtain ⟨D, f, out⟩ := x
  have hD := h.ds
  dsimp only at hD ht
  subst hD
  have hlen : (ini ++ [last]).length - 1 = ini.length := by simp
  have hlast : (ini ++ [last])[ini.length]'(by simp) = last := by simp
  refine ⟨by simp, by rw [← ht]; simp, ?_, ?_, ?_, ?_, ?_, ?_⟩
  · have := nodup_room (n := ps.length) h.nd (fun y hy => h.dev y (List.mem_append_left _ hy))
    simp; omega
  · intro i j hi hij e
    dsimp only at hi e ⊢
    have hj : j < ini.length := by simp at hi; omega
    by_cases hi' : i < ini.length
    · rw [List.getElem_append_left hi', List.getElem_append_left hj] at e
      have := List.pairwise_iff_getElem.1 h.nd j i hj hi' hij
      exact absurd e.symm this
    · have hie : i = ini.length := by simp at hi; omega
      subst hie
      refine ⟨by simp, ?_⟩
      rw [hlast, List.getElem_append_left hj] at e
      have hm : last ∈ ini := e ▸ List.getElem_mem hj
      rcases h.fin with ⟨h4, _⟩ | ⟨_, hn, _⟩
      · exact h4
      · exact absurd hm hn
  · intro i hi
    obtain ⟨h4, ho⟩ := h.steps i hi (Nat.zero_le _)
    refine ⟨h.dev _ (List.getElem_mem _), h4, ?_⟩
    rcases stepN_is ls L ((ini ++ [last])[i]'(by dsimp only at hi; omega)) a with ⟨h1, h2, _⟩ | ⟨_, ⟨h3, _⟩ | ⟨_, q, hq⟩⟩
    · dsimp only at h4; omega
    · dsimp only at h4; omega
    · refine ⟨q, hq, ?_⟩
      rw [← ho]
      unfold onTo
      dsimp only
      rw [hq]; rfl
  · intro hh
    have e1 : (ini ++ [last])[(ini ++ [last]).length - 1] = last := by simp
    have e2 : (ini ++ [last]).take ((ini ++ [last]).length - 1) = ini := by simp
    show decide ((ini ++ [last])[(ini ++ [last]).length - 1] ∈ (ini ++ [last]).take ((ini ++ [last]).length - 1)) = _
    rw [e1, e2]
    rcases h.fin with ⟨h4, _, hm⟩ | ⟨h4, hm, _⟩
    · rw [decide_eq_true hm, decide_eq_true h4]
    · rw [decide_eq_false hm, decide_eq_false h4]
  · intro h3 hh
    have e1 : (ini ++ [last])[(ini ++ [last]).length - 1] = last := by simp
    show out.d = (ini ++ [last])[(ini ++ [last]).length - 1] ∧ nextT ls out = none
    rw [e1]
    rcases h.fin with ⟨h4, _⟩ | ⟨_, _, hs⟩
    · dsimp only at h3 h4; omega
    · rcases stepN_is ls L last a with ⟨_, h2, _⟩ | ⟨hd', ⟨_, hn⟩ | ⟨h4, _⟩⟩
      · rw [hs] at h2; dsimp only at h2 h3; omega
      · rw [hs] at hd' hn; exact ⟨hd', hn⟩
      · rw [hs] at h4; dsimp only at h4 h3; omega
  · intro h3
    rcases h.fin with ⟨_, ho, _⟩ | ⟨h4, _, hs⟩
    · exact ho
    · rcases stepN_is ls L last a with ⟨_, _, ho⟩ | ⟨_, ⟨h3', _⟩ | ⟨h4', _⟩⟩
      · rw [hs] at ho; exact ho
      · rw [hs] at h3'; exact absurd h3' h3
      · rw [hs] at h4'; exact absurd h4' h4
end Go.Proofs.Ytmndgbpfophniaa
