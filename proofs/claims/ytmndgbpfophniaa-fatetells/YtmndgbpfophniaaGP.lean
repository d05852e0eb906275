/- Plain mathematics: what a trace is like; its rest. -/
import Derived.Test.YtmndgbpfophniaaG2
namespace Go.Proofs.Ytmndgbpfophniaa
open Go.RowKit Go.Shelf

/-- The end of a trace: looped, or as the last device says. -/
def FinT (ls : List Lk) (L : List Ru) (a : Nat) (x : Tc) (ini : List Int) (last : Int) : Prop :=
  (x.ft = 4 ∧ x.out = ⟨0, 0⟩ ∧ last ∈ ini) ∨ (x.ft ≠ 4 ∧ last ∉ ini ∧ stepN ls L last a = (x.ft, x.out))
/-- What a trace is like: its devices but for the last one, and that one. -/
structure IsTc (ps : List Int) (ls : List Lk) (L : List Ru) (a : Nat) (s : List Int) (x : Tc) (ini : List Int) (last : Int) : Prop where
  ds : x.ds = ini ++ [last]
  nd : ini.Nodup
  dev : ∀ y ∈ x.ds, inD ps y
  steps : ∀ i (h : i + 1 < x.ds.length), s.length ≤ i → (stepN ls L x.ds[i] a).1 = 4 ∧ onTo ls L x.ds[i] a = x.ds[i + 1]
  fin : FinT ls L a x ini last
theorem nodup_snoc {s : List Int} {d : Int} (hs : s.Nodup) (hd : d ∉ s) : (s ++ [d]).Nodup := by
  rw [List.nodup_append]
  exact ⟨hs, by simp, fun x hx y hy => by simp at hy; subst hy; exact fun e => hd (e ▸ hx)⟩
theorem dev_snoc {ps : List Int} {s : List Int} {d : Int} (hi : ∀ x ∈ s, inD ps x) (hd : inD ps d) : ∀ x ∈ s ++ [d], inD ps x := by
  intro x hx
  rcases List.mem_append.1 hx with hx | hx
  · exact hi x hx
  · simp at hx; subst hx; exact hd
theorem trc_spec {ps : List Int} {ls : List Lk} (hR : RT ps ls) {L : List Ru} {a : Nat} : ∀ (n : Nat) (s : List Int) (d : Int), s.Nodup → (∀ x ∈ s, inD ps x) → inD ps d → ps.length + 1 ≤ n + s.length →
    ∃ ini last, IsTc ps ls L a s (trc ls L a n s d) ini last ∧ s ++ [d] <+: (trc ls L a n s d).ds := by
  intro n
  induction n with
  | zero =>
    intro s d hs hi hd hn
    have := nodup_room (n := ps.length) hs hi
    omega
  | succ n ih =>
    intro s d hs hi hd hn
    by_cases hds : d ∈ s
    · rw [trc_in hds]
      refine ⟨s, d, ⟨rfl, hs, dev_snoc hi hd, fun i h hsi => ?_, .inl ⟨rfl, rfl, hds⟩⟩, List.prefix_refl _⟩
      simp at h; omega
    · by_cases h4 : (stepN ls L d a).1 = 4
      · rw [trc_on hds h4]
        obtain ⟨ini, last, h, hp⟩ := ih (s ++ [d]) (onTo ls L d a) (nodup_snoc hs hds) (dev_snoc hi hd) (onTo_in hR h4) (by simp; omega)
        refine ⟨ini, last, ⟨h.ds, h.nd, h.dev, fun i hi' hsi => ?_, h.fin⟩, (List.prefix_append _ _).trans hp⟩
        by_cases hsi' : i = s.length
        · subst hsi'
          obtain ⟨t, ht⟩ := hp
          have e0 : (trc ls L a n (s ++ [d]) (onTo ls L d a)).ds[s.length]? = some d := by rw [← ht]; simp
          have e1 : (trc ls L a n (s ++ [d]) (onTo ls L d a)).ds[s.length + 1]? = some (onTo ls L d a) := by rw [← ht]; simp
          rw [List.getElem?_eq_getElem (by omega)] at e0 e1
          rw [Option.some.inj e0, Option.some.inj e1]
          exact ⟨h4, rfl⟩
        · exact h.steps i hi' (by simp; omega)
      · rw [trc_end hds h4]
        refine ⟨s, d, ⟨rfl, hs, dev_snoc hi hd, fun i h hsi => ?_, .inr ⟨h4, hds, rfl⟩⟩, List.prefix_refl _⟩
        simp at h; omega
theorem trcN_spec {ps : List Int} {ls : List Lk} (hR : RT ps ls) {L : List Ru} {a : Nat} {d : Int} (hd : inD ps d) : ∃ ini last, IsTc ps ls L a [] (trcN ps ls L a d) ini last ∧ [d] <+: (trcN ps ls L a d).ds := by
  have := trc_spec hR (L := L) (a := a) (ps.length + 1) [] d List.nodup_nil (fun x hx => by simp at hx) hd (by simp)
  simpa [trcN] using this
/-- A trace that is not looped does not hang on where it was ahead. -/
theorem trc_less {ls : List Lk} {L : List Ru} {a : Nat} : ∀ (n : Nat) (s s' : List Int) (d : Int), (∀ y ∈ s', y ∈ s) → (trc ls L a n s d).ft ≠ 4 →
    trc ls L a n s' d = ⟨s' ++ (trc ls L a n s d).ds.drop s.length, (trc ls L a n s d).ft, (trc ls L a n s d).out⟩ := by
  intro n
  induction n with
  | zero => intro s s' d _ h; exact absurd rfl h
  | succ n ih =>
    intro s s' d hsub h
    by_cases hds : d ∈ s
    · rw [trc_in hds] at h; exact absurd rfl h
    · have hds' : d ∉ s' := fun hm => hds (hsub d hm)
      by_cases h4 : (stepN ls L d a).1 = 4
      · rw [trc_on hds h4] at h ⊢
        rw [trc_on hds' h4]
        have := ih (s ++ [d]) (s' ++ [d]) (onTo ls L d a) (fun y hy => by
          rcases List.mem_append.1 hy with hy | hy
          · exact List.mem_append_left _ (hsub y hy)
          · exact List.mem_append_right _ hy) h
        rw [this]
        -- the devices begin with s ++ [d]
        have hp : ∀ (m : Nat) (s : List Int) (d : Int), s ++ [d] <+: (trc ls L a m s d).ds := by
          intro m
          induction m with
          | zero => intro s d; exact List.prefix_refl _
          | succ m ihm =>
            intro s d
            by_cases hx : d ∈ s
            · rw [trc_in hx]; exact List.prefix_refl _
            · by_cases hy : (stepN ls L d a).1 = 4
              · rw [trc_on hx hy]; exact (List.prefix_append _ _).trans (ihm _ _)
              · rw [trc_end hx hy]; exact List.prefix_refl _
        obtain ⟨t, ht⟩ := (List.prefix_append (s ++ [d]) [onTo ls L d a]).trans (hp n (s ++ [d]) (onTo ls L d a))
        rw [Tc.eq_iff]
        refine ⟨?_, rfl, rfl⟩
        show s' ++ [d] ++ List.drop (s ++ [d]).length _ = s' ++ List.drop s.length _
        rw [← ht]
        simp
      · rw [trc_end hds h4] at h ⊢
        rw [trc_end hds' h4]
        simp
/-- In its midst. -/
theorem trc_mid {ls : List Lk} {L : List Ru} {a : Nat} : ∀ (n : Nat) (s : List Int) (d : Int) (i : Nat) (h : i < (trc ls L a n s d).ds.length), s.length ≤ i → (trc ls L a n s d).ft ≠ 4 →
    ∃ m, m + i = n + s.length ∧ trc ls L a n s d = trc ls L a m ((trc ls L a n s d).ds.take i) (trc ls L a n s d).ds[i] := by
  intro n
  induction n with
  | zero => intro s d i _ _ h; exact absurd rfl h
  | succ n ih =>
    intro s d i hi hsi h
    by_cases hds : d ∈ s
    · rw [trc_in hds] at h; exact absurd rfl h
    · by_cases h4 : (stepN ls L d a).1 = 4
      · by_cases his : i = s.length
        · subst his
          refine ⟨n + 1, rfl, ?_⟩
          have hp : s ++ [d] <+: (trc ls L a (n + 1) s d).ds := by
            have hp : ∀ (m : Nat) (s : List Int) (d : Int), s ++ [d] <+: (trc ls L a m s d).ds := by
              intro m
              induction m with
              | zero => intro s d; exact List.prefix_refl _
              | succ m ihm =>
                intro s d
                by_cases hx : d ∈ s
                · rw [trc_in hx]; exact List.prefix_refl _
                · by_cases hy : (stepN ls L d a).1 = 4
                  · rw [trc_on hx hy]; exact (List.prefix_append _ _).trans (ihm _ _)
                  · rw [trc_end hx hy]; exact List.prefix_refl _
            exact hp _ _ _
          obtain ⟨t, ht⟩ := hp
          have e0 : (trc ls L a (n + 1) s d).ds[s.length]? = some d := by rw [← ht]; simp
          rw [List.getElem?_eq_getElem hi] at e0
          have e1 : (trc ls L a (n + 1) s d).ds.take s.length = s := by rw [← ht]; simp
          rw [Option.some.inj e0, e1]
        · have e := trc_on (ls := ls) (L := L) (a := a) (n := n) hds h4
          have hi2 : i < (trc ls L a n (s ++ [d]) (onTo ls L d a)).ds.length := by rw [← e]; exact hi
          obtain ⟨m, hm, hh⟩ := ih (s ++ [d]) (onTo ls L d a) i hi2 (by simp; omega) (by rw [← e]; exact h)
          refine ⟨m, by simp at hm; omega, ?_⟩
          simp only [e]
          exact hh
      · have e := trc_end (ls := ls) (L := L) (a := a) (n := n) hds h4
        have : i = s.length := by rw [e] at hi; simp at hi; omega
        subst this
        refine ⟨n + 1, rfl, ?_⟩
        have e0 : (trc ls L a (n + 1) s d).ds[s.length]? = some d := by rw [e]; simp
        rw [List.getElem?_eq_getElem hi] at e0
        have e1 : (trc ls L a (n + 1) s d).ds.take s.length = s := by rw [e]; simp
        rw [Option.some.inj e0, e1]
/-- STEP BY STEP. -/
theorem trcN_rest {ps : List Int} {ls : List Lk} (hR : RT ps ls) {L : List Ru} {a : Nat} {d : Int} (hd : inD ps d) (h4 : (trcN ps ls L a d).ft ≠ 4) (i : Nat) (hi : i < (trcN ps ls L a d).ds.length) :
    trcN ps ls L a (trcN ps ls L a d).ds[i] = ⟨(trcN ps ls L a d).ds.drop i, (trcN ps ls L a d).ft, (trcN ps ls L a d).out⟩ := by
  obtain ⟨ini, last, hs, _⟩ := trcN_spec hR (L := L) (a := a) hd
  obtain ⟨m, hm, hh⟩ := trc_mid (ls := ls) (L := L) (a := a) (ps.length + 1) [] d i hi (Nat.zero_le _) h4
  have hlt : i ≤ ps.length := by
    have h1 := hs.ds
    have h2 := nodup_room (n := ps.length) hs.nd (fun y hy => hs.dev y (by rw [h1]; exact List.mem_append_left _ hy))
    have h3 : (trcN ps ls L a d).ds.length = ini.length + 1 := by rw [h1]; simp
    omega
  simp only [List.length_nil, Nat.add_zero] at hm
  change trcN ps ls L a d = trc ls L a m ((trcN ps ls L a d).ds.take i) (trcN ps ls L a d).ds[i] at hh
  have h5 := trc_less (ls := ls) (L := L) (a := a) m ((trcN ps ls L a d).ds.take i) [] (trcN ps ls L a d).ds[i] (fun y hy => by simp at hy) (by rw [← hh]; exact h4)
  rw [← hh] at h5
  have hdi := hs.dev _ (List.getElem_mem hi)
  have h6 : trcN ps ls L a (trcN ps ls L a d).ds[i] = trc ls L a m [] (trcN ps ls L a d).ds[i] := by
    obtain ⟨m', rfl⟩ : ∃ m', m = m' + 1 := ⟨m - 1, by omega⟩
    by_cases hm' : ps.length ≤ m'
    · exact trc_more hR ps.length m' [] _ List.nodup_nil (fun y hy => by simp at hy) hdi (by simp) (by simpa using hm')
    · -- fewer: a trace that ended with less ends so with more
      have grow : ∀ (n : Nat) (s : List Int) (d : Int), (trc ls L a n s d).ft ≠ 4 → ∀ k, trc ls L a (n + k) s d = trc ls L a n s d := by
        intro n
        induction n with
        | zero => intro s d h; exact absurd rfl h
        | succ n ih =>
          intro s d h k
          rw [show n + 1 + k = (n + k) + 1 by omega]
          by_cases hx : d ∈ s
          · rw [trc_in hx, trc_in hx]
          · by_cases hy : (stepN ls L d a).1 = 4
            · rw [trc_on hx hy] at h ⊢
              rw [trc_on hx hy]
              exact ih _ _ h k
            · rw [trc_end hx hy, trc_end hx hy]
      have := grow (m' + 1) [] (trcN ps ls L a d).ds[i] (by rw [h5]; exact h4) (ps.length - m')
      rw [← this]
      unfold trcN
      congr 1
      omega
  rw [h6, h5]
  simp
/-! Numbers. -/
theorem stepN_w {ps : List Int} {ls : List Lk} {L : List Ru} (hW : NW ps ls L) {d : Int} (hd : isI d) (a : Nat) : isI (stepN ls L d a).1 ∧ isPt (stepN ls L d a).2 := by
  have z : isPt ⟨0, 0⟩ := by simp [isPt, isI]
  cases hb : denB L d a with
  | true => rw [stepN_den hb]; exact ⟨by simp [isI], z⟩
  | false =>
    rw [stepN_go hb]
    rcases firstL_is (tk d 0 1 a) L with ⟨h, _⟩ | ⟨r, h, hm, _, _⟩
    · rw [h]; exact ⟨by show isI 0; simp [isI], z⟩
    · rw [h]
      have hp := (hW.rules r hm).2.2.2.2.2.2
      by_cases hk : r.kd = 1
      · rw [goP_drop hk]; exact ⟨by simp [isI], z⟩
      · cases hn : nextT ls ⟨d, r.pt⟩ with
        | none => rw [goP_out hk hn]; exact ⟨by simp [isI], hd, hp⟩
        | some q => rw [goP_on hk hn]; exact ⟨by simp [isI], hd, hp⟩
theorem stepN_p {ls : List Lk} {L : List Ru} (hL : allB L = true) (d : Int) (a : Nat) : 0 ≤ (stepN ls L d a).2.p ∧ (stepN ls L d a).2.p ≤ 3 := by
  have z : (0 : Int) ≤ (⟨0, 0⟩ : Pt).p ∧ (⟨0, 0⟩ : Pt).p ≤ 3 := by simp
  cases hb : denB L d a with
  | true => rw [stepN_den hb]; exact z
  | false =>
    rw [stepN_go hb]
    rcases firstL_is (tk d 0 1 a) L with ⟨h, _⟩ | ⟨r, h, hm, _, _⟩
    · rw [h]; exact z
    · rw [h]
      obtain ⟨k, hk', rfl⟩ := List.getElem_of_mem hm
      obtain ⟨_, _, _, _, _, _, h0, h3, _⟩ := (ruB_iff _).1 (((allB_iff L).1 hL).2 k hk').1
      by_cases hk : L[k].kd = 1
      · rw [goP_drop hk]; exact z
      · cases hn : nextT ls ⟨d, L[k].pt⟩ with
        | none => rw [goP_out hk hn]; exact ⟨h0, h3⟩
        | some q => rw [goP_on hk hn]; exact ⟨h0, h3⟩
theorem trcN_small {ps : List Int} {ls : List Lk} {L : List Ru} (hR : RN ps ls L) {a : Nat} {d : Int} (hd : inD ps d) : (0 ≤ (trcN ps ls L a d).ft ∧ (trcN ps ls L a d).ft ≤ 4) ∧ 0 ≤ (trcN ps ls L a d).out.p ∧ (trcN ps ls L a d).out.p ≤ 3 := by
  obtain ⟨ini, last, h, _⟩ := trcN_spec hR.topo (L := L) (a := a) hd
  rcases h.fin with ⟨h1, h2, _⟩ | ⟨_, _, h3⟩
  · rw [h1, h2]; simp
  · have hp := stepN_p (ls := ls) hR.rules last a
    have hf := stepN_is ls L last a
    rw [h3] at hp hf
    dsimp only at hp hf
    refine ⟨?_, hp⟩
    rcases hf with ⟨h4, h5, _⟩ | ⟨_, ⟨h4, _⟩ | ⟨h4, _⟩⟩ <;> omega
theorem inD_isI {ps : List Int} (h8 : ps.length ≤ 8) {d : Int} (h : inD ps d) : isI d := by
  unfold inD at h; unfold isI; omega
theorem trcN_w {ps : List Int} {ls : List Lk} {L : List Ru} (hR : RT ps ls) (hW : NW ps ls L) {a : Nat} {d : Int} (hd : inD ps d) : TcW (trcN ps ls L a d) := by
  obtain ⟨ini, last, h, _⟩ := trcN_spec hR (L := L) (a := a) hd
  have hl : isI last := inD_isI hR.n8 (h.dev last (by rw [h.ds]; simp))
  refine ⟨fun y hy => inD_isI hR.n8 (h.dev y hy), ?_, ?_⟩
  · rcases h.fin with ⟨h1, _⟩ | ⟨_, _, h3⟩
    · rw [h1]; simp [isI]
    · have := (stepN_w hW hl a).1; rw [h3] at this; exact this
  · rcases h.fin with ⟨_, h2, _⟩ | ⟨_, _, h3⟩
    · rw [h2]; simp [isPt, isI]
    · have := (stepN_w hW hl a).2; rw [h3] at this; exact this
theorem genT_self {ps : List Int} {ls : List Lk} {L : List Ru} (hR : RT ps ls) {a : Nat} {d : Int} (hd : inD ps d) : genT ps ls L a (trcN ps ls L a d) = true := by
  obtain ⟨ini, last, _, t, ht⟩ := trcN_spec hR (L := L) (a := a) hd
  unfold genT
  rw [← ht]
  simp [hd]
/-- Another trace with the same first device, or none, is not genuine. -/
theorem genT_not {ps : List Int} {ls : List Lk} {L : List Ru} {a : Nat} {d : Int} {x : Tc} (hx : x ≠ trcN ps ls L a d) (hh : x.ds = [] ∨ ∃ t, x.ds = d :: t) : genT ps ls L a x = false := by
  unfold genT
  rcases hh with h | ⟨t, h⟩
  · rw [h]
  · rw [h]
    simp only [Bool.and_eq_false_iff, decide_eq_false_iff_not]
    exact .inr fun e => hx e.symm
end Go.Proofs.Ytmndgbpfophniaa
