/- Contracts: fate.devices, an iterator that may have no end. -/
import Derived.Test.YtmndgbpfophniaaFS
import Derived.Test.YtmndgbpfophniaaFQ
import Derived.Test.YtmndgbpfophniaaRC
namespace Go.Proofs.Ytmndgbpfophniaa
open Go.RowKit Go.Shelf
attribute [local go_sem] Oper.semAt_some
attribute [local go_sem] wide_fn

/-- What the iterator holds. -/
def dvB (B : Nat) : Array Value := #[.pointer (some ⟨B + 1, 0, none⟩), .pointer (some ⟨B, 0, none⟩), .pointer (some ⟨B + 1 + 1, 0, none⟩)]
def enD (x : Int) : Array Value := #[.int .i64 x]
/-- What it asks of its caller: its own three boxes, the network, and in the box Bc as many devices as it has handed over, each once. -/
structure DvC (vp vl vr : Value) (ps : List Int) (ls : List Lk) (L : List Ru) (a : Nat) (d : Int) (B Bc : Nat) (s : List Int) (W : World) : Prop where
  net : At W B #[vp, vl, vr] 28
  dev : At W (B + 1) #[.int .i64 d] 3
  adr : At W (B + 1 + 1) #[.int .u32 a] 29
  isN : IsN W vp vl vr ps ls L
  len : lenAt W Bc = s.length
  lt : Bc < W.heap.size
  eq : s = dvs ls L a d s.length
  nd : s.Nodup
  go : goes ls L a d (s.length - 1)
/-- The next one. -/
def DvN (ls : List Lk) (L : List Ru) (a : Nat) (d : Int) (s : List Int) (x : Int) : Prop := x = dvI ls L a d s.length ∧ goes ls L a d s.length
/-- Where it ends. -/
def DvS (ls : List Lk) (L : List Ru) (a : Nat) (d : Int) (s : List Int) : Prop := ∃ k, s.length = k + 1 ∧ (stepN ls L (dvI ls L a d k) a).1 ≠ 4
theorem DvC.room {vp vl vr : Value} {ps : List Int} {ls : List Lk} {L : List Ru} {a : Nat} {d : Int} {B Bc : Nat} {s : List Int} {W : World} (h : DvC vp vl vr ps ls L a d B Bc s W) : s.length ≤ L.length + 1 := by
  obtain ⟨k, hk⟩ : ∃ k, s.length - 1 = k := ⟨_, rfl⟩
  have hg := h.go
  have he := h.eq
  have hn := h.nd
  rw [hk] at hg
  by_cases h0 : s.length = 0
  · omega
  · rw [show s.length = k + 1 by omega, dvs_succ] at he
    rw [he] at hn
    have := goes_room hg (nodup_snoc_iff.1 hn).1
    omega
set_option maxRecDepth 100000 in
theorem devices_in {A1 A2 A3 : Option Addr} {n1 c1 n2 c2 n3 c3 : Nat} (d : Int) (a : Nat) (n : Nat) (w : World) : CallsIn Fence.wide n Try.prog 27 #[.agg #[.slice A1 n1 c1, .slice A2 n2 c2, .slice A3 n3 c3], .int .i64 d, .int .u32 a] w fun e w' => e = .returned (.func (.func 45) #[] (dvB w.heap.size)) ∧
    w' = ((w.alloc (.cells #[.slice A1 n1 c1, .slice A2 n2 c2, .slice A3 n3 c3] 28)).alloc (.cells #[.int .i64 d] 3)).alloc (.cells #[.int .u32 a] 29) := by
  refine callsIn_of_wp Try.func27 rfl trivial ?_ rfl
  simp only [Try.ntmps27, List.size_toArray, List.length_cons, List.length_nil, Nat.reduceAdd, Nat.reduceSub, Array.replicate_succ, Array.replicate_zero, List.push_toArray, List.append_toArray, List.nil_append, List.cons_append]
  gi_wp2
  go_ret
  exact ⟨rfl, rfl⟩
set_option maxRecDepth 100000 in
set_option maxHeartbeats 4000000 in
theorem devices1_in {A1 A2 A3 : Option Addr} {n1 c1 n2 c2 n3 c3 : Nat} (ps : List Int) (ls : List Lk) (L : List Ru) (a : Nat) (d : Int) (B Bc n : Nat) (hn : 1 ≤ n) :
    HandsC Fence.wide n Try.prog 45 (dvB B) enD (DvC (.slice A1 n1 c1) (.slice A2 n2 c2) (.slice A3 n3 c3) ps ls L a d B Bc) (DvN ls L a d) (DvS ls L a d) := by
  intro l J Jx W hJ hC h0 hY
  have HC := Lib.hid hC
  have HJ : Hid (∀ s U U', J s U → Below U.heap.size U U' → J s U') := Lib.hid fun s U U' h hb => hJ s U U' none h (grown_none hb) (fun r e => by cases e)
  have HY := Lib.hid hY
  have H0 := Lib.hid h0
  have c0 := hC [] W h0
  have x1 := (c0.dev.cell 0).trans rfl
  clear hC hJ hY h0 c0
  unfold dvB
  refine callsIn_of_wp Try.func45 rfl trivial ?_ rfl
  simp only [Try.ntmps45, List.size_toArray, List.length_cons, List.length_nil, Nat.reduceAdd, Nat.reduceSub, Array.replicate_succ, Array.replicate_zero, List.push_toArray, List.append_toArray, List.nil_append, List.cons_append]
  gi_wp2
  gi_loopw [5] (fun v wr => ∃ x : Int, v = .int .i64 x ∧ Hid (∃ s, J s wr ∧ DvN ls L a d s x)) (fun _ wr => L.length + 3 - lenAt wr Bc)
  case atStart => exact ⟨d, rfl, Lib.hid ⟨[], H0.out, rfl, fun i hi => absurd hi (by simp)⟩⟩
  case round =>
    obtain ⟨x, rfl, HR⟩ := hrel
    obtain ⟨s, hj, hnx⟩ := HR.out
    clear HR x1
    have hroom := (HC.out s wr hj).room
    have hlen := (HC.out s wr hj).len
    rw [hlen]
    have HN := Lib.hid hnx
    obtain ⟨fn, tmps, assign, body, hy, hR⟩ := HY.out s x wr hj hnx
    unfold enD at hy
    clear hj hnx hlen
    gi_wp2
    refine hR.mono ?_
    clear hy hR
    rintro e W3 (⟨rfl, hj⟩ | ⟨rfl, hjx⟩)
    · have HC3 := Lib.hid (HC.out _ _ hj)
      have HJ3 := Lib.hid hj
      have y0 := (HC3.out.net.cell 0).trans rfl; have y1 := (HC3.out.net.cell 1).trans rfl; have y2 := (HC3.out.net.cell 2).trans rfl
      have y3 := (HC3.out.adr.cell 0).trans rfl
      have k1 := fstep_any ps ls L x a W3 HC3.out.isN
      have hs1 := HC3.out.net.lt
      clear hj
      obtain ⟨st, hst⟩ : ∃ st, st = stepN ls L x a := ⟨_, rfl⟩
      rw [← hst] at k1
      have HS : Hid (st = stepN ls L (dvI ls L a d s.length) a) := Lib.hid (by rw [hst, HN.out.1])
      have HO : Hid (onTo ls L x a = ((nextT ls st.2).getD ⟨0, 0⟩).d) := Lib.hid (by rw [hst]; rfl)
      clear hst
      obtain ⟨f, ⟨pd, pp⟩⟩ := st
      rw [show stepV (f, ⟨pd, pp⟩) = .tuple #[.int .i64 f, .agg #[.int .i64 pd, .int .i64 pp]] from rfl] at k1
      dsimp only at HO
      gi_upto_region 3 with (gi_at_call 13; refine (callsIn_wide.2 k1).mono ?_; rintro e w4 ⟨rfl, b4⟩)
      obtain ⟨w5, hw5⟩ : ∃ w5, w5 = w4.alloc (.cells #[.int .i64 pd, .int .i64 pp] 34) := ⟨_, rfl⟩
      have b5 : Below W3.heap.size W3 w5 := by rw [hw5]; exact b4.alloc b4.size _
      have P5 : At w5 w4.heap.size #[.int .i64 pd, .int .i64 pp] 34 := by rw [hw5]; exact At.new w4 _ _
      rw [← hw5]
      have HJ5 := Lib.hid (HJ.out _ _ _ HJ3.out b5)
      have HC5 := Lib.hid (HC.out _ _ HJ5.out)
      clear hw5 b4 y0 y1 y2 y3 k1 hs1
      by_cases h4 : f = 4
      · have hd : (f == 4) = true := by simp [h4]
        have hd2 : (!(f == 4)) = false := by simp [h4]
        have HG : Hid (goes ls L a d (s.length + 1)) := Lib.hid fun i hi => by
          by_cases his : i < s.length
          · exact HN.out.2 i his
          · rw [show i = s.length by omega, ← HS.out]; exact h4
        have z0 := (HC5.out.net.cell 0).trans rfl; have z1 := (HC5.out.net.cell 1).trans rfl
        have p0 := (P5.cell 0).trans rfl; have p1 := (P5.cell 1).trans rfl
        have k2 := next_any ps ls ⟨pd, pp⟩ w5 HC5.out.isN.1
        obtain ⟨qo, hqo⟩ : ∃ qo, qo = nextT ls ⟨pd, pp⟩ := ⟨_, rfl⟩
        rw [← hqo] at k2 HO
        rw [show nextV qo = .tuple #[.agg #[.int .i64 (qo.getD ⟨0, 0⟩).d, .int .i64 (qo.getD ⟨0, 0⟩).p], .bool qo.isSome] from rfl, show ptA ⟨pd, pp⟩ = #[.int .i64 pd, .int .i64 pp] from rfl] at k2
        generalize qo.isSome = qb at k2
        generalize hqg : qo.getD ⟨0, 0⟩ = qg at k2 HO
        obtain ⟨qd, qp⟩ := qg
        dsimp only at k2 HO
        clear hqo hqg
        subst h4
        gi_wp2_with (gi_at_call 32; refine (callsIn_wide.2 k2).mono ?_; rintro e w6 ⟨rfl, b6⟩)
        have HJ7 := Lib.hid (HJ.out _ _ (w6.alloc (.cells #[.int .i64 qd, .int .i64 qp] 34)) HJ5.out (b6.alloc b6.size _))
        go_roundw
        case rel => exact ⟨onTo ls L x a, by rw [HO.out], Lib.hid ⟨_, HJ7.out, by rw [List.length_append, List.length_singleton]; show _ = onTo ls L (dvI ls L a d s.length) a; rw [HN.out.1], by rw [List.length_append, List.length_singleton]; exact HG.out⟩⟩
        case measure =>
          rw [(HC.out _ _ HJ7.out).len]
          simp
          omega
      · have hd : (f == 4) = false := by simp [h4]
        have hd2 : (!(f == 4)) = true := by simp [h4]
        have HG : Hid (DvS ls L a d (s ++ [x])) := Lib.hid ⟨s.length, by simp, by rw [← HS.out]; exact h4⟩
        clear h4
        gi_wp2
        refine bodyPost_ret (results_none rfl _ _ _) rfl ?_
        exact ⟨⟨_, rfl⟩, .inl ⟨_, HG.out, HJ5.out⟩⟩
    · gi_wp2
      refine bodyPost_end (results_none rfl _ _ _) rfl ?_
      exact ⟨⟨_, rfl⟩, .inr ⟨_, hjx⟩⟩
end Go.Proofs.Ytmndgbpfophniaa
