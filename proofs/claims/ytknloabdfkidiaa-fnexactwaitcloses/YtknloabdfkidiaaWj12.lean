/- The contracts of the program's WaitsOk, WaitNext, WaitRing, WaitCloses, WaitFree. Conditions: at most 2^20 waits. -/
import Derived.Test.YtknloabdfkidiaaWi12
namespace Go.Proofs.Ytknloabdfkidiaa
open Go.RowKit Go.Maps
set_option maxRecDepth 100000

theorem implWaitsOk {a : Option Addr} {n : Nat} (c : Nat) {l : List Wt} {w : World} (h : ReadsW2 w a n l) (hn : n ≤ 1048576) :
    Calls Try.prog 15 #[.slice a n c] w fun e w' => e = .returned (.bool (okW l)) ∧ Below w.heap.size w w' := by
  go_enter Try.func15, Try.ntmps15
  go_wp2_with fail
  refine (impl_waitingOf c h hn).mono ?_
  rintro e w1 ⟨hB, ⟨hok, b, s, rfl, hb, hM⟩ | ⟨hok, rfl⟩⟩
  · have HB := hid hB
    have HO := hid hok
    clear hB hok hM hb
    go_wp2_with fail
    go_ret
    exact ⟨by rw [HO.out]; rfl, HB.out⟩
  · have HB := hid hB
    have HO := hid hok
    clear hB hok
    go_wp2_with fail
    go_ret
    exact ⟨by rw [HO.out]; rfl, HB.out⟩

theorem implWaitNext {a : Option Addr} {n : Nat} (c : Nat) {l : List Wt} {w : World} (h : ReadsW2 w a n l) (hn : n ≤ 1048576) (x : Int) (hx : i64b x) :
    Calls Try.prog 11 #[.slice a n c, .int .i64 x] w fun e w' => e = .returned (.tuple #[.int .i64 ((nextW l x).getD 0), .bool (nextW l x).isSome]) ∧ Below w.heap.size w w' := by
  go_enter Try.func11, Try.ntmps11
  go_wp2_with fail
  refine (impl_waitingOf c h hn).mono ?_
  rintro e w1 ⟨hB, ⟨hok, b, s, rfl, hb, hM⟩ | ⟨hok, rfl⟩⟩
  · have HB := hid hB
    have HM := hid hM
    clear hB hok hM hb
    go_wp2_with (at_lookup; refine wp_look_ok rfl _ _ rfl b n s _ rfl HM.out x rfl hx ?_)
    go_ret2
    exact ⟨rfl, HB.out⟩
  · have HB := hid hB
    have HO := hid (show nextW l x = none by unfold nextW; rw [hok]; rfl)
    have HH := look_nil12 x hx
    clear hB hok
    go_wp2_with fail
    go_ret2
    exact ⟨by rw [HO.out]; rfl, HB.out⟩

theorem implWaitRing {a : Option Addr} {n : Nat} (c : Nat) {l : List Wt} {w : World} (h : ReadsW2 w a n l) (hn : n ≤ 1048576) (x : Int) (hx : i64b x) :
    Calls Try.prog 13 #[.slice a n c, .int .i64 x] w fun e w' => ∃ v, e = .returned v ∧ AnsK w (ringW l x) v w' ∧ (ringW l x).length ≤ n + 2 ∧ Below w.heap.size w w' := by
  have hl := h.len
  go_enter Try.func13, Try.ntmps13
  go_wp2_with fail
  refine (impl_waitingOf c h hn).mono ?_
  rintro e w1 ⟨hB, ⟨hok, b, s, rfl, hb, hM⟩ | ⟨hok, rfl⟩⟩
  · have HB := hid hB
    have HM := hid hM
    have HO := hid hok
    have HL := hid (of_decide_eq_true hok).1
    have HBB := hid hb
    clear hB hok hM hb
    go_wp2_with fail
    refine (impl_wayFrom (w0 := w) h.bd HL.out HM.out HBB.out HB.out x hx).mono ?_
    rintro e w2 ⟨v, Y, z, rfl, hO, hbd, hW, hE, hB2⟩
    have HR := hid (way_ring hW hE)
    have HOO := hid hO
    have HYY := hid hbd
    have HLY := hid hW.len
    have HB2 := hid hB2
    clear hO hbd hW hE hB2 HB HM
    by_cases hzx : z = x
    · subst hzx
      have qq : (z != z) = false := by simp
      have e1 := HR.out
      rw [if_pos rfl] at e1
      have HR2 := hid e1
      clear e1 HR
      go_wp2_with fail
      go_ret
      rw [HR2.out]
      exact ⟨_, rfl, ⟨HOO.out, HYY.out⟩, by have := HLY.out; omega, HB2.out⟩
    · have qq : (z != x) = true := by simpa using hzx
      have e1 := HR.out
      rw [if_neg hzx] at e1
      have HR2 := hid e1
      clear e1 HR hzx
      go_wp2_with fail
      go_ret
      rw [HR2.out]
      exact ⟨_, rfl, AnsK.nil _ _, by simp, HB2.out⟩
  · have HB := hid hB
    have HO := hid (show ringW l x = [] by unfold ringW ringF; rw [show nextW l x = none by unfold nextW; rw [hok]; rfl])
    clear hB hok
    go_wp2_with fail
    refine (impl_wayFrom_nil _ x hx).mono ?_
    rintro e w2 ⟨rfl, e2⟩
    subst w2
    have qq : (x != x) = false := by simp
    go_wp2_with fail
    go_ret
    rw [HO.out]
    exact ⟨_, rfl, AnsK.nil _ _, by simp, HB.out⟩

theorem implWaitCloses {a : Option Addr} {n : Nat} (c : Nat) {l : List Wt} {w : World} (h : ReadsW2 w a n l) (hn : n ≤ 1048576) (x y : Int) (hx : i64b x) (hy : i64b y) :
    Calls Try.prog 12 #[.slice a n c, .int .i64 x, .int .i64 y] w fun e w' => e = .returned (.bool (closeW l x y)) ∧ Below w.heap.size w w' := by
  go_enter Try.func12, Try.ntmps12
  go_wp2_with fail
  refine (impl_waitingOf c h hn).mono ?_
  rintro e w1 ⟨hB, ⟨hok, b, s, rfl, hb, hM⟩ | ⟨hok, rfl⟩⟩
  · have HB := hid hB
    have HM := hid hM
    have HO := hid hok
    have HL := hid (of_decide_eq_true hok).1
    have HBB := hid hb
    clear hB hok hM hb
    go_wp2_with fail
    refine (impl_has HM.out x hx).mono ?_
    rintro e w2 ⟨rfl, e2⟩
    subst w2
    cases hnx : nextW l x with
    | some z =>
      have HC := hid (show closeW l x y = false by unfold closeW; rw [hnx]; simp)
      clear hnx
      go_wp2_with fail
      go_ret
      exact ⟨by rw [HC.out]; rfl, HB.out⟩
    | none =>
      have HN := hid hnx
      clear hnx
      go_wp2_with fail
      refine (impl_wayFrom (w0 := w) h.bd HL.out HM.out HBB.out HB.out y hy).mono ?_
      rintro e w2 ⟨v, Y, z, rfl, hO, hbd, hW, hE, hB2⟩
      have HR := hid (way_close hW hE HO.out HN.out)
      have HB2 := hid hB2
      clear hO hbd hW hE hB2 HB HM
      go_wp2_with fail
      go_ret
      refine ⟨?_, HB2.out⟩
      rw [HR.out]
      by_cases hzx : z = x
      · subst hzx; simp
      · simp [hzx]
  · have HB := hid hB
    have HO := hid (show closeW l x y = false by unfold closeW; rw [hok]; rfl)
    clear hB hok
    go_wp2_with fail
    go_ret
    exact ⟨by rw [HO.out]; rfl, HB.out⟩

theorem still_left {l : List Wt} {y : Int} (hok : okW l = true) : stillL l (rem (freeL l y) (nextW l)) = leftW l y := by
  unfold leftW stillL
  rw [if_pos hok]
  apply List.filter_congr
  intro p hp
  have hn := (of_decide_eq_true hok).2
  have h1 : nextW l p.1 = some p.2 := by
    unfold nextW
    rw [if_pos hok]
    obtain ⟨i, hi, rfl⟩ := List.getElem_of_mem hp
    have e : l.getD i wt0 = l[i] := by simp [List.getD, hi]
    have := nextF_at l i (l[i]).1 hi (fun t ht => ?_) (by rw [e])
    · rw [this, e]
    · have e2 : l.getD t wt0 = l[t]'(by omega) := by simp [List.getD, show t < l.length by omega]
      rw [e2]
      have := List.pairwise_iff_getElem.1 hn t i (by simp; omega) (by simpa using hi) ht
      simpa using this
  have h2 : p.1 ∈ freeL l y ↔ p.2 = y := by
    unfold freeL
    constructor
    · intro h
      obtain ⟨q, hq, e⟩ := List.mem_map.1 h
      obtain ⟨hq1, hq2⟩ := List.mem_filter.1 hq
      have hq3 : q.2 = y := by simpa using hq2
      have hqe : nextW l q.1 = some q.2 := by
        unfold nextW
        rw [if_pos hok]
        obtain ⟨i, hi, rfl⟩ := List.getElem_of_mem hq1
        have e : l.getD i wt0 = l[i] := by simp [List.getD, hi]
        have := nextF_at l i (l[i]).1 hi (fun t ht => ?_) (by rw [e])
        · rw [this, e]
        · have e2 : l.getD t wt0 = l[t]'(by omega) := by simp [List.getD, show t < l.length by omega]
          rw [e2]
          have := List.pairwise_iff_getElem.1 hn t i (by simp; omega) (by simpa using hi) ht
          simpa using this
      rw [e, h1] at hqe
      injection hqe with e3
      rw [e3]; exact hq3
    · intro h
      exact List.mem_map.2 ⟨p, List.mem_filter.2 ⟨hp, by simpa using h⟩, rfl⟩
  unfold rem
  by_cases hy : p.2 = y
  · rw [if_pos (h2.2 hy)]; simp [hy]
  · rw [if_neg (fun q => hy (h2.1 q)), h1]; simp [hy]

theorem implWaitFree {a : Option Addr} {n : Nat} (c : Nat) {l : List Wt} {w : World} (h : ReadsW2 w a n l) (hn : n ≤ 1048576) (x : Int) (_hx : i64b x) :
    Calls Try.prog 14 #[.slice a n c, .int .i64 x] w fun e w' => AnsF w (leftW l x) (freeW l x) e w' := by
  go_enter Try.func14, Try.ntmps14
  go_wp2_with fail
  refine (impl_waitingOf c h hn).mono ?_
  rintro e w1 ⟨hB, ⟨hok, b, s, rfl, hb, hM⟩ | ⟨hok, rfl⟩⟩
  · have HB := hid hB
    have HM := hid hM
    have HO := hid hok
    have HBB := hid hb
    clear hB hok hM hb
    go_wp2_with fail
    refine (impl_free (w0 := w) c h hn HM.out HBB.out HB.out x).mono ?_
    rintro e w2 ⟨a2, c2, rfl, hO, hbd, ⟨s2, hM2⟩, hB2⟩
    have HF := hid hO
    have HBF := hid hbd
    have HM2 := hid hM2
    have HB2 := hid hB2
    clear hO hbd hM2 hB2 HM HB
    go_wp2_with fail
    refine (impl_stillOf c (h.below HB2.out (Nat.le_refl _)) hn HM2.out).mono ?_
    rintro e w3 ⟨a3, c3, rfl, hO3, hbd3, hB3⟩
    have HL := hid hO3
    have HBL := hid hbd3
    have HF3 := hid (owns_below hB3 (Nat.le_refl _) HF.out)
    have HB3 := hid (HB2.out.trans (hB3.mono HB2.out.size))
    clear hO3 hbd3 hB3
    go_wp2_with fail
    go_ret2
    have e1 := still_left (y := x) HO.out
    have e2 : freeL l x = freeW l x := by unfold freeL freeW; rw [HO.out]; rfl
    have f1 := HL.out
    have f2 := HBL.out
    have f3 := HF3.out
    have f4 := HBF.out
    rw [e1] at f1 f2 ⊢
    rw [e2] at f3 f4 ⊢
    exact ⟨a3, c3, a2, c2, rfl, owns_base f1 HB2.out.size, f3, f2, f4, HB3.out⟩
  · have HB := hid hB
    have e1 := hid (show leftW l x = [] by unfold leftW; rw [hok]; rfl)
    have e2 := hid (show freeW l x = [] by unfold freeW; rw [hok]; rfl)
    clear hB hok
    go_wp2_with fail
    go_ret2
    rw [e1.out, e2.out]
    exact ⟨none, 0, none, 0, rfl, World.ownsRow_nil _ _ _ _, World.ownsRow_nil _ _ _ _, bdW_nil, bdL_nil, HB.out⟩
end Go.Proofs.Ytknloabdfkidiaa
