/- Marks of tracks that are the call's own; EdgeBegin, plain, and the contract of the specification's. Conditions: at most 2^20 tracks, reads and writes, texts of at most 2^21 bytes. -/
import Derived.Test.YtnhlfkffllbpiaaEo13
import Derived.Test.YtnhlfkffllbpiaaEm13
namespace Go.Proofs.Ytnhlfkffllbpiaa
open Go.RowKit
set_option maxRecDepth 100000

theorem markTrackS_own {lo hi : Nat} {a : Option Addr} {n : Nat} (c : Nat) {ts : List Tk} {w : World} (k : Int) (h : OwnT w lo hi (.slice a n c) ts) (hl : ts.length = n) (hn : n ≤ 2097152) (hs : sumT ts ≤ 2097152) (hk0 : 0 ≤ k) (hk1 : k ≤ 300000000) :
    Calls Try.prog 32 #[.slice a n c, .int .i64 k] w fun e w' => e = .returned (.int .i64 (k + sumU ts)) ∧ OwnT w' lo hi (.slice a n c) (mkTs k ts) ∧ Within lo hi w w' := by
  obtain ⟨ms, o, hb⟩ := h.b
  rw [hl] at o
  refine (markTrackS c k o hb hl hn hs hk0 hk1).mono ?_
  rintro e w' ⟨rfl, o', hb', kp⟩
  refine ⟨rfl, hb'.t (by rw [mkTs_length, hl]; exact o') h.top, kp.within (fun b hb2 => ?_)⟩
  rcases hb2 with hb2 | ⟨i, hb2⟩
  · exact ⟨(o.lt b hb2).1, h.top b hb2⟩
  · by_cases hi' : i < ts.length
    · exact (hb.own i hi').inr hb2
    · exfalso
      rw [List.getD_eq_getElem?_getD, List.getElem?_eq_none (by rw [hb.len]; omega)] at hb2
      rcases hb2 with (q | ⟨x, hx, _⟩) | (q | ⟨x, hx, _⟩)
      · cases q
      · cases hx
      · cases q
      · cases hx
/-- A new track. -/
def newT (xid now : Int) : Tk := ⟨xid, now, 0, false, [], [], false, false⟩
open Classical in
noncomputable def beginS (ts : List Tk) (xid now : Int) : List Tk := if tracksB ts = true ∧ tracksB (ts ++ [newT xid now]) = true then ts ++ [newT xid now] else []
open Classical in
noncomputable def beginC (ts : List Tk) (xid now : Int) : Int := if tracksB ts = true ∧ tracksB (ts ++ [newT xid now]) = true then 0 else 1
/-- Tracks and a code, told; the tracks are read. -/
def AnsE (w' : World) (R : List Tk) (C : Int) (e : Ending) : Prop := ∃ a c, e = .returned (.tuple #[.slice a R.length c, .int .i64 C]) ∧ ReadsT w' a R
theorem smT_snoc {ts : List Tk} {t : Tk} (h : smT ts) (ht : (∀ j, ((fl2 t.rs).getD j im0).Z.length ≤ 2097152) ∧ (∀ j, (t.ws.getD j im0).Z.length ≤ 2097152)) : smT (ts ++ [t]) := by
  intro i
  rw [getD_app]
  split
  · exact h i
  · rcases getD_mem_or [t] (i - ts.length) tk0 with e | e
    · rw [e]; exact ⟨fun j => by simp [tk0, fl2, im0], fun j => by simp [tk0, im0]⟩
    · rw [List.mem_singleton.1 e]; exact ht

set_option maxHeartbeats 6400000 in
theorem spec_EdgeBegin {ad : Option Addr} {n : Nat} (cap : Nat) {ts : List Tk} {w : World} (h : ReadsT w ad ts) (hl : ts.length = n) (hn : n ≤ 1048576) (hs : smT ts) (hln : lnT ts) (x y : Int) :
    Calls Try.prog 30 #[.slice ad n cap, .int .i64 x, .int .i64 y] w fun e w' => AnsE w' (beginS ts x y) (beginC ts x y) e ∧ Below w.heap.size w w' := by
  obtain ⟨i0, hi, hz0, hz1, hz2⟩ := info_parts Try.infoTk
  have HR := hid h
  clear h
  go_enter Try.func30, Try.ntmps30
  go_wp2_with fail
  refine (spec_l13copy cap HR.out hl hn hs hln).mono ?_
  rintro e w1 ⟨v, rfl, oT, b1⟩
  obtain ⟨a, c, rfl⟩ := oT.slice
  rw [hl] at oT
  obtain ⟨ms, oR, hB⟩ := oT.b
  have bA := Below.alloc1 w1 (.cells #[.int .i64 x, .int .i64 y, .int .i64 0, .bool false, .slice none 0 0, .slice none 0 0, .bool false, .bool false] 46)
  have HN := hid (heap_alloc_new w1 (.cells #[.int .i64 x, .int .i64 y, .int .i64 0, .bool false, .slice none 0 0, .slice none 0 0, .bool false, .bool false] 46))
  have zA := alloc_size w1 (.cells #[.int .i64 x, .int .i64 y, .int .i64 0, .bool false, .slice none 0 0, .slice none 0 0, .bool false, .bool false] 46)
  rw [hl] at oR
  have HOA := hid (owns_below bA (Nat.le_refl _) oR)
  have HTA := hid (hB.agree (Agree.below bA (Nat.le_refl _)))
  have HBA := hid (b1.trans (bA.mono b1.size))
  have HSZ := hid (And.intro b1.size zA)
  rw [hl]
  clear oT oR hB bA zA b1
  go_wp2_with (at_builtin; refine wpList_append_row rfl _ _ 55 rfl w.heap.size 46 i0 (.agg #[.int .i64 0, .int .i64 0, .int .i64 0, .bool false, .slice none 0 0, .slice none 0 0, .bool false, .bool false]) 8 88 Try.underlying55 hi hz0 hz1 hz2 rfl (by decide) _ n (cellsT ts ms) rfl HOA.out (some ⟨w1.heap.size, 0, none⟩) 1 1 [.int .i64 x, .int .i64 y, .int .i64 0, .bool false, .slice none 0 0, .slice none 0 0, .bool false, .bool false] rfl rfl (.inr ⟨_, rfl, World.news_of_block HN.out⟩) (fun e => by cases e) ?m1 ?m2 ?m3 ?m4 ?_)
  case m1 => intro z hz; simp only [List.mem_cons, List.not_mem_nil, or_false] at hz; rcases hz with rfl | rfl | rfl | rfl | rfl | rfl | rfl | rfl <;> rfl
  case m2 => unfold maxLen; omega
  case m3 => omega
  case m4 => exact HBA.out.size
  intro a5 c5 w5 o5 g5
  have hml := HTA.out.len
  have hsz := HSZ.out
  have OT : OwnT1 (w1.alloc (.cells #[.int .i64 x, .int .i64 y, .int .i64 0, .bool false, .slice none 0 0, .slice none 0 0, .bool false, .bool false] 46)) w1.heap.size (w1.alloc (.cells #[.int .i64 x, .int .i64 y, .int .i64 0, .bool false, .slice none 0 0, .slice none 0 0, .bool false, .bool false] 46)).heap.size mt0 (newT x y) := ⟨OwnX.nil _ _ _ _ _, OwnX.nil _ _ _ _ _, fun b hb => by obtain ⟨q, hq, _⟩ := hb; cases hq⟩
  have BT := (HTA.out.snoc (hi := (w1.alloc (.cells #[.int .i64 x, .int .i64 y, .int .i64 0, .bool false, .slice none 0 0, .slice none 0 0, .bool false, .bool false] 46)).heap.size) hsz.1 (by omega) OT).beside HOA.out g5
  have OF : OwnT w5 w.heap.size w5.heap.size (.slice a5 (n + 1) c5) (ts ++ [newT x y]) := (BT.mono (Nat.le_refl _) g5.size).t (by
    rw [List.length_append, hl, List.length_singleton, cellsT_app _ _ _ _ hml]
    exact o5) (fun g hg => (o5.lt g hg).2)
  have HF := hid OF
  have HB5 := hid (HBA.out.grown g5 HBA.out.size (fun r e => (HOA.out.lt r e).1))
  have HL5 := hid (show (ts ++ [newT x y]).length = n + 1 by rw [List.length_append, hl]; rfl)
  have HS5 := hid (smT_snoc (t := newT x y) hs ⟨fun j => by simp [newT, fl2, im0], fun j => by simp [newT, im0]⟩)
  clear hml hsz OT BT OF o5 g5 HOA HTA HBA HN HSZ
  go_wp2_with fail
  refine (spec_TracksOk cap (HR.out.below HB5.out (Nat.le_refl _)) hl hs).mono ?_
  rintro e w6 ⟨rfl, b6⟩
  replace HF := hid (HF.out.rd.below b6 (Nat.le_refl _))
  replace HB5 := hid (HB5.out.trans (b6.mono HB5.out.size))
  clear b6
  cases h1 : tracksB ts with
  | false =>
    have HE := hid (show beginS ts x y = [] ∧ beginC ts x y = 1 by unfold beginS beginC; simp [h1])
    clear h1
    go_wp2_with fail
    go_ret2
    refine ⟨?_, HB5.out⟩
    rw [HE.out.1, HE.out.2]
    exact ⟨none, 0, rfl, ReadsT.nil _ _⟩
  | true =>
    have H1 := hid h1
    clear h1
    go_wp2_with fail
    refine (spec_TracksOk c5 HF.out HL5.out HS5.out).mono ?_
    rintro e w7 ⟨rfl, b7⟩
    replace HF := hid (HF.out.below b7 (Nat.le_refl _))
    replace HB5 := hid (HB5.out.trans (b7.mono HB5.out.size))
    clear b7
    cases h2 : tracksB (ts ++ [newT x y]) with
    | false =>
      have HE := hid (show beginS ts x y = [] ∧ beginC ts x y = 1 by unfold beginS beginC; simp [h2])
      clear h2
      go_wp2_with fail
      go_ret2
      refine ⟨?_, HB5.out⟩
      rw [HE.out.1, HE.out.2]
      exact ⟨none, 0, rfl, ReadsT.nil _ _⟩
    | true =>
      have HE := hid (show beginS ts x y = ts ++ [newT x y] ∧ beginC ts x y = 0 by unfold beginS beginC; simp [H1.out, h2])
      clear h2
      go_wp2_with fail
      go_ret2
      refine ⟨?_, HB5.out⟩
      rw [HE.out.1, HE.out.2]
      refine ⟨a5, c5, ?_, HF.out⟩
      rw [HL5.out]
      rfl
end Go.Proofs.Ytnhlfkffllbpiaa
