/- Statuses: a list with one status set; the contracts of both StatusSet. Conditions: lists of at most 2^40 numbers; a nil one has no room. -/
import Derived.Test.YtdlddgejpcbofaaSa8
import Derived.Test.YtdlddgejpcbofaaPsr
namespace Go.Proofs.Ytdlddgejpcbofaa
open Go.RowKit
set_option maxRecDepth 100000

def setOk (l : List Int) (x s : Int) : Bool := decide (l.length ≤ 401 ∧ (1 ≤ x ∧ x ≤ 400) ∧ (0 ≤ s ∧ s ≤ 2))
def grow (l : List Int) (n : Nat) : List Int := l ++ List.replicate (n - l.length) 0
def setS (l : List Int) (x s : Int) : List Int := if setOk l x s = true then (grow l (x.toNat + 1)).set x.toNat s else []
theorem grow_length (l : List Int) (n : Nat) : (grow l n).length = max l.length n := by simp [grow]; omega
theorem setOk_of {l : List Int} {x s : Int} (h : setOk l x s = true) : l.length ≤ 401 ∧ (1 ≤ x ∧ x ≤ 400) ∧ (0 ≤ s ∧ s ≤ 2) := of_decide_eq_true h
theorem setS_yes {l : List Int} {x s : Int} (h : setOk l x s = true) : setS l x s = (grow l (x.toNat + 1)).set x.toNat s := by unfold setS; rw [if_pos h]
theorem setS_no {l : List Int} {x s : Int} (h : setOk l x s = false) : setS l x s = [] := by unfold setS; rw [h]; rfl
theorem getD_replicate0 (k i : Nat) : (List.replicate k (0 : Int)).getD i 0 = 0 := by
  rw [List.getD_eq_getElem?_getD, List.getElem?_replicate]; split <;> rfl
theorem grow_at (l : List Int) (n i : Nat) : (grow l n).getD i 0 = l.getD i 0 := by
  unfold grow
  by_cases h : i < l.length
  · rw [List.getD_eq_getElem?_getD, List.getElem?_append_left h, ← List.getD_eq_getElem?_getD]
  · rw [List.getD_eq_getElem?_getD, List.getElem?_append_right (by omega), ← List.getD_eq_getElem?_getD, getD_replicate0, List.getD_eq_getElem?_getD, List.getElem?_eq_none (by omega)]; rfl
theorem set_at (l : List Int) (k i : Nat) (s : Int) (hk : k < l.length) : (l.set k s).getD i 0 = if i = k then s else l.getD i 0 := by
  rw [List.getD_eq_getElem?_getD, List.getElem?_set]
  by_cases h : k = i
  · subst h; simp [hk]
  · rw [if_neg h, if_neg (fun q => h q.symm), List.getD_eq_getElem?_getD]
theorem setS_small {l : List Int} (hb : ∀ i, -9223372036854775808 ≤ l.getD i 0 ∧ l.getD i 0 ≤ 9223372036854775807) (x s : Int) : (setS l x s).length ≤ 1500000 ∧ ∀ i, -9223372036854775808 ≤ (setS l x s).getD i 0 ∧ (setS l x s).getD i 0 ≤ 9223372036854775807 := by
  cases h : setOk l x s with
  | false => rw [setS_no h]; simp
  | true =>
    have k := setOk_of h
    rw [setS_yes h]
    refine ⟨by rw [List.length_set, grow_length]; omega, fun i => ?_⟩
    rw [set_at _ _ _ _ (by rw [grow_length]; omega), grow_at]
    split
    · omega
    · exact hb i

theorem own_row8 {w : World} {base g n : Nat} {t : TypeId} {xs : List Value} (h : w.heap[g]? = some (.cells xs.toArray t (0, 0))) (hl : xs.length = n) (hn : n ≤ maxLen) (hb : base ≤ g) : w.ownsRow base t 1 (.slice (some ⟨g, 0, none⟩) n n) n xs :=
  ⟨by omega, .inr ⟨g, n, xs.toArray, rfl, hb, h, Nat.le_refl _, hn, by simp [hl], by subst hl; simp⟩⟩
theorem row_own8 {w : World} {base g n : Nat} {t : TypeId} {xs : List Value} (h : w.ownsRow base t 1 (.slice (some ⟨g, 0, none⟩) n n) n xs) : w.heap[g]? = some (.cells xs.toArray t (0, 0)) := by
  rcases h.2 with ⟨e, _⟩ | ⟨g', cap, cur, e, _, hg, _, _, hs, ht⟩
  · cases e
  · cases e
    rw [hg, ← ht, List.take_of_length_le (by simp; omega)]
theorem sizeI : (Try.prog.info? 3).map (·.size) = some 1 := by kernel_rfl
theorem ins_set (l : List Int) (k : Nat) (s : Int) : (ins l).set k (.int .i64 s) = ins (l.set k s) := by simp [ins, List.map_set]
theorem splice_zero (l : List Int) (N : Nat) : splice (List.replicate N (Value.int .i64 0)) 0 (ins l) = ins (grow l N) := by
  unfold splice grow
  simp [ins]
def len8 : Value → Nat | .slice _ n _ => n | _ => 0
/-- copy of whole numbers into a row of the call's own: its run, written out. -/
theorem copyI_in {w w0 : World} {g off B n m : Nat} {t : TypeId} {cur : List Value} (hg : w.heap[g]? = some (.cells cur.toArray t (0, 0))) {ad dp : Option Addr} {zs : List Int} (hr : ReadsI w ad n zs)
    (hdp : 0 < n → dp = some ⟨g, off, none⟩) (hnm : n ≤ m) (hfit : off + n ≤ cur.length) (hb : Below B w0 w) (hBg : B ≤ g) (dCap sCap : Nat) :
    ∃ w', (Builtin.copy_ #[22, 22] 3 #[.slice dp m dCap, .slice ad n sCap]).run Try.prog w = .ok (goInt n) w' ∧ Hid (w'.heap[g]? = some (.cells (splice cur off (ins zs)).toArray t (0, 0))) ∧ Below B w0 w' ∧ w'.heap.size = w.heap.size := by
  have hl : (ins zs).length = n := by rw [ins_length, hr.len]
  by_cases h0 : n = 0
  · subst h0
    have e : ins zs = [] := List.eq_nil_of_length_eq_zero hl
    refine ⟨w, run_copy_none (P := Try.prog) w 22 22 3 3 dp ad m dCap 0 sCap Try.underlying22 sizeI (Nat.min_eq_left (Nat.zero_le _)), ?_, hb, rfl⟩
    unfold Hid; rw [e]; simpa [splice] using hg
  · obtain rfl := hdp (by omega)
    rcases hr.cells with h | ⟨b, o, rfl, hc⟩
    · exact absurd h h0
    have hrun := run_copy_row (P := Try.prog) w 22 22 3 3 g off m dCap ⟨b, o, none⟩ n sCap cur.toArray t (ins zs) Try.underlying22 sizeI hg (by rw [hl]; exact (Nat.min_eq_left hnm).symm) hr.news (by simpa [hl] using hfit) (ins_one _)
    rw [hl] at hrun
    refine ⟨_, hrun, ?_, below_setRow hb hBg _, by simp⟩
    unfold Hid splice
    rw [setRow_heap w g _ _ t _ hg, hl, List.append_assoc]
theorem zero_at (N i : Nat) (h : i < N) : (List.replicate N (Value.int .i64 0))[i]? = some (.int .i64 0) := by rw [List.getElem?_replicate, if_pos h]

set_option maxHeartbeats 1600000 in
theorem spec_StatusSet_no {ad : Option Addr} {n : Nat} (cap : Nat) {l : List Int} {w : World} (h : ReadsI w ad n l) (x s : Int) (hok : setOk l x s = false) :
    Calls Try.prog 17 #[.slice ad n cap, .int .i64 x, .int .i64 s] w fun e w' => e = .returned (.tuple #[.slice none 0 0, .bool false]) ∧ w' = w := by
  have k := of_decide_eq_false hok
  rw [h.len] at k
  clear hok h
  by_cases h1 : 401 < n
  · have q1 : (401 : Int) < (n : Int) := by omega
    go_enter Try.func17, Try.ntmps17
    go_wp2_with fail
    go_ret2
    exact ⟨rfl, rfl⟩
  · have q1 : ¬ (401 : Int) < (n : Int) := by omega
    by_cases h2 : 1 ≤ x ∧ x ≤ 400
    · have h3 : ¬ (0 ≤ s ∧ s ≤ 2) := fun q => k ⟨by omega, h2, q⟩
      clear k h1
      go_enter Try.func17, Try.ntmps17
      go_wp2_with fail
      refine (spec_in8 _ _ _ w).mono ?_
      rintro e w1 ⟨rfl, e1⟩
      subst w1
      rw [decide_eq_true h2]
      go_wp2_with fail
      refine (spec_in8 _ _ _ w).mono ?_
      rintro e w1 ⟨rfl, e1⟩
      subst w1
      rw [decide_eq_false h3]
      go_wp2_with fail
      go_ret2
      exact ⟨rfl, rfl⟩
    · clear k h1
      go_enter Try.func17, Try.ntmps17
      go_wp2_with fail
      refine (spec_in8 _ _ _ w).mono ?_
      rintro e w1 ⟨rfl, e1⟩
      subst w1
      rw [decide_eq_false h2]
      go_wp2_with fail
      go_ret2
      exact ⟨rfl, rfl⟩

theorem grow_snoc (l : List Int) (k : Nat) (h : l.length ≤ k) : grow l (k + 1) = grow l k ++ [0] := by
  unfold grow
  rw [show k + 1 - l.length = (k - l.length) + 1 by omega, List.replicate_succ', List.append_assoc]
theorem grow_self (l : List Int) (k : Nat) (h : k ≤ l.length) : grow l k = l := by
  unfold grow; rw [show k - l.length = 0 by omega]; simp

set_option maxHeartbeats 3200000 in
theorem spec_StatusSet_yes {ad : Option Addr} {n : Nat} (cap : Nat) {l : List Int} {w : World} (h : ReadsI w ad n l) (hnc : ad = none → cap = 0) (x s : Int) (hok : setOk l x s = true) :
    Calls Try.prog 17 #[.slice ad n cap, .int .i64 x, .int .i64 s] w fun e w' => ∃ v, e = .returned (.tuple #[v, .bool true]) ∧ w'.ownsRow w.heap.size 3 1 v (setS l x s).length (ins (setS l x s)) ∧ Below w.heap.size w w' := by
  obtain ⟨i0, hi, hz0, hz1, hz2⟩ := info_parts Try.infoI
  have k := setOk_of hok
  have hl := h.len
  rw [setS_yes hok, List.length_set, grow_length]
  obtain ⟨X, rfl⟩ : ∃ X : Nat, x = X := ⟨x.toNat, by omega⟩
  rw [Int.toNat_natCast, hl]
  have q1 : ¬ (401 : Int) < (n : Int) := by omega
  have hX4 : X ≤ 400 ∧ n ≤ 401 := by omega
  have HK := hid k
  have HR := hid h
  have HL := hid hl
  have hxi : 0 ≤ (X : Int) := by omega
  clear h hok k hl
  go_enter Try.func17, Try.ntmps17
  go_wp2_with fail
  refine (spec_in8 _ _ _ w).mono ?_
  rintro e w1 ⟨rfl, e1⟩
  subst w1
  rw [decide_eq_true (by have := HK.out; omega)]
  go_wp2_with fail
  refine (spec_in8 _ _ _ w).mono ?_
  rintro e w1 ⟨rfl, e1⟩
  subst w1
  rw [decide_eq_true (by have := HK.out; omega)]
  have OE := hid (World.ownsRow_lit (base := w.heap.size) (e := 3) (size := 1) w #[] 0 (Nat.le_refl _) (by unfold maxLen; omega) rfl)
  have HB0 := hid ((Below.refl w.heap.size w).alloc (Nat.le_refl _) (.cells #[] 3))
  go_wp2_with (at_builtin; refine wpList_append_row rfl _ _ 22 rfl w.heap.size 3 i0 (.int .i64 0) 1 8 Try.underlying22 hi hz0 hz1 hz2 rfl (by decide) _ _ _ rfl OE.out ad n cap (ins l) rfl ?b1 ?b7 ?b5 (ins_one _) ?b3 ?b4 ?b6 ?_)
  case b1 => rw [ins_length, HL.out, Nat.mul_one]
  case b7 =>
    rcases hx : ad with _ | p
    · exact .inl ⟨rfl, hnc hx⟩
    · refine .inr ⟨p, rfl, ?_⟩
      have r := HR.out.below HB0.out (Nat.le_refl _)
      rw [hx] at r
      exact r.news
  case b5 =>
    intro e
    rcases HR.out.cells with h0 | ⟨b, off, e1, _⟩
    · exact h0
    · rw [e] at e1; cases e1
  case b3 => unfold maxLen; omega
  case b4 => omega
  case b6 => simp
  intro a2 c2 w2 o g
  have o2 : w2.ownsRow w.heap.size 3 1 (.slice a2 n c2) n (ins l) := by simpa using o
  have HO := hid o2
  have HB := hid (HB0.out.grown g (by simp) (fun k hk => (OE.out.lt k hk).1))
  clear o o2 g OE HB0 HR
  try simp only [Nat.zero_add]
  go_wp2_with fail
  go_loopw [8] (fun sl wr => ∃ (k : Nat) (a1 : Option Addr) (c1 : Nat), n ≤ k ∧ k ≤ max n (X + 1) ∧ sl = .slice a1 k c1 ∧ Hid (wr.ownsRow w.heap.size 3 1 (.slice a1 k c1) k (ins (grow l k))) ∧ Hid (Below w.heap.size w wr)) (fun sl _ => X + 1 - len8 sl)
  case atStart => exact ⟨n, a2, c2, Nat.le_refl _, Nat.le_max_left _ _, rfl, hid (by rw [grow_self l n (by rw [HL.out]; exact Nat.le_refl _)]; exact HO.out), HB⟩
  case round =>
    obtain ⟨k, a1, c1, hk1, hk2, rfl, HO1, HB1⟩ := hrel
    by_cases hlt : k ≤ X
    · have q2 : (k : Int) ≤ (X : Int) := by omega
      go_wp2_with (at_builtin; refine wpList_append_row rfl _ _ 22 rfl w.heap.size 3 i0 (.int .i64 0) 1 8 Try.underlying22 hi hz0 hz1 hz2 rfl (by decide) _ _ _ rfl (HO1.out.alloc _) (some ⟨wr.heap.size, 0, none⟩) 1 1 [.int .i64 0] rfl ?d1 (.inr ⟨_, rfl, World.news_of_block (heap_alloc_new wr _)⟩) ?d5 ?d2 ?d3 ?d4 ?d6 ?_)
      case d1 => rfl
      case d5 => exact fun e => by cases e
      case d2 => intro u hu; simp at hu; subst hu; rfl
      case d3 => unfold maxLen; omega
      case d4 => omega
      case d6 => have := HB1.out.size; simp; omega
      intro a3 c3 w3 o g
      have HO3 := hid (show w3.ownsRow w.heap.size 3 1 (.slice a3 (k + 1) c3) (k + 1) (ins (grow l (k + 1))) by rw [grow_snoc l k (by rw [HL.out]; omega), ins_append]; exact o)
      have HB3 := hid ((HB1.out.alloc HB1.out.size _).grown g (by have := HB1.out.size; simp; omega) (fun k hk => (HO1.out.lt k hk).1))
      clear o g HO1 HB1 HO HB
      go_wp2_with fail
      go_roundw
      case rel => exact ⟨k + 1, a3, c3, by omega, by omega, rfl, HO3, HB3⟩
      case measure => simp [len8]; omega
    · have q2 : ¬ (k : Int) ≤ (X : Int) := by omega
      have hkN : k = max n (X + 1) := by omega
      have hcy : ∃ g v, a1 = some ⟨g, 0, none⟩ ∧ wr.cell? ⟨g, X, none⟩ = some v ∧ wr.frozen? ⟨g, X, none⟩ = false ∧ w.heap.size ≤ g := by
        rcases HO1.out.2 with ⟨_, e⟩ | ⟨g, cap, cur, e, hb, _⟩
        · omega
        · obtain ⟨rfl, _, _⟩ := Value.slice.inj e
          have e2 := HO1.out.cellAt X (by omega)
          rw [List.getElem?_eq_getElem (show X < (ins (grow l k)).length by rw [ins_length, grow_length, HL.out]; omega)] at e2
          exact ⟨g, _, rfl, e2, HO1.out.frozenAt X, hb⟩
      obtain ⟨g, v, rfl, hcy, hfr, hgb⟩ := hcy
      have R1 := hid (HO1.out.stored X (.int .i64 s))
      have hXk : X < k := by omega
      clear HO1 HO HB
      go_wp2_with fail
      go_ret2
      refine ⟨_, rfl, ?_, HB1.out.setCell hgb _⟩
      have o3 := R1.out.1
      rw [ins_set, show grow l k = grow l (X + 1) by unfold grow; congr 2; rw [HL.out]; omega] at o3
      rw [← hkN]
      exact o3

theorem spec_StatusSet {ad : Option Addr} {n : Nat} (cap : Nat) {l : List Int} {w : World} (h : ReadsI w ad n l) (hnc : ad = none → cap = 0) (x s : Int) :
    Calls Try.prog 17 #[.slice ad n cap, .int .i64 x, .int .i64 s] w fun e w' => ∃ v, e = .returned (.tuple #[v, .bool (setOk l x s)]) ∧ w'.ownsRow w.heap.size 3 1 v (setS l x s).length (ins (setS l x s)) ∧ Below w.heap.size w w' := by
  cases hok : setOk l x s with
  | true => exact spec_StatusSet_yes cap h hnc x s hok
  | false =>
    refine (spec_StatusSet_no cap h x s hok).mono ?_
    rintro e w1 ⟨rfl, rfl⟩
    rw [setS_no hok]
    exact ⟨_, rfl, World.ownsRow_nil _ _ _ _, Below.refl _ _⟩
end Go.Proofs.Ytdlddgejpcbofaa
