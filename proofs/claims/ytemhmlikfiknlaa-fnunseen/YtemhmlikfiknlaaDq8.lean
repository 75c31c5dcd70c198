/- The draws of lists of statuses: l1PickInt of three numbers, l8list, l8long, DrawStatusSet. For codes of at most 2^21 bytes. -/
import Derived.Test.YtemhmlikfiknlaaSb8
import Derived.Test.YtemhmlikfiknlaaDrawo
namespace Go.Proofs.Ytemhmlikfiknlaa
open Go.RowKit
set_option maxRecDepth 100000

/-- All numbers of a list fit. -/
def bdI (L : List Int) : Prop := ∀ i, -9223372036854775808 ≤ L.getD i 0 ∧ L.getD i 0 ≤ 9223372036854775807
theorem bdI.snoc {L : List Int} {y : Int} (hb : bdI L) (h0 : -9223372036854775808 ≤ y) (h1 : y ≤ 9223372036854775807) : bdI (L ++ [y]) := by
  intro i
  by_cases h : i < L.length
  · rw [List.getD_eq_getElem?_getD, List.getElem?_append_left h, ← List.getD_eq_getElem?_getD]; exact hb i
  · rw [List.getD_eq_getElem?_getD, List.getElem?_append_right (by omega)]
    by_cases h2 : i - L.length = 0
    · rw [h2]; simpa using ⟨h0, h1⟩
    · rw [List.getElem?_eq_none (by simp; omega)]; simp
theorem bdI.nil : bdI [] := fun i => by simp
theorem own_nc {w : World} {base n c : Nat} {e : TypeId} {s : Nat} {a : Option Addr} {xs : List Value} (h : w.ownsRow base e s (.slice a n c) n xs) : a = none → c = 0 := by
  intro ha
  rcases h.2 with ⟨h1, _⟩ | ⟨g, cap, cur, h1, _⟩
  · exact (Value.slice.inj h1).2.2
  · rw [ha] at h1; cases h1
theorem own_blk {w : World} {base n g : Nat} {e : TypeId} {s : Nat} {v : Value} {xs : List Value} (h : w.ownsRow base e s v n xs) (hg : g < base) : ∀ k, v.ownBlock = some k → (some g : Option Nat) ≠ some k := by
  intro k hk e
  have := (h.lt k hk).1
  cases e; omega

theorem owns_lower9 {w : World} {b1 b2 : Nat} {e : TypeId} {s n : Nat} {v : Value} {xs : List Value} (h : w.ownsRow b1 e s v n xs) (hb : b2 ≤ b1) : w.ownsRow b2 e s v n xs := own_base h hb

set_option maxHeartbeats 1600000 in
theorem l1Pick8 {w : World} {g : Nat} {ad : Option Addr} {n cap : Nat} {zs : List Int} (c : Cur w g ad n cap zs) (hn : n ≤ 2097152) {b m c' : Nat} (hm : 0 < m) (hm' : m ≤ 1000) (hb : b ≠ g) (hc : ∀ i, i < m → ∃ x, w.cell? ⟨b, i, none⟩ = some (.int .i64 x) ∧ -1 ≤ x ∧ x ≤ 4) :
    Calls Try.prog 33 #[.pointer (some ⟨g, 0, none⟩), .slice (some ⟨b, 0, none⟩) m c'] w fun e w' => ∃ x : Int, e = .returned (.int .i64 x) ∧ (-1 ≤ x ∧ x ≤ 4) ∧ Cur w' g ad n cap zs ∧ w.grownBy w' (some g) := by
  have HC := hid hc
  clear hc
  go_enter Try.func33, Try.ntmps33
  go_wp2_with fail
  refine (l1Below c hn (m : Int) (by omega) (by omega)).mono ?_
  rintro e w1 ⟨x, rfl, hx0, hx1, c1, g1⟩
  obtain ⟨x, rfl⟩ := Int.eq_ofNat_of_zero_le hx0
  obtain ⟨y, hy, hy1⟩ := HC.out x (by omega)
  have hy' := g1.cell hy (by simpa using hb)
  have HY := hid hy1
  clear hy hy1
  go_wp2_with fail
  go_ret
  exact ⟨_, rfl, HY.out, c1, g1⟩

set_option maxHeartbeats 3200000 in
theorem l8list {w : World} {g : Nat} {ad : Option Addr} {n cap : Nat} {zs : List Int} (c : Cur w g ad n cap zs) (hn : n ≤ 2097152) (most : Nat) (hm : most ≤ 1000) :
    Calls Try.prog 34 #[.pointer (some ⟨g, 0, none⟩), .int .i64 most] w fun e w' => ∃ (a1 : Option Addr) (c1 : Nat) (L : List Int), e = .returned (.slice a1 L.length c1) ∧ w'.ownsRow w.heap.size 3 1 (.slice a1 L.length c1) L.length (ins L) ∧ bdI L ∧ L.length ≤ most ∧ Cur w' g ad n cap zs ∧ w.grownBy w' (some g) := by
  obtain ⟨i0, hi, hz0, hz1, hz2⟩ := info_parts Try.infoI
  have hgl : g < w.heap.size := c.lt
  have C0 := hid c
  clear c
  go_enter Try.func34, Try.ntmps34
  go_wp2_with fail
  refine (l1Below C0.out hn _ (by omega) (by omega)).mono ?_
  rintro e w1 ⟨x, rfl, hx0, hx1, c1, g1⟩
  obtain ⟨x, rfl⟩ := Int.eq_ofNat_of_zero_le hx0
  have C1 := hid c1
  have G1 := hid g1
  clear c1 g1 C0
  go_wp2_with fail
  go_loopw [5, 6, 7] (fun sl i _ wr => ∃ (k : Nat) (a1 : Option Addr) (c1 : Nat) (L : List Int), i = .int .i64 k ∧ k + L.length ≤ most ∧ sl = .slice a1 L.length c1 ∧ Hid (wr.ownsRow w.heap.size 3 1 (.slice a1 L.length c1) L.length (ins L)) ∧ Hid (bdI L) ∧ Hid (Cur wr g ad n cap zs) ∧ Hid (w.grownBy wr (some g))) (fun _ i _ _ => (intOf i).toNat)
  case atStart => exact ⟨x, none, 0, [], rfl, by simp; omega, rfl, hid (World.ownsRow_nil _ _ _ _), hid bdI.nil, C1, G1⟩
  case round =>
    obtain ⟨k, a1, c1, L, rfl, hk, rfl, HO, HD, HC, HG⟩ := hrel
    clear C1 G1
    obtain ⟨m, hml⟩ : ∃ m, L.length = m := ⟨_, rfl⟩
    rw [hml] at HO hk
    rw [hml]
    have HM := hid hml
    clear hml
    by_cases hlt : 0 < k
    · have hlt' : (0 : Int) < (k : Int) := by omega
      go_wp2_with fail
      refine (l1Below HC.out hn 3 (by omega) (by omega)).mono ?_
      rintro e w2 ⟨y, rfl, hy0, hy1, c2, g2⟩
      replace HO := hid (own_other HO.out g2 (own_blk HO.out hgl))
      replace HG := hid (grown_trans HG.out g2)
      replace HC := hid c2
      clear c2 g2
      go_wp2_with fail
      refine (l1Once HC.out hn 40 (by omega) (by omega)).mono ?_
      rintro e w3 ⟨once, rfl, c3, g3⟩
      replace HO := hid (own_other HO.out g3 (own_blk HO.out hgl))
      replace HG := hid (grown_trans HG.out g3)
      replace HC := hid c3
      clear c3 g3
      have F : ∀ (W W2 : World) (y : Int) (a3 : Option Addr) (c3 : Nat) (row : Option Nat), -1 ≤ y → y ≤ 4 → W2.ownsRow w.heap.size 3 1 (.slice a3 (m + 1) c3) (m + 1) (ins L ++ [.int .i64 y]) → w.grownBy W (some g) → W.grownBy W2 row → (∀ r, row = some r → w.heap.size ≤ r) → Cur W g ad n cap zs →
          ∃ L', k - 1 + L'.length ≤ most ∧ L'.length = m + 1 ∧ W2.ownsRow w.heap.size 3 1 (.slice a3 (m + 1) c3) (m + 1) (ins L') ∧ bdI L' ∧ Cur W2 g ad n cap zs ∧ w.grownBy W2 (some g) := by
        intro W W2 y a3 c3 row h1 h2 o hW hg hr hcW
        refine ⟨L ++ [y], by simp [HM.out]; omega, by simp [HM.out], by rw [ins_append]; exact o, HD.out.snoc (by omega) (by omega), hcW.other hg (fun r hr2 => by have := hr r hr2; omega), grown_new hW hg hr⟩
      have HF := hid F
      clear F
      cases once with
      | false =>
        go_wp2_with (at_builtin; refine wpList_append_row rfl _ _ 27 rfl w.heap.size 3 i0 (.int .i64 0) 1 8 Try.underlying27 hi hz0 hz1 hz2 rfl (by decide) _ _ _ rfl (HO.out.alloc _) (some ⟨w3.heap.size, 0, none⟩) 1 1 [.int .i64 y] rfl rfl (.inr ⟨_, rfl, World.news_of_block (heap_alloc_new w3 _)⟩) (fun e => by cases e) (by intro u hu; simp at hu; subst hu; rfl) (by unfold maxLen; omega) (by omega) (by have := HG.out.size; simp; omega) ?_)
        intro a5 c5 w5 o gA
        obtain ⟨L', q1, q2, q3, q4, q5, q6⟩ := HF.out _ _ y a5 c5 _ (by omega) (by omega) o (grown_new HG.out (World.grownBy_alloc w3 _ none) (fun r hr => by cases hr)) gA (fun r hr => (HO.out.lt r hr).1) (HC.out.alloc _)
        have Q3 := hid q3
        have Q4 := hid q4
        have Q5 := hid q5
        have Q6 := hid q6
        have Q2 := hid q2
        clear o gA HF q2 q3 q4 q5 q6
        go_wp2_with fail
        go_roundw
        case rel => exact ⟨k - 1, a5, c5, L', by go_num, q1, by rw [Q2.out], by rw [Q2.out]; exact Q3, Q4, Q5, Q6⟩
        case measure => simp [intOf]; omega
      | true =>
        have PC := hid (heap_alloc_new w3 (.cells #[.int .i64 (-1), .int .i64 3, .int .i64 4] 3))
        have hw3 : w.heap.size ≤ w3.heap.size := HG.out.size
        go_wp2_with fail
        refine (l1Pick8 (b := w3.heap.size) (m := 3) (HC.out.alloc _) hn (by omega) (by omega) (by omega) (fun i hi => ?_)).mono ?_
        · have hcell := cell_of_row _ _ i _ _ _ PC.out
          rcases (show i = 0 ∨ i = 1 ∨ i = 2 by omega) with rfl | rfl | rfl
          · exact ⟨-1, by rw [hcell]; rfl, by omega, by omega⟩
          · exact ⟨3, by rw [hcell]; rfl, by omega, by omega⟩
          · exact ⟨4, by rw [hcell]; rfl, by omega, by omega⟩
        rintro e w4 ⟨z, rfl, hz, c4, g4⟩
        replace HO := hid (own_other (HO.out.alloc _) g4 (own_blk HO.out hgl))
        replace HG := hid (grown_trans (grown_new HG.out (World.grownBy_alloc w3 _ none) (fun r hr => by cases hr)) g4)
        replace HC := hid c4
        clear c4 g4 PC
        go_wp2_with (at_builtin; refine wpList_append_row rfl _ _ 27 rfl w.heap.size 3 i0 (.int .i64 0) 1 8 Try.underlying27 hi hz0 hz1 hz2 rfl (by decide) _ _ _ rfl (HO.out.alloc _) (some ⟨w4.heap.size, 0, none⟩) 1 1 [.int .i64 z] rfl rfl (.inr ⟨_, rfl, World.news_of_block (heap_alloc_new w4 _)⟩) (fun e => by cases e) (by intro u hu; simp at hu; subst hu; rfl) (by unfold maxLen; omega) (by omega) (by have := HG.out.size; simp; omega) ?_)
        intro a5 c5 w5 o gA
        obtain ⟨L', q1, q2, q3, q4, q5, q6⟩ := HF.out _ _ z a5 c5 _ hz.1 hz.2 o (grown_new HG.out (World.grownBy_alloc w4 _ none) (fun r hr => by cases hr)) gA (fun r hr => (HO.out.lt r hr).1) (HC.out.alloc _)
        have Q3 := hid q3
        have Q4 := hid q4
        have Q5 := hid q5
        have Q6 := hid q6
        have Q2 := hid q2
        clear o gA HF q2 q3 q4 q5 q6
        go_wp2_with fail
        go_roundw
        case rel => exact ⟨k - 1, a5, c5, L', by go_num, q1, by rw [Q2.out], by rw [Q2.out]; exact Q3, Q4, Q5, Q6⟩
        case measure => simp [intOf]; omega
    · have hlt' : ¬ (0 : Int) < (k : Int) := by omega
      go_wp2_with fail
      go_ret
      exact ⟨a1, c1, L, by rw [HM.out]; rfl, by rw [HM.out]; exact HO.out, HD.out, by rw [HM.out]; omega, HC.out, HG.out⟩

end Go.Proofs.Ytemhmlikfiknlaa
