/- The contracts of the draws of frames: a kind and a body of at most 1001 bytes in new memory. For codes of at most 2^21 bytes. -/
import Derived.Test.YtchkbhdlmfchdaaDraw
namespace Go.Proofs.Ytchkbhdlmfchdaa
open Go.RowKit

theorem grown_new {a b c : World} {g : Nat} {row : Option Nat} (h : a.grownBy b (some g)) (k : b.grownBy c row) (hr : ∀ r, row = some r → a.heap.size ≤ r) : a.grownBy c (some g) :=
  ⟨k.os.trans h.os, k.tape.trans h.tape, k.output.trans h.output, Nat.le_trans h.size k.size, fun i hi hne => (k.block i (Nat.lt_of_lt_of_le hi h.size) (fun e => by have := hr i e.symm; omega)).trans (h.block i hi hne)⟩
theorem bd_snoc {L : List Int} {y : Int} (hb : ∀ i, 0 ≤ L.getD i 0 ∧ L.getD i 0 ≤ 255) (h0 : 0 ≤ y) (h1 : y ≤ 255) : ∀ i, 0 ≤ (L ++ [y]).getD i 0 ∧ (L ++ [y]).getD i 0 ≤ 255 := by
  intro i
  by_cases h : i < L.length
  · have := hb i
    rwa [List.getD_eq_getElem?_getD, List.getElem?_append_left h, ← List.getD_eq_getElem?_getD]
  · rw [List.getD_eq_getElem?_getD, List.getElem?_append_right (by omega)]
    by_cases e : i - L.length = 0
    · rw [e]; simpa using ⟨h0, h1⟩
    · rw [List.getElem?_eq_none (by simp; omega)]; simp
/-- A slice's length, for a measure. -/
def lenOf : Value → Nat | .slice _ n _ => n | _ => 0
theorem own_base {w : World} {base base' : Nat} {e : TypeId} {s : Nat} {v : Value} {n : Nat} {xs : List Value} (h : w.ownsRow base e s v n xs) (hb : base' ≤ base) : w.ownsRow base' e s v n xs := by
  refine ⟨h.1, ?_⟩
  rcases h.2 with h2 | ⟨g, cap, cur, hv, hg, r⟩
  · exact .inl h2
  · exact .inr ⟨g, cap, cur, hv, Nat.le_trans hb hg, r⟩
theorem Cur.lt {w : World} {g : Nat} {ad : Option Addr} {n cap : Nat} {zs : List Int} (c : Cur w g ad n cap zs) : g < w.heap.size := by
  obtain ⟨i, h, _, hr⟩ := c.row
  exact (Array.getElem?_eq_some_iff.1 hr).1
theorem Cur.alloc {w : World} {g : Nat} {ad : Option Addr} {n cap : Nat} {zs : List Int} (c : Cur w g ad n cap zs) (o : Obj) : Cur (w.alloc o) g ad n cap zs :=
  c.below ((Below.refl w.heap.size w).alloc (Nat.le_refl _) o) (Nat.le_refl _)

set_option maxRecDepth 100000 in
set_option maxHeartbeats 1600000 in
theorem l1Once {w : World} {g : Nat} {ad : Option Addr} {n cap : Nat} {zs : List Int} (c : Cur w g ad n cap zs) (hn : n ≤ 2097152) (m : Int) (hm : 0 < m) (hm' : m ≤ 1000000) :
    Calls Try.prog 29 #[.pointer (some ⟨g, 0, none⟩), .int .i64 m] w fun e w' => ∃ b : Bool, e = .returned (.bool b) ∧ Cur w' g ad n cap zs ∧ w.grownBy w' (some g) := by
  go_enter Try.func29, Try.ntmps29
  go_wp2_with fail
  refine (l1Below c hn m hm hm').mono ?_
  rintro e w1 ⟨x, rfl, hx0, hx1, c1, g1⟩
  generalize hb : (x == 0) = b
  go_wp2_with fail
  go_ret
  exact ⟨_, rfl, c1, g1⟩

set_option maxRecDepth 100000 in
set_option maxHeartbeats 1600000 in
theorem l1PickInt {w : World} {g : Nat} {ad : Option Addr} {n cap : Nat} {zs : List Int} (c : Cur w g ad n cap zs) (hn : n ≤ 2097152) (b : Nat) (hb : b ≠ g) (L : List Int) (hl : L.length = 4)
    (hr : w.heap[b]? = some (.cells (L.map (Value.int .i64)).toArray 3 (0, 0))) :
    Calls Try.prog 30 #[.pointer (some ⟨g, 0, none⟩), .slice (some ⟨b, 0, none⟩) 4 4] w fun e w' => ∃ x : Int, e = .returned (.int .i64 x) ∧ Cur w' g ad n cap zs ∧ w.grownBy w' (some g) := by
  have HR := hid hr
  clear hr
  go_enter Try.func30, Try.ntmps30
  go_wp2_with fail
  refine (l1Below c hn 4 (by omega) (by omega)).mono ?_
  rintro e w1 ⟨x, rfl, hx0, hx1, c1, g1⟩
  obtain ⟨x, rfl⟩ := Int.eq_ofNat_of_zero_le hx0
  have hcell : w1.cell? ⟨b, x, none⟩ = some (.int .i64 (L.getD x 0)) := by
    have hlt := (Array.getElem?_eq_some_iff.1 HR.out).1
    have h1 : w1.heap[b]? = some (.cells (L.map (Value.int .i64)).toArray 3 (0, 0)) := (g1.block b hlt (by simpa using hb)).trans HR.out
    rw [cell_of_row w1 _ _ _ _ _ h1]
    simp [hl, show x < 4 by omega]
  generalize L.getD x 0 = y at hcell
  go_wp2_with fail
  go_ret
  exact ⟨_, rfl, c1, g1⟩

set_option maxRecDepth 100000 in
set_option maxHeartbeats 3200000 in
theorem l1some {w : World} {g : Nat} {ad : Option Addr} {n cap : Nat} {zs : List Int} (c : Cur w g ad n cap zs) (hn : n ≤ 2097152) (most : Int) (h0 : 0 ≤ most) (hm : most ≤ 1000) :
    Calls Try.prog 43 #[.pointer (some ⟨g, 0, none⟩), .int .i64 most] w fun e w' => ∃ (v : Value) (L : List Int), e = .returned v ∧ w'.ownsRow w.heap.size 5 1 v L.length (bys L) ∧ (∀ i, 0 ≤ L.getD i 0 ∧ L.getD i 0 ≤ 255) ∧ L.length ≤ 1000 ∧ Cur w' g ad n cap zs ∧ w.grownBy w' (some g) := by
  obtain ⟨i0, hi, hz0, hz1, hz2⟩ := info_parts Try.info5
  have hgl := c.lt
  go_enter Try.func43, Try.ntmps43
  go_wp2_with fail
  refine (l1Below c hn (most + 1) (by omega) (by omega)).mono ?_
  rintro e w1 ⟨x, rfl, hx0, hx1, c1, g1⟩
  obtain ⟨x, rfl⟩ := Int.eq_ofNat_of_zero_le hx0
  clear c
  go_wp2_with fail
  go_loopw [5, 7] (fun v i wr => ∃ (k : Nat) (L : List Int), k ≤ x ∧ i = .int .i64 k ∧ L.length = k ∧ wr.ownsRow w.heap.size 5 1 v k (bys L) ∧ (∀ i, 0 ≤ L.getD i 0 ∧ L.getD i 0 ≤ 255) ∧ Cur wr g ad n cap zs ∧ w.grownBy wr (some g)) (fun _ i _ => x - (intOf i).toNat)
  case atStart => exact ⟨0, [], by omega, rfl, rfl, World.ownsRow_nil _ _ _ _, by simp, c1, g1⟩
  case round =>
    obtain ⟨k, L, hk, rfl, hL, hown, hbd, cr, gr⟩ := hrel
    by_cases hlt : k < x
    · clear c1 g1
      go_wp2_with fail
      refine (l1Byte cr hn).mono ?_
      rintro e w2 ⟨y, rfl, hy0, hy1, c2, g2⟩
      have o2 := hown.kept g2 (by
        cases hv : u5.ownBlock with
        | none => exact .inl rfl
        | some r => exact .inr (by have := hown.lt r hv; simp; omega))
      have z2 : w.heap.size ≤ w2.heap.size := Nat.le_trans gr.size g2.size
      have G2 := grown_trans gr g2
      clear hown cr gr g2
      go_wp2_with (at_builtin; refine wpList_append_own _ rfl _ _ 22 rfl w.heap.size 5 i0 (.int .u8 0) 1 1 Try.underlying22 hi hz0 hz1 hz2 rfl (by decide) _ _ _ rfl (o2.alloc _) ⟨w2.heap.size, 0, none⟩ 1 1 [.int .u8 y] rfl rfl (cell_one_new _ _ _) ?c2 ?c3 ?c4 ?c5 ?_)
      case c2 => intro u hu; simp at hu; subst hu; rfl
      case c3 => unfold maxLen; omega
      case c4 => omega
      case c5 => simp; omega
      intro v' w3 o3 g3 _
      have G3 : w.grownBy w3 (some g) := grown_new (grown_new G2 (World.grownBy_alloc w2 _ none) (fun r hr => by cases hr)) g3 (fun r hr => (o2.lt r hr).1)
      have c3 := (c2.alloc (.cells #[.int .u8 y] 5)).other g3 (fun r hr => by have := (o2.lt r hr).1; omega)
      have O3 := hid o3
      clear g3 o3 o2 c2 G2
      go_wp2_with fail
      go_roundw
      case rel => exact ⟨k + 1, L ++ [y], by omega, by go_num, by rw [List.length_append, hL]; rfl, by rw [bys_append]; exact O3.out, bd_snoc hbd hy0 hy1, c3, G3⟩
      case measure => simp [intOf]; omega
    · go_wp2_with fail
      go_ret
      exact ⟨_, L, rfl, by rw [hL]; exact hown, hbd, by omega, cr, gr⟩

set_option maxRecDepth 100000 in
set_option maxHeartbeats 3200000 in
theorem l1body {w : World} {g : Nat} {ad : Option Addr} {n cap : Nat} {zs : List Int} (c : Cur w g ad n cap zs) (hn : n ≤ 2097152) :
    Calls Try.prog 31 #[.pointer (some ⟨g, 0, none⟩)] w fun e w' => ∃ (v : Value) (L : List Int), e = .returned v ∧ w'.ownsRow w.heap.size 5 1 v L.length (bys L) ∧ (∀ i, 0 ≤ L.getD i 0 ∧ L.getD i 0 ≤ 255) ∧ L.length ≤ 1001 ∧ Cur w' g ad n cap zs ∧ w.grownBy w' (some g) := by
  obtain ⟨i0, hi, hz0, hz1, hz2⟩ := info_parts Try.info5
  have hgl := c.lt
  go_enter Try.func31, Try.ntmps31
  go_wp2_with fail
  refine (l1some c hn 30 (by omega) (by omega)).mono ?_
  rintro e w1 ⟨v1, L1, rfl, o1, hb1, hl1, c1, g1⟩
  go_wp2_with fail
  refine (l1Once c1 hn 15 (by omega) (by omega)).mono ?_
  rintro e w2 ⟨b, rfl, c2, g2⟩
  have o2 := o1.kept g2 (by
    cases hv : v1.ownBlock with
    | none => exact .inl rfl
    | some r => exact .inr (by have := o1.lt r hv; simp; omega))
  have G2 := grown_trans g1 g2
  clear o1 g1 g2 c1 c
  cases b with
  | false =>
    go_wp2_with fail
    go_ret
    exact ⟨_, L1, rfl, o2, hb1, by omega, c2, G2⟩
  | true =>
    go_wp2_with fail
    refine (l1Below c2 hn 2 (by omega) (by omega)).mono ?_
    rintro e w3 ⟨x, rfl, hx0, hx1, c3, g3⟩
    obtain ⟨x, rfl⟩ := Int.eq_ofNat_of_zero_le hx0
    have o3 := o2.kept g3 (by
      cases hv : v1.ownBlock with
      | none => exact .inl rfl
      | some r => exact .inr (by have := o2.lt r hv; simp; omega))
    have G3 := grown_trans G2 g3
    obtain ⟨ad1, cap1, rfl, _, _⟩ := Reads.own o3 hb1
    clear o2 g3 c2 G2
    go_wp2_with fail
    go_loopw [3] (fun v wr => ∃ (L : List Int) (ad' : Option Addr) (cap' : Nat), v = .slice ad' L.length cap' ∧ L.length ≤ 1001 ∧ wr.ownsRow w.heap.size 5 1 v L.length (bys L) ∧ (∀ i, 0 ≤ L.getD i 0 ∧ L.getD i 0 ≤ 255) ∧ Cur wr g ad n cap zs ∧ w.grownBy wr (some g)) (fun v _ => 2000 - lenOf v)
    case atStart => exact ⟨L1, ad1, cap1, rfl, by omega, o3, hb1, c3, G3⟩
    case round =>
      obtain ⟨L, ad', cap', rfl, hL, hown, hbd, cr, gr⟩ := hrel
      clear o3 c3 G3
      by_cases hlt : L.length < 1000 + x
      · have z2 : w.heap.size ≤ wr.heap.size := gr.size
        have hl0 : (0 : Int) ≤ (L.length : Int) := by omega
        go_wp2_with (at_builtin; refine wpList_append_own _ rfl _ _ 22 rfl w.heap.size 5 i0 (.int .u8 0) 1 1 Try.underlying22 hi hz0 hz1 hz2 rfl (by decide) _ _ _ rfl (hown.alloc _) ⟨wr.heap.size, 0, none⟩ 1 1 [.int .u8 ((L.length : Int) % 256)] rfl rfl (cell_one_new _ _ _) ?c2 ?c3 ?c4 ?c5 ?_)
        case c2 => intro u hu; simp at hu; subst hu; rfl
        case c3 => unfold maxLen; omega
        case c4 => omega
        case c5 => simp; omega
        intro v' w4 o4 g4 _
        have G4 : w.grownBy w4 (some g) := grown_new (grown_new gr (World.grownBy_alloc wr _ none) (fun r hr => by cases hr)) g4 (fun r hr => (hown.lt r hr).1)
        have c4 := (cr.alloc (.cells #[.int .u8 ((L.length : Int) % 256)] 5)).other g4 (fun r hr => by have := (hown.lt r hr).1; omega)
        have hb4 := bd_snoc (y := (L.length : Int) % 256) hbd (by omega) (by omega)
        have o5 : w4.ownsRow w.heap.size 5 1 v' (L ++ [(L.length : Int) % 256]).length (bys (L ++ [(L.length : Int) % 256])) := by
          rw [bys_append, List.length_append]; exact o4
        obtain ⟨ad4, cap4, rfl, _, _⟩ := Reads.own o5 hb4
        have O5 := hid o5
        clear g4 o4 o5 hown cr gr
        go_wp2_with fail
        go_roundw
        case rel => exact ⟨L ++ [(L.length : Int) % 256], ad4, cap4, rfl, by simp; omega, O5.out, hb4, c4, G4⟩
        case measure => simp [lenOf]; omega
      · go_wp2_with fail
        go_ret
        exact ⟨_, L, rfl, hown, hbd, hL, cr, gr⟩

set_option maxRecDepth 100000 in
set_option maxHeartbeats 3200000 in
theorem drawFrame {w : World} {ad : Option Addr} {n : Nat} (cap : Nat) {zs : List Int} (h : Reads w ad n zs) (hn : n ≤ 2097152) :
    Calls Try.prog 13 #[.slice ad n cap] w fun e w' => ∃ (kind : Int) (v : Value) (L : List Int), e = .returned (.tuple #[.int .i64 kind, v]) ∧ w'.ownsRow w.heap.size 5 1 v L.length (bys L) ∧ (∀ i, 0 ≤ L.getD i 0 ∧ L.getD i 0 ≤ 255) ∧ L.length ≤ 1001 ∧ Below w.heap.size w w' := by
  go_enter Try.func13, Try.ntmps13
  go_wp2_with fail
  refine (l1New cap h hn).mono ?_
  rintro e w1 ⟨g, rfl, hg, c1, b1⟩
  go_wp2_with fail
  refine (l1Below c1 hn 255 (by omega) (by omega)).mono ?_
  rintro e w2 ⟨x, rfl, hx0, hx1, c2, g2⟩
  go_wp2_with fail
  refine (l1Once c2 hn 10 (by omega) (by omega)).mono ?_
  rintro e w3 ⟨b, rfl, c3, g3⟩
  have B3 : Below w.heap.size w w3 := b1.grown (grown_trans g2 g3) b1.size (fun k hk => by cases hk; exact hg)
  clear c1 c2 g2 g3 b1
  cases b with
  | false =>
    go_wp2_with fail
    refine (l1body c3 hn).mono ?_
    rintro e w4 ⟨v, L, rfl, o4, hb4, hl4, c4, g4⟩
    have o4 : w4.ownsRow w.heap.size 5 1 v L.length (bys L) := own_base o4 B3.size
    go_wp2_with fail
    go_ret2
    exact ⟨_, v, L, rfl, o4, hb4, hl4, B3.grown g4 B3.size (fun k hk => by cases hk; exact hg)⟩
  | true =>
    go_wp2_with fail
    have hgl := c3.lt
    have c4 := c3.alloc (.cells (([0, 256, -1, 255] : List Int).map (Value.int .i64)).toArray 3)
    have B4 := B3.alloc B3.size (.cells (([0, 256, -1, 255] : List Int).map (Value.int .i64)).toArray 3)
    refine (l1PickInt c4 hn w3.heap.size (by omega) [0, 256, -1, 255] rfl (heap_alloc_new w3 _)).mono ?_
    rintro e w5 ⟨y, rfl, c5, g5⟩
    have B5 : Below w.heap.size w w5 := B4.grown g5 B4.size (fun k hk => by cases hk; exact hg)
    clear c3 c4 B3 B4 g5
    go_wp2_with fail
    refine (l1body c5 hn).mono ?_
    rintro e w6 ⟨v, L, rfl, o4, hb4, hl4, c6, g6⟩
    have o4 : w6.ownsRow w.heap.size 5 1 v L.length (bys L) := own_base o4 B5.size
    go_wp2_with fail
    go_ret2
    exact ⟨_, v, L, rfl, o4, hb4, hl4, B5.grown g6 B5.size (fun k hk => by cases hk; exact hg)⟩
end Go.Proofs.Ytchkbhdlmfchdaa
