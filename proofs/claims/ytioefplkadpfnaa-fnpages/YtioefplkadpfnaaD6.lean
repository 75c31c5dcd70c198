/- The contracts of the draws of a tuple. For codes of at most 2^21 bytes. -/
import Derived.Test.YtioefplkadpfnaaD3a
import Derived.Test.YtioefplkadpfnaaD3v
import Derived.Test.YtioefplkadpfnaaD3k
import Derived.Test.YtioefplkadpfnaaD3d
import Derived.Test.YtioefplkadpfnaaTo
import Derived.Test.YtioefplkadpfnaaPt
import Derived.Test.YtioefplkadpfnaaMga
namespace Go.Proofs.Ytioefplkadpfnaa
open Go.RowKit
set_option maxRecDepth 100000

section
variable {w u u' : World} {g : Nat} {ad : Option Addr} {n cap : Nat} {zs : List Int} {row : Option Nat}
theorem gw_alloc (h : w.grownBy u row) (o : Obj) : w.grownBy (u.alloc o) row :=
  ⟨h.os, h.tape, h.output, Nat.le_trans h.size (by rw [alloc_size]; omega), fun i hi hr => (heap_alloc_old _ _ (Nat.lt_of_lt_of_le hi h.size)).trans (h.block i hi hr)⟩
theorem gw_row (h : w.grownBy u row) {q : Nat} (hq : w.heap.size ≤ q) (R : Array Value) : w.grownBy (u.setRow q R) row :=
  ⟨h.os, h.tape, h.output, by simpa using h.size, fun i hi hr => (setRow_other _ _ _ _ (by omega)).trans (h.block i hi hr)⟩
theorem row_grown (u : World) (q : Nat) (R : Array Value) : u.grownBy (u.setRow q R) (some q) := ⟨rfl, rfl, rfl, by simp, fun i _ hne => setRow_other _ _ _ _ (fun e => hne (by rw [e]))⟩
theorem Cur.rowed (c : Cur u g ad n cap zs) {q : Nat} (hq : g < q) (R : Array Value) : Cur (u.setRow q R) g ad n cap zs := c.other (row_grown u q R) (fun k hk => by cases hk; exact hq)
theorem own_cur {base m : Nat} {v : Value} {xs : List Value} (o : u.ownsRow base 5 1 v m xs) (c : Cur u g ad n cap zs) (hg : u.grownBy u' (some g)) : u'.ownsRow base 5 1 v m xs := by
  obtain ⟨i, y, _, hr⟩ := c.row
  exact o.kept hg (oty_ne o hr (by decide))
theorem own_rowed {base m q : Nat} {v : Value} {xs : List Value} {cs : Array Value} {t : TypeId} (o : u.ownsRow base 5 1 v m xs) (hq : u.heap[q]? = some (.cells cs t (0, 0))) (ht : t ≠ 5) (R : Array Value) : (u.setRow q R).ownsRow base 5 1 v m xs :=
  o.kept (row_grown u q R) (oty_ne o hq ht)
theorem tup_cur {q : Nat} {cs : Array Value} {t : TypeId} (h : u.heap[q]? = some (.cells cs t (0, 0))) (hq : g < q) (hg : u.grownBy u' (some g)) : u'.heap[q]? = some (.cells cs t (0, 0)) :=
  (hg.block q (Array.getElem?_eq_some_iff.1 h).1 (by simp; omega)).trans h
end
structure AnsT (w : World) (g : Nat) (ad : Option Addr) (n cap : Nat) (zs : List Int) (e : Ending) (w' : World) : Prop where
  ex : ∃ A B K N f a1 c1 D1 L M h a2 c2 D2, e = .returned (.agg #[.int .i64 A, .int .i64 B, .int .i64 K, .int .i64 N, .float .f64 f, .slice a1 D1.length c1, .int .i64 L, .int .i64 M, .float .f64 h, .slice a2 D2.length c2]) ∧ w'.ownsRow w.heap.size 5 1 (.slice a1 D1.length c1) D1.length (bys D1) ∧ (∀ i, 0 ≤ D1.getD i 0 ∧ D1.getD i 0 ≤ 255) ∧ D1.length ≤ 3000 ∧ (-9223372036854775808 ≤ N ∧ N ≤ 9223372036854775807) ∧ f < 18446744073709551616 ∧
    w'.ownsRow w.heap.size 5 1 (.slice a2 D2.length c2) D2.length (bys D2) ∧ (∀ i, 0 ≤ D2.getD i 0 ∧ D2.getD i 0 ≤ 255) ∧ D2.length ≤ 3000 ∧ (-9223372036854775808 ≤ M ∧ M ≤ 9223372036854775807) ∧ h < 18446744073709551616 ∧ Cur w' g ad n cap zs ∧ w.grownBy w' (some g)

theorem finT {w u : World} {g q0 : Nat} {ad : Option Addr} {n cap : Nat} {zs : List Int} {A B K N : Int} {f : Nat} {a1 : Option Addr} {c1 : Nat} {D1 : List Int} {L M : Int} {h : Nat} {a2 : Option Addr} {c2 : Nat} {D2 : List Int} {cs : Array Value}
    (hq : w.heap.size ≤ q0) (hgq : g < q0) (R0 : u.heap[q0]? = some (.cells cs 65 (0, 0))) (GG : w.grownBy u (some g)) (c : Cur u g ad n cap zs)
    (o1 : u.ownsRow w.heap.size 5 1 (.slice a1 D1.length c1) D1.length (bys D1)) (b1 : ∀ i, 0 ≤ D1.getD i 0 ∧ D1.getD i 0 ≤ 255) (l1 : D1.length ≤ 3000) (hN : -9223372036854775808 ≤ N ∧ N ≤ 9223372036854775807) (hf : f < 18446744073709551616)
    (o2 : u.ownsRow w.heap.size 5 1 (.slice a2 D2.length c2) D2.length (bys D2)) (b2 : ∀ i, 0 ≤ D2.getD i 0 ∧ D2.getD i 0 ≤ 255) (l2 : D2.length ≤ 3000) (hM : -9223372036854775808 ≤ M ∧ M ≤ 9223372036854775807) (hh : h < 18446744073709551616) :
    AnsT w g ad n cap zs (.returned (.agg #[.int .i64 A, .int .i64 B, .int .i64 K, .int .i64 N, .float .f64 f, .slice a1 D1.length c1, .int .i64 L, .int .i64 M, .float .f64 h, .slice a2 D2.length c2])) (u.setRow q0 #[.int .i64 A, .int .i64 B, .int .i64 K, .int .i64 N, .float .f64 f, .slice a1 D1.length c1, .int .i64 L, .int .i64 M, .float .f64 h, .slice a2 D2.length c2]) :=
  ⟨A, B, K, N, f, a1, c1, D1, L, M, h, a2, c2, D2, rfl, own_rowed o1 R0 (by decide) _, b1, l1, hN, hf, own_rowed o2 R0 (by decide) _, b2, l2, hM, hh, c.rowed hgq _, gw_row GG hq _⟩

set_option maxHeartbeats 6400000 in
theorem l6tuple {w : World} {g : Nat} {ad : Option Addr} {n cap : Nat} {zs : List Int} (c : Cur w g ad n cap zs) (hn : n ≤ 2097152) :
    Calls Try.prog 47 #[.pointer (some ⟨g, 0, none⟩)] w fun e w' => AnsT w g ad n cap zs e w' := by
  have gl := c.lt
  have G0 := hid (gw_alloc (grown_refl w (some g)) (.cells #[.int .i64 0, .int .i64 0, .int .i64 0, .int .i64 0, .float .f64 0, .slice none 0 0, .int .i64 0, .int .i64 0, .float .f64 0, .slice none 0 0] 65))
  have R0 := hid (heap_alloc_new w (.cells #[.int .i64 0, .int .i64 0, .int .i64 0, .int .i64 0, .float .f64 0, .slice none 0 0, .int .i64 0, .int .i64 0, .float .f64 0, .slice none 0 0] 65))
  have C0 := hid (c.alloc (.cells #[.int .i64 0, .int .i64 0, .int .i64 0, .int .i64 0, .float .f64 0, .slice none 0 0, .int .i64 0, .int .i64 0, .float .f64 0, .slice none 0 0] 65))
  have S0 := hid (alloc_size w (.cells #[.int .i64 0, .int .i64 0, .int .i64 0, .int .i64 0, .float .f64 0, .slice none 0 0, .int .i64 0, .int .i64 0, .float .f64 0, .slice none 0 0] 65))
  clear c
  go_enter Try.func47, Try.ntmps47
  go_wp2_with fail
  generalize w.alloc (.cells #[.int .i64 0, .int .i64 0, .int .i64 0, .int .i64 0, .float .f64 0, .slice none 0 0, .int .i64 0, .int .i64 0, .float .f64 0, .slice none 0 0] 65) = U0 at *
  refine (l1Below C0.out hn 9 (by omega) (by omega)).mono ?_
  rintro e w1 ⟨x, rfl, x0, x9, c, gg⟩
  replace R0 := hid (tup_cur R0.out gl gg)
  replace G0 := hid (grown_trans G0.out gg)
  replace S0 := hid (show w.heap.size + 1 ≤ w1.heap.size by have := S0.out; have := gg.size; omega)
  replace C0 := hid c
  clear c gg
  go_wp2_with fail
  refine (l3key C0.out hn).mono ?_
  rintro e w2 ⟨K, N, f, v, D1, rfl, o, bd1, ld1, hN, hf, c, gg⟩
  obtain ⟨a1, c1, rfl⟩ := own_form2 o
  have hst1 := fun w a m => run_store Try.prog w a (.float .f64 f) m rfl
  have s0 := S0.out
  have O1 := hid (owns_base (base' := w.heap.size) o (by omega))
  have BD1 := hid bd1
  replace R0 := hid (tup_cur R0.out gl gg)
  replace G0 := hid (grown_trans G0.out gg)
  replace S0 := hid (show w.heap.size + 1 ≤ w2.heap.size by have := gg.size; omega)
  replace C0 := hid c
  clear c gg o bd1 s0
  go_wp2_with fail
  refine (l3value C0.out hn).mono ?_
  rintro e w3 ⟨L, M, h, v, D2, rfl, o, bd2, ld2, hM, hh, c, gg⟩
  obtain ⟨a2, c2, rfl⟩ := own_form2 o
  have hst2 := fun w a m => run_store Try.prog w a (.float .f64 h) m rfl
  have s0 := S0.out
  have O2 := hid ((owns_base (base' := w.heap.size) o (by omega)).alloc (.cells #[.int .i64 (1 + x), .int .i64 0, .int .i64 K, .int .i64 N, .float .f64 f, .slice a1 D1.length c1, .int .i64 L, .int .i64 M, .float .f64 h, .slice a2 D2.length c2] 65))
  have BD2 := hid bd2
  replace O1 := hid ((own_cur O1.out C0.out gg).alloc (.cells #[.int .i64 (1 + x), .int .i64 0, .int .i64 K, .int .i64 N, .float .f64 f, .slice a1 D1.length c1, .int .i64 L, .int .i64 M, .float .f64 h, .slice a2 D2.length c2] 65))
  replace R0 := hid ((heap_alloc_old w3 (.cells #[.int .i64 (1 + x), .int .i64 0, .int .i64 K, .int .i64 N, .float .f64 f, .slice a1 D1.length c1, .int .i64 L, .int .i64 M, .float .f64 h, .slice a2 D2.length c2] 65) (show w.heap.size < w3.heap.size by have := gg.size; omega)).trans (tup_cur R0.out gl gg))
  replace G0 := hid (gw_alloc (grown_trans G0.out gg) (.cells #[.int .i64 (1 + x), .int .i64 0, .int .i64 K, .int .i64 N, .float .f64 f, .slice a1 D1.length c1, .int .i64 L, .int .i64 M, .float .f64 h, .slice a2 D2.length c2] 65))
  have R3 := hid (heap_alloc_new w3 (.cells #[.int .i64 (1 + x), .int .i64 0, .int .i64 K, .int .i64 N, .float .f64 f, .slice a1 D1.length c1, .int .i64 L, .int .i64 M, .float .f64 h, .slice a2 D2.length c2] 65))
  have Q3 := hid (show w.heap.size + 1 ≤ w3.heap.size by have := gg.size; omega)
  replace C0 := hid (c.alloc (.cells #[.int .i64 (1 + x), .int .i64 0, .int .i64 K, .int .i64 N, .float .f64 f, .slice a1 D1.length c1, .int .i64 L, .int .i64 M, .float .f64 h, .slice a2 D2.length c2] 65))
  clear c gg o bd2 s0 S0
  go_wp2_with fail
  generalize w3.alloc (.cells #[.int .i64 (1 + x), .int .i64 0, .int .i64 K, .int .i64 N, .float .f64 f, .slice a1 D1.length c1, .int .i64 L, .int .i64 M, .float .f64 h, .slice a2 D2.length c2] 65) = U3 at *
  generalize w3.heap.size = q3 at *
  have gq : g < q3 := by have := Q3.out; omega
  refine (l1Once C0.out hn 3 (by omega) (by omega)).mono ?_
  rintro e w4 ⟨b, rfl, c, gg⟩
  replace R0 := hid (tup_cur R0.out gl gg)
  replace R3 := hid (tup_cur R3.out gq gg)
  replace O1 := hid (own_cur O1.out C0.out gg)
  replace O2 := hid (own_cur O2.out C0.out gg)
  replace G0 := hid (grown_trans G0.out gg)
  replace C0 := hid c
  clear c gg
  cases b
  · go_wp2_with (first
      | (refine wpList_load_row rfl 65 (.tmp 3) rfl q3 rfl 65 _ (0, 0) _ R3.out Try.underlying65 rfl size_tup ?_)
      | (refine wpList_store_row rfl 65 (.tmp 2) (.tmp 18) rfl w.heap.size #[.int .i64 (1 + x), .int .i64 0, .int .i64 K, .int .i64 N, .float .f64 f, .slice a1 D1.length c1, .int .i64 L, .int .i64 M, .float .f64 h, .slice a2 D2.length c2] rfl rfl 65 _ R0.out ?s1 ?s2 ?s3 ?_))
    case s1 => exact size_tup
    case s2 => rfl
    case s3 => simp [Value.oneCell']
    exact bodyPost_ret (results_cell_row Try.results47 _ _ w.heap.size 65 _ (0, 0) _ rfl (setRow_heap _ _ _ _ _ _ R0.out) Try.underlying65 rfl size_tup) rfl (finT (Nat.le_refl _) gl R0.out G0.out C0.out O1.out BD1.out (by omega) hN hf O2.out BD2.out (by omega) hM hh)
  · go_wp2_with fail
    refine (l1Below C0.out hn 9 (by omega) (by omega)).mono ?_
    rintro e w5 ⟨y, rfl, y0, y9, c, gg⟩
    have r0 := tup_cur R0.out gl gg
    have r3 := tup_cur R3.out gq gg
    have o1 := own_cur O1.out C0.out gg
    have o2 := own_cur O2.out C0.out gg
    have g0 := grown_trans G0.out gg
    have q := Q3.out
    have e1 : w5.cell? ⟨q3, 1, none⟩ = some (.int .i64 0) := by rw [cell_of_row _ _ _ _ _ _ r3]; rfl
    have f1 : w5.frozen? ⟨q3, 1, none⟩ = false := frozen_of_row _ _ _ _ _ r3
    have ew : w5.setCell ⟨q3, 1, none⟩ (.int .i64 (1 + y)) = w5.setRow q3 #[.int .i64 (1 + x), .int .i64 (1 + y), .int .i64 K, .int .i64 N, .float .f64 f, .slice a1 D1.length c1, .int .i64 L, .int .i64 M, .float .f64 h, .slice a2 D2.length c2] := setCell_eq_setRow w5 q3 1 _ 65 (0, 0) _ r3
    have T3 := hid (show (w5.setCell ⟨q3, 1, none⟩ (.int .i64 (1 + y))).heap[q3]? = some (.cells #[.int .i64 (1 + x), .int .i64 (1 + y), .int .i64 K, .int .i64 N, .float .f64 f, .slice a1 D1.length c1, .int .i64 L, .int .i64 M, .float .f64 h, .slice a2 D2.length c2] 65 (0, 0)) by rw [ew]; exact setRow_heap _ _ _ _ _ _ r3)
    have T0 := hid (show (w5.setCell ⟨q3, 1, none⟩ (.int .i64 (1 + y))).heap[w.heap.size]? = some (.cells #[.int .i64 0, .int .i64 0, .int .i64 0, .int .i64 0, .float .f64 0, .slice none 0 0, .int .i64 0, .int .i64 0, .float .f64 0, .slice none 0 0] 65 (0, 0)) by rw [ew]; exact (setRow_other _ _ _ _ (by omega)).trans r0)
    have P1 := hid (show (w5.setCell ⟨q3, 1, none⟩ (.int .i64 (1 + y))).ownsRow w.heap.size 5 1 (.slice a1 D1.length c1) D1.length (bys D1) by rw [ew]; exact own_rowed o1 r3 (by decide) _)
    have P2 := hid (show (w5.setCell ⟨q3, 1, none⟩ (.int .i64 (1 + y))).ownsRow w.heap.size 5 1 (.slice a2 D2.length c2) D2.length (bys D2) by rw [ew]; exact own_rowed o2 r3 (by decide) _)
    have PG := hid (show w.grownBy (w5.setCell ⟨q3, 1, none⟩ (.int .i64 (1 + y))) (some g) by rw [ew]; exact gw_row g0 (by omega) _)
    have PC := hid (show Cur (w5.setCell ⟨q3, 1, none⟩ (.int .i64 (1 + y))) g ad n cap zs by rw [ew]; exact c.rowed gq _)
    clear r0 r3 o1 o2 g0 q ew c gg R0 R3 O1 O2 G0 C0
    go_wp2_with (first
      | (refine wpList_load_row rfl 65 (.tmp 3) rfl q3 rfl 65 _ (0, 0) _ T3.out Try.underlying65 rfl size_tup ?_)
      | (refine wpList_store_row rfl 65 (.tmp 2) (.tmp 18) rfl w.heap.size #[.int .i64 (1 + x), .int .i64 (1 + y), .int .i64 K, .int .i64 N, .float .f64 f, .slice a1 D1.length c1, .int .i64 L, .int .i64 M, .float .f64 h, .slice a2 D2.length c2] rfl rfl 65 _ T0.out ?s1 ?s2 ?s3 ?_))
    case s1 => exact size_tup
    case s2 => rfl
    case s3 => simp [Value.oneCell']
    exact bodyPost_ret (results_cell_row Try.results47 _ _ w.heap.size 65 _ (0, 0) _ rfl (setRow_heap _ _ _ _ _ _ T0.out) Try.underlying65 rfl size_tup) rfl (finT (Nat.le_refl _) gl T0.out PG.out PC.out P1.out BD1.out (by omega) hN hf P2.out BD2.out (by omega) hM hh)

structure AnsTB (w : World) (e : Ending) (w' : World) : Prop where
  ex : ∃ A B K N f a1 n1 c1 D1 L M h a2 n2 c2 D2, e = .returned (.agg #[.int .i64 A, .int .i64 B, .int .i64 K, .int .i64 N, .float .f64 f, .slice a1 n1 c1, .int .i64 L, .int .i64 M, .float .f64 h, .slice a2 n2 c2]) ∧ Ia w' K N f a1 n1 c1 D1 ∧ Ia w' L M h a2 n2 c2 D2 ∧ Below w.heap.size w w'
theorem own_ia {w : World} {B : Nat} {K N : Int} {f : Nat} {a : Option Addr} {c : Nat} {D : List Int} (o : w.ownsRow B 5 1 (.slice a D.length c) D.length (bys D)) (b : ∀ i, 0 ≤ D.getD i 0 ∧ D.getD i 0 ≤ 255) (l : D.length ≤ 3000) (hN : -9223372036854775808 ≤ N ∧ N ≤ 9223372036854775807) (hf : f < 18446744073709551616) : Ia w K N f a D.length c D := by
  obtain ⟨_, _, e, r, _⟩ := Reads.own o b
  obtain ⟨rfl, _, rfl⟩ := Value.slice.inj e
  exact ⟨r, own_nil o, by omega, hN.1, hN.2, hf⟩
theorem size_it6 : (Try.prog.info? 63).map (·.size) = some 4 := by kernel_rfl

theorem law_big (ad : Option Addr) (n cap : Nat) (w : World) :
    Calls Try.prog 11 #[.slice ad n cap] w fun e w' => e = .returned (.bool (decide ((1048576 : Int) < (n : Int)))) ∧ w' = w := by
  go_enter Try.func11, Try.ntmps11
  go_wp2
  go_ret
  exact ⟨rfl, rfl⟩
theorem own_le {w : World} {base m c : Nat} {a : Option Addr} {xs : List Value} (h : w.ownsRow base 5 1 (.slice a m c) m xs) : m ≤ c := by
  rcases h.2 with ⟨e, h0⟩ | ⟨g, cap, cur, e, _, _, hnc, _⟩
  · omega
  · cases e; exact hnc
end Go.Proofs.Ytioefplkadpfnaa
