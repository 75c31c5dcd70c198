/- The contracts of the draws of two items and of a value. For codes of at most 2^21 bytes. -/
import Derived.Test.YtlapfmfaammheaaD6
import Derived.Test.YtlapfmfaammheaaMga
import Derived.Test.YtlapfmfaammheaaSr0
import Derived.Test.YtlapfmfaammheaaRk3
namespace Go.Proofs.Ytlapfmfaammheaa
open Go.RowKit
set_option maxRecDepth 100000

theorem results_cell2 {P : Program} {fn : Func} {p q : Tmp} {ty : TypeId} (h : fn.results = #[.cell p ty, .cell q ty]) (tmps : Array Value) (w : World) (g1 g2 : Nat) (t : TypeId) (c1 c2 : Array Value) (fr : Nat × Nat) (d : TypeDesc)
    (hp : tmps.getD p undef = .pointer (some ⟨g1, 0, none⟩)) (hq : tmps.getD q undef = .pointer (some ⟨g2, 0, none⟩)) (h1 : w.heap[g1]? = some (.cells c1 t fr)) (h2 : w.heap[g2]? = some (.cells c2 t fr))
    (hu : P.underlying ty = some d) (hd : (match d with | .struct _ | .array _ _ => true | _ => false) = true) (i1 : (P.info? ty).map (·.size) = some c1.size) (i2 : (P.info? ty).map (·.size) = some c2.size) :
    (results fn tmps).run P w = .ok (.tuple #[.agg c1, .agg c2]) w := by
  have hp' : tmps[p]?.getD undef = .pointer (some ⟨g1, 0, none⟩) := by simpa using hp
  have hq' : tmps[q]?.getD undef = .pointer (some ⟨g2, 0, none⟩) := by simpa using hq
  simp [results, h, hp', hq', asAddr, run_loadVar_row w g1 t ty c1 fr d h1 hu hd i1, run_loadVar_row w g2 t ty c2 fr d h2 hu hd i2]
structure AnsC (w : World) (e : Ending) (w' : World) : Prop where
  ex : ∃ K1 N1 f1 a1 n1 c1 D1 K2 N2 f2 a2 n2 c2 D2, e = .returned (.tuple #[.agg #[.int .i64 K1, .int .i64 N1, .float .f64 f1, .slice a1 n1 c1], .agg #[.int .i64 K2, .int .i64 N2, .float .f64 f2, .slice a2 n2 c2]]) ∧ Ia w' K1 N1 f1 a1 n1 c1 D1 ∧ Ia w' K2 N2 f2 a2 n2 c2 D2 ∧ Below w.heap.size w w'
structure AnsV (w : World) (e : Ending) (w' : World) : Prop where
  ex : ∃ K1 N1 f1 a1 n1 c1 D1, e = .returned (.agg #[.int .i64 K1, .int .i64 N1, .float .f64 f1, .slice a1 n1 c1]) ∧ Ia w' K1 N1 f1 a1 n1 c1 D1 ∧ Below w.heap.size w w'
theorem own_ia' {w : World} {B : Nat} {K N : Int} {f : Nat} {a : Option Addr} {c : Nat} {D : List Int} (o : w.ownsRow B 5 1 (.slice a D.length c) D.length (bys D)) (b : ∀ i, 0 ≤ D.getD i 0 ∧ D.getD i 0 ≤ 255) (l : D.length ≤ 10000) (hN : -9223372036854775808 ≤ N ∧ N ≤ 9223372036854775807) (hf : f < 18446744073709551616) : Ia w K N f a D.length c D := by
  obtain ⟨_, _, e, r, _⟩ := Reads.own o b
  obtain ⟨rfl, _, rfl⟩ := Value.slice.inj e
  exact ⟨r, own_nil o, l, hN.1, hN.2, hf⟩
theorem row_app {u u' : World} {B m k : Nat} {v : Value} {xs : List Value} {cs : Array Value} {t : TypeId} (o : u.ownsRow B 5 1 v m xs) (hk : u.heap[k]? = some (.cells cs t (0, 0))) (ht : t ≠ 5) (hg : u.grownBy u' v.ownBlock) : u'.heap[k]? = some (.cells cs t (0, 0)) :=
  (hg.block k (Array.getElem?_eq_some_iff.1 hk).1 (fun e => by
    rcases oty_ne o hk ht with h | h
    · rw [h] at e; cases e
    · exact h e.symm)).trans hk
theorem blk {w : World} {k : Nat} {x : Obj} (h : w.heap[k]? = some x) : k < w.heap.size := (Array.getElem?_eq_some_iff.1 h).1

set_option maxHeartbeats 6400000 in
theorem drawVal {w : World} {ad : Option Addr} {n : Nat} (cap : Nat) {zs : List Int} (h : Reads w ad n zs) (hn : n ≤ 2097152) :
    Calls Try.prog 16 #[.slice ad n cap] w fun e w' => AnsV w e w' := by
  have B0 := hid (Below.alloc1 w (.cells #[.int .i64 0, .int .i64 0, .float .f64 0, .slice none 0 0] 26))
  have R0 := hid (heap_alloc_new w (.cells #[.int .i64 0, .int .i64 0, .float .f64 0, .slice none 0 0] 26))
  have S0 := hid (alloc_size w (.cells #[.int .i64 0, .int .i64 0, .float .f64 0, .slice none 0 0] 26))
  have H0 := hid (h.alloc (.cells #[.int .i64 0, .int .i64 0, .float .f64 0, .slice none 0 0] 26))
  clear h
  go_enter Try.func16, Try.ntmps16
  go_wp2_with fail
  generalize w.alloc (.cells #[.int .i64 0, .int .i64 0, .float .f64 0, .slice none 0 0] 26) = U0 at *
  refine (l1New cap H0.out hn).mono ?_
  rintro e w1 ⟨g, rfl, hg, c, b⟩
  have s0 := S0.out
  have hgq : w.heap.size < g := by omega
  replace R0 := hid ((b.block w.heap.size (by omega)).trans R0.out)
  replace B0 := hid (B0.out.trans (b.mono (by omega)))
  replace S0 := hid (show w.heap.size + 1 ≤ w1.heap.size by have := b.size; omega)
  have C0 := hid c
  clear c b hg s0 H0
  go_wp2_with fail
  refine (l3value C0.out hn).mono ?_
  rintro e w2 ⟨K1, N1, f1, v, D1, rfl, o, bd1, ld1, hN1, hf1, c, gg⟩
  obtain ⟨a1, c1, rfl⟩ := own_form2 o
  have hst1 := fun w a m => run_store Try.prog w a (.float .f64 f1) m rfl
  have s0 := S0.out
  have zz := gg.size
  have O1 := hid ((owns_base (base' := w.heap.size) o (by omega)).alloc (.cells #[.int .i64 K1, .int .i64 N1, .float .f64 f1, .slice a1 D1.length c1] 26))
  have BD1 := hid bd1
  replace R0 := hid ((heap_alloc_old w2 (.cells #[.int .i64 K1, .int .i64 N1, .float .f64 f1, .slice a1 D1.length c1] 26) (show w.heap.size < w2.heap.size by omega)).trans ((gg.block w.heap.size (by omega) (by simp; omega)).trans R0.out))
  replace B0 := hid ((B0.out.grown gg B0.out.size (fun k hk => by cases hk; omega)).alloc (by omega) (.cells #[.int .i64 K1, .int .i64 N1, .float .f64 f1, .slice a1 D1.length c1] 26))
  have R3 := hid (heap_alloc_new w2 (.cells #[.int .i64 K1, .int .i64 N1, .float .f64 f1, .slice a1 D1.length c1] 26))
  have gq : g < w2.heap.size := c.lt
  have Q3 := hid (show w.heap.size + 1 ≤ w2.heap.size by omega)
  replace C0 := hid (c.alloc (.cells #[.int .i64 K1, .int .i64 N1, .float .f64 f1, .slice a1 D1.length c1] 26))
  clear c gg o bd1 s0 zz S0
  go_wp2_with fail
  generalize w2.alloc (.cells #[.int .i64 K1, .int .i64 N1, .float .f64 f1, .slice a1 D1.length c1] 26) = U3 at *
  generalize w2.heap.size = q3 at *
  refine (l1Once C0.out hn 4 (by omega) (by omega)).mono ?_
  rintro e w4 ⟨b, rfl, c, gg⟩
  have q := Q3.out
  replace R0 := hid ((gg.block w.heap.size (blk R0.out) (by simp; omega)).trans R0.out)
  replace R3 := hid (tup_cur R3.out gq gg)
  replace O1 := hid (own_cur O1.out C0.out gg)
  replace B0 := hid (B0.out.grown gg B0.out.size (fun k hk => by cases hk; omega))
  replace C0 := hid c
  clear c gg
  cases b
  · go_wp2_with (first
      | (refine wpList_load_row rfl 26 (.tmp 4) rfl q3 rfl 26 _ (0, 0) _ R3.out Try.underlying26 rfl size_it6 ?_)
      | (refine wpList_store_row rfl 26 (.tmp 2) (.tmp 13) rfl w.heap.size #[.int .i64 K1, .int .i64 N1, .float .f64 f1, .slice a1 D1.length c1] rfl rfl 26 _ R0.out ?s1 ?s2 ?s3 ?_))
    case s1 => exact size_it6
    case s2 => rfl
    case s3 => simp [Value.oneCell']
    exact bodyPost_ret (results_cell_row Try.results16 _ _ w.heap.size 26 _ (0, 0) _ rfl (setRow_heap _ _ _ _ _ _ R0.out) Try.underlying26 rfl size_it6) rfl ⟨K1, N1, f1, a1, _, c1, D1, rfl, own_ia' (own_rowed O1.out R0.out (by decide) _) BD1.out (by omega) hN1 hf1, below_setRow B0.out (Nat.le_refl _) _⟩
  · go_wp2_with fail
    refine (l3any C0.out hn).mono ?_
    rintro e w5 ⟨K2, N2, f2, v, D2, rfl, o, bd2, ld2, hN2, hf2, c, gg⟩
    obtain ⟨a2, c2, rfl⟩ := own_form2 o
    have r0 := (gg.block w.heap.size (blk R0.out) (by simp; omega)).trans R0.out
    have r3 := tup_cur R3.out gq gg
    have b0 := B0.out.grown gg B0.out.size (fun k hk => by cases hk; omega)
    have T3 := hid r3
    have V3 := hid (setRow_heap w5 q3 _ #[.int .i64 K2, .int .i64 N2, .float .f64 f2, .slice a2 D2.length c2] _ _ r3)
    have V0 := hid ((setRow_other w5 q3 w.heap.size #[.int .i64 K2, .int .i64 N2, .float .f64 f2, .slice a2 D2.length c2] (by omega)).trans r0)
    have P3 := hid (own_rowed o r3 (by decide) #[.int .i64 K2, .int .i64 N2, .float .f64 f2, .slice a2 D2.length c2])
    have PB := hid (below_setRow b0 (show w.heap.size ≤ q3 by omega) #[.int .i64 K2, .int .i64 N2, .float .f64 f2, .slice a2 D2.length c2])
    have BD2 := hid bd2
    clear r0 r3 b0 o c gg R0 R3 O1 B0 C0 bd2
    go_wp2_with (first
      | (refine wpList_store_row rfl 26 (.tmp 4) (.tmp 12) rfl q3 #[.int .i64 K2, .int .i64 N2, .float .f64 f2, .slice a2 D2.length c2] rfl rfl 26 _ T3.out ?s4 ?s5 ?s6 ?_)
      | (refine wpList_load_row rfl 26 (.tmp 4) rfl q3 rfl 26 _ (0, 0) _ V3.out Try.underlying26 rfl size_it6 ?_)
      | (refine wpList_store_row rfl 26 (.tmp 2) (.tmp 13) rfl w.heap.size #[.int .i64 K2, .int .i64 N2, .float .f64 f2, .slice a2 D2.length c2] rfl rfl 26 _ V0.out ?s1 ?s2 ?s3 ?_))
    case s4 => exact size_it6
    case s5 => rfl
    case s6 => simp [Value.oneCell']
    case s1 => exact size_it6
    case s2 => rfl
    case s3 => simp [Value.oneCell']
    exact bodyPost_ret (results_cell_row Try.results16 _ _ w.heap.size 26 _ (0, 0) _ rfl (setRow_heap _ _ _ _ _ _ V0.out) Try.underlying26 rfl size_it6) rfl ⟨K2, N2, f2, a2, _, c2, D2, rfl, own_ia' (own_rowed P3.out V0.out (by decide) _) BD2.out (by omega) hN2 hf2, below_setRow PB.out (Nat.le_refl _) _⟩
end Go.Proofs.Ytlapfmfaammheaa
