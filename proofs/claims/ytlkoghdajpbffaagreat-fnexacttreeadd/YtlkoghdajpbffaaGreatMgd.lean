/- Texts of this proof in one: It2 Al It3 It4 It5 It6. -/
import Derived.Test.YtlkoghdajpbffaaGreatMgc
import Derived.Test.YtlkoghdajpbffaaGreatMga
import Derived.Laws.Tables
/- The contracts of the laws' szItem, toItem, eqItem, and of the specification's KeyOk. Conditions: texts of at most 2^21 bytes where memory is made. -/

namespace Go.Proofs.YtlkoghdajpbffaaGreat
open Go.RowKit
structure Box (w : World) (g : Nat) (K N : Int) (f : Nat) (ad : Option Addr) (n cap : Nat) : Prop where
 c0 : w.cell? ⟨g, 0, none⟩ = some (.int .i64 K)
 c1 : w.cell? ⟨g, 1, none⟩ = some (.int .i64 N)
 c2 : w.cell? ⟨g, 2, none⟩ = some (.float .f64 f)
 c3 : w.cell? ⟨g, 3, none⟩ = some (.slice ad n cap)
theorem Box.new (w : World) (K N : Int) (f : Nat) (ad : Option Addr) (n cap : Nat) (t : TypeId) : Box (w.alloc (.cells #[.int .i64 K, .int .i64 N, .float .f64 f, .slice ad n cap] t)) w.heap.size K N f ad n cap := by
 have h := heap_alloc_new w (.cells #[.int .i64 K, .int .i64 N, .float .f64 f, .slice ad n cap] t)
 refine ⟨?_, ?_, ?_, ?_⟩ <;> (rw [cell_of_row _ _ _ _ _ _ h]; rfl)
theorem Box.below {w w' : World} {g : Nat} {K N : Int} {f : Nat} {ad : Option Addr} {n cap : Nat} (b : Box w g K N f ad n cap) {B : Nat} (h : Below B w w') (hB : g < B) : Box w' g K N f ad n cap :=
 ⟨(h.cell (p := ⟨g, 0, none⟩) hB).trans b.c0, (h.cell (p := ⟨g, 1, none⟩) hB).trans b.c1, (h.cell (p := ⟨g, 2, none⟩) hB).trans b.c2, (h.cell (p := ⟨g, 3, none⟩) hB).trans b.c3⟩
theorem szByteS (ad : Option Addr) (n cap : Nat) (left : Int) (hn : n ≤ 9223372036854775807) (h0 : 0 ≤ left) (h1 : left ≤ 1048576) (w : World) :
 Calls Tryz.prog 16 #[.slice ad n cap, .int .i64 left] w fun e w' => e = .returned (.int .i64 (if left < n then -1 else left - n)) ∧ w' = w := by
 have a1 : (0 : Int) ≤ (n : Int) := by omega
 have a2 : (n : Int) ≤ 9223372036854775807 := by omega
 by_cases h : left < n
 · rw [if_pos h]
   have q : left - (n : Int) < 0 := by omega
   go_enter Tryz.func16, Tryz.ntmps16
   go_wp2
   go_ret
   exact ⟨rfl, rfl⟩
 · rw [if_neg h]
   have q : ¬ left - (n : Int) < 0 := by omega
   go_enter Tryz.func16, Tryz.ntmps16
   go_wp2
   go_ret
   exact ⟨rfl, rfl⟩
theorem szItem (K N : Int) (f : Nat) (ad : Option Addr) (n cap : Nat) (left : Int) (hn : n ≤ 9223372036854775807) (h0 : 0 ≤ left) (h1 : left ≤ 1048576) (w : World) :
 Calls Tryz.prog 5 #[.agg #[.int .i64 K, .int .i64 N, .float .f64 f, .slice ad n cap], .int .i64 left] w fun e w' => e = .returned (.int .i64 (if left < n then -1 else left - n)) ∧ Below w.heap.size w w' := by
 have HA := hid (show Below w.heap.size w (w.alloc (.cells #[.int .i64 K, .int .i64 N, .float .f64 f, .slice ad n cap] 28)) from (Below.refl _ _).alloc qN _)
 by_cases h : left < n
 · rw [if_pos h]
   go_enter Tryz.func5, Tryz.ntmps5
   go_wp2_with fail
   refine (szByteS ad n cap left hn h0 h1 _).mono ?_
   rintro e w1 ⟨rfl, rfl⟩
   rw [if_pos h]
   go_wp2_with fail
   go_ret
   exact ⟨rfl, HA.out⟩
 · rw [if_neg h]
   have q : ¬ left - (n : Int) < 0 := by omega
   have hz := szByteS ad n cap left hn h0 h1
   rw [if_neg h] at hz
   have HZ := hid hz
   clear hz
   go_enter Tryz.func5, Tryz.ntmps5
   go_wp2_with fail
   refine (HZ.out _).mono ?_
   rintro e w1 ⟨rfl, rfl⟩
   go_wp2_with fail
   go_ret
   exact ⟨rfl, HA.out⟩
set_option maxRecDepth 100000 in
set_option maxHeartbeats 1600000 in
theorem spec_KeyOk (K N : Int) (f : Nat) (ad : Option Addr) (n cap : Nat) (hf : f < 18446744073709551616) (hn : n ≤ 2097152) (w : World) :
 Calls Tryz.prog 41 #[.agg #[.int .i64 K, .int .i64 N, .float .f64 f, .slice ad n cap]] w fun e w' => e = .returned (.bool (okK K N f n)) ∧ Below w.heap.size w w' := by
 have hI := spec_ItemOk K N f ad n cap hf hn
 by_cases hok : okI K N f n = true
 · rw [hok] at hI
   by_cases hK : K = 0
   · rw [show okK K N f n = false by rw [okK, decide_eq_false (by omega), Bool.and_false]]
     have q : (K != 0) = false := by simp [hK]
     clear hK hok
     have hA : Below w.heap.size w (w.alloc (.cells #[.int .i64 K, .int .i64 N, .float .f64 f, .slice ad n cap] 37)) := (Below.refl _ _).alloc qN _
     have hB := Box.new w K N f ad n cap 37
     go_enter Tryz.func41, Tryz.ntmps41
     go_wp2_with fail
     refine (hI _).mono ?_
     rintro e w1 ⟨rfl, b1⟩
     obtain ⟨c0, c1, c2, c3⟩ := hB.below b1 (by simp)
     have HA := hid (hA.trans (b1.mono hA.size))
     clear hA hB b1
     go_wp2_with fail
     go_ret
     exact ⟨rfl, HA.out⟩
   have q : (K != 0) = true := by simp [hK]
   by_cases h0 : f = 0
   · subst h0
     rw [show okK K N 0 n = true by rw [okK, hok, decide_eq_true (by omega)]; rfl]
     have o : FloatKind.f64.format.order 0 0 = some .eq := by decide
     have hz : fbits 0 = 0 := by decide
     clear hK hok
     have hA : Below w.heap.size w (w.alloc (.cells #[.int .i64 K, .int .i64 N, .float .f64 0, .slice ad n cap] 37)) := (Below.refl _ _).alloc qN _
     have hB := Box.new w K N 0 ad n cap 37
     go_enter Tryz.func41, Tryz.ntmps41
     go_wp2_with fail
     refine (hI _).mono ?_
     rintro e w1 ⟨rfl, b1⟩
     obtain ⟨c0, c1, c2, c3⟩ := hB.below b1 (by simp)
     have HA := hid (hA.trans (b1.mono hA.size))
     clear hA hB b1
     go_wp2_with fail
     refine (spec_FloatBits 0 hf _).mono ?_
     rintro e w2 ⟨rfl, rfl⟩
     rw [hz]
     go_wp2_with fail
     go_ret
     exact ⟨rfl, HA.out⟩
   by_cases h1 : f = 9223372036854775808
   · subst h1
     rw [show okK K N 9223372036854775808 n = false by rw [okK, decide_eq_false (by omega), Bool.and_false]]
     have o : FloatKind.f64.format.order 9223372036854775808 0 = some .eq := by decide
     have hz : fbits 9223372036854775808 = 9223372036854775808 := by decide
     clear hK hok
     have hA : Below w.heap.size w (w.alloc (.cells #[.int .i64 K, .int .i64 N, .float .f64 9223372036854775808, .slice ad n cap] 37)) := (Below.refl _ _).alloc qN _
     have hB := Box.new w K N 9223372036854775808 ad n cap 37
     go_enter Tryz.func41, Tryz.ntmps41
     go_wp2_with fail
     refine (hI _).mono ?_
     rintro e w1 ⟨rfl, b1⟩
     obtain ⟨c0, c1, c2, c3⟩ := hB.below b1 (by simp)
     have HA := hid (hA.trans (b1.mono hA.size))
     clear hA hB b1
     go_wp2_with fail
     refine (spec_FloatBits 9223372036854775808 hf _).mono ?_
     rintro e w2 ⟨rfl, rfl⟩
     rw [hz]
     go_wp2_with fail
     go_ret
     exact ⟨rfl, HA.out⟩
   rw [show okK K N f n = true by rw [okK, hok, decide_eq_true (by omega)]; rfl]
   have o : FloatKind.f64.format.order f 0 = some .lt ∨ FloatKind.f64.format.order f 0 = some .gt ∨ FloatKind.f64.format.order f 0 = none := by
    by_cases hN : isN f = true
    · exact .inr (.inr (order_l f 0 hf hN))
    · have hN' : isN f = false := by simpa using hN
      have hm := (isN_not f).1 hN'
      by_cases hp : f < 9223372036854775808
      · exact .inr (.inl (order_gt f 0 hf (by omega) hN' isN_zero (by rw [kx_zero, kx, if_pos hp]; omega)))
      · exact .inl (order_lt f 0 hf (by omega) hN' isN_zero (by rw [kx_zero, kx, if_neg hp]; omega))
   clear hK hok h0 h1
   rcases o with o | o | o
   all_goals
    have hA : Below w.heap.size w (w.alloc (.cells #[.int .i64 K, .int .i64 N, .float .f64 f, .slice ad n cap] 37)) := (Below.refl _ _).alloc qN _
    have hB := Box.new w K N f ad n cap 37
    go_enter Tryz.func41, Tryz.ntmps41
    go_wp2_with fail
    refine (hI _).mono ?_
    rintro e w1 ⟨rfl, b1⟩
    obtain ⟨c0, c1, c2, c3⟩ := hB.below b1 (by simp)
    have HA := hid (hA.trans (b1.mono hA.size))
    clear hA hB b1
    go_wp2_with fail
    go_ret
    exact ⟨rfl, HA.out⟩
 · have hok' : okI K N f n = false := by simpa using hok
   rw [hok'] at hI
   rw [show okK K N f n = false by rw [okK, hok']; rfl]
   clear hok hok'
   have hA : Below w.heap.size w (w.alloc (.cells #[.int .i64 K, .int .i64 N, .float .f64 f, .slice ad n cap] 37)) := (Below.refl _ _).alloc qN _
   have hB := Box.new w K N f ad n cap 37
   go_enter Tryz.func41, Tryz.ntmps41
   go_wp2_with fail
   refine (hI _).mono ?_
   rintro e w1 ⟨rfl, b1⟩
   obtain ⟨c0, c1, c2, c3⟩ := hB.below b1 (by simp)
   have HA := hid (hA.trans (b1.mono hA.size))
   clear hA hB b1
   go_wp2_with fail
   go_ret
   exact ⟨rfl, HA.out⟩
end Go.Proofs.YtlkoghdajpbffaaGreat
/- Blocks that are laid one behind the other. No statement of its own; no conditions. -/


namespace Go.Proofs.YtlkoghdajpbffaaGreat
open Go.RowKit
theorem alloc_size (w : World) (o : Obj) : (w.alloc o).heap.size = w.heap.size + 1 := by simp
theorem alloc_old (w : World) (o : Obj) (k : Nat) (h : k < w.heap.size) : (w.alloc o).heap[k]? = w.heap[k]? := by
 show (w.heap.push o)[k]? = w.heap[k]?
 rw [Array.getElem?_push, if_neg (by omega)]
theorem three (w : World) (a b c : Obj) :
 (((w.alloc a).alloc b).alloc c).heap.size = w.heap.size + 3 ∧ (((w.alloc a).alloc b).alloc c).heap[w.heap.size + 1]? = some b ∧ (((w.alloc a).alloc b).alloc c).heap[w.heap.size + 1 + 1]? = some c ∧ Below w.heap.size w (((w.alloc a).alloc b).alloc c) := by
 have h1 := alloc_size w a
 have h2 := alloc_size (w.alloc a) b
 have h3 := alloc_size ((w.alloc a).alloc b) c
 refine ⟨by omega, ?_, ?_, (((Below.refl _ _).alloc qN _).alloc (by omega) _).alloc (by omega) _⟩
 · rw [alloc_old _ _ _ (by omega)]
   have := heap_alloc_new (w.alloc a) b
   rwa [h1] at this
 · have := heap_alloc_new ((w.alloc a).alloc b) c
   rwa [h2, h1] at this
theorem two (w : World) (a b : Obj) : Below w.heap.size w ((w.alloc a).alloc b) := ((Below.refl _ _).alloc qN _).alloc (by simp) _
theorem owns_at {w w' : World} {base : Nat} {e : TypeId} {s : Nat} {v : Value} {n : Nat} {xs : List Value} (ho : w.ownsRow base e s v n xs) (h : ∀ k, base ≤ k → w'.heap[k]? = w.heap[k]?) : w'.ownsRow base e s v n xs := by
 refine ⟨ho.1, ?_⟩
 rcases ho.2 with hn | ⟨g, cap, cur, rfl, hbg, hg, rest⟩
 · exact .inl hn
 · exact .inr ⟨g, cap, cur, rfl, hbg, by rw [h g hbg]; exact hg, rest⟩
theorem owns_base {w : World} {base base' : Nat} {e : TypeId} {s : Nat} {v : Value} {n : Nat} {xs : List Value} (h : w.ownsRow base e s v n xs) (hb : base' ≤ base) : w.ownsRow base' e s v n xs := by
 refine ⟨h.1, ?_⟩
 rcases h.2 with hn | ⟨g, cap, cur, rfl, hbg, hg, rest⟩
 · exact .inl hn
 · exact .inr ⟨g, cap, cur, rfl, Nat.le_trans hb hbg, hg, rest⟩
theorem Below.alloc1 (w : World) (o : Obj) : Below w.heap.size w (w.alloc o) := (Below.refl w.heap.size w).alloc qN o
end Go.Proofs.YtlkoghdajpbffaaGreat
/- The contract of the laws' toItem: the same item with a text of its own. Conditions: texts of at most 2^21 bytes. -/



namespace Go.Proofs.YtlkoghdajpbffaaGreat
open Go.RowKit
theorem size37 : (Tryz.prog.info? 37).map (·.size) = some 4 := by kernel_rfl
set_option maxRecDepth 100000 in
set_option maxHeartbeats 1600000 in
theorem toItem (K N : Int) (f : Nat) {ad : Option Addr} {n : Nat} (cap : Nat) {zs : List Int} {w : World} (h : Reads w ad n zs) (hn : n ≤ 2097152) :
 Calls Tryz.prog 8 #[.agg #[.int .i64 K, .int .i64 N, .float .f64 f, .slice ad n cap]] w fun e w' => ∃ g, e = .returned (.agg #[.int .i64 K, .int .i64 N, .float .f64 f, .slice (some ⟨g, 0, none⟩) n n]) ∧ w'.ownsRow w.heap.size 5 1 (.slice (some ⟨g, 0, none⟩) n n) n (bys zs) ∧ Below w.heap.size w w' := by
 have hst := fun w a m => run_store Tryz.prog w a (.float .f64 f) m rfl
 go_enter Tryz.func8, Tryz.ntmps8
 go_wp2_with fail
 obtain ⟨z, R1, R2, bW⟩ := three w (.cells #[.int .i64 K, .int .i64 N, .float .f64 f, .slice ad n cap] 28) (.cells #[.int .i64 0, .int .i64 0, .float .f64 0, .slice none 0 0] 37) (.cells #[.int .i64 K, .int .i64 N, .float .f64 f, .slice none 0 0] 37)
 have zW := hid z
 clear z
 generalize ((w.alloc (.cells #[.int .i64 K, .int .i64 N, .float .f64 f, .slice ad n cap] 28)).alloc (.cells #[.int .i64 0, .int .i64 0, .float .f64 0, .slice none 0 0] 37)).alloc (.cells #[.int .i64 K, .int .i64 N, .float .f64 f, .slice none 0 0] 37) = W at *
 refine (toByteS_any cap (h.below bW qN) hn).mono ?_
 rintro e W1 ⟨rfl, o1, b1⟩
 have hW := zW.out
 have S1 : W1.heap[w.heap.size + 1]? = _ := (b1.block _ (by omega)).trans R1
 have S2 : W1.heap[w.heap.size + 1 + 1]? = _ := (b1.block _ (by omega)).trans R2
 have B1 := bW.trans (b1.mono bW.size)
 have O1 := hid o1
 have HW := hid hW
 clear o1 hW zW R1 R2 bW b1
 have c3 : W1.cell? ⟨w.heap.size + 1 + 1, 3, none⟩ = some (.slice none 0 0) := qC S2
 have fz : W1.frozen? ⟨w.heap.size + 1 + 1, 3, none⟩ = false := frozen_of_row _ _ _ _ _ S2
 have T2 := hid (heap_setCell_same W1 (w.heap.size + 1 + 1) 3 _ 37 (.slice (some ⟨W.heap.size, 0, none⟩) n n) S2)
 have T1 := hid ((heap_setCell_other W1 ⟨w.heap.size + 1 + 1, 3, none⟩ (w.heap.size + 1) (.slice (some ⟨W.heap.size, 0, none⟩) n n) (by simp)).trans S1)
 have BC := hid (B1.setCell (p := ⟨w.heap.size + 1 + 1, 3, none⟩) (by simp; omega) (.slice (some ⟨W.heap.size, 0, none⟩) n n))
 clear S1 S2
 go_wp2_with (first
  | (refine wpList_load_row rfl 37 (.tmp 3) rfl (w.heap.size + 1 + 1) rfl 37 _ (0, 0) _ T2.out Tryz.underlying37 rfl size37 ?_)
  | (refine wpList_store_row rfl 37 (.tmp 2) (.tmp 17) rfl (w.heap.size + 1) #[.int .i64 K, .int .i64 N, .float .f64 f, .slice (some ⟨W.heap.size, 0, none⟩) n n] rfl rfl 37 _ T1.out ?s1 ?s2 ?s3 ?_))
 case s1 => exact size37
 case s2 => rfl
 case s3 => simp [Value.oneCell']
 have hW := HW.out
 refine bodyPost_ret (results_cell_row Tryz.results8 _ _ (w.heap.size + 1) 37 #[.int .i64 K, .int .i64 N, .float .f64 f, .slice (some ⟨W.heap.size, 0, none⟩) n n] (0, 0) _ rfl (setRow_heap _ _ _ _ _ _ T1.out) Tryz.underlying37 rfl size37) rfl ⟨W.heap.size, rfl, owns_base (owns_at O1.out fun k hk => ?_) (by omega), below_setRow BC.out (by omega) _⟩
 rw [setRow_other _ _ _ _ (by omega), heap_setCell_other _ _ _ _ (by simp; omega)]
end Go.Proofs.YtlkoghdajpbffaaGreat
/- The contracts of the laws' eqItem, markItem and heldItem. Conditions: texts of at most 2^21 bytes. -/

namespace Go.Proofs.YtlkoghdajpbffaaGreat
open Go.RowKit
set_option maxRecDepth 100000 in
set_option maxHeartbeats 1600000 in
theorem eqItem (K N : Int) (f f' : Nat) {ad ad' : Option Addr} {n : Nat} (cap cap' : Nat) {zs : List Int} {w : World} (hf : f < 18446744073709551616) (hf' : f' < 18446744073709551616) (hs : Same f f') (h : Reads w ad n zs) (h' : Reads w ad' n zs) (hn : n ≤ 2097152) :
 Calls Tryz.prog 11 #[.agg #[.int .i64 K, .int .i64 N, .float .f64 f, .slice ad n cap], .agg #[.int .i64 K, .int .i64 N, .float .f64 f', .slice ad' n cap']] w fun e w' => e = .returned (.bool true) ∧ Below w.heap.size w w' := by
 have hB := two w (.cells #[.int .i64 K, .int .i64 N, .float .f64 f, .slice ad n cap] 37) (.cells #[.int .i64 K, .int .i64 N, .float .f64 f', .slice ad' n cap'] 37)
 have H1 := hid (h.below hB qN)
 have H2 := hid (h'.below hB qN)
 have HB := hid hB
 clear hB h h'
 go_enter Tryz.func11, Tryz.ntmps11
 go_wp2_with fail
 refine (sameFloat_walk f f' hf hf' hs _).mono ?_
 rintro e w1 ⟨rfl, hw⟩
 rw [hw]
 clear hw
 go_wp2_with fail
 refine (eqByteS_any cap cap' H1.out H2.out hn).mono ?_
 rintro e w2 ⟨rfl, st⟩
 go_wp2_with fail
 go_ret
 exact ⟨rfl, HB.out.trans (st.below _)⟩
end Go.Proofs.YtlkoghdajpbffaaGreat
/- Texts compared: the contract of the specification's l3texts. Conditions: texts of at most 2^21 bytes. -/

namespace Go.Proofs.YtlkoghdajpbffaaGreat
open Go.RowKit
def txt : List Int → List Int → Int
 | [], [] => 0
 | [], _ :: _ => -1
 | _ :: _, [] => 1
 | x :: xs, y :: ys => if x < y then -1 else if y < x then 1 else txt xs ys
theorem drop_cons (zs : List Int) (k : Nat) (h : k < zs.length) : zs.drop k = zs.getD k 0 :: zs.drop (k + 1) := by
 rw [List.drop_eq_getElem_cons h]
 simp [List.getD, h]
theorem txt_step (zs ys : List Int) (k : Nat) (h : k < zs.length) (h' : k < ys.length) :
 txt (zs.drop k) (ys.drop k) = if zs.getD k 0 < ys.getD k 0 then -1 else if ys.getD k 0 < zs.getD k 0 then 1 else txt (zs.drop (k + 1)) (ys.drop (k + 1)) := by
 rw [drop_cons zs k h, drop_cons ys k h']
 rfl
theorem txt_end (zs ys : List Int) (k : Nat) (hk : k ≤ zs.length) (hk' : k ≤ ys.length) (h : k = zs.length ∨ k = ys.length) :
 txt (zs.drop k) (ys.drop k) = if zs.length < ys.length then -1 else if ys.length < zs.length then 1 else 0 := by
 by_cases h1 : k = zs.length
 · subst h1
   rw [List.drop_length]
   by_cases h2 : zs.length < ys.length
   · rw [if_pos h2, drop_cons ys _ h2]; rfl
   · rw [if_neg h2, if_neg (by omega), List.drop_eq_nil_of_le (by omega)]; rfl
 · have h2 : k = ys.length := by omega
   subst h2
   rw [List.drop_length, if_neg (by omega), if_pos (by omega), drop_cons zs _ (by omega)]; rfl
set_option maxRecDepth 100000 in
set_option maxHeartbeats 1600000 in
theorem spec_l3texts {ad ad' : Option Addr} {n m : Nat} (cap cap' : Nat) {zs ys : List Int} {w : World} (h : Reads w ad n zs) (h' : Reads w ad' m ys) (hn : n ≤ 2097152) :
 Calls Tryz.prog 96 #[.slice ad n cap, .slice ad' m cap'] w fun e w' => e = .returned (.int .i64 (txt zs ys)) ∧ Still w w' := by
 have hl := h.len
 have hl' := h'.len
 go_enter Tryz.func96, Tryz.ntmps96
 go_wp2
 go_loopw [5] (fun i wr => ∃ k d : Nat, k ≤ n ∧ k ≤ m ∧ i = .int .i64 k ∧ Hid (txt zs ys = txt (zs.drop k) (ys.drop k)) ∧ wr = w.drewN d) (fun i _ => n - (intOf i).toNat)
 case atStart => exact ⟨0, 0, Nat.zero_le _, Nat.zero_le _, rfl, hid rfl, rfl⟩
 case round =>
  obtain ⟨k, d, hk, hk', rfl, HT, rfl⟩ := hrel
  have hk0 : (0 : Int) ≤ (k : Int) := by omega
  by_cases hlt : k < n ∧ k < m
  · obtain ⟨g1, g2⟩ := hlt
    have g1' : (k : Int) < (n : Int) := by omega
    have g2' : (k : Int) < (m : Int) := by omega
    rcases h.cells with h0 | ⟨b, off, rfl, hc⟩
    · omega
    rcases h'.cells with h0 | ⟨b', off', rfl, hc'⟩
    · omega
    have c1 := hc k g1
    have c2 := hc' k g2
    have hb := h.bd k
    have hb' := h'.bd k
    have HS := HT.out
    rw [txt_step zs ys k (by omega) (by omega)] at HS
    generalize zs.getD k 0 = x at *
    generalize ys.getD k 0 = y at *
    have HS' := hid HS
    have G := hid (show k < n ∧ k < m from ⟨g1, g2⟩)
    clear hc hc' HS HT g1 g2
    by_cases e1 : x < y
    · go_wp2
      go_quiet (fail)
      go_wp2
      go_ret
      refine ⟨?_, (Still.drewN _ _).trans (Still.drewN _ _)⟩
      rw [HS'.out, if_pos e1]; rfl
    · by_cases e2 : y < x
      · go_wp2
        go_quiet (fail)
        go_wp2
        go_quiet (fail)
        go_wp2
        go_ret
        refine ⟨?_, ((Still.drewN _ _).trans (Still.drewN _ _)).trans (Still.drewN _ _)⟩
        rw [HS'.out, if_neg (by omega), if_pos e2]; rfl
      · go_wp2
        go_quiet (fail)
        go_wp2
        go_quiet (fail)
        go_wp2
        go_roundw
        case rel => exact ⟨k + 1, _, by have := G.out; omega, by have := G.out; omega, by go_num, hid (by rw [HS'.out, if_neg (by omega), if_neg (by omega)]), rfl⟩
        case measure => have := G.out; simp [intOf]; omega
  · have he := txt_end zs ys k (by omega) (by omega) (by omega)
    rw [hl, hl'] at he
    have HE := hid (HT.out.trans he)
    clear HT he h h' hl hl'
    by_cases g1 : k < n
    · have g2 : ¬ k < m := by omega
      have g1' : (k : Int) < (n : Int) := by omega
      have g2' : ¬ (k : Int) < (m : Int) := by omega
      have q1 : ¬ (n : Int) < (m : Int) := by omega
      have q2 : (m : Int) < (n : Int) := by omega
      rw [if_neg (by omega), if_pos (by omega)] at HE
      go_wp2
      go_ret
      exact ⟨by rw [HE.out]; rfl, Still.drewN _ _⟩
    · have g1' : ¬ (k : Int) < (n : Int) := by omega
      by_cases q : n < m
      · have q1 : (n : Int) < (m : Int) := by omega
        rw [if_pos q] at HE
        go_wp2
        go_ret
        exact ⟨by rw [HE.out]; rfl, Still.drewN _ _⟩
      · have q1 : ¬ (n : Int) < (m : Int) := by omega
        have q2 : ¬ (m : Int) < (n : Int) := by omega
        rw [if_neg q, if_neg (by omega)] at HE
        go_wp2
        go_ret
        exact ⟨by rw [HE.out]; rfl, Still.drewN _ _⟩
def cmpI (K N : Int) (f n : Nat) (zs : List Int) (K' N' : Int) (f' n' : Nat) (zs' : List Int) : Int :=
 if okI K N f n = false ∨ okI K' N' f' n' = false then -2
 else if K ≠ K' then (if K < K' then -1 else 1)
 else if N ≠ N' then (if N < N' then -1 else 1)
 else if cmp3 (frank f) (frank f') ≠ 0 then cmp3 (frank f) (frank f')
 else txt zs zs'
set_option maxRecDepth 100000 in
set_option maxHeartbeats 3200000 in
theorem spec_ItemCompare (K N K' N' : Int) (f f' : Nat) {ad ad' : Option Addr} {n n' : Nat} (cap cap' : Nat) {zs zs' : List Int} {w : World} (hf : f < 18446744073709551616) (hf' : f' < 18446744073709551616)
 (h : Reads w ad n zs) (h' : Reads w ad' n' zs') (hn : n ≤ 2097152) (hn' : n' ≤ 2097152) :
 Calls Tryz.prog 72 #[.agg #[.int .i64 K, .int .i64 N, .float .f64 f, .slice ad n cap], .agg #[.int .i64 K', .int .i64 N', .float .f64 f', .slice ad' n' cap']] w fun e w' => e = .returned (.int .i64 (cmpI K N f n zs K' N' f' n' zs')) ∧ Below w.heap.size w w' := by
 have hB := two w (.cells #[.int .i64 K, .int .i64 N, .float .f64 f, .slice ad n cap] 37) (.cells #[.int .i64 K', .int .i64 N', .float .f64 f', .slice ad' n' cap'] 37)
 have z1 := alloc_size w (.cells #[.int .i64 K, .int .i64 N, .float .f64 f, .slice ad n cap] 37)
 have z2 := alloc_size (w.alloc (.cells #[.int .i64 K, .int .i64 N, .float .f64 f, .slice ad n cap] 37)) (.cells #[.int .i64 K', .int .i64 N', .float .f64 f', .slice ad' n' cap'] 37)
 have x1 := (Box.new w K N f ad n cap 37).below ((Below.refl (w.heap.size + 1) _).alloc (by omega) (.cells #[.int .i64 K', .int .i64 N', .float .f64 f', .slice ad' n' cap'] 37)) (by omega)
 have x2 := Box.new (w.alloc (.cells #[.int .i64 K, .int .i64 N, .float .f64 f, .slice ad n cap] 37)) K' N' f' ad' n' cap' 37
 rw [z1] at x2 z2
 have H1 := h.below hB qN
 have H2 := h'.below hB qN
 have e1 := spec_ItemOk K N f ad n cap hf hn
 have e2 := spec_ItemOk K' N' f' ad' n' cap' hf' hn'
 by_cases o1 : okI K N f n = false
 · rw [show cmpI K N f n zs K' N' f' n' zs' = -2 by rw [cmpI, if_pos (.inl o1)]]
   rw [o1] at e1
   go_enter Tryz.func72, Tryz.ntmps72
   go_wp2_with fail
   refine (e1 _).mono ?_
   rintro e w1 ⟨rfl, b1⟩
   have BB := hid (hB.trans (b1.mono hB.size))
   clear hB b1 H1 H2 x1 x2 z1 z2
   go_wp2_with fail
   go_ret
   exact ⟨rfl, BB.out⟩
 have o1' : okI K N f n = true := by simpa using o1
 rw [o1'] at e1
 by_cases o2 : okI K' N' f' n' = false
 · rw [show cmpI K N f n zs K' N' f' n' zs' = -2 by rw [cmpI, if_pos (.inr o2)]]
   rw [o2] at e2
   go_enter Tryz.func72, Tryz.ntmps72
   go_wp2_with fail
   refine (e1 _).mono ?_
   rintro e w1 ⟨rfl, b1⟩
   have B1 := hB.trans (b1.mono hB.size)
   have y1 := x1.below b1 (by omega)
   have y2 := x2.below b1 (by omega)
   have zz := b1.size
   have h1 := H1.below b1 qN
   have h2 := H2.below b1 qN
   obtain ⟨d0, d1, d2, d3⟩ := y2
   have Y1 := hid y1
   have Y2 := hid (x2.below b1 (by omega))
   have ZZ := hid (show w.heap.size + 1 < w1.heap.size by omega)
   clear hB b1 H1 H2 x1 x2 z1 z2 y1 zz
   go_wp2_with fail
   clear d0 d1 d2 d3
   refine (e2 _).mono ?_
   rintro e w2 ⟨rfl, b2⟩
   have BB := B1.trans (b2.mono B1.size)
   have zz := ZZ.out
   obtain ⟨c0, c1, c2, c3⟩ := Y1.out.below b2 (by omega)
   obtain ⟨d0, d1, d2, d3⟩ := Y2.out.below b2 (by omega)
   have h3 := h1.below b2 qN
   have h4 := h2.below b2 qN
   clear B1 b2 Y1 Y2 ZZ zz h1 h2
   go_wp2_with fail
   go_ret
   exact ⟨rfl, BB⟩
 have o2' : okI K' N' f' n' = true := by simpa using o2
 rw [o2'] at e2
 have ho : ¬ (okI K N f n = false ∨ okI K' N' f' n' = false) := fun h => h.elim o1 o2
 clear o1 o2 o1' o2'
 by_cases k1 : K ≠ K'
 · have q : (K != K') = true := by simp [k1]
   by_cases k2 : K < K'
   · rw [show cmpI K N f n zs K' N' f' n' zs' = -1 by rw [cmpI, if_neg ho, if_pos k1, if_pos k2]]
     clear ho k1
     go_enter Tryz.func72, Tryz.ntmps72
     go_wp2_with fail
     refine (e1 _).mono ?_
     rintro e w1 ⟨rfl, b1⟩
     have B1 := hB.trans (b1.mono hB.size)
     have y1 := x1.below b1 (by omega)
     have y2 := x2.below b1 (by omega)
     have zz := b1.size
     have h1 := H1.below b1 qN
     have h2 := H2.below b1 qN
     obtain ⟨d0, d1, d2, d3⟩ := y2
     have Y1 := hid y1
     have Y2 := hid (x2.below b1 (by omega))
     have ZZ := hid (show w.heap.size + 1 < w1.heap.size by omega)
     clear hB b1 H1 H2 x1 x2 z1 z2 y1 zz
     go_wp2_with fail
     clear d0 d1 d2 d3
     refine (e2 _).mono ?_
     rintro e w2 ⟨rfl, b2⟩
     have BB := B1.trans (b2.mono B1.size)
     have zz := ZZ.out
     obtain ⟨c0, c1, c2, c3⟩ := Y1.out.below b2 (by omega)
     obtain ⟨d0, d1, d2, d3⟩ := Y2.out.below b2 (by omega)
     have h3 := h1.below b2 qN
     have h4 := h2.below b2 qN
     clear B1 b2 Y1 Y2 ZZ zz h1 h2
     go_wp2_with fail
     go_ret
     exact ⟨rfl, BB⟩
   · rw [show cmpI K N f n zs K' N' f' n' zs' = 1 by rw [cmpI, if_neg ho, if_pos k1, if_neg k2]]
     clear ho k1
     go_enter Tryz.func72, Tryz.ntmps72
     go_wp2_with fail
     refine (e1 _).mono ?_
     rintro e w1 ⟨rfl, b1⟩
     have B1 := hB.trans (b1.mono hB.size)
     have y1 := x1.below b1 (by omega)
     have y2 := x2.below b1 (by omega)
     have zz := b1.size
     have h1 := H1.below b1 qN
     have h2 := H2.below b1 qN
     obtain ⟨d0, d1, d2, d3⟩ := y2
     have Y1 := hid y1
     have Y2 := hid (x2.below b1 (by omega))
     have ZZ := hid (show w.heap.size + 1 < w1.heap.size by omega)
     clear hB b1 H1 H2 x1 x2 z1 z2 y1 zz
     go_wp2_with fail
     clear d0 d1 d2 d3
     refine (e2 _).mono ?_
     rintro e w2 ⟨rfl, b2⟩
     have BB := B1.trans (b2.mono B1.size)
     have zz := ZZ.out
     obtain ⟨c0, c1, c2, c3⟩ := Y1.out.below b2 (by omega)
     obtain ⟨d0, d1, d2, d3⟩ := Y2.out.below b2 (by omega)
     have h3 := h1.below b2 qN
     have h4 := h2.below b2 qN
     clear B1 b2 Y1 Y2 ZZ zz h1 h2
     go_wp2_with fail
     go_ret
     exact ⟨rfl, BB⟩
 obtain rfl : K = K' := by simpa using k1
 by_cases m1 : N ≠ N'
 · have q : (N != N') = true := by simp [m1]
   by_cases m2 : N < N'
   · rw [show cmpI K N f n zs K N' f' n' zs' = -1 by rw [cmpI, if_neg ho, if_neg k1, if_pos m1, if_pos m2]]
     clear ho k1 m1
     go_enter Tryz.func72, Tryz.ntmps72
     go_wp2_with fail
     refine (e1 _).mono ?_
     rintro e w1 ⟨rfl, b1⟩
     have B1 := hB.trans (b1.mono hB.size)
     have y1 := x1.below b1 (by omega)
     have y2 := x2.below b1 (by omega)
     have zz := b1.size
     have h1 := H1.below b1 qN
     have h2 := H2.below b1 qN
     obtain ⟨d0, d1, d2, d3⟩ := y2
     have Y1 := hid y1
     have Y2 := hid (x2.below b1 (by omega))
     have ZZ := hid (show w.heap.size + 1 < w1.heap.size by omega)
     clear hB b1 H1 H2 x1 x2 z1 z2 y1 zz
     go_wp2_with fail
     clear d0 d1 d2 d3
     refine (e2 _).mono ?_
     rintro e w2 ⟨rfl, b2⟩
     have BB := B1.trans (b2.mono B1.size)
     have zz := ZZ.out
     obtain ⟨c0, c1, c2, c3⟩ := Y1.out.below b2 (by omega)
     obtain ⟨d0, d1, d2, d3⟩ := Y2.out.below b2 (by omega)
     have h3 := h1.below b2 qN
     have h4 := h2.below b2 qN
     clear B1 b2 Y1 Y2 ZZ zz h1 h2
     go_wp2_with fail
     go_ret
     exact ⟨rfl, BB⟩
   · rw [show cmpI K N f n zs K N' f' n' zs' = 1 by rw [cmpI, if_neg ho, if_neg k1, if_pos m1, if_neg m2]]
     clear ho k1 m1
     go_enter Tryz.func72, Tryz.ntmps72
     go_wp2_with fail
     refine (e1 _).mono ?_
     rintro e w1 ⟨rfl, b1⟩
     have B1 := hB.trans (b1.mono hB.size)
     have y1 := x1.below b1 (by omega)
     have y2 := x2.below b1 (by omega)
     have zz := b1.size
     have h1 := H1.below b1 qN
     have h2 := H2.below b1 qN
     obtain ⟨d0, d1, d2, d3⟩ := y2
     have Y1 := hid y1
     have Y2 := hid (x2.below b1 (by omega))
     have ZZ := hid (show w.heap.size + 1 < w1.heap.size by omega)
     clear hB b1 H1 H2 x1 x2 z1 z2 y1 zz
     go_wp2_with fail
     clear d0 d1 d2 d3
     refine (e2 _).mono ?_
     rintro e w2 ⟨rfl, b2⟩
     have BB := B1.trans (b2.mono B1.size)
     have zz := ZZ.out
     obtain ⟨c0, c1, c2, c3⟩ := Y1.out.below b2 (by omega)
     obtain ⟨d0, d1, d2, d3⟩ := Y2.out.below b2 (by omega)
     have h3 := h1.below b2 qN
     have h4 := h2.below b2 qN
     clear B1 b2 Y1 Y2 ZZ zz h1 h2
     go_wp2_with fail
     go_ret
     exact ⟨rfl, BB⟩
 obtain rfl : N = N' := by simpa using m1
 have ef := spec_FloatCompare f f' hf hf'
 by_cases c1 : cmp3 (frank f) (frank f') ≠ 0
 · rw [show cmpI K N f n zs K N f' n' zs' = cmp3 (frank f) (frank f') by rw [cmpI, if_neg ho, if_neg k1, if_neg m1, if_pos c1]]
   have q : (cmp3 (frank f) (frank f') != 0) = true := by simp [c1]
   generalize cmp3 (frank f) (frank f') = C at *
   clear ho k1 m1 c1
   go_enter Tryz.func72, Tryz.ntmps72
   go_wp2_with fail
   refine (e1 _).mono ?_
   rintro e w1 ⟨rfl, b1⟩
   have B1 := hB.trans (b1.mono hB.size)
   have y1 := x1.below b1 (by omega)
   have y2 := x2.below b1 (by omega)
   have zz := b1.size
   have h1 := H1.below b1 qN
   have h2 := H2.below b1 qN
   obtain ⟨d0, d1, d2, d3⟩ := y2
   have Y1 := hid y1
   have Y2 := hid (x2.below b1 (by omega))
   have ZZ := hid (show w.heap.size + 1 < w1.heap.size by omega)
   clear hB b1 H1 H2 x1 x2 z1 z2 y1 zz
   go_wp2_with fail
   clear d0 d1 d2 d3
   refine (e2 _).mono ?_
   rintro e w2 ⟨rfl, b2⟩
   have BB := B1.trans (b2.mono B1.size)
   have zz := ZZ.out
   obtain ⟨c0, c1, c2, c3⟩ := Y1.out.below b2 (by omega)
   obtain ⟨d0, d1, d2, d3⟩ := Y2.out.below b2 (by omega)
   have h3 := h1.below b2 qN
   have h4 := h2.below b2 qN
   clear B1 b2 Y1 Y2 ZZ zz h1 h2
   go_wp2_with fail
   refine (ef _).mono ?_
   rintro e w3 ⟨rfl, rfl⟩
   go_wp2_with fail
   go_ret
   exact ⟨rfl, BB⟩
 · rw [show cmpI K N f n zs K N f' n' zs' = txt zs zs' by rw [cmpI, if_neg ho, if_neg k1, if_neg m1, if_neg c1]]
   have c1' : cmp3 (frank f) (frank f') = 0 := by simpa using c1
   rw [c1'] at ef
   clear ho k1 m1 c1 c1'
   go_enter Tryz.func72, Tryz.ntmps72
   go_wp2_with fail
   refine (e1 _).mono ?_
   rintro e w1 ⟨rfl, b1⟩
   have B1 := hB.trans (b1.mono hB.size)
   have y1 := x1.below b1 (by omega)
   have y2 := x2.below b1 (by omega)
   have zz := b1.size
   have h1 := H1.below b1 qN
   have h2 := H2.below b1 qN
   obtain ⟨d0, d1, d2, d3⟩ := y2
   have Y1 := hid y1
   have Y2 := hid (x2.below b1 (by omega))
   have ZZ := hid (show w.heap.size + 1 < w1.heap.size by omega)
   clear hB b1 H1 H2 x1 x2 z1 z2 y1 zz
   go_wp2_with fail
   clear d0 d1 d2 d3
   refine (e2 _).mono ?_
   rintro e w2 ⟨rfl, b2⟩
   have BB := B1.trans (b2.mono B1.size)
   have zz := ZZ.out
   obtain ⟨c0, c1, c2, c3⟩ := Y1.out.below b2 (by omega)
   obtain ⟨d0, d1, d2, d3⟩ := Y2.out.below b2 (by omega)
   have h3 := h1.below b2 qN
   have h4 := h2.below b2 qN
   clear B1 b2 Y1 Y2 ZZ zz h1 h2
   go_wp2_with fail
   refine (ef _).mono ?_
   rintro e w3 ⟨rfl, rfl⟩
   go_wp2_with fail
   refine (spec_l3texts cap cap' h3 h4 hn).mono ?_
   rintro e w4 ⟨rfl, st⟩
   go_wp2_with fail
   go_ret
   exact ⟨rfl, BB.trans (st.below _)⟩
end Go.Proofs.YtlkoghdajpbffaaGreat
/- The contracts of the laws' markItem and heldItem. Conditions: texts of at most 2^21 bytes. -/

namespace Go.Proofs.YtlkoghdajpbffaaGreat
open Go.RowKit
theorem markItem (K N : Int) (f : Nat) {base n cap : Nat} {ad : Option Addr} (k : Int) {xs : List Value} {w : World} (hn : n ≤ 2097152) (hk0 : 0 ≤ k) (hk1 : k ≤ 1000000000) (hown : w.ownsRow base 5 1 (.slice ad n cap) n xs) :
 Calls Tryz.prog 13 #[.agg #[.int .i64 K, .int .i64 N, .float .f64 f, .slice ad n cap], .int .i64 k] w fun e w' =>
  e = .returned (.int .i64 (k + n)) ∧ w'.ownsRow base 5 1 (.slice ad n cap) n (bys (marks k n)) ∧ w.grownBy w' (Value.slice ad n cap).ownBlock := by
 have o1 := hown.alloc (.cells #[.int .i64 K, .int .i64 N, .float .f64 f, .slice ad n cap] 37)
 have g1 := World.grownBy_alloc w (.cells #[.int .i64 K, .int .i64 N, .float .f64 f, .slice ad n cap] 37) (Value.slice ad n cap).ownBlock
 have O1 := hid o1
 clear o1
 go_enter Tryz.func13, Tryz.ntmps13
 go_wp2_with fail
 refine (markByteS_any k hn hk0 hk1 O1.out).mono ?_
 rintro e w1 ⟨rfl, o2, g2⟩
 go_wp2_with fail
 go_ret
 exact ⟨rfl, o2, grown_trans g1 g2⟩
end Go.Proofs.YtlkoghdajpbffaaGreat
