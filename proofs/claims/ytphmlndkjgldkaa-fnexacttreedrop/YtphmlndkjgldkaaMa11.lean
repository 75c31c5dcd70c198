/- All entries of a tree, the program: gathered and copied. Conditions: texts of at most 2^21 bytes. -/
import Derived.Test.YtphmlndkjgldkaaKx11
import Derived.Test.YtphmlndkjgldkaaKu11
import Derived.Test.YtphmlndkjgldkaaCli
namespace Go.Proofs.Ytphmlndkjgldkaa
open Go.RowKit
set_option maxRecDepth 100000
def allS (ns : List Nd) (root : Int) : List En := if treeOk ns root = true then (lookS ns root).all else []
theorem nodeOk_ents {lo hi : Option En} {es : List En} (h : nodeOk lo hi es = true) : ∀ e ∈ es, entOk e = true := by
 rw [nodeOk_of, Bool.and_eq_true, decide_eq_true_iff, List.countP_eq_length] at h
 intro e he
 have := h.1 e he
 rw [hasB_of, Bool.and_eq_true] at this
 exact this.1
theorem fold_ents {α : Type} (g : St → α → St) (hg : ∀ s t, (∀ e ∈ s.all, entOk e = true) → ∀ e ∈ (g s t).all, entOk e = true) : ∀ (L : List α) (st : St), (∀ e ∈ st.all, entOk e = true) → ∀ e ∈ (L.foldl g st).all, entOk e = true
 | [], _, h => h
 | t :: L, st, h => fold_ents g hg L (g st t) (hg st t h)
theorem goS_ents (ns : List Nd) : ∀ (f : Nat) (st : St) (x deep : Int) (lo hi : Option En), (∀ e ∈ st.all, entOk e = true) → ∀ e ∈ (goS ns f st x deep lo hi).all, entOk e = true
 | 0, _, _, _, _, _, h => h
 | f + 1, st, x, deep, lo, hi, h => by
  rw [goS]
  split
  · exact h
  · simp only
    split
    · exact h
    · split
      · exact h
      · rename_i hno
        have hno' : nodeOk lo hi (ns.getD x.toNat nd0).es = true := by simpa using hno
        split
        · intro e he
          rcases List.mem_append.1 he with q | q
          · exact h e q
          · exact nodeOk_ents hno' e q
        · split
          · exact h
          · exact fold_ents _ (fun s i => goS_ents ns f s _ _ _ _) _ _ h
theorem allS_ok (ns : List Nd) (root : Int) : ∀ e ∈ allS ns root, entOk e = true := by
 unfold allS
 split
 · exact goS_ents ns _ _ _ _ _ _ (fun e he => by cases he)
 · intro e he; cases he
theorem entOk_small {e : En} (h : entOk e = true) : e.Z.length ≤ 40 := by
 unfold entOk entB okK okI at h
 simp only [Bool.and_eq_true, decide_eq_true_eq] at h
 exact h.1.1.2.2.1
theorem sumE_small : ∀ es : List En, (∀ e ∈ es, entOk e = true) → sumE es ≤ 40 * es.length
 | [], _ => Nat.le_refl _
 | e :: es, h => by
  have h1 := sumE_small es (fun x hx => h x (List.mem_cons_of_mem _ hx))
  have h2 := entOk_small (h e (by simp))
  simp only [sumE, List.length_cons]
  omega
theorem allS_small (ns : List Nd) (root : Int) : (allS ns root).length ≤ 1200 ∧ sumE (allS ns root) ≤ 48000 := by
 have h1 : (allS ns root).length ≤ 1200 := by
  unfold allS
  split
  · rename_i h
    unfold treeOk at h
    rw [Bool.and_eq_true, decide_eq_true_iff] at h
    have h2 := (goS_more ns (ns.length + 1) (st0 ns.length) root 1 none none).all
    have h3 : (st0 ns.length).all.length + 4 * unseen (st0 ns.length).seen = 4 * ns.length := by simp only [st0]; rw [unseen_rep]; simp
    unfold lookS
    omega
  · simp
 have h2 := sumE_small _ (allS_ok ns root)
 exact ⟨h1, by omega⟩
theorem allS_lfs {ns : List Nd} {root : Int} (h : treeIs ns root = true) : allS ns root = lfs ns (ns.length + 1) root := by
 have h' : treeOk ns root = true := by rw [tree_same]; exact h
 unfold allS
 rw [if_pos h']
 exact (tree_told h').2
theorem allS_no {ns : List Nd} {root : Int} (h : treeOk ns root = false) : allS ns root = [] := by
 unfold allS
 rw [h, if_neg (by simp)]
set_option maxHeartbeats 6400000 in
theorem impl_copied {ad : Option Addr} {n : Nat} (cap : Nat) {es : List En} {w : World} (hr : ReadsE w ad es) (hn : es.length = n) (hn4 : n ≤ 100000) (hm : ∀ j, (es.getD j en0).Z.length ≤ 2097152) :
 Calls Try.prog 59 #[.slice ad n cap] w fun e w' => ∃ v, e = .returned v ∧ OwnE w' w.heap.size w'.heap.size v es ∧ Below w.heap.size w w' := by
 obtain ⟨i0, hi, hz0, hz1, hz2⟩ := info_parts Try.infoEn
 have HR := hid hr
 have HN := hid hn
 have HM := hid hm
 clear hr hn hm
 go_enter Try.func59, Try.ntmps59
 go_wp2_with fail
 go_loopw [3, 8] (fun v i wr => ∃ (k : Nat), k ≤ n ∧ i = .int .i64 k ∧ Hid (OwnE wr w.heap.size wr.heap.size v (es.take k)) ∧ Hid (Below w.heap.size w wr)) (fun _ i _ => n - (intOf i).toNat)
 case atStart => exact ⟨0, Nat.zero_le _, rfl, hid (OwnE.nil _ _ _), hid (Below.refl _ _)⟩
 case round =>
  obtain ⟨k, hk, rfl, HO, HB⟩ := hrel
  by_cases hlt : k < n
  · have hlt' : (k : Int) < (n : Int) := by omega
    have hk0 : (0 : Int) ≤ (k : Int) := by omega
    have hkl : k < es.length := by rw [HN.out]; exact hlt
    obtain ⟨b, off, a1, c1, rfl, bx0, r0, _, _, hf⟩ := HR.out.at hkl
    have HT := hid (take_snocE es k hkl)
    have hmz := HM.out k
    have bx := bx0.below HB.out (Nat.le_refl _)
    have HR0 := hid (r0.below HB.out (Nat.le_refl _))
    have HLT := hid (show (es.take k).length = k by rw [List.length_take]; omega)
    generalize es.getD k en0 = e at *
    have hst := fun w a m => run_store Try.prog w a (.float .f64 e.F) m rfl
    have HBX := hid (Below.alloc1 wr (.cells #[.int .i64 e.K, .int .i64 e.N, .float .f64 e.F, .slice a1 e.Z.length c1, .int .i64 e.id] 35))
    have HR5 := hid (heap_alloc_new wr (.cells #[.int .i64 e.K, .int .i64 e.N, .float .f64 e.F, .slice a1 e.Z.length c1, .int .i64 e.id] 35))
    have HZ5 := hid (alloc_size wr (.cells #[.int .i64 e.K, .int .i64 e.N, .float .f64 e.F, .slice a1 e.Z.length c1, .int .i64 e.id] 35))
    obtain ⟨z0, z1, z2, z3, z4⟩ := bx
    clear r0 bx0 hkl
    go_wp2_with fail
    clear z0 z1 z2 z3 z4
    generalize wr.alloc (.cells #[.int .i64 e.K, .int .i64 e.N, .float .f64 e.F, .slice a1 e.Z.length c1, .int .i64 e.id] 35) = V at *
    obtain ⟨p5, hp5⟩ : ∃ p5, wr.heap.size = p5 := ⟨_, rfl⟩
    have HP5 := hid hp5
    rw [hp5] at HR5 HZ5
    try simp only [hp5]
    clear hp5
    refine (bytes_clone c1 (HR0.out.below HBX.out (Nat.le_refl _)) hmz).mono ?_
    rintro e9 w1 ⟨v, rfl, o1, b1⟩
    obtain ⟨a2, c2, e1⟩ := own_sl o1
    subst e1
    have HR6 := hid ((b1.block p5 (by have := HZ5.out; omega)).trans HR5.out)
    have HR7 := hid (show (w1.setCell ⟨p5, 3, none⟩ (.slice a2 e.Z.length c2)).heap[p5]? = some (.cells #[.int .i64 e.K, .int .i64 e.N, .float .f64 e.F, .slice a2 e.Z.length c2, .int .i64 e.id] 35) by rw [heap_setCell_same _ _ _ _ _ _ HR6.out]; rfl)
    have HBs := hid (show Below wr.heap.size wr (w1.setCell ⟨p5, 3, none⟩ (.slice a2 e.Z.length c2)) from (HBX.out.trans (b1.mono HBX.out.size)).setCell (p := ⟨p5, 3, none⟩) (by have := HP5.out; simp only; omega) _)
    have HO1 := hid (show (w1.setCell ⟨p5, 3, none⟩ (.slice a2 e.Z.length c2)).ownsRow V.heap.size 5 1 (.slice a2 e.Z.length c2) e.Z.length (bys e.Z) from owns_agree (lo := V.heap.size) (hi := w1.heap.size) o1 (fun j j1 j2 => heap_set_ne _ p5 3 j _ (by have := HZ5.out; omega)) (fun g hg => o1.lt g hg))
    have hBA := Below.alloc1 (w1.setCell ⟨p5, 3, none⟩ (.slice a2 e.Z.length c2)) (.cells #[.int .i64 e.K, .int .i64 e.N, .float .f64 e.F, .slice a2 e.Z.length c2, .int .i64 e.id] 35)
    have HRA := hid (heap_alloc_new (w1.setCell ⟨p5, 3, none⟩ (.slice a2 e.Z.length c2)) (.cells #[.int .i64 e.K, .int .i64 e.N, .float .f64 e.F, .slice a2 e.Z.length c2, .int .i64 e.id] 35))
    have hsz : (w1.setCell ⟨p5, 3, none⟩ (.slice a2 e.Z.length c2)).heap.size = w1.heap.size := set_size _ _ _
    rw [hsz] at HRA
    have HBA := hid (HBs.out.trans (hBA.mono HBs.out.size))
    have HO2 := hid (HO1.out.alloc (.cells #[.int .i64 e.K, .int .i64 e.N, .float .f64 e.F, .slice a2 e.Z.length c2, .int .i64 e.id] 35))
    have HOA := hid (HO.out.below HBA.out (Nat.le_refl _))
    have HSA := hid (show w1.heap.size < ((w1.setCell ⟨p5, 3, none⟩ (.slice a2 e.Z.length c2)).alloc (.cells #[.int .i64 e.K, .int .i64 e.N, .float .f64 e.F, .slice a2 e.Z.length c2, .int .i64 e.id] 35)).heap.size ∧ V.heap.size ≤ w1.heap.size ∧ wr.heap.size < V.heap.size by rw [alloc_size, hsz]; have := b1.size; have := HZ5.out; have := HP5.out; omega)
    have HBw := hid (HB.out.trans (HBA.out.mono HB.out.size))
    have HBD := hid HR0.out.bd
    obtain ⟨xs, oR, hB7⟩ := HOA.out.own
    have HF7 := hid HOA.out.fl
    rw [HLT.out] at oR
    obtain ⟨a3, c3, e3⟩ := own_sl oR
    subst e3
    have HOR := hid oR
    have HB7 := hid hB7
    have q0 := cell_of_row _ _ 0 _ _ _ HR6.out
    have q1 := cell_of_row _ _ 1 _ _ _ HR6.out
    have q2 := cell_of_row _ _ 2 _ _ _ HR6.out
    have q3 := cell_of_row _ _ 3 _ _ _ HR6.out
    have q4 := cell_of_row _ _ 4 _ _ _ HR6.out
    have fz : w1.frozen? ⟨p5, 3, none⟩ = false := frozen_of_row _ _ _ _ _ HR6.out
    have HFr := hid (show ∀ j, (⟨p5, j, none⟩ : Addr).block = p5 from fun _ => rfl)
    have hpz : p5 ≠ w1.heap.size := by have := HSA.out; have := HZ5.out; omega
    clear o1 b1 hBA oR hB7 hsz HO HOA
    go_wp2_with (at_builtin; refine wpList_append_row rfl _ _ 28 rfl w.heap.size 35 i0 _ 5 56 Try.underlying28 hi hz0 hz1 hz2 rfl (by decide) _ _ _ rfl HOR.out (some ⟨w1.heap.size, 0, none⟩) 1 1 [.int .i64 e.K, .int .i64 e.N, .float .f64 e.F, .slice a2 e.Z.length c2, .int .i64 e.id] rfl rfl (.inr ⟨_, rfl, World.news_of_block HRA.out⟩) (fun e => by cases e) ?g2 (by unfold maxLen; omega) (by omega) HBw.out.size ?_)
    case g2 => intro u hu; simp only [List.mem_cons, List.not_mem_nil, or_false] at hu; rcases hu with rfl | rfl | rfl | rfl | rfl <;> rfl
    intro a8 c8 w8 o8 g8
    have HN8 := hid (show OwnE w8 w.heap.size w8.heap.size (.slice a8 (k + 1) c8) (es.take (k + 1)) from by
     rw [HT.out]
     exact OwnE.push (mid := wr.heap.size) HOR.out HLT.out HB7.out HF7.out HB.out.size HBA.out.size (owns_lower HO2.out (by have := HSA.out; omega)) HBD.out hf o8 g8)
    have HB8 := hid (show Below w.heap.size w w8 from HBw.out.grown g8 HBw.out.size (fun r hr => (HOR.out.lt r hr).1))
    clear o8 g8 HOR q0 q1 q2 q3 q4
    go_wp2_with fail
    go_roundw
    case rel => exact ⟨k + 1, by omega, by go_num, HN8, HB8⟩
    case measure => simp [intOf]; omega
  · obtain rfl : k = n := by omega
    have hlt' : ¬ (k : Int) < (k : Int) := by omega
    obtain ⟨aA, cA, e1⟩ := HO.out.slice
    rw [show (es.take k).length = k by rw [List.length_take, HN.out]; omega] at e1
    subst e1
    have HE := hid (show es.take k = es from List.take_of_length_le (by rw [HN.out]; exact Nat.le_refl _))
    go_wp2_with fail
    go_ret
    exact ⟨_, rfl, by rw [← HE.out]; exact HO.out, HB.out⟩
end Go.Proofs.Ytphmlndkjgldkaa
