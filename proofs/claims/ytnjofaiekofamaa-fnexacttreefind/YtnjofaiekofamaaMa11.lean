/- All entries of a tree, the program: gathered and copied. Conditions: texts of at most 2^21 bytes. -/
import Derived.Test.YtnjofaiekofamaaKx11
import Derived.Test.YtnjofaiekofamaaKu11
import Derived.Test.YtnjofaiekofamaaCli
namespace Go.Proofs.Ytnjofaiekofamaa
open Go.RowKit
set_option maxRecDepth 100000

/-- What all entries are. -/
def allS (ns : List Nd) (root : Int) : List En := if treeOk ns root = true then (lookS ns root).all else []
theorem nodeOk_ents {lo hi : Option En} {es : List En} (h : nodeOk lo hi es = true) : ∀ e ∈ es, entOk e = true := by
  rw [nodeOk_of, Bool.and_eq_true, decide_eq_true_iff, List.countP_eq_length] at h
  intro e he
  have := h.1 e he
  rw [hasB_of, Bool.and_eq_true] at this
  exact this.1
theorem fold_ents {α : Type} (g : St → α → St) (hg : ∀ s t, (∀ e ∈ s.all, entOk e = true) → ∀ e ∈ (g s t).all, entOk e = true) : ∀ (L : List α) (st : St), (∀ e ∈ st.all, entOk e = true) → ∀ e ∈ (L.foldl g st).all, entOk e = true
  | [], _, h => h
  | t :: L, st, h => fold_ents g hg L (g st t) (hg st t h)
theorem goS_ents (ns : List Nd) : ∀ (f : Nat) (st : St) (x deep : Int) (lo hi : Option En), (∀ e ∈ st.all, entOk e = true) → ∀ e ∈ (goS ns f st x deep lo hi).all, entOk e = true
  | 0, _, _, _, _, _, h => h
  | f + 1, st, x, deep, lo, hi, h => by
    rw [goS]
    split
    · exact h
    · simp only
      split
      · exact h
      · split
        · exact h
        · rename_i hno
          have hno' : nodeOk lo hi (ns.getD x.toNat nd0).es = true := by simpa using hno
          split
          · intro e he
            rcases List.mem_append.1 he with q | q
            · exact h e q
            · exact nodeOk_ents hno' e q
          · split
            · exact h
            · exact fold_ents _ (fun s i => goS_ents ns f s _ _ _ _) _ _ h
theorem allS_ok (ns : List Nd) (root : Int) : ∀ e ∈ allS ns root, entOk e = true := by
  unfold allS
  split
  · exact goS_ents ns _ _ _ _ _ _ (fun e he => by cases he)
  · intro e he; cases he
theorem entOk_small {e : En} (h : entOk e = true) : e.Z.length ≤ 40 := by
  unfold entOk entB okK okI at h
  simp only [Bool.and_eq_true, decide_eq_true_eq] at h
  exact h.1.1.2.2.1
theorem sumE_small : ∀ es : List En, (∀ e ∈ es, entOk e = true) → sumE es ≤ 40 * es.length
  | [], _ => Nat.le_refl _
  | e :: es, h => by
    have h1 := sumE_small es (fun x hx => h x (List.mem_cons_of_mem _ hx))
    have h2 := entOk_small (h e (by simp))
    simp only [sumE, List.length_cons]
    omega
theorem allS_small (ns : List Nd) (root : Int) : (allS ns root).length ≤ 1200 ∧ sumE (allS ns root) ≤ 48000 := by
  have h1 : (allS ns root).length ≤ 1200 := by
    unfold allS
    split
    · rename_i h
      unfold treeOk at h
      rw [Bool.and_eq_true, decide_eq_true_iff] at h
      have h2 := (goS_more ns (ns.length + 1) (st0 ns.length) root 1 none none).all
      have h3 : (st0 ns.length).all.length + 4 * unseen (st0 ns.length).seen = 4 * ns.length := by simp only [st0]; rw [unseen_rep]; simp
      unfold lookS
      omega
    · simp
  have h2 := sumE_small _ (allS_ok ns root)
  exact ⟨h1, by omega⟩
theorem allS_lfs {ns : List Nd} {root : Int} (h : treeIs ns root = true) : allS ns root = lfs ns (ns.length + 1) root := by
  have h' : treeOk ns root = true := by rw [tree_same]; exact h
  unfold allS
  rw [if_pos h']
  exact (tree_told h').2
theorem allS_no {ns : List Nd} {root : Int} (h : treeOk ns root = false) : allS ns root = [] := by
  unfold allS
  rw [h, if_neg (by simp)]
/-- The entries of the first k kids. -/
def lfK (ns : List Nd) (f : Nat) (ks : List Int) (k : Nat) : List En := ((ks.take k).map (fun x => lfs ns f x)).flatten
theorem lfK_succ (ns : List Nd) (f : Nat) (ks : List Int) {k : Nat} (hk : k < ks.length) : lfK ns f ks (k + 1) = lfK ns f ks k ++ lfs ns f (ks.getD k 0) := by
  unfold lfK
  rw [List.take_succ_eq_append_getElem hk, List.map_append, List.flatten_append, List.getD_eq_getElem?_getD, List.getElem?_eq_getElem hk]
  simp
theorem lfK_le (ns : List Nd) (f : Nat) (ks : List Int) (k : Nat) : (lfK ns f ks k).length ≤ ((ks.map (fun x => lfs ns f x)).flatten).length := by
  unfold lfK
  have : ks.map (fun x => lfs ns f x) = (ks.take k).map (fun x => lfs ns f x) ++ (ks.drop k).map (fun x => lfs ns f x) := by rw [← List.map_append, List.take_append_drop]
  rw [this, List.flatten_append, List.length_append]
  omega

structure LfA (w0 w w' : World) (es : List En) (e : Ending) : Prop where
  ex : ∃ a n c, e = .returned (.slice a n c) ∧ es.length = n ∧ ReadsX w0 w' a es ∧ Below w.heap.size w w'
/-- What is said of the entries of the leaves below a node. -/
def LfH (w0 : World) (ns : List Nd) (f : Nat) : Prop := ∀ (x : Int) (g : Nat) (w : World) (l h : Nat), h ≤ w.heap.size → Below w0.heap.size w0 w → Lk w0 w ns l h f x g → (lfs ns f x).length ≤ 1200 →
    Calls Try.prog 60 #[.pointer (some ⟨g, 0, none⟩)] w fun e w' => LfA w0 w w' (lfs ns f x) e

set_option maxHeartbeats 3200000 in
theorem impl_leaf_step {w0 : World} {ns : List Nd} (f : Nat) (hIH : LfH w0 ns f) : LfH w0 ns (f + 1) := by
  intro x g w l h hh hw hk hlen
  have IH := hid hIH
  obtain ⟨h1, h2, h3, a, c, kv, gs, h4, h5, h6, h7, h8⟩ := hk
  have hv : lfs ns (f + 1) x = if (ns.getD x.toNat nd0).leaf = true then (ns.getD x.toNat nd0).es else ((ns.getD x.toNat nd0).ks.map (fun k => lfs ns f k)).flatten := by rw [lfs]
  generalize ns.getD x.toNat nd0 = d at *
  have k1 : w.cell? ⟨g, 1, none⟩ = some (.bool d.leaf) := by rw [cell_of_row _ _ _ _ _ _ h4]; rfl
  have k2 : w.cell? ⟨g, 2, none⟩ = some (.slice a d.es.length c) := by rw [cell_of_row _ _ _ _ _ _ h4]; rfl
  cases hl : d.leaf with
  | true =>
    rw [hl] at k1
    rw [hl, if_pos rfl] at hv
    have HV := hid hv
    have HRE := hid (ReadsX.of h5 hw)
    clear hIH h1 h2 h3 h4 h5 h6 h7 h8 hv hl hlen
    go_enter Try.func60, Try.ntmps60
    go_wp2_with fail
    go_ret
    exact ⟨_, _, _, rfl, by rw [HV.out], by rw [HV.out]; exact HRE.out, Below.refl _ _⟩
  | false =>
    rw [hl] at k1
    rw [hl, if_neg (by simp)] at hv
    have hk := form_kids h3 hl
    obtain ⟨kb, kc, rfl, hkb, hkh, hc⟩ := h7.at (by omega)
    have k3 : w.cell? ⟨g, 3, none⟩ = some (.slice (some ⟨kb, 0, none⟩) gs.length kc) := by rw [cell_of_row _ _ _ _ _ _ h4]; rfl
    obtain ⟨q, hq⟩ : ∃ q, gs.length = q := ⟨_, rfl⟩
    rw [hq] at k3
    have hq5 : q ≤ 5 := by omega
    have HQ := hid hq
    have HKQ := hid (show d.ks.length = q by omega)
    have HC := hid hc
    have H8 := hid h8
    have HW := hid hw
    have HZ := hid (show kb < w.heap.size ∧ h ≤ w.heap.size by omega)
    have HFull := hid (show lfs ns (f + 1) x = lfK ns f d.ks q by rw [hv]; unfold lfK; rw [List.take_of_length_le (by omega)])
    have HLe := hid (show ∀ k, (lfK ns f d.ks k).length ≤ 1200 from fun k => Nat.le_trans (lfK_le ns f d.ks k) (by rw [← hv]; exact hlen))
    clear hIH h1 h2 h3 h4 h5 h6 h7 h8 hv hl hlen hc hk hq hw hkb hkh hh
    go_enter Try.func60, Try.ntmps60
    go_wp2_with fail
    go_loopw [3, 19] (fun v i wr => ∃ (k : Nat), k ≤ q ∧ i = .int .i64 k ∧ Hid (AllR w0 wr w.heap.size v (lfK ns f d.ks k)) ∧ Hid (Below w.heap.size w wr)) (fun _ i _ => q - (intOf i).toNat)
    case atStart => exact ⟨0, Nat.zero_le _, rfl, hid (AllR.nil _ _ _), hid (Below.refl _ _)⟩
    case round =>
      obtain ⟨k, hkq, rfl, HA, HB⟩ := hrel
      by_cases hlt : k < q
      · have hlt' : (k : Int) < (q : Int) := by omega
        have hk0 : (0 : Int) ≤ (k : Int) := by omega
        have ck := (HB.out.cell (p := ⟨kb, k, none⟩) HZ.out.1).trans (HC.out k (by rw [HQ.out]; exact hlt))
        have HLk := hid (Lk.agree (Agree.below HB.out HZ.out.2) f _ _ (H8.out k (by rw [HQ.out]; exact hlt)))
        have HBW := hid (HW.out.trans (HB.out.mono HW.out.size))
        have HSu := hid (lfK_succ ns f d.ks (k := k) (by rw [HKQ.out]; exact hlt))
        have HL1 := hid (show (lfs ns f (d.ks.getD k 0)).length ≤ 1200 by have h1 := HLe.out (k + 1); rw [HSu.out, List.length_append] at h1; omega)
        have HL0 := HLe.out k
        obtain ⟨gk, hgk⟩ : ∃ gk, gs.getD k 0 = gk := ⟨_, rfl⟩
        rw [hgk] at ck HLk
        clear hgk
        obtain ⟨aA, cA, e1⟩ := HA.out.slice
        subst e1
        go_wp2_with fail
        refine (IH.out (d.ks.getD k 0) gk wr l h (Nat.le_trans HZ.out.2 HB.out.size) HBW.out HLk.out HL1.out).mono ?_
        rintro e w1 ⟨a1, n1, c1, rfl, hN1, hX1, hB1⟩
        have HN1 := hid hN1
        have HX1 := hid hX1
        have HB1 := hid hB1
        clear hN1 hX1 hB1
        have HA1 := hid (HA.out.keep (w' := w1) (fun g hg => HB1.out.block g (HA.out.lt g hg).2))
        have HBw := hid (HB.out.trans (HB1.out.mono HB.out.size))
        have hb9 : (lfK ns f d.ks k).length + (lfs ns f (d.ks.getD k 0)).length ≤ 100000000 := by have := HL1.out; omega
        have HB9 := hid hb9
        clear hb9 HL0 ck
        go_wp2_with (at_builtin; refine wpList_append_X rfl _ _ 82 rfl Try.underlying82 HA1.out rfl c1 rfl HN1.out HX1.out HB9.out HBw.out.size ?_)
        intro a' n' cap' w2 hn' oX gX hX
        have HA2 := hid (show AllR w0 w2 w.heap.size (.slice a' n' cap') (lfK ns f d.ks (k + 1)) from by rw [HSu.out]; exact oX)
        have HB2 := hid (show Below w.heap.size w w2 from HBw.out.trans ((Kept.of_grown gX).below HBw.out.size (fun j hj e => by have := (HA1.out.lt j e.symm).1; omega)))
        clear oX gX hX hn' HA1 HX1 HB1
        go_wp2_with fail
        go_roundw
        case rel => exact ⟨k + 1, by omega, by go_num, HA2, HB2⟩
        case measure => simp [intOf]; omega
      · obtain rfl : k = q := by omega
        have hlt' : ¬ (k : Int) < (k : Int) := by omega
        obtain ⟨aA, cA, e1⟩ := HA.out.slice
        subst e1
        go_wp2_with fail
        go_ret
        exact ⟨_, _, _, rfl, by rw [HFull.out], by rw [HFull.out]; exact HA.out.rx, HB.out⟩
theorem impl_leafEntries (w0 : World) (ns : List Nd) : ∀ f, LfH w0 ns f
  | 0 => fun _ _ _ _ _ _ _ hk _ => absurd hk (by simp [Lk])
  | f + 1 => impl_leaf_step f (impl_leafEntries w0 ns f)

set_option maxHeartbeats 6400000 in
theorem impl_copied {ad : Option Addr} {n : Nat} (cap : Nat) {es : List En} {w : World} (hr : ReadsE w ad es) (hn : es.length = n) (hn4 : n ≤ 100000) (hm : ∀ j, (es.getD j en0).Z.length ≤ 2097152) :
    Calls Try.prog 59 #[.slice ad n cap] w fun e w' => ∃ v, e = .returned v ∧ OwnE w' w.heap.size w'.heap.size v es ∧ Below w.heap.size w w' := by
  obtain ⟨i0, hi, hz0, hz1, hz2⟩ := info_parts Try.infoEn
  have HR := hid hr
  have HN := hid hn
  have HM := hid hm
  clear hr hn hm
  go_enter Try.func59, Try.ntmps59
  go_wp2_with fail
  go_loopw [3, 8] (fun v i wr => ∃ (k : Nat), k ≤ n ∧ i = .int .i64 k ∧ Hid (OwnE wr w.heap.size wr.heap.size v (es.take k)) ∧ Hid (Below w.heap.size w wr)) (fun _ i _ => n - (intOf i).toNat)
  case atStart => exact ⟨0, Nat.zero_le _, rfl, hid (OwnE.nil _ _ _), hid (Below.refl _ _)⟩
  case round =>
    obtain ⟨k, hk, rfl, HO, HB⟩ := hrel
    by_cases hlt : k < n
    · have hlt' : (k : Int) < (n : Int) := by omega
      have hk0 : (0 : Int) ≤ (k : Int) := by omega
      have hkl : k < es.length := by rw [HN.out]; exact hlt
      obtain ⟨b, off, a1, c1, rfl, bx0, r0, _, _, hf⟩ := HR.out.at hkl
      have HT := hid (take_snocE es k hkl)
      have hmz := HM.out k
      have bx := bx0.below HB.out (Nat.le_refl _)
      have HR0 := hid (r0.below HB.out (Nat.le_refl _))
      have HLT := hid (show (es.take k).length = k by rw [List.length_take]; omega)
      generalize es.getD k en0 = e at *
      have hst := fun w a m => run_store Try.prog w a (.float .f64 e.F) m rfl
      have HBX := hid (Below.alloc1 wr (.cells #[.int .i64 e.K, .int .i64 e.N, .float .f64 e.F, .slice a1 e.Z.length c1, .int .i64 e.id] 35))
      have HR5 := hid (heap_alloc_new wr (.cells #[.int .i64 e.K, .int .i64 e.N, .float .f64 e.F, .slice a1 e.Z.length c1, .int .i64 e.id] 35))
      have HZ5 := hid (alloc_size wr (.cells #[.int .i64 e.K, .int .i64 e.N, .float .f64 e.F, .slice a1 e.Z.length c1, .int .i64 e.id] 35))
      obtain ⟨z0, z1, z2, z3, z4⟩ := bx
      clear r0 bx0 hkl
      go_wp2_with fail
      clear z0 z1 z2 z3 z4
      generalize wr.alloc (.cells #[.int .i64 e.K, .int .i64 e.N, .float .f64 e.F, .slice a1 e.Z.length c1, .int .i64 e.id] 35) = V at *
      obtain ⟨p5, hp5⟩ : ∃ p5, wr.heap.size = p5 := ⟨_, rfl⟩
      have HP5 := hid hp5
      rw [hp5] at HR5 HZ5
      try simp only [hp5]
      clear hp5
      refine (bytes_clone c1 (HR0.out.below HBX.out (Nat.le_refl _)) hmz).mono ?_
      rintro e9 w1 ⟨v, rfl, o1, b1⟩
      obtain ⟨a2, c2, e1⟩ := own_sl o1
      subst e1
      have HR6 := hid ((b1.block p5 (by have := HZ5.out; omega)).trans HR5.out)
      have HR7 := hid (show (w1.setCell ⟨p5, 3, none⟩ (.slice a2 e.Z.length c2)).heap[p5]? = some (.cells #[.int .i64 e.K, .int .i64 e.N, .float .f64 e.F, .slice a2 e.Z.length c2, .int .i64 e.id] 35) by rw [heap_setCell_same _ _ _ _ _ _ HR6.out]; rfl)
      have HBs := hid (show Below wr.heap.size wr (w1.setCell ⟨p5, 3, none⟩ (.slice a2 e.Z.length c2)) from (HBX.out.trans (b1.mono HBX.out.size)).setCell (p := ⟨p5, 3, none⟩) (by have := HP5.out; simp only; omega) _)
      have HO1 := hid (show (w1.setCell ⟨p5, 3, none⟩ (.slice a2 e.Z.length c2)).ownsRow V.heap.size 5 1 (.slice a2 e.Z.length c2) e.Z.length (bys e.Z) from owns_agree (lo := V.heap.size) (hi := w1.heap.size) o1 (fun j j1 j2 => heap_set_ne _ p5 3 j _ (by have := HZ5.out; omega)) (fun g hg => o1.lt g hg))
      have hBA := Below.alloc1 (w1.setCell ⟨p5, 3, none⟩ (.slice a2 e.Z.length c2)) (.cells #[.int .i64 e.K, .int .i64 e.N, .float .f64 e.F, .slice a2 e.Z.length c2, .int .i64 e.id] 35)
      have HRA := hid (heap_alloc_new (w1.setCell ⟨p5, 3, none⟩ (.slice a2 e.Z.length c2)) (.cells #[.int .i64 e.K, .int .i64 e.N, .float .f64 e.F, .slice a2 e.Z.length c2, .int .i64 e.id] 35))
      have hsz : (w1.setCell ⟨p5, 3, none⟩ (.slice a2 e.Z.length c2)).heap.size = w1.heap.size := set_size _ _ _
      rw [hsz] at HRA
      have HBA := hid (HBs.out.trans (hBA.mono HBs.out.size))
      have HO2 := hid (HO1.out.alloc (.cells #[.int .i64 e.K, .int .i64 e.N, .float .f64 e.F, .slice a2 e.Z.length c2, .int .i64 e.id] 35))
      have HOA := hid (HO.out.below HBA.out (Nat.le_refl _))
      have HSA := hid (show w1.heap.size < ((w1.setCell ⟨p5, 3, none⟩ (.slice a2 e.Z.length c2)).alloc (.cells #[.int .i64 e.K, .int .i64 e.N, .float .f64 e.F, .slice a2 e.Z.length c2, .int .i64 e.id] 35)).heap.size ∧ V.heap.size ≤ w1.heap.size ∧ wr.heap.size < V.heap.size by rw [alloc_size, hsz]; have := b1.size; have := HZ5.out; have := HP5.out; omega)
      have HBw := hid (HB.out.trans (HBA.out.mono HB.out.size))
      have HBD := hid HR0.out.bd
      obtain ⟨xs, oR, hB7⟩ := HOA.out.own
      have HF7 := hid HOA.out.fl
      rw [HLT.out] at oR
      obtain ⟨a3, c3, e3⟩ := own_sl oR
      subst e3
      have HOR := hid oR
      have HB7 := hid hB7
      have q0 := cell_of_row _ _ 0 _ _ _ HR6.out
      have q1 := cell_of_row _ _ 1 _ _ _ HR6.out
      have q2 := cell_of_row _ _ 2 _ _ _ HR6.out
      have q3 := cell_of_row _ _ 3 _ _ _ HR6.out
      have q4 := cell_of_row _ _ 4 _ _ _ HR6.out
      have fz : w1.frozen? ⟨p5, 3, none⟩ = false := frozen_of_row _ _ _ _ _ HR6.out
      have HFr := hid (show ∀ j, (⟨p5, j, none⟩ : Addr).block = p5 from fun _ => rfl)
      have hpz : p5 ≠ w1.heap.size := by have := HSA.out; have := HZ5.out; omega
      clear o1 b1 hBA oR hB7 hsz HO HOA
      go_wp2_with (at_builtin; refine wpList_append_row rfl _ _ 28 rfl w.heap.size 35 i0 _ 5 56 Try.underlying28 hi hz0 hz1 hz2 rfl (by decide) _ _ _ rfl HOR.out (some ⟨w1.heap.size, 0, none⟩) 1 1 [.int .i64 e.K, .int .i64 e.N, .float .f64 e.F, .slice a2 e.Z.length c2, .int .i64 e.id] rfl rfl (.inr ⟨_, rfl, World.news_of_block HRA.out⟩) (fun e => by cases e) ?g2 (by unfold maxLen; omega) (by omega) HBw.out.size ?_)
      case g2 => intro u hu; simp only [List.mem_cons, List.not_mem_nil, or_false] at hu; rcases hu with rfl | rfl | rfl | rfl | rfl <;> rfl
      intro a8 c8 w8 o8 g8
      have HN8 := hid (show OwnE w8 w.heap.size w8.heap.size (.slice a8 (k + 1) c8) (es.take (k + 1)) from by
        rw [HT.out]
        exact OwnE.push (mid := wr.heap.size) HOR.out HLT.out HB7.out HF7.out HB.out.size HBA.out.size (owns_lower HO2.out (by have := HSA.out; omega)) HBD.out hf o8 g8)
      have HB8 := hid (show Below w.heap.size w w8 from HBw.out.grown g8 HBw.out.size (fun r hr => (HOR.out.lt r hr).1))
      clear o8 g8 HOR q0 q1 q2 q3 q4
      go_wp2_with fail
      go_roundw
      case rel => exact ⟨k + 1, by omega, by go_num, HN8, HB8⟩
      case measure => simp [intOf]; omega
    · obtain rfl : k = n := by omega
      have hlt' : ¬ (k : Int) < (k : Int) := by omega
      obtain ⟨aA, cA, e1⟩ := HO.out.slice
      rw [show (es.take k).length = k by rw [List.length_take, HN.out]; omega] at e1
      subst e1
      have HE := hid (show es.take k = es from List.take_of_length_le (by rw [HN.out]; exact Nat.le_refl _))
      go_wp2_with fail
      go_ret
      exact ⟨_, rfl, by rw [← HE.out]; exact HO.out, HB.out⟩

set_option maxHeartbeats 1600000 in
theorem impl_TreeAll {ad : Option Addr} {N : Nat} (cap : Nat) (root : Int) {ns : List Nd} {w : World} (hR : ReadsD w ad ns) (hns : ns.length = N) (hm : ∀ i j, ((ns.getD i nd0).es.getD j en0).Z.length ≤ 2097152) :
    Calls Try.prog 20 #[.agg #[.slice ad N cap, .int .i64 root]] w fun e w' => ∃ v, e = .returned v ∧ OwnE w' w.heap.size w'.heap.size v (allS ns root) ∧ Below w.heap.size w w' := by
  have HT := hid (tree_same ns root)
  have HB := hid (Below.alloc1 w (.cells #[.slice ad N cap, .int .i64 root] 26))
  have HR := hid (hR.below HB.out (Nat.le_refl _))
  have HM := hid hm
  have HNs := hid hns
  have HSm := hid (allS_small ns root)
  have HOk := hid (allS_ok ns root)
  have hR4 := heap_alloc_new w (.cells #[.slice ad N cap, .int .i64 root] 26)
  have k0 : (w.alloc (.cells #[.slice ad N cap, .int .i64 root] 26)).cell? ⟨w.heap.size, 0, none⟩ = some (.slice ad N cap) := by rw [cell_of_row _ _ _ _ _ _ hR4]; rfl
  have k1 : (w.alloc (.cells #[.slice ad N cap, .int .i64 root] 26)).cell? ⟨w.heap.size, 1, none⟩ = some (.int .i64 root) := by rw [cell_of_row _ _ _ _ _ _ hR4]; rfl
  clear hR4 hR hm hns
  go_enter Try.func20, Try.ntmps20
  go_wp2_with fail
  generalize w.alloc (.cells #[.slice ad N cap, .int .i64 root] 26) = V at *
  refine (impl_linkedOf cap root HR.out HNs.out HM.out).mono ?_
  rintro e w1 ⟨hp, b⟩
  have HBw := hid (HB.out.trans (b.mono HB.out.size))
  have HBV := hid b
  clear b k0 k1
  cases ht : treeIs ns root with
  | false =>
    obtain rfl := hp.1 ht
    have HE := hid (allS_no (ns := ns) (root := root) (by rw [HT.out]; exact ht))
    clear hp ht
    go_wp2_with fail
    go_ret
    exact ⟨_, rfl, by rw [HE.out]; exact OwnE.nil _ _ _, HBw.out⟩
  | true =>
    obtain ⟨q, rfl, hl⟩ := hp.2 ht
    obtain ⟨r, g, hq, hk⟩ := hl.ex
    have HE := hid (show allS ns root = lfs ns (N + 1) root by rw [allS_lfs ht, HNs.out])
    have q1 : w1.cell? ⟨q, 1, none⟩ = some (.pointer (some ⟨g, 0, none⟩)) := by rw [cell_of_row _ _ _ _ _ _ hq]; rfl
    have HK := hid hk
    have HL := hid (show (lfs ns (N + 1) root).length ≤ 1200 by rw [← HE.out]; exact HSm.out.1)
    clear hp ht hl hq hk
    go_wp2_with fail
    refine (impl_leafEntries V ns (N + 1) root g w1 V.heap.size w1.heap.size (Nat.le_refl _) HBV.out HK.out HL.out).mono ?_
    rintro e w2 ⟨a2, n2, c2, rfl, hN2, hX2, hB2⟩
    have HN2 := hid hN2
    have HX2 := hid hX2
    have HB2 := hid hB2
    clear hN2 hX2 hB2
    rw [← HE.out] at HN2 HX2
    have HRE := hid (HX2.out.rd (HBV.out.trans (HB2.out.mono HBV.out.size)))
    have HTx := hid (show ∀ j, ((allS ns root).getD j en0).Z.length ≤ 2097152 from fun j => by
      rcases getD_mem_or (allS ns root) j en0 with e | e
      · rw [e]; simp [en0]
      · have := entOk_small (HOk.out _ e); omega)
    clear q1
    go_wp2_with fail
    refine (impl_copied c2 HRE.out HN2.out (by have := HSm.out; have := HN2.out; omega) HTx.out).mono ?_
    rintro e w3 ⟨v, rfl, o3, b3⟩
    obtain ⟨a3, c3, e3⟩ := o3.slice
    subst e3
    have HO3 := hid (o3.mono (lo' := w.heap.size) (hi' := w3.heap.size) (by have := HBw.out.size; have := HB2.out.size; omega) (Nat.le_refl _))
    have HB3 := hid (HBw.out.trans ((HB2.out.trans (b3.mono HB2.out.size)).mono HBw.out.size))
    clear o3 b3
    go_wp2_with fail
    go_ret
    exact ⟨_, rfl, HO3.out, HB3.out⟩
end Go.Proofs.Ytnjofaiekofamaa
