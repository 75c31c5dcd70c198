/- The program's linkedOf, the row of nodes told. Conditions: texts of at most 2^21 bytes. -/
import Derived.Test.YtphmlndkjgldkaaNa11
namespace Go.Proofs.Ytphmlndkjgldkaa
open Go.RowKit
set_option maxRecDepth 100000
theorem NRowP.new {w : World} {r : Nat} (N : Nat) (h : w.heap[r]? = some (rowN N)) : NRowP w r N (List.replicate N false) (List.replicate N none) :=
 ⟨by simp, by rw [h]; simp [rowN], by simp⟩
structure LinkedT (w w' : World) (ns : List Nd) (N : Nat) (root : Int) (q : Nat) : Prop where
 ex : ∃ r g tb lo hi sd, w'.heap[q]? = some (.cells #[.slice (some ⟨r, 0, none⟩) N N, .pointer (some ⟨g, 0, none⟩)] 90) ∧ NRowP w' r N sd tb ∧ w.heap.size ≤ r ∧ r < q ∧ q < lo ∧ hi ≤ w'.heap.size ∧ r < lo ∧ LkT tb w w' ns lo hi (N + 1) root g
def LinkedPT (w w' : World) (ns : List Nd) (N : Nat) (root : Int) (e : Ending) : Prop :=
 (treeIs ns root = false → e = .returned (.tuple #[.pointer none, .bool false])) ∧ (treeIs ns root = true → ∃ q, e = .returned (.tuple #[.pointer (some ⟨q, 0, none⟩), .bool true]) ∧ LinkedT w w' ns N root q)
theorem LinkedPT.no {w w' : World} {ns : List Nd} {N : Nat} {root : Int} {e : Ending} (h : treeIs ns root = false) (he : e = .returned (.tuple #[.pointer none, .bool false])) : LinkedPT w w' ns N root e := ⟨fun _ => he, fun q => absurd (h.symm.trans q) (by simp)⟩
set_option maxHeartbeats 3200000 in
theorem impl_linkedOfT {ad : Option Addr} {N : Nat} (cap : Nat) (root : Int) {ns : List Nd} {w : World} (hR : ReadsD w ad ns) (hns : ns.length = N) (hm : ∀ i j, ((ns.getD i nd0).es.getD j en0).Z.length ≤ 2097152) (hcap : CapD w ad N) :
 Calls Try.prog 52 #[.agg #[.slice ad N cap, .int .i64 root]] w fun e w' => LinkedPT w w' ns N root e ∧ Below w.heap.size w w' := by
 have hB := Below.alloc1 w (.cells #[.slice ad N cap, .int .i64 root] 26)
 have hR4 := heap_alloc_new w (.cells #[.slice ad N cap, .int .i64 root] 26)
 have hz := alloc_size w (.cells #[.slice ad N cap, .int .i64 root] 26)
 have k0 : (w.alloc (.cells #[.slice ad N cap, .int .i64 root] 26)).cell? ⟨w.heap.size, 0, none⟩ = some (.slice ad N cap) := by rw [cell_of_row _ _ _ _ _ _ hR4]; rfl
 have HT := hid (show treeIs ns root = (decide (1 ≤ ns.length ∧ ns.length ≤ 300) && (match lnk ns (ns.length + 1) (List.replicate ns.length false) root with
  | none => false
  | some sd => sd.all id && (lvs ns (ns.length + 1) root (hgt ns (ns.length + 1) root) && ino ns (ns.length + 1) root none none))) from rfl)
 rw [hns] at HT
 have HB := hid hB
 have HR4 := hid hR4
 have HZ := hid hz
 have HRD := hid hR
 have HM := hid hm
 have HNs := hid hns
 clear hB hR4 hz hR hns hm
 go_enter Try.func52, Try.ntmps52
 go_wp2_with fail
 generalize w.alloc (.cells #[.slice ad N cap, .int .i64 root] 26) = V at *
 obtain ⟨p4, hp4⟩ : ∃ p4, w.heap.size = p4 := ⟨_, rfl⟩
 have HP4 := hid hp4
 rw [hp4] at HR4 k0
 try simp only [hp4]
 clear hp4
 refine (impl_in11 N 1 300 V).mono ?_
 rintro e w1 ⟨rfl, e1⟩
 subst w1
 by_cases hin : 1 ≤ N ∧ N ≤ 300
 · have hd : decide ((1 : Int) ≤ (N : Int) ∧ (N : Int) ≤ 300) = true := decide_eq_true ⟨by omega, by omega⟩
   rw [hd]
   rw [decide_eq_true hin, Bool.true_and] at HT
   have hmk := mkN N hin.2
   have hz0 : ∀ o, (V.alloc o).heap.size = V.heap.size + 1 := fun o => alloc_size V o
   have hRR := two_rows11 V (rowN N) (.cells #[.slice (some ⟨V.heap.size, 0, none⟩) N N, .pointer none] 90)
   have hBB := two V (rowN N) (.cells #[.slice (some ⟨V.heap.size, 0, none⟩) N N, .pointer none] 90)
   have HRR := hid hRR
   have HBB := hid hBB
   have zV := HZ.out
   have z4 := HP4.out
   have c1 : ((V.alloc (rowN N)).alloc (.cells #[.slice (some ⟨V.heap.size, 0, none⟩) N N, .pointer none] 90)).cell? ⟨p4, 1, none⟩ = some (.int .i64 root) := by rw [cell_of_row _ _ _ _ _ _ ((hBB.block p4 (by omega)).trans HR4.out)]; rfl
   have c0 : ((V.alloc (rowN N)).alloc (.cells #[.slice (some ⟨V.heap.size, 0, none⟩) N N, .pointer none] 90)).cell? ⟨p4, 0, none⟩ = some (.slice ad N cap) := by rw [cell_of_row _ _ _ _ _ _ ((hBB.block p4 (by omega)).trans HR4.out)]; rfl
   have HC0 := hid c0
   clear hd hRR hBB zV z4
   go_wp2_with fail
   clear c0 c1
   generalize (V.alloc (rowN N)).alloc (.cells #[.slice (some ⟨V.heap.size, 0, none⟩) N N, .pointer none] 90) = W at *
   refine (impl_linkT cap root HNs.out HRD.out hin.2 (V.heap.size + 1) V.heap.size (by omega) HB.out.size hcap (N + 1) (List.replicate N false) (List.replicate N none) root _ (by rw [unseen_rep]; omega) (HB.out.trans (HBB.out.mono HB.out.size)) (by rw [cell_of_row _ _ _ _ _ _ HRR.out.2.1]; rfl) (NRowP.new N HRR.out.1)).mono ?_
   rintro e w2 ⟨hp, kp⟩
   have HBw := hid (show Below w.heap.size w w2 from (HB.out.trans (HBB.out.mono HB.out.size)).trans (kp.below (by have := HB.out.size; have := HBB.out.size; omega) (fun k hk e => by have := HB.out.size; have : k = V.heap.size := e; omega)))
   have rq : w2.heap[V.heap.size + 1]? = some (.cells #[.slice (some ⟨V.heap.size, 0, none⟩) N N, .pointer none] 90) := (kp.block _ (by have := HRR.out.2.2; omega) (fun e => by have : V.heap.size + 1 = V.heap.size := e; omega)).trans HRR.out.2.1
   have q0 : w2.cell? ⟨V.heap.size + 1, 0, none⟩ = some (.slice (some ⟨V.heap.size, 0, none⟩) N N) := by rw [cell_of_row _ _ _ _ _ _ rq]; rfl
   have HRq := hid rq
   have HSz := hid (show w.heap.size ≤ V.heap.size ∧ V.heap.size + 2 = W.heap.size ∧ W.heap.size ≤ w2.heap.size by have := HB.out.size; have := HRR.out.2.2; have := kp.size; omega)
   clear rq
   cases hx : lnk ns (N + 1) (List.replicate N false) root with
   | none =>
    obtain rfl := hp.1 hx
    rw [hx] at HT
    clear hx hp kp q0
    go_wp2_with fail
    go_ret2
    exact ⟨LinkedPT.no HT.out rfl, HBw.out⟩
   | some sd =>
    obtain ⟨g, tb, rfl, hn2, -, hl2⟩ := hp.2 _ hx
    rw [hx] at HT
    have HN2 := hid hn2
    have HL2 := hid hl2
    clear hx hp kp hn2 hl2
    go_wp2_with fail
    refine (impl_Contains HN2.out.nr hin.2).mono ?_
    rintro e w3 ⟨rfl, e1⟩
    subst w3
    cases hall : sd.all id with
    | false =>
     replace HT := hid (show treeIs ns root = false by rw [HT.out]; simp only [hall, Bool.false_and])
     clear hall q0
     go_wp2_with fail
     go_ret2
     exact ⟨LinkedPT.no HT.out rfl, HBw.out⟩
    | true =>
     replace HT := hid (show treeIs ns root = (lvs ns (N + 1) root (hgt ns (N + 1) root) && ino ns (N + 1) root none none) by rw [HT.out]; simp only [hall, Bool.true_and])
     clear hall q0
     go_wp2_with fail
     refine (impl_height (by omega) (LkT.lk _ _ _ HL2.out)).mono ?_
     rintro e w3 ⟨rfl, e1⟩
     subst w3
     have HH := hid (And.intro (hgt_pos ns (N + 1) root) (hgt_le ns (N + 1) root))
     go_wp2_with fail
     refine (impl_hasLeavesAt (N + 1) root g (hgt ns (N + 1) root) (by have := HH.out; omega) (by have := HH.out; omega) (LkT.lk _ _ _ HL2.out)).mono ?_
     rintro e w3 ⟨rfl, e1⟩
     subst w3
     cases hlv : lvs ns (N + 1) root (hgt ns (N + 1) root) with
     | false =>
      rw [hlv, Bool.false_and] at HT
      clear hlv
      go_wp2_with fail
      go_ret2
      exact ⟨LinkedPT.no HT.out rfl, HBw.out⟩
     | true =>
      rw [hlv, Bool.true_and] at HT
      clear hlv
      go_wp2_with fail
      refine (impl_isInOrder HM.out (N + 1) root g none none _ _ w2 W.heap.size w2.heap.size (Nat.le_refl _) HBw.out (LkT.lk _ _ _ HL2.out) rfl rfl).mono ?_
      rintro e w3 ⟨rfl, b3⟩
      cases hio : ino ns (N + 1) root none none with
      | false =>
       rw [hio] at HT
       replace HBw := hid (HBw.out.trans (b3.mono HBw.out.size))
       clear hio b3
       go_wp2_with fail
       go_ret2
       exact ⟨LinkedPT.no HT.out rfl, HBw.out⟩
      | true =>
       rw [hio] at HT
       have rq3 : w3.heap[V.heap.size + 1]? = some (.cells #[.slice (some ⟨V.heap.size, 0, none⟩) N N, .pointer none] 90) := (b3.block _ (by have := HSz.out; omega)).trans HRq.out
       have q1 : w3.cell? ⟨V.heap.size + 1, 1, none⟩ = some (.pointer none) := by rw [cell_of_row _ _ _ _ _ _ rq3]; rfl
       have qf : w3.frozen? ⟨V.heap.size + 1, 1, none⟩ = false := frozen_of_row _ _ _ _ _ rq3
       have HFin := hid (show LinkedT w (w3.setCell ⟨V.heap.size + 1, 1, none⟩ (.pointer (some ⟨g, 0, none⟩))) ns N root (V.heap.size + 1) from by
        have hs := HSz.out
        have hb := b3.size
        refine ⟨V.heap.size, g, tb, W.heap.size, w2.heap.size, sd, by rw [heap_setCell_same _ _ _ _ _ _ rq3]; rfl, HN2.out.agree ((heap_set_ne _ _ 1 _ _ (by omega)).trans (b3.block _ (by omega))), by omega, by omega, by omega, by rw [set_size]; omega, by omega, ?_⟩
        exact LkT.agree (fun k k1 k2 => (heap_set_ne _ _ 1 k _ (by omega)).trans (b3.block k k2)) _ _ _ HL2.out)
       replace HBw := hid ((HBw.out.trans (b3.mono HBw.out.size)).setCell (p := ⟨V.heap.size + 1, 1, none⟩) (by have := HSz.out; simp only; omega) (.pointer (some ⟨g, 0, none⟩)))
       clear hio b3 rq3
       go_wp2_with fail
       go_ret2
       exact ⟨⟨fun e => absurd (e.symm.trans HT.out) (by simp), fun _ => ⟨_, rfl, HFin.out⟩⟩, HBw.out⟩
 · have hd : decide ((1 : Int) ≤ (N : Int) ∧ (N : Int) ≤ 300) = false := decide_eq_false (fun q => hin ⟨by omega, by omega⟩)
   rw [hd]
   rw [decide_eq_false hin, Bool.false_and] at HT
   clear hd hin
   go_wp2_with fail
   go_ret2
   exact ⟨LinkedPT.no HT.out rfl, HB.out⟩
end Go.Proofs.Ytphmlndkjgldkaa
