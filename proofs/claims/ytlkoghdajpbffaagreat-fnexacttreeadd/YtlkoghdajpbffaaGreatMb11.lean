/- All entries of a tree, the specification: copied. Conditions: texts of at most 2^21 bytes. -/
import Derived.Test.YtlkoghdajpbffaaGreatMgm
import Derived.Test.YtlkoghdajpbffaaGreatMgf
namespace Go.Proofs.YtlkoghdajpbffaaGreat
open Go.RowKit
set_option maxRecDepth 100000
set_option maxHeartbeats 6400000 in
theorem spec_entries {ad : Option Addr} {n : Nat} (cap : Nat) {es : List En} {w : World} (hr : ReadsE w ad es) (hn : es.length = n) (hn4 : n ≤ 100000) (hm : ∀ j, (es.getD j en0).Z.length ≤ 2097152) :
 Calls Tryz.prog 24 #[.slice ad n cap] w fun e w' => ∃ v, e = .returned v ∧ OwnE w' w.heap.size w'.heap.size v es ∧ Below w.heap.size w w' := by
 obtain ⟨i0, hi, hz0, hz1, hz2⟩ := info_parts Tryz.infoEn
 have HR := hid hr
 have HN := hid hn
 have HM := hid hm
 clear hr hn hm
 go_enter Tryz.func24, Tryz.ntmps24
 go_wp2_with fail
 go_loopw [3, 4] (fun v i wr => ∃ (k : Nat), k ≤ n ∧ i = .int .i64 k ∧ Hid (OwnE wr w.heap.size wr.heap.size v (es.take k)) ∧ Hid (Below w.heap.size w wr)) (fun _ i _ => n - (intOf i).toNat)
 case atStart => exact ⟨0, Nat.zero_le _, rfl, hid (OwnE.nil _ _ _), hid (Below.refl _ _)⟩
 case round =>
  obtain ⟨k, hk, rfl, HO, HB⟩ := hrel
  by_cases hlt : k < n
  · have hlt' : (k : Int) < (n : Int) := by omega
    have hk0 : (0 : Int) ≤ (k : Int) := by omega
    have hkl : k < es.length := by rw [HN.out]; exact hlt
    obtain ⟨b, off, a1, c1, rfl, bx0, r0, hnil, _, hf⟩ := HR.out.at hkl
    have HT := hid (take_snocE es k hkl)
    have hmz := HM.out k
    have HBX := hid (bx0.below HB.out qN)
    have HR0 := hid (r0.below HB.out qN)
    have HLT := hid (show (es.take k).length = k by rw [List.length_take]; omega)
    generalize es.getD k en0 = e at *
    have hst := fun w a m => run_store Tryz.prog w a (.float .f64 e.F) m rfl
    have HBD := hid HR0.out.bd
    obtain ⟨a3, c3, e3⟩ := HO.out.slice
    rw [HLT.out] at e3
    subst e3
    clear r0 bx0 hkl
    go_wp2_with fail
    have HKp := hid (show ∀ W', Below wr.heap.size wr W' → Box5 W' b (off + k * 5) e.K e.N e.F (.slice a1 e.Z.length c1) e.id from fun W' b => HBX.out.below b qN)
    have BC := hid ((Still.drew wr).below wr.heap.size)
    refine region_K 99 (fun W => Box5 W b (off + k * 5) e.K e.N e.F (.slice a1 e.Z.length c1) e.id) (by kernel_rfl) ?_ (fun hh => ?_)
    · exact HKp.out _ BC.out
    generalize wr.drew = vd at *
    refine qX 0 rfl hh 11 rfl ?_ (by rintro W ⟨z0, z1, z2, z3, z4⟩; go_simp; try with_reducible rfl)
    refine qX 1 rfl hh 12 rfl ?_ (by rintro W ⟨z0, z1, z2, z3, z4⟩; go_simp; try with_reducible rfl)
    refine qX 2 rfl hh 13 rfl ?_ (by rintro W ⟨z0, z1, z2, z3, z4⟩; go_simp; try with_reducible rfl)
    refine qX 3 rfl hh 14 rfl ?_ (by rintro W ⟨z0, z1, z2, z3, z4⟩; go_simp; try with_reducible rfl)
    refine qX 4 rfl hh 15 rfl ?_ (by rintro W ⟨z0, z1, z2, z3, z4⟩; go_simp; try with_reducible rfl)
    refine qX 5 rfl hh 16 rfl ?_ (by rintro W ⟨z0, z1, z2, z3, z4⟩; go_simp; try with_reducible rfl)
    refine qX 7 rfl hh 18 rfl ?_ (by rintro W ⟨z0, z1, z2, z3, z4⟩; go_simp; try with_reducible rfl)
    refine qX 8 rfl hh 19 rfl ?_ (by rintro W ⟨z0, z1, z2, z3, z4⟩; go_simp; try with_reducible rfl)
    refine qX 9 rfl hh 20 rfl ?_ (by rintro W ⟨z0, z1, z2, z3, z4⟩; go_simp; try with_reducible rfl)
    refine qX 10 rfl hh 21 rfl ?_ (by rintro W ⟨z0, z1, z2, z3, z4⟩; go_simp; try with_reducible rfl)
    refine qX 11 rfl hh 22 rfl ?_ (by rintro W ⟨z0, z1, z2, z3, z4⟩; go_simp; try with_reducible rfl)
    refine qS 6 rfl fun KP hK => ?_
    go_simp
    refine (spec_l3copy e.K e.N e.F c1 hnil (HR0.out.below BC.out qN) hmz).mono ?_
    rintro e9 v1 ⟨v, rfl, o1, b1⟩
    obtain ⟨a2, c2, e1⟩ := own_sl o1
    subst e1
    have HO1 := hid o1
    have HZd := hid BC.out.size
    replace BC := hid (BC.out.trans (b1.mono BC.out.size))
    have HZ1 := hid b1.size
    clear b1 o1
    go_wp2_with fail
    clear hh
    refine hK.out _ _ (HKp.out _ BC.out) (fun hh => ?_)
    clear hK KP
    try simp only [qP]
    refine qS 12 rfl fun KP hK => ?_
    go_simp
    clear hh
    refine hK.out _ _ (HKp.out _ BC.out) (fun hh => ?_)
    clear hK KP
    try simp only [qP]
    refine qS 13 rfl fun KP hK => ?_
    go_simp
    have hBA := Below.alloc1 v1 (.cells #[.int .i64 e.K, .int .i64 e.N, .float .f64 e.F, .slice a2 e.Z.length c2, .int .i64 e.id] 48)
    have HRA := hid (heap_alloc_new v1 (.cells #[.int .i64 e.K, .int .i64 e.N, .float .f64 e.F, .slice a2 e.Z.length c2, .int .i64 e.id] 48))
    have HO2 := hid (HO1.out.alloc (.cells #[.int .i64 e.K, .int .i64 e.N, .float .f64 e.F, .slice a2 e.Z.length c2, .int .i64 e.id] 48))
    have hsa := alloc_size v1 (.cells #[.int .i64 e.K, .int .i64 e.N, .float .f64 e.F, .slice a2 e.Z.length c2, .int .i64 e.id] 48)
    replace BC := hid (BC.out.trans (hBA.mono BC.out.size))
    have HOA := hid (HO.out.below BC.out qN)
    have HBw := hid (HB.out.trans (BC.out.mono HB.out.size))
    have HSA := hid (show wr.heap.size ≤ vd.heap.size ∧ vd.heap.size ≤ v1.heap.size from ⟨HZd.out, HZ1.out⟩)
    obtain ⟨xs, oR, hB7⟩ := HOA.out.own
    have HF7 := hid HOA.out.fl
    rw [HLT.out] at oR
    have HOR := hid oR
    have HB7 := hid hB7
    clear hBA oR hB7 HOA hsa hh
    refine hK.out _ _ (HKp.out _ BC.out) (fun hh => ?_)
    clear hK KP
    try simp only [qP]
    refine qS 14 rfl fun KP hK => ?_
    refine step_append_row rfl _ _ 52 rfl w.heap.size 48 i0 _ 5 56 Tryz.underlying52 hi hz0 hz1 hz2 rfl (by decide) _ _ _ rfl HOR.out (some ⟨v1.heap.size, 0, none⟩) 1 1 [.int .i64 e.K, .int .i64 e.N, .float .f64 e.F, .slice a2 e.Z.length c2, .int .i64 e.id] rfl rfl (.inr ⟨_, rfl, World.news_of_block HRA.out⟩) (fun e => by cases e) ?g2 (by unfold maxLen; omega) (by omega) HBw.out.size ?_
    case g2 => intro u hu; simp only [List.mem_cons, List.not_mem_nil, or_false] at hu; rcases hu with rfl | rfl | rfl | rfl | rfl <;> rfl
    intro a8 c8 w8 o8 g8
    have HN8 := hid (show OwnE w8 w.heap.size w8.heap.size (.slice a8 (k + 1) c8) (es.take (k + 1)) from by
     rw [HT.out]
     exact OwnE.push (mid := wr.heap.size) HOR.out HLT.out HB7.out HF7.out HB.out.size BC.out.size (owns_lower HO2.out (by have := HSA.out; omega)) HBD.out hf o8 g8)
    have HB8 := hid (show Below w.heap.size w w8 from HBw.out.grown g8 HBw.out.size (fun r hr => (HOR.out.lt r hr).1))
    have HX8 := hid (show Box5 w8 b (off + k * 5) e.K e.N e.F (.slice a1 e.Z.length c1) e.id from ?x8)
    case x8 =>
     have hlt8 := (HR.out.at (k := k) (by rw [HN.out]; exact hlt))
     obtain ⟨b', off', _, _, e', bx', _⟩ := hlt8
     obtain ⟨rfl, rfl⟩ : b = b' ∧ off = off' := by simpa using e'
     exact (HKp.out _ BC.out).agree (g8.block b (HKp.out _ BC.out).lt (fun e => by have := (HOR.out.lt b e.symm).1; have := bx'.lt; omega))
    clear o8 g8 HOR hh
    refine hK.out _ _ HX8.out (fun hh => ?_)
    clear hK KP
    try simp only [qP]
    refine qX 15 rfl hh 3 rfl ?_ (by rintro W ⟨z0, z1, z2, z3, z4⟩; go_simp; try with_reducible rfl)
    refine anyK_done (by kernel_rfl) ?_ _
    clear hh
    go_wp2_with fail
    go_roundw
    case rel => exact ⟨k + 1, by omega, by go_num, HN8, HB8⟩
    case measure => simp [intOf]; omega
  · obtain rfl : k = n := by omega
    have hlt' : ¬ (k : Int) < (k : Int) := by omega
    obtain ⟨aA, cA, e1⟩ := HO.out.slice
    rw [show (es.take k).length = k by rw [List.length_take, HN.out]; omega] at e1
    subst e1
    have HE := hid (show es.take k = es from List.take_of_length_le (by rw [HN.out]; exact Nat.le_refl _))
    go_wp2_with fail
    go_ret
    exact ⟨_, rfl, by rw [← HE.out]; exact HO.out, HB.out⟩
set_option maxHeartbeats 1600000 in
theorem spec_TreeAll {ad : Option Addr} {N : Nat} (cap : Nat) (root : Int) {ns : List Nd} {w : World} (hR : ReadsD w ad ns) (hns : ns.length = N) (hm : ∀ i j, ((ns.getD i nd0).es.getD j en0).Z.length ≤ 2097152) :
 Calls Tryz.prog 21 #[.agg #[.slice ad N cap, .int .i64 root]] w fun e w' => ∃ v, e = .returned v ∧ OwnE w' w.heap.size w'.heap.size v (allS ns root) ∧ Below w.heap.size w w' := by
 have HB := hid (Below.alloc1 w (.cells #[.slice ad N cap, .int .i64 root] 33))
 have HR := hid (hR.below HB.out qN)
 have HM := hid hm
 have HNs := hid hns
 have HSm := hid (allS_small ns root)
 have HOk := hid (allS_ok ns root)
 have hR4 := heap_alloc_new w (.cells #[.slice ad N cap, .int .i64 root] 33)
 have k0 : (w.alloc (.cells #[.slice ad N cap, .int .i64 root] 33)).cell? ⟨w.heap.size, 0, none⟩ = some (.slice ad N cap) := qC hR4
 have k1 : (w.alloc (.cells #[.slice ad N cap, .int .i64 root] 33)).cell? ⟨w.heap.size, 1, none⟩ = some (.int .i64 root) := qC hR4
 clear hR4 hR hm hns
 go_enter Tryz.func21, Tryz.ntmps21
 go_wp2_with fail
 generalize w.alloc (.cells #[.slice ad N cap, .int .i64 root] 33) = V at *
 refine (spec_look cap root HR.out HNs.out HM.out).mono ?_
 rintro e w1 ⟨⟨p, rfl, hp⟩, b⟩
 have HBw := hid (HB.out.trans (b.mono HB.out.size))
 have HBV := hid b
 clear b k0 k1
 cases ht : treeOk ns root with
 | false =>
  have HE := hid (allS_no (ns := ns) (root := root) ht)
  clear hp ht
  go_wp2_with fail
  go_ret
  exact ⟨_, rfl, by rw [HE.out]; exact OwnE.nil _ _ _, HBw.out⟩
 | true =>
  have HE := hid (show allS ns root = (lookS ns root).all by unfold allS; rw [ht, if_pos rfl])
  obtain ⟨r, av, hk⟩ := hp ht
  obtain ⟨aA, cA, e1⟩ := hk.all.slice
  subst e1
  rw [← HE.out] at hk
  have q3 : w1.cell? ⟨p, 3, none⟩ = some (.slice aA (allS ns root).length cA) := qC hk.box
  have hal := hk.all
  rw [← HE.out] at hal
  have HRE := hid (hal.rx.rd HBV.out)
  have HTx := hid (show ∀ j, ((allS ns root).getD j en0).Z.length ≤ 2097152 from fun j => by
   rcases getD_mem_or (allS ns root) j en0 with e | e
   · rw [e]; simp [en0]
   · have := entOk_small (HOk.out _ e); omega)
  obtain ⟨n2, hn2⟩ : ∃ n2, (allS ns root).length = n2 := ⟨_, rfl⟩
  rw [hn2] at q3
  have HN2 := hid hn2
  clear hp ht hk hal hn2
  go_wp2_with fail
  refine (spec_entries cA HRE.out HN2.out (by have := HSm.out; have := HN2.out; omega) HTx.out).mono ?_
  rintro e w3 ⟨v, rfl, o3, b3⟩
  obtain ⟨a3, c3, e3⟩ := o3.slice
  subst e3
  have HO3 := hid (o3.mono (lo' := w.heap.size) (hi' := w3.heap.size) (HBw.out.size) qN)
  have HB3 := hid (HBw.out.trans (b3.mono HBw.out.size))
  clear o3 b3 q3
  go_wp2_with fail
  go_ret
  exact ⟨_, rfl, HO3.out, HB3.out⟩
end Go.Proofs.YtlkoghdajpbffaaGreat
