/- All entries of a tree, the specification: copied. Conditions: texts of at most 2^21 bytes. -/
import Derived.Test.YtphmlndkjgldkaaKz11
import Derived.Test.YtphmlndkjgldkaaMa11
import Derived.Test.YtphmlndkjgldkaaIc
namespace Go.Proofs.Ytphmlndkjgldkaa
open Go.RowKit
set_option maxRecDepth 100000
set_option maxHeartbeats 6400000 in
theorem spec_entries {ad : Option Addr} {n : Nat} (cap : Nat) {es : List En} {w : World} (hr : ReadsE w ad es) (hn : es.length = n) (hn4 : n ≤ 100000) (hm : ∀ j, (es.getD j en0).Z.length ≤ 2097152) :
 Calls Try.prog 70 #[.slice ad n cap] w fun e w' => ∃ v, e = .returned v ∧ OwnE w' w.heap.size w'.heap.size v es ∧ Below w.heap.size w w' := by
 obtain ⟨i0, hi, hz0, hz1, hz2⟩ := info_parts Try.infoEn
 have HR := hid hr
 have HN := hid hn
 have HM := hid hm
 clear hr hn hm
 go_enter Try.func70, Try.ntmps70
 go_wp2_with fail
 go_loopw [3, 4] (fun v i wr => ∃ (k : Nat), k ≤ n ∧ i = .int .i64 k ∧ Hid (OwnE wr w.heap.size wr.heap.size v (es.take k)) ∧ Hid (Below w.heap.size w wr)) (fun _ i _ => n - (intOf i).toNat)
 case atStart => exact ⟨0, Nat.zero_le _, rfl, hid (OwnE.nil _ _ _), hid (Below.refl _ _)⟩
 case round =>
  obtain ⟨k, hk, rfl, HO, HB⟩ := hrel
  by_cases hlt : k < n
  · have hlt' : (k : Int) < (n : Int) := by omega
    have hk0 : (0 : Int) ≤ (k : Int) := by omega
    have hkl : k < es.length := by rw [HN.out]; exact hlt
    obtain ⟨b, off, a1, c1, rfl, bx0, r0, hnil, _, hf⟩ := HR.out.at hkl
    have HT := hid (take_snocE es k hkl)
    have hmz := HM.out k
    have HBX := hid (bx0.below HB.out (Nat.le_refl _))
    have HR0 := hid (r0.below HB.out (Nat.le_refl _))
    have HLT := hid (show (es.take k).length = k by rw [List.length_take]; omega)
    generalize es.getD k en0 = e at *
    have hst := fun w a m => run_store Try.prog w a (.float .f64 e.F) m rfl
    have HBD := hid HR0.out.bd
    obtain ⟨a3, c3, e3⟩ := HO.out.slice
    rw [HLT.out] at e3
    subst e3
    clear r0 bx0 hkl
    go_wp2_with fail
    have HKp := hid (show ∀ W', Below wr.heap.size wr W' → Box5 W' b (off + k * 5) e.K e.N e.F (.slice a1 e.Z.length c1) e.id from fun W' b => HBX.out.below b (Nat.le_refl _))
    have BC := hid ((Still.drew wr).below wr.heap.size)
    refine region_K 99 (fun W => Box5 W b (off + k * 5) e.K e.N e.F (.slice a1 e.Z.length c1) e.id) (by kernel_rfl) ?_ (fun hHeld => ?_)
    · exact HKp.out _ BC.out
    generalize wr.drew = vd at *
    refine tkA (i := 0) (v := ?v1) rfl hHeld ?hy1 (some 11) rfl ?rest1
    case hy1 => (intro W hSw; obtain ⟨z0, z1, z2, z3, z4⟩ := hSw; go_simp; (try with_reducible rfl))
    try simp only [Act.put, List.setIfInBounds_toArray, List.set_cons_succ, List.set_cons_zero]
    refine tkA (i := 1) (v := ?v2) rfl hHeld ?hy2 (some 12) rfl ?rest2
    case hy2 => (intro W hSw; obtain ⟨z0, z1, z2, z3, z4⟩ := hSw; go_simp; (try with_reducible rfl))
    try simp only [Act.put, List.setIfInBounds_toArray, List.set_cons_succ, List.set_cons_zero]
    refine tkA (i := 2) (v := ?v3) rfl hHeld ?hy3 (some 13) rfl ?rest3
    case hy3 => (intro W hSw; obtain ⟨z0, z1, z2, z3, z4⟩ := hSw; go_simp; (try with_reducible rfl))
    try simp only [Act.put, List.setIfInBounds_toArray, List.set_cons_succ, List.set_cons_zero]
    refine tkA (i := 3) (v := ?v4) rfl hHeld ?hy4 (some 14) rfl ?rest4
    case hy4 => (intro W hSw; obtain ⟨z0, z1, z2, z3, z4⟩ := hSw; go_simp; (try with_reducible rfl))
    try simp only [Act.put, List.setIfInBounds_toArray, List.set_cons_succ, List.set_cons_zero]
    refine tkA (i := 4) (v := ?v5) rfl hHeld ?hy5 (some 15) rfl ?rest5
    case hy5 => (intro W hSw; obtain ⟨z0, z1, z2, z3, z4⟩ := hSw; go_simp; (try with_reducible rfl))
    try simp only [Act.put, List.setIfInBounds_toArray, List.set_cons_succ, List.set_cons_zero]
    refine tkA (i := 5) (v := ?v6) rfl hHeld ?hy6 (some 16) rfl ?rest6
    case hy6 => (intro W hSw; obtain ⟨z0, z1, z2, z3, z4⟩ := hSw; go_simp; (try with_reducible rfl))
    try simp only [Act.put, List.setIfInBounds_toArray, List.set_cons_succ, List.set_cons_zero]
    refine tkA (i := 7) (v := ?v7) rfl hHeld ?hy7 (some 18) rfl ?rest7
    case hy7 => (intro W hSw; obtain ⟨z0, z1, z2, z3, z4⟩ := hSw; go_simp; (try with_reducible rfl))
    try simp only [Act.put, List.setIfInBounds_toArray, List.set_cons_succ, List.set_cons_zero]
    refine tkA (i := 8) (v := ?v8) rfl hHeld ?hy8 (some 19) rfl ?rest8
    case hy8 => (intro W hSw; obtain ⟨z0, z1, z2, z3, z4⟩ := hSw; go_simp; (try with_reducible rfl))
    try simp only [Act.put, List.setIfInBounds_toArray, List.set_cons_succ, List.set_cons_zero]
    refine tkA (i := 9) (v := ?v9) rfl hHeld ?hy9 (some 20) rfl ?rest9
    case hy9 => (intro W hSw; obtain ⟨z0, z1, z2, z3, z4⟩ := hSw; go_simp; (try with_reducible rfl))
    try simp only [Act.put, List.setIfInBounds_toArray, List.set_cons_succ, List.set_cons_zero]
    refine tkA (i := 10) (v := ?v10) rfl hHeld ?hy10 (some 21) rfl ?rest10
    case hy10 => (intro W hSw; obtain ⟨z0, z1, z2, z3, z4⟩ := hSw; go_simp; (try with_reducible rfl))
    try simp only [Act.put, List.setIfInBounds_toArray, List.set_cons_succ, List.set_cons_zero]
    refine tkA (i := 11) (v := ?v11) rfl hHeld ?hy11 (some 22) rfl ?rest11
    case hy11 => (intro W hSw; obtain ⟨z0, z1, z2, z3, z4⟩ := hSw; go_simp; (try with_reducible rfl))
    try simp only [Act.put, List.setIfInBounds_toArray, List.set_cons_succ, List.set_cons_zero]
    refine anyK_step (i := 6) (by kernel_rfl) rfl (fun KP hK => ?_)
    go_simp
    refine (spec_l3copy e.K e.N e.F c1 hnil (HR0.out.below BC.out (Nat.le_refl _)) hmz).mono ?_
    rintro e9 v1 ⟨v, rfl, o1, b1⟩
    obtain ⟨a2, c2, e1⟩ := own_sl o1
    subst e1
    have HO1 := hid o1
    have HZd := hid BC.out.size
    replace BC := hid (BC.out.trans (b1.mono BC.out.size))
    have HZ1 := hid b1.size
    clear b1 o1
    go_wp2_with fail
    clear hHeld
    refine hK.out _ _ (HKp.out _ BC.out) (fun hHeld => ?_)
    clear hK KP
    try simp only [Act.put, List.setIfInBounds_toArray, List.set_cons_succ, List.set_cons_zero]
    refine anyK_step (i := 12) (by kernel_rfl) rfl (fun KP hK => ?_)
    go_simp
    clear hHeld
    refine hK.out _ _ (HKp.out _ BC.out) (fun hHeld => ?_)
    clear hK KP
    try simp only [Act.put]
    try simp only [List.setIfInBounds_toArray]
    try simp only [List.set_cons_succ, List.set_cons_zero]
    refine anyK_step (i := 13) (by kernel_rfl) rfl (fun KP hK => ?_)
    go_simp
    have hBA := Below.alloc1 v1 (.cells #[.int .i64 e.K, .int .i64 e.N, .float .f64 e.F, .slice a2 e.Z.length c2, .int .i64 e.id] 35)
    have HRA := hid (heap_alloc_new v1 (.cells #[.int .i64 e.K, .int .i64 e.N, .float .f64 e.F, .slice a2 e.Z.length c2, .int .i64 e.id] 35))
    have HO2 := hid (HO1.out.alloc (.cells #[.int .i64 e.K, .int .i64 e.N, .float .f64 e.F, .slice a2 e.Z.length c2, .int .i64 e.id] 35))
    have hsa := alloc_size v1 (.cells #[.int .i64 e.K, .int .i64 e.N, .float .f64 e.F, .slice a2 e.Z.length c2, .int .i64 e.id] 35)
    replace BC := hid (BC.out.trans (hBA.mono BC.out.size))
    have HOA := hid (HO.out.below BC.out (Nat.le_refl _))
    have HBw := hid (HB.out.trans (BC.out.mono HB.out.size))
    have HSA := hid (show wr.heap.size ≤ vd.heap.size ∧ vd.heap.size ≤ v1.heap.size from ⟨HZd.out, HZ1.out⟩)
    obtain ⟨xs, oR, hB7⟩ := HOA.out.own
    have HF7 := hid HOA.out.fl
    rw [HLT.out] at oR
    have HOR := hid oR
    have HB7 := hid hB7
    clear hBA oR hB7 HOA hsa hHeld
    refine hK.out _ _ (HKp.out _ BC.out) (fun hHeld => ?_)
    clear hK KP
    try simp only [Act.put]
    try simp only [List.setIfInBounds_toArray]
    try simp only [List.set_cons_succ, List.set_cons_zero]
    refine anyK_step (i := 14) (by kernel_rfl) rfl (fun KP hK => ?_)
    refine step_append_row rfl _ _ 28 rfl w.heap.size 35 i0 _ 5 56 Try.underlying28 hi hz0 hz1 hz2 rfl (by decide) _ _ _ rfl HOR.out (some ⟨v1.heap.size, 0, none⟩) 1 1 [.int .i64 e.K, .int .i64 e.N, .float .f64 e.F, .slice a2 e.Z.length c2, .int .i64 e.id] rfl rfl (.inr ⟨_, rfl, World.news_of_block HRA.out⟩) (fun e => by cases e) ?g2 (by unfold maxLen; omega) (by omega) HBw.out.size ?_
    case g2 => intro u hu; simp only [List.mem_cons, List.not_mem_nil, or_false] at hu; rcases hu with rfl | rfl | rfl | rfl | rfl <;> rfl
    intro a8 c8 w8 o8 g8
    have HN8 := hid (show OwnE w8 w.heap.size w8.heap.size (.slice a8 (k + 1) c8) (es.take (k + 1)) from by
     rw [HT.out]
     exact OwnE.push (mid := wr.heap.size) HOR.out HLT.out HB7.out HF7.out HB.out.size BC.out.size (owns_lower HO2.out (by have := HSA.out; omega)) HBD.out hf o8 g8)
    have HB8 := hid (show Below w.heap.size w w8 from HBw.out.grown g8 HBw.out.size (fun r hr => (HOR.out.lt r hr).1))
    have HX8 := hid (show Box5 w8 b (off + k * 5) e.K e.N e.F (.slice a1 e.Z.length c1) e.id from ?x8)
    case x8 =>
     have hlt8 := (HR.out.at (k := k) (by rw [HN.out]; exact hlt))
     obtain ⟨b', off', _, _, e', bx', _⟩ := hlt8
     obtain ⟨rfl, rfl⟩ : b = b' ∧ off = off' := by simpa using e'
     exact (HKp.out _ BC.out).agree (g8.block b (HKp.out _ BC.out).lt (fun e => by have := (HOR.out.lt b e.symm).1; have := bx'.lt; omega))
    clear o8 g8 HOR hHeld
    refine hK.out _ _ HX8.out (fun hHeld => ?_)
    clear hK KP
    try simp only [Act.put]
    try simp only [List.setIfInBounds_toArray]
    try simp only [List.set_cons_succ, List.set_cons_zero]
    refine tkA (i := 15) (v := ?v12) rfl hHeld ?hy12 (some 3) rfl ?rest12
    case hy12 => (intro W hSw; obtain ⟨z0, z1, z2, z3, z4⟩ := hSw; go_simp; (try with_reducible rfl))
    try simp only [Act.put]
    try simp only [List.setIfInBounds_toArray]
    try simp only [List.set_cons_succ, List.set_cons_zero]
    refine anyK_done (by kernel_rfl) ?_ _
    clear hHeld
    go_wp2_with fail
    go_roundw
    case rel => exact ⟨k + 1, by omega, by go_num, HN8, HB8⟩
    case measure => simp [intOf]; omega
  · obtain rfl : k = n := by omega
    have hlt' : ¬ (k : Int) < (k : Int) := by omega
    obtain ⟨aA, cA, e1⟩ := HO.out.slice
    rw [show (es.take k).length = k by rw [List.length_take, HN.out]; omega] at e1
    subst e1
    have HE := hid (show es.take k = es from List.take_of_length_le (by rw [HN.out]; exact Nat.le_refl _))
    go_wp2_with fail
    go_ret
    exact ⟨_, rfl, by rw [← HE.out]; exact HO.out, HB.out⟩
set_option maxHeartbeats 1600000 in
theorem spec_TreeAll {ad : Option Addr} {N : Nat} (cap : Nat) (root : Int) {ns : List Nd} {w : World} (hR : ReadsD w ad ns) (hns : ns.length = N) (hm : ∀ i j, ((ns.getD i nd0).es.getD j en0).Z.length ≤ 2097152) :
 Calls Try.prog 33 #[.agg #[.slice ad N cap, .int .i64 root]] w fun e w' => ∃ v, e = .returned v ∧ OwnE w' w.heap.size w'.heap.size v (allS ns root) ∧ Below w.heap.size w w' := by
 have HB := hid (Below.alloc1 w (.cells #[.slice ad N cap, .int .i64 root] 26))
 have HR := hid (hR.below HB.out (Nat.le_refl _))
 have HM := hid hm
 have HNs := hid hns
 have HSm := hid (allS_small ns root)
 have HOk := hid (allS_ok ns root)
 have hR4 := heap_alloc_new w (.cells #[.slice ad N cap, .int .i64 root] 26)
 have k0 : (w.alloc (.cells #[.slice ad N cap, .int .i64 root] 26)).cell? ⟨w.heap.size, 0, none⟩ = some (.slice ad N cap) := by rw [cell_of_row _ _ _ _ _ _ hR4]; rfl
 have k1 : (w.alloc (.cells #[.slice ad N cap, .int .i64 root] 26)).cell? ⟨w.heap.size, 1, none⟩ = some (.int .i64 root) := by rw [cell_of_row _ _ _ _ _ _ hR4]; rfl
 clear hR4 hR hm hns
 go_enter Try.func33, Try.ntmps33
 go_wp2_with fail
 generalize w.alloc (.cells #[.slice ad N cap, .int .i64 root] 26) = V at *
 refine (spec_look cap root HR.out HNs.out HM.out).mono ?_
 rintro e w1 ⟨⟨p, rfl, hp⟩, b⟩
 have HBw := hid (HB.out.trans (b.mono HB.out.size))
 have HBV := hid b
 clear b k0 k1
 cases ht : treeOk ns root with
 | false =>
  have HE := hid (allS_no (ns := ns) (root := root) ht)
  clear hp ht
  go_wp2_with fail
  go_ret
  exact ⟨_, rfl, by rw [HE.out]; exact OwnE.nil _ _ _, HBw.out⟩
 | true =>
  have HE := hid (show allS ns root = (lookS ns root).all by unfold allS; rw [ht, if_pos rfl])
  obtain ⟨r, av, hk⟩ := hp ht
  obtain ⟨aA, cA, e1⟩ := hk.all.slice
  subst e1
  rw [← HE.out] at hk
  have q3 : w1.cell? ⟨p, 3, none⟩ = some (.slice aA (allS ns root).length cA) := by rw [cell_of_row _ _ _ _ _ _ hk.box]; rfl
  have hal := hk.all
  rw [← HE.out] at hal
  have HRE := hid (hal.rx.rd HBV.out)
  have HTx := hid (show ∀ j, ((allS ns root).getD j en0).Z.length ≤ 2097152 from fun j => by
   rcases getD_mem_or (allS ns root) j en0 with e | e
   · rw [e]; simp [en0]
   · have := entOk_small (HOk.out _ e); omega)
  obtain ⟨n2, hn2⟩ : ∃ n2, (allS ns root).length = n2 := ⟨_, rfl⟩
  rw [hn2] at q3
  have HN2 := hid hn2
  clear hp ht hk hal hn2
  go_wp2_with fail
  refine (spec_entries cA HRE.out HN2.out (by have := HSm.out; have := HN2.out; omega) HTx.out).mono ?_
  rintro e w3 ⟨v, rfl, o3, b3⟩
  obtain ⟨a3, c3, e3⟩ := o3.slice
  subst e3
  have HO3 := hid (o3.mono (lo' := w.heap.size) (hi' := w3.heap.size) (HBw.out.size) (Nat.le_refl _))
  have HB3 := hid (HBw.out.trans (b3.mono HBw.out.size))
  clear o3 b3 q3
  go_wp2_with fail
  go_ret
  exact ⟨_, rfl, HO3.out, HB3.out⟩
end Go.Proofs.Ytphmlndkjgldkaa
