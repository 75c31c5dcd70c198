/- The contracts of bits.Mul and slices.Repeat at one number. Conditions: at most 100 times. -/
import Derived.Test.YtecdnheopmojfaaGreatHr14
namespace Go.Proofs.YtecdnheopmojfaaGreat
open Go.RowKit
set_option maxRecDepth 100000
theorem and32 (n : Nat) (h : n < 4294967296) : bits .and .u64 (n : Int) 4294967295 = (n : Int) := by
 have h255 : (BitVec.ofInt 64 4294967295).toNat = 2 ^ 32 - 1 := by decide
 have key : (BitVec.ofInt 64 (n : Int) &&& BitVec.ofInt 64 4294967295).toNat = ((n : Int) % ((2 ^ 64 : Nat) : Int)).toNat % 2 ^ 32 := by
  rw [BitVec.toNat_and, BitVec.toNat_ofInt, h255, Nat.and_two_pow_sub_one_eq_mod]
 show IntKind.u64.wrap ((BitVec.ofInt 64 (n : Int) &&& BitVec.ofInt 64 4294967295).toNat : Nat) = (n : Int)
 rw [key]
 simp [IntKind.wrap, IntKind.bits, IntKind.signed]
 omega
theorem u64n (n : Nat) (h : n < 4294967296) : IntKind.u64.wrap (n : Int) = (n : Int) := by simp [IntKind.wrap, IntKind.bits, IntKind.signed]; omega
set_option maxHeartbeats 1600000 in
theorem mul64_one (n : Nat) (hn : n ≤ 1048576) (w : World) : Calls Tryz.prog 143 #[.int .u64 1, .int .u64 (n : Int)] w fun e w' => e = .returned (.tuple #[.int .u64 0, .int .u64 (n : Int)]) ∧ w' = w := by
 have h1 : (n : Int) / 4294967296 = 0 := by omega
 have a1 : bits .and .u64 1 4294967295 = 1 := and32 1 (by omega)
 have a0 : bits .and .u64 0 4294967295 = 0 := and32 0 (by omega)
 have a2 := and32 n (by omega)
 have a3 := u64n n (by omega)
 have a4 : IntKind.u64.wrap 0 = 0 := u64n 0 (by omega)
 go_enter Tryz.func143, Tryz.ntmps143
 go_wp2_with fail
 go_ret2
 exact ⟨rfl, rfl⟩
set_option maxHeartbeats 1600000 in
theorem mul_one14 (n : Nat) (hn : n ≤ 1048576) (w : World) : Calls Tryz.prog 110 #[.int .u64 1, .int .u64 (n : Int)] w fun e w' => e = .returned (.tuple #[.int .u64 0, .int .u64 (n : Int)]) ∧ w' = w := by
 go_enter Tryz.func110, Tryz.ntmps110
 go_wp2_with fail
 refine (mul64_one n hn w).mono ?_
 rintro e w1 ⟨rfl, e1⟩
 subst e1
 go_wp2_with fail
 go_ret2
 exact ⟨rfl, rfl⟩
theorem sizeI14 : (Tryz.prog.info? 3).map (·.size) = some 1 := by kernel_rfl
def negs (m n : Nat) : List Int := List.replicate m (-1) ++ List.replicate (n - m) 0
theorem negs_len {m n : Nat} (h : m ≤ n) : (negs m n).length = n := by unfold negs; rw [List.length_append, List.length_replicate, List.length_replicate]; omega
theorem negs_step {m k n : Nat} (_ : m + k ≤ n) : (ins (negs m n)).take m ++ ins (List.replicate k (-1)) ++ (ins (negs m n)).drop (m + k) = ins (negs (m + k) n) := by
 unfold negs
 rw [ins_append]
 have l1 : (ins (List.replicate m (-1 : Int))).length = m := by rw [ins_length, List.length_replicate]
 rw [List.take_left' l1, ← List.drop_drop, List.drop_left' l1, ← ins_append, List.replicate_append_replicate]
 unfold ins
 rw [List.map_append, ← List.map_drop, List.drop_replicate, show n - m - k = n - (m + k) by omega]
set_option maxHeartbeats 6400000 in
theorem repeat_neg (N b : Nat) (hN : N ≤ 100) {w : World} (hx : w.cell? ⟨b, 0, none⟩ = some (.int .i64 (-1))) :
 Calls Tryz.prog 82 #[.slice (some ⟨b, 0, none⟩) 1 1, .int .i64 N] w fun e w' => e = .returned (.slice (some ⟨w.heap.size, 0, none⟩) N N) ∧ w'.ownsRow w.heap.size 3 1 (.slice (some ⟨w.heap.size, 0, none⟩) N N) N (ins (negs N N)) ∧ Below w.heap.size w w' := by
 obtain ⟨i0, hinf, hz0, hz1, hz2⟩ := infoI14
 have hN0 : ¬ (N : Int) < 0 := by omega
 have hu1 := u64n N (by omega)
 have hi1 : IntKind.i64.wrap (N : Int) = (N : Int) := by simp [IntKind.wrap, IntKind.bits, IntKind.signed]; omega
 have hbig : ¬ (9223372036854775807 : Int) < (N : Int) := by omega
 have hbl := World.block_lt_of_cell? w _ hx
 go_enter Tryz.func82, Tryz.ntmps82
 go_wp2_with fail
 refine (mul_one14 N (by omega) w).mono ?_
 rintro e w1 ⟨rfl, e1⟩
 subst e1
 go_wp2_with (at_make; refine wpList_make_full _ rfl _ _ 29 rfl w1.heap.size 3 i0 (.int .i64 0) 1 Tryz.underlying29 hinf hz0 hz1 _ _ _ _ N rfl rfl (by omega) (by omega) ?b2 ?b3 (Nat.le_refl _) ?_)
 case b2 => rw [hz2]; omega
 case b3 => unfold maxLen; omega
 intro w2 hown0 hgrow0
 have hmade : (madeCells #[.int .i64 0] N).toList = ins (negs 0 N) := by
  unfold negs ins
  simp only [madeCells, List.replicate_zero, List.nil_append, Nat.sub_zero]
  apply List.ext_getElem?
  intro i
  by_cases hi : i < N
  · simp [hi, Nat.mod_one]
  · simp [hi]
 have HO := hid (show w2.ownsRow w1.heap.size 3 1 (.slice (some ⟨w1.heap.size, 0, none⟩) N N) N (ins (negs 0 N)) by rw [← hmade]; exact hown0)
 have HB := hid ((Below.refl w1.heap.size w1).grown hgrow0 (Nat.le_refl _) (fun k h => by cases h))
 have hx2 : w2.cell? ⟨b, 0, none⟩ = some (.int .i64 (-1)) := (HB.out.cell (p := ⟨b, 0, none⟩) hbl).trans hx
 obtain ⟨g, hg⟩ : ∃ g, w1.heap.size = g := ⟨_, rfl⟩
 have HGe := hid hg
 clear hown0 hgrow0 hmade hN0 hbig hx
 rw [hg] at HO HB
 try simp only [hg]
 clear hg
 by_cases h0 : N = 0
 · subst h0
   have hcp := fun ty => run_copy_none (P := Tryz.prog) w2 29 29 ty 3 (some ⟨g, 0, none⟩) (some ⟨b, 0, none⟩) 0 0 1 1 Tryz.underlying29 sizeI14 rfl
   go_wp2_with fail
   go_loopw [8] (fun s wr => s = .int .i64 0 ∧ wr = w2) (fun _ _ => 0)
   case atStart => exact ⟨by first | rfl | simp [goInt], rfl⟩
   case round =>
    obtain ⟨rfl, rfl⟩ := hrel
    go_wp2_with fail
    go_ret
    exact ⟨by rw [HGe.out]; rfl, by rw [HGe.out]; exact HO.out, by rw [HGe.out]; exact HB.out⟩
 · have hrow : w2.heap[g]? = some (.cells (ins (negs 0 N)).toArray 3 (0, 0)) := by
    obtain ⟨rest, hr, hl, _⟩ := owns_blk HO.out
    have : rest = [] := by
     rw [List.length_append, HO.out.1] at hl
     exact List.length_eq_zero_iff.1 (by omega)
    rw [this, List.append_nil] at hr
    exact hr
   have hcp : ∀ ty, (Builtin.copy_ #[29, 29] ty #[.slice (some ⟨g, 0, none⟩) N N, .slice (some ⟨b, 0, none⟩) 1 1]).run Tryz.prog w2 = .ok (.int .i64 1) (w2.setRow g (ins (negs 1 N)).toArray) := fun ty => by
    rw [run_copy_row (P := Tryz.prog) w2 29 29 ty 3 g 0 N N ⟨b, 0, none⟩ 1 1 (ins (negs 0 N)).toArray 3 (ins (List.replicate 1 (-1))) Tryz.underlying29 sizeI14 hrow (by show 1 = Nat.min 1 N; exact (Nat.min_eq_left (by omega)).symm) (by
     intro j v hv
     rcases j with _ | j
     · simp [ins] at hv; subst hv; simpa [Addr.add] using hx2
     · simp [ins] at hv) (by simp [ins_length, negs_len (Nat.zero_le N)]; omega) (ins_one _)]
    have hst := negs_step (m := 0) (k := 1) (n := N) (by omega)
    rw [Nat.zero_add] at hst
    show Result.ok (goInt 1) (w2.setRow g ((ins (negs 0 N)).take 0 ++ ins (List.replicate 1 (-1)) ++ (ins (negs 0 N)).drop (0 + 1)).toArray) = _
    rw [Nat.zero_add, hst]; rfl
   have HR1 := hid (setRow_heap w2 g _ (ins (negs 1 N)).toArray _ _ hrow)
   have HB1 := hid (below_setRow HB.out (Nat.le_refl g) (ins (negs 1 N)).toArray)
   clear hrow HO HB hx2
   go_wp2_with fail
   clear hcp
   go_loopw [8] (fun s wr => ∃ m : Nat, 1 ≤ m ∧ m ≤ N ∧ s = .int .i64 m ∧ Hid (wr.heap[g]? = some (.cells (ins (negs m N)).toArray 3 (0, 0))) ∧ Hid (Below g w1 wr)) (fun s _ => N - (intOf s).toNat)
   case atStart => exact ⟨1, by omega, by omega, rfl, HR1, HB1⟩
   case round =>
    clear HR1 HB1
    obtain ⟨m, hm1, hmN, rfl, HRo, HBw⟩ := hrel
    by_cases hlt : m < N
    · have hlt' : (m : Int) < (N : Int) := by omega
      have hm0 : (0 : Int) ≤ (m : Int) := by omega
      have hmN' : (m : Int) ≤ (N : Int) := by omega
      have hne : ¬ N = m := by omega
      obtain ⟨k, hk⟩ : ∃ k, Nat.min m (N - m) = k := ⟨_, rfl⟩
      have hk2 : 1 ≤ k ∧ k ≤ m ∧ m + k ≤ N := by
       have : min m (N - m) = k := hk
       omega
      have hw : IntKind.i64.wrap ((m : Int) + (k : Int)) = ((m + k : Nat) : Int) := by simp [IntKind.wrap, IntKind.bits, IntKind.signed]; omega
      have hcp : ∀ ty, (Builtin.copy_ #[29, 29] ty #[.slice (some ⟨g, m, none⟩) (N - m) (N - m), .slice (some ⟨g, 0, none⟩) m N]).run Tryz.prog wr.drew = .ok (.int .i64 k) (wr.drew.setRow g (ins (negs (m + k) N)).toArray) := fun ty => by
       rw [run_copy_row (P := Tryz.prog) wr.drew 29 29 ty 3 g m (N - m) (N - m) ⟨g, 0, none⟩ m N (ins (negs m N)).toArray 3 (ins (List.replicate k (-1))) Tryz.underlying29 sizeI14 HRo.out (by rw [ins_length, List.length_replicate]; exact hk.symm) (by
        intro j v hv
        have hj : j < k := by
         by_cases q : j < k
         · exact q
         · rw [List.getElem?_eq_none (by rw [ins_length, List.length_replicate]; omega)] at hv; cases hv
        have ea : (⟨g, 0, none⟩ : Addr).add j = ⟨g, j, none⟩ := by
         unfold Addr.add
         split
         · rename_i h; subst h; rfl
         · simp
        rw [ea]
        show wr.cell? _ = _
        rw [block14 HRo.out j, ← hv, getD_ins, getD_ins]
        congr 1
        unfold negs
        rw [List.getElem?_append_left (by rw [List.length_replicate]; omega), List.getElem?_replicate, List.getElem?_replicate, if_pos (by omega), if_pos hj]) (by simp [ins_length, negs_len hmN]; omega) (ins_one _)]
       have hst := negs_step (m := m) (k := k) (n := N) hk2.2.2
       show Result.ok (goInt (ins (List.replicate k (-1))).length) (wr.drew.setRow g ((ins (negs m N)).take m ++ ins (List.replicate k (-1)) ++ (ins (negs m N)).drop (m + (ins (List.replicate k (-1))).length)).toArray) = _
       rw [ins_length, List.length_replicate, hst]; rfl
      have HR2 := hid (setRow_heap wr.drew g _ (ins (negs (m + k) N)).toArray _ _ HRo.out)
      have HB2 := hid (below_setRow (HBw.out.drew) (Nat.le_refl g) (ins (negs (m + k) N)).toArray)
      clear hk
      go_wp2
      refine region_K 99 (fun _ => True) (by kernel_rfl) ?_ (fun hHeld => ?_)
      · trivial
      generalize wr.drew = v0 at *
      refine anyK_take2 (i := 0) (v := ?v0_1) rfl (by kernel_rfl) (by kernel_rfl) (by kernel_rfl) (by rfl) (fun _ _ _ h => h) (by rfl) hHeld ?hy0_1 (some 38) (by rfl) ?rest0_1
      case hy0_1 => (intro W hSw; obtain _ := hSw; go_simp; (try with_reducible rfl))
      try simp only [Act.put, List.setIfInBounds_toArray, List.set_cons_succ, List.set_cons_zero]
      refine anyK_take2 (i := 1) (v := ?v1_2) rfl (by kernel_rfl) (by kernel_rfl) (by kernel_rfl) (by rfl) (fun _ _ _ h => h) (by rfl) hHeld ?hy1_2 (some 39) (by rfl) ?rest1_2
      case hy1_2 => (intro W hSw; obtain _ := hSw; go_simp; (try with_reducible rfl))
      try simp only [Act.put, List.setIfInBounds_toArray, List.set_cons_succ, List.set_cons_zero]
      refine anyK_take2 (i := 2) (v := ?v2_3) rfl (by kernel_rfl) (by kernel_rfl) (by kernel_rfl) (by rfl) (fun _ _ _ h => h) (by rfl) hHeld ?hy2_3 (some 40) (by rfl) ?rest2_3
      case hy2_3 => (intro W hSw; obtain _ := hSw; go_simp; (try with_reducible rfl))
      try simp only [Act.put, List.setIfInBounds_toArray, List.set_cons_succ, List.set_cons_zero]
      refine anyK_take2 (i := 3) (v := ?v3_4) rfl (by kernel_rfl) (by kernel_rfl) (by kernel_rfl) (by rfl) (fun _ _ _ h => h) (by rfl) hHeld ?hy3_4 (some 41) (by rfl) ?rest3_4
      case hy3_4 => (intro W hSw; obtain _ := hSw; go_simp; (try with_reducible rfl))
      try simp only [Act.put, List.setIfInBounds_toArray, List.set_cons_succ, List.set_cons_zero]
      refine anyK_take2 (i := 4) (v := ?v4_5) rfl (by kernel_rfl) (by kernel_rfl) (by kernel_rfl) (by rfl) (fun _ _ _ h => h) (by rfl) hHeld ?hy4_5 (some 42) (by rfl) ?rest4_5
      case hy4_5 => (intro W hSw; obtain _ := hSw; go_simp; (try with_reducible rfl))
      try simp only [Act.put, List.setIfInBounds_toArray, List.set_cons_succ, List.set_cons_zero]
      refine anyK_take2 (i := 5) (v := ?v5_6) rfl (by kernel_rfl) (by kernel_rfl) (by kernel_rfl) (by rfl) (fun _ _ _ h => h) (by rfl) hHeld ?hy5_6 (some 43) (by rfl) ?rest5_6
      case hy5_6 => (intro W hSw; obtain _ := hSw; go_simp; (try with_reducible rfl))
      try simp only [Act.put, List.setIfInBounds_toArray, List.set_cons_succ, List.set_cons_zero]
      refine anyK_take2 (i := 6) (v := ?v6_7) rfl (by kernel_rfl) (by kernel_rfl) (by kernel_rfl) (by rfl) (fun _ _ _ h => h) (by rfl) hHeld ?hy6_7 (some 44) (by rfl) ?rest6_7
      case hy6_7 => (intro W hSw; obtain _ := hSw; go_simp; (try with_reducible rfl))
      try simp only [Act.put, List.setIfInBounds_toArray, List.set_cons_succ, List.set_cons_zero]
      refine anyK_step (i := 7) (by kernel_rfl) rfl (fun KP hK => ?_)
      go_simp
      clear hHeld
      refine hK.out _ _ trivial (fun hHeld => ?_)
      clear hK KP hcp
      try simp only [Act.put, List.setIfInBounds_toArray, List.set_cons_succ, List.set_cons_zero]
      refine anyK_take2 (i := 8) (v := ?v8_8) rfl (by kernel_rfl) (by kernel_rfl) (by kernel_rfl) (by rfl) (fun _ _ _ h => h) (by rfl) hHeld ?hy8_8 (some 46) (by rfl) ?rest8_8
      case hy8_8 => (intro W hSw; obtain _ := hSw; go_simp; (try with_reducible rfl))
      try simp only [Act.put, List.setIfInBounds_toArray, List.set_cons_succ, List.set_cons_zero]
      refine anyK_take2 (i := 9) (v := ?v9_9) rfl (by kernel_rfl) (by kernel_rfl) (by kernel_rfl) (by rfl) (fun _ _ _ h => h) (by rfl) hHeld ?hy9_9 (some 8) (by rfl) ?rest9_9
      case hy9_9 => (intro W hSw; obtain _ := hSw; go_simp; (try with_reducible rfl))
      try simp only [Act.put, List.setIfInBounds_toArray, List.set_cons_succ, List.set_cons_zero]
      refine anyK_done (by kernel_rfl) ?_ _
      clear hHeld
      go_wp2_with fail
      go_roundw
      case rel => exact ⟨m + k, by omega, by omega, by first | rfl | go_num, HR2, HB2⟩
      case measure => simp [intOf]; omega
    · have hlt' : ¬ (m : Int) < (N : Int) := by omega
      obtain rfl : m = N := by omega
      have HOw := hid (show wr.ownsRow g 3 1 (.slice (some ⟨g, 0, none⟩) m m) m (ins (negs m m)) from blk_owns (rest := []) (by rw [List.append_nil]; exact HRo.out) (by rw [ins_length, negs_len (Nat.le_refl _), Nat.mul_one]) (by rw [List.append_nil, ins_length, negs_len (Nat.le_refl _), Nat.mul_one]) (Nat.le_refl _) (by unfold maxLen; omega) (Nat.le_refl _))
      go_wp2_with fail
      go_ret
      exact ⟨by rw [HGe.out]; rfl, by rw [HGe.out]; exact HOw.out, by rw [HGe.out]; exact HBw.out⟩
end Go.Proofs.YtecdnheopmojfaaGreat
