/- The Ids of the entries with a key: plain, and the program's TreeFind. Conditions: texts of at most 2^21 bytes. -/
import Derived.Test.YtnjofaiekofamaaMe11
import Derived.Maps.AppendAt
namespace Go.Proofs.Ytnjofaiekofamaa
open Go.RowKit
set_option maxRecDepth 100000

theorem txt_anti11 : ∀ (zs ys : List Int), txt ys zs = - txt zs ys
  | [], [] => rfl
  | [], _ :: _ => rfl
  | _ :: _, [] => rfl
  | x :: xs, y :: ys => by
    have ih := txt_anti11 xs ys
    rw [txt, txt]
    by_cases h1 : x < y
    · rw [if_neg (by omega), if_pos h1, if_pos h1]; rfl
    · by_cases h2 : y < x
      · rw [if_pos h2, if_neg h1, if_pos h2]
      · rw [if_neg h2, if_neg h1, if_neg h1, if_neg h2, ih]
theorem cmp3_anti11 (x y : Nat) : cmp3 y x = - cmp3 x y := by
  unfold cmp3
  by_cases h1 : x < y
  · rw [if_neg (by omega), if_pos h1, if_pos h1]; rfl
  · by_cases h2 : y < x
    · rw [if_pos h2, if_neg h1, if_pos h2]
    · rw [if_neg h2, if_neg h1, if_neg h1, if_neg h2]; rfl
theorem cmpI_of11 (K N K' N' : Int) (f f' n n' : Nat) (zs zs' : List Int) (h : okI K N f n = true) (h' : okI K' N' f' n' = true) : cmpI K N f n zs K' N' f' n' zs' = (if K ≠ K' then (if K < K' then -1 else 1) else if N ≠ N' then (if N < N' then -1 else 1) else if cmp3 (frank f) (frank f') ≠ 0 then cmp3 (frank f) (frank f') else txt zs zs') := by
  unfold cmpI
  rw [if_neg (by rw [h, h']; simp)]
theorem cmpI_anti11 (K N K' N' : Int) (f f' n n' : Nat) (zs zs' : List Int) (h : okI K N f n = true) (h' : okI K' N' f' n' = true) : cmpI K' N' f' n' zs' K N f n zs = - cmpI K N f n zs K' N' f' n' zs' := by
  rw [cmpI_of11 K N K' N' f f' n n' zs zs' h h', cmpI_of11 K' N' K N f' f n' n zs' zs h' h, cmp3_anti11 (frank f) (frank f'), txt_anti11 zs zs']
  generalize cmp3 (frank f) (frank f') = c
  generalize txt zs zs' = t
  repeat' split
  all_goals omega
def keyIs (p : Im) (e : En) : Bool := cmpI e.K e.N e.F e.Z.length e.Z p.K p.N p.F p.Z.length p.Z == 0
/-- The Ids of the entries with this key. -/
def findS (ns : List Nd) (root : Int) (p : Im) : List Int := if okK p.K p.N p.F p.Z.length = true then ((allS ns root).filter (keyIs p)).map (·.id) else []
theorem find_span (ns : List Nd) (root : Int) (p : Im) : (spanS ns root p p).map (·.id) = findS ns root p := by
  unfold findS spanS
  cases hk : okK p.K p.N p.F p.Z.length with
  | false =>
    rw [if_neg (by simp)]
    have : (allS ns root).filter (inSpE p p) = [] := by
      rw [List.filter_eq_nil_iff]
      intro e _
      unfold inSpE inSp
      rw [hk]
      simp
    rw [this]; rfl
  | true =>
    rw [if_pos rfl]
    congr 1
    refine List.filter_congr (fun e he => ?_)
    have ho := allS_ok ns root e he
    unfold entOk entB at ho
    rw [Bool.and_eq_true] at ho
    have hp1 : okI p.K p.N p.F p.Z.length = true := by unfold okK at hk; rw [Bool.and_eq_true] at hk; exact hk.1
    have he1 : okI e.K e.N e.F e.Z.length = true := by have := ho.1; unfold okK at this; rw [Bool.and_eq_true] at this; exact this.1
    have ha := cmpI_anti11 e.K e.N p.K p.N e.F p.F e.Z.length p.Z.length e.Z p.Z he1 hp1
    unfold inSpE inSp keyIs
    rw [hk, ho.1, ha]
    simp only [Bool.true_and]
    generalize cmpI e.K e.N e.F e.Z.length e.Z p.K p.N p.F p.Z.length p.Z = t
    rw [Bool.eq_iff_iff]
    simp
    omega
theorem findS_small (ns : List Nd) (root : Int) (p : Im) : (findS ns root p).length ≤ 1200 := by
  rw [← find_span, List.length_map]
  exact (spanS_small ns root p p).1
theorem ids_bd (es : List En) (h : ∀ e ∈ es, entOk e = true) (i : Nat) : -9223372036854775808 ≤ (es.map (·.id)).getD i 0 ∧ (es.map (·.id)).getD i 0 ≤ 9223372036854775807 := by
  rcases getD_mem_or (es.map (·.id)) i 0 with q | q
  · rw [q]; omega
  · obtain ⟨e, he, hq⟩ := List.mem_map.1 q
    have := h e he
    unfold entOk entB at this
    rw [Bool.and_eq_true] at this
    have := of_decide_eq_true this.2
    rw [← hq]
    omega
theorem OwnK.below {w w' : World} {lo hi : Nat} {v : Value} {ks : List Int} (h : OwnK w lo hi v ks) {B : Nat} (hb : Below B w w') (hB : hi ≤ B) : OwnK w' lo hi v ks := h.agree (Agree.below hb hB)
theorem OwnK.marked {w w' : World} {lo hi : Nat} {a : Option Addr} {n c : Nat} {ks : List Int} (h : OwnK w lo hi (.slice a n c) ks) (hn : n ≤ 2097152) (om : w'.ownsRow lo 3 1 (.slice a n c) n (ins (marksI 1 n))) (g : w.grownBy w' (Value.slice a n c).ownBlock) : OwnK w' lo hi (.slice a n c) (marksI 1 n) ∧ Within lo hi w w' :=
  ⟨⟨by rw [marksI_length]; exact om, h.top, fun i => marksI_bd _ _ _ (by omega) (by omega) hn⟩, Within.grown11 g (fun k hk => ⟨(h.own.lt k hk).1, h.top k hk⟩)⟩
theorem Try.infoI11 : (Try.prog.info? 3).map (fun i => (i.zero, i.size, i.bytes)) = some (some (.int .i64 0), 1, 8) := by kernel_rfl
theorem ins_snoc (ks : List Int) (x : Int) : ins (ks ++ [x]) = ins ks ++ [.int .i64 x] := by simp [ins]
theorem take_ids (es : List En) (k : Nat) (h : k < es.length) : (es.take (k + 1)).map (·.id) = (es.take k).map (·.id) ++ [(es.getD k en0).id] := by
  rw [take_snocE es k h, List.map_append]; rfl

set_option maxHeartbeats 6400000 in
theorem impl_TreeFind {ad : Option Addr} {N : Nat} (cap : Nat) (root : Int) {ns : List Nd} {w : World} (hR : ReadsD w ad ns) (hns : ns.length = N) (hm : ∀ i j, ((ns.getD i nd0).es.getD j en0).Z.length ≤ 2097152) (p : Im) {aP : Option Addr} (cP : Nat) (rP : Reads w aP p.Z.length p.Z) (fP : p.F < 18446744073709551616) (mP : p.Z.length ≤ 2097152) :
    Calls Try.prog 25 #[.agg #[.slice ad N cap, .int .i64 root], .agg #[.int .i64 p.K, .int .i64 p.N, .float .f64 p.F, .slice aP p.Z.length cP]] w fun e w' => ∃ v, e = .returned v ∧ OwnK w' w.heap.size w'.heap.size v (findS ns root p) ∧ Below w.heap.size w w' := by
  obtain ⟨i0, hi, hz0, hz1, hz2⟩ := info_parts Try.infoI11
  have bW := two w (.cells #[.slice ad N cap, .int .i64 root] 26) (.cells #[.int .i64 p.K, .int .i64 p.N, .float .f64 p.F, .slice aP p.Z.length cP] 32)
  obtain ⟨R0, R1, z⟩ := two_rows11 w (.cells #[.slice ad N cap, .int .i64 root] 26) (.cells #[.int .i64 p.K, .int .i64 p.N, .float .f64 p.F, .slice aP p.Z.length cP] 32)
  have HR0 := hid R0
  have HR1 := hid R1
  have HB := hid bW
  have HVV := hid bW.size
  have HRD := hid (hR.below bW (Nat.le_refl _))
  have HRP := hid (rP.below bW (Nat.le_refl _))
  have HZ := hid z
  have HM := hid hm
  have HNs := hid hns
  have hsP := fun w a m => run_store Try.prog w a (.float .f64 p.F) m rfl
  clear z R0 R1 bW hR rP hm hns
  go_enter Try.func25, Try.ntmps25
  go_upto_region 1 with fail
  generalize ((w.alloc (.cells #[.slice ad N cap, .int .i64 root] 26)).alloc (.cells #[.int .i64 p.K, .int .i64 p.N, .float .f64 p.F, .slice aP p.Z.length cP] 32)) = V at *
  obtain ⟨b0, hb0⟩ : ∃ b0, w.heap.size = b0 := ⟨_, rfl⟩
  obtain ⟨b1, hb1⟩ : ∃ b1, w.heap.size + 1 = b1 := ⟨_, rfl⟩
  rw [hb1] at HR1
  rw [hb0] at HR0
  have HP0 := hid (show b0 < V.heap.size ∧ b1 < V.heap.size by have := HZ.out; omega)
  try simp only [hb1]
  try simp only [hb0]
  clear hb0 hb1 HZ hsP
  have k0 : V.cell? ⟨b0, 0, none⟩ = some (.slice ad N cap) := by rw [cell_of_row _ _ _ _ _ _ HR0.out]; rfl
  have k1 : V.cell? ⟨b0, 1, none⟩ = some (.int .i64 root) := by rw [cell_of_row _ _ _ _ _ _ HR0.out]; rfl
  have p0 := cell_of_row _ _ 0 _ _ _ HR1.out
  have p1 := cell_of_row _ _ 1 _ _ _ HR1.out
  have p2 := cell_of_row _ _ 2 _ _ _ HR1.out
  have p3 := cell_of_row _ _ 3 _ _ _ HR1.out
  go_wp2_with fail
  clear k0 k1 p0 p1 p2 p3
  refine (impl_TreeSpan cap root HRD.out HNs.out HM.out p p cP cP HRP.out HRP.out fP fP mP mP).mono ?_
  rintro e W ⟨v, rfl, ow, b⟩
  replace HB := hid (HB.out.trans (b.mono HB.out.size))
  have HVW := hid (show w.heap.size ≤ V.heap.size ∧ V.heap.size ≤ W.heap.size from ⟨HVV.out, b.size⟩)
  have HD := hid (find_span ns root p)
  have HSm := hid (spanS_small ns root p p)
  have HOk := hid (show ∀ e ∈ spanS ns root p p, entOk e = true from fun e he => allS_ok ns root e (List.mem_filter.1 he).1)
  clear b HRD HR0 HR1 HRP
  generalize spanS ns root p p = rs at *
  obtain ⟨a1', c1', e1⟩ := ow.slice
  subst e1
  have HRR := hid ow.rd
  obtain ⟨m, hmm⟩ : ∃ m, rs.length = m := ⟨_, rfl⟩
  rw [hmm]
  have hm12 : m ≤ 1200 := by have := HSm.out.1; omega
  have HMm := hid hmm
  clear ow hmm HSm HP0
  go_wp2_with fail
  go_loopw [5, 13] (fun sl i wr => ∃ (j : Nat), j ≤ m ∧ i = .int .i64 j ∧ Hid (wr.ownsRow W.heap.size 3 1 sl j (ins ((rs.take j).map (·.id)))) ∧ Hid (Below W.heap.size W wr)) (fun _ i _ => m - (intOf i).toNat)
  case atStart => exact ⟨0, Nat.zero_le _, rfl, hid (World.ownsRow_nil _ _ _ _), hid (Below.refl _ _)⟩
  case round =>
    obtain ⟨j, hj, rfl, HO, HS⟩ := hrel
    obtain ⟨a2, c2, e2⟩ := own_sl HO.out
    subst e2
    by_cases hlt : j < m
    · have hlt' : (j : Int) < (m : Int) := by omega
      have hj0 : (0 : Int) ≤ (j : Int) := by omega
      obtain ⟨b, off, a1, c1, rfl, bx0, _, _, _, hf⟩ := HRR.out.at (k := j) (by rw [HMm.out]; exact hlt)
      have HT := hid (take_ids rs j (by rw [HMm.out]; exact hlt))
      obtain ⟨z0, z1, z2, z3, z4⟩ := bx0.below HS.out (Nat.le_refl _)
      generalize rs.getD j en0 = e at *
      have hst := fun w a m => run_store Try.prog w a (.float .f64 e.F) m rfl
      have HBX := hid (Below.alloc1 wr (.cells #[.int .i64 e.K, .int .i64 e.N, .float .f64 e.F, .slice a1 e.Z.length c1, .int .i64 e.id] 35))
      have HR5 := hid (heap_alloc_new wr (.cells #[.int .i64 e.K, .int .i64 e.N, .float .f64 e.F, .slice a1 e.Z.length c1, .int .i64 e.id] 35))
      clear bx0
      go_upto_region 5 with fail
      clear z0 z1 z2 z3 z4
      generalize wr.alloc (.cells #[.int .i64 e.K, .int .i64 e.N, .float .f64 e.F, .slice a1 e.Z.length c1, .int .i64 e.id] 35) = X at *
      obtain ⟨p5, hp5⟩ : ∃ p5, wr.heap.size = p5 := ⟨_, rfl⟩
      have q4 : X.cell? ⟨p5, 4, none⟩ = some (.int .i64 e.id) := by rw [← hp5, cell_of_row _ _ _ _ _ _ HR5.out]; rfl
      try simp only [hp5]
      clear hp5
      have HS1 := hid (show Below W.heap.size W X from HS.out.trans (HBX.out.mono HS.out.size))
      have HO1 := hid (owns_below HBX.out (Nat.le_refl _) HO.out)
      have HO2 := hid (HO1.out.alloc (.cells #[.int .i64 e.id] 3))
      have hXa := Below.alloc1 X (.cells #[.int .i64 e.id] 3)
      have HS2 := hid (HS1.out.trans (hXa.mono HS1.out.size))
      clear hXa
      go_wp2_with (at_builtin; refine wpList_append_own_at _ rfl _ _ 43 rfl W.heap.size 3 i0 (.int .i64 0) 1 8 Try.underlying43 hi hz0 hz1 hz2 rfl (by decide) _ _ _ rfl HO2.out ⟨X.heap.size, 0, none⟩ 1 1 [.int .i64 e.id] rfl rfl (cell_one_new _ _ _) (by intro u hu; simp at hu; subst hu; rfl) (by unfold maxLen; omega) (by omega) HS2.out.size ?_)
      intro v8 w8 o8 g8 _ _
      obtain ⟨a8, c8, e8⟩ := own_sl o8
      subst e8
      have HO8 := hid (show w8.ownsRow W.heap.size 3 1 (.slice a8 (j + 1) c8) (j + 1) (ins ((rs.take (j + 1)).map (·.id))) from by rw [HT.out, ins_snoc, List.map_take]; exact o8)
      have HS8 := hid (HS2.out.grown g8 HS2.out.size (fun r hr => (HO2.out.lt r hr).1))
      clear o8 g8 q4
      go_wp2_with fail
      go_roundw
      case rel => exact ⟨j + 1, by omega, by go_num, HO8, HS8⟩
      case measure => simp [intOf]; omega
    · obtain rfl : j = m := by omega
      have hlt' : ¬ (j : Int) < (j : Int) := by omega
      go_wp2_with fail
      go_ret
      have ej : rs.take j = rs := List.take_of_length_le (by rw [HMm.out]; exact Nat.le_refl _)
      have hO := HO.out
      rw [ej, HD.out] at hO
      have hl : (findS ns root p).length = j := by rw [← HD.out, List.length_map, HMm.out]
      refine ⟨_, rfl, ⟨?_, fun g hg => (hO.lt g hg).2, fun i => ?_⟩, HB.out.trans (HS.out.mono HB.out.size)⟩
      · rw [hl]; exact owns_lower hO (by have := HVW.out; omega)
      · rw [← HD.out]; exact ids_bd rs HOk.out i
end Go.Proofs.Ytnjofaiekofamaa
