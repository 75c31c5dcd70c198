/- Entries picked out of entries, in a slice of its own; the program's TreeSpan. Conditions: texts of at most 2^21 bytes. -/
import Derived.Test.YtnjofaiekofamaaMa11
import Derived.Test.YtnjofaiekofamaaIsp
import Derived.Deep.DeepCutAuto
namespace Go.Proofs.Ytnjofaiekofamaa
open Go.RowKit
set_option maxRecDepth 100000

theorem pick_stepE (p : En → Bool) (rs : List En) (k : Nat) (h : k < rs.length) : (rs.take (k + 1)).filter p = (rs.take k).filter p ++ (if p (rs.getD k en0) = true then [rs.getD k en0] else []) := by
  rw [take_snocE rs k h, List.filter_append]
  congr 1
  by_cases hp : p (rs.getD k en0) = true
  · rw [if_pos hp, List.filter_cons_of_pos hp]; rfl
  · rw [if_neg hp, List.filter_cons_of_neg hp]; rfl
/-- Bands over a list that is a part of another's texts, and one more of it. -/
theorem Bands.moreE {w : World} {lo hi : Nat} {xs ys : List Value} {rs qs : List En} (hB : Bands w lo hi xs (textsE rs)) {k : Nat} (hk : k < rs.length) (hY : Bands w lo hi ys (textsE qs)) (hs : List.Sublist ys (xs.take k)) :
    Bands w lo hi (ys ++ [xs.getD k nilS]) (textsE (qs ++ [rs.getD k en0])) ∧ List.Sublist (ys ++ [xs.getD k nilS]) (xs.take (k + 1)) := by
  have hxl : xs.length = rs.length := by rw [hB.len, textsE_len]
  have o1 := hB.own k
  rw [textsE_at] at o1
  have hsub : List.Sublist (ys ++ [xs.getD k nilS]) (xs.take (k + 1)) := by
    rw [take_snoc xs k nilS (by omega)]; exact List.Sublist.append hs (List.Sublist.refl _)
  have hyl : ys.length = (textsE qs).length := hY.len
  refine ⟨⟨?_, ?_, ?_, List.Pairwise.sublist (hsub.trans (List.take_sublist _ _)) hB.apart, ?_⟩, hsub⟩
  · rw [textsE_app]; simp [textsE, hyl]
  · intro i
    rw [textsE_app, getD_app, getD_app, ← hyl]
    by_cases hc : i < ys.length
    · rw [if_pos hc, if_pos hc]; exact hY.own i
    · rw [if_neg hc, if_neg hc]
      match i - ys.length with
      | 0 => exact o1
      | j + 1 => simpa [textsE, bys, nilS] using World.ownsRow_nil w lo 5 1
  · intro x hx g hg
    rcases List.mem_append.1 hx with hx | hx
    · exact hY.top x hx g hg
    · rw [List.mem_singleton.1 hx] at hg
      exact (hB.inr _ g hg).2
  · intro i j
    rw [textsE_app, getD_app]
    by_cases hc : i < (textsE qs).length
    · rw [if_pos hc]; exact hY.bd i j
    · rw [if_neg hc]
      have b1 := hB.bd k j
      rw [textsE_at] at b1
      match i - (textsE qs).length with
      | 0 => exact b1
      | m + 1 => simp [textsE]
/-- Some of the entries, whose texts they share, picked below place k; in a slice of its own. -/
structure PickE (w : World) (lo mid : Nat) (ad : Option Addr) (m c : Nat) (qs : List En) (xs : List Value) (k : Nat) : Prop where
  ex : ∃ ys : List Value, w.ownsRow mid 35 5 (.slice ad m c) m (cellsE qs ys) ∧ Bands w lo w.heap.size ys (textsE qs) ∧ List.Sublist ys (xs.take k)
  fl : ∀ i, (qs.getD i en0).F < 18446744073709551616
section
variable {w w' : World} {lo mid : Nat} {ad : Option Addr} {m c : Nat} {qs : List En} {xs : List Value} {k : Nat}
theorem PickE.own (h : PickE w lo mid ad m c qs xs k) (hm : qs.length = m) (hlo : lo ≤ mid) : OwnE w lo w.heap.size (.slice ad m c) qs := by
  obtain ⟨ys, o, hB, _⟩ := h.ex
  exact ⟨⟨ys, by rw [hm]; exact owns_lower o hlo, hB⟩, fun g hg => (o.lt g hg).2, h.fl⟩
theorem PickE.nil (w : World) (lo mid : Nat) (xs : List Value) : PickE w lo mid none 0 0 [] xs 0 :=
  ⟨⟨[], World.ownsRow_nil _ _ _ _, Bands.nil _ _ _, List.nil_sublist _⟩, fun i => by simp [en0]⟩
theorem PickE.skip (h : PickE w lo mid ad m c qs xs k) : PickE w lo mid ad m c qs xs (k + 1) := by
  obtain ⟨ys, o, hB, hs⟩ := h.ex
  refine ⟨⟨ys, o, hB, hs.trans ?_⟩, h.fl⟩
  have := List.take_sublist k (xs.take (k + 1))
  rw [List.take_take, show min k (k + 1) = k by omega] at this
  exact this
theorem PickE.below (h : PickE w lo mid ad m c qs xs k) {B : Nat} (hb : Below B w w') (hB : w.heap.size ≤ B) : PickE w' lo mid ad m c qs xs k := by
  obtain ⟨ys, o, hB', hs⟩ := h.ex
  exact ⟨⟨ys, owns_below hb hB o, (hB'.agree (Agree.below hb hB)).mono (Nat.le_refl _) hb.size, hs⟩, h.fl⟩
/-- One more is taken: entry k, whose cells have been appended. -/
theorem PickE.push {rs : List En} {ys : List Value} {e : En} {u : Value} (o : w.ownsRow mid 35 5 (.slice ad m c) m (cellsE qs ys)) (hB : Bands w lo w.heap.size ys (textsE qs)) (hs : List.Sublist ys (xs.take k)) (hfl : ∀ i, (qs.getD i en0).F < 18446744073709551616)
    (hk : k < rs.length) (hX : Bands w lo w.heap.size xs (textsE rs)) (hr : rs.getD k en0 = e) (hu : xs.getD k nilS = u) (hf : e.F < 18446744073709551616)
    {ad' : Option Addr} {c' : Nat} (o' : w'.ownsRow mid 35 5 (.slice ad' (m + 1) c') (m + 1) (cellsE qs ys ++ cellsE1 e u)) (g : w.grownBy w' (Value.slice ad m c).ownBlock) : PickE w' lo mid ad' (m + 1) c' (qs ++ [e]) xs (k + 1) := by
  subst hr hu
  obtain ⟨B2, s2⟩ := hX.moreE hk hB hs
  have hyl : ys.length = qs.length := by rw [hB.len, textsE_len]
  have B3 := B2.beside g (fun i => owns_ne (B2.own i) o (by decide))
  refine ⟨⟨ys ++ [xs.getD k nilS], by rw [cellsE_snoc _ _ _ _ hyl]; exact o', B3.mono (Nat.le_refl _) g.size, s2⟩, fun i => ?_⟩
  rw [getD_app]
  by_cases hc : i < qs.length
  · rw [if_pos hc]; exact hfl i
  · rw [if_neg hc]
    rcases getD_mem_or [rs.getD k en0] (i - qs.length) en0 with h | h
    · rw [h]; simp [en0]
    · rw [List.mem_singleton.1 h]; exact hf
end
/-- An item, plain. -/
structure Im where
  K : Int
  N : Int
  F : Nat
  Z : List Int
def inSpE (p q : Im) (e : En) : Bool := inSp p.K p.N p.F p.Z.length p.Z q.K q.N q.F q.Z.length q.Z e.K e.N e.F e.Z.length e.Z
/-- The entries of a span. -/
def spanS (ns : List Nd) (root : Int) (p q : Im) : List En := (allS ns root).filter (inSpE p q)

set_option maxHeartbeats 6400000 in
theorem impl_TreeSpan {ad : Option Addr} {N : Nat} (cap : Nat) (root : Int) {ns : List Nd} {w : World} (hR : ReadsD w ad ns) (hns : ns.length = N) (hm : ∀ i j, ((ns.getD i nd0).es.getD j en0).Z.length ≤ 2097152) (p q : Im) {aP aQ : Option Addr} (cP cQ : Nat) (rP : Reads w aP p.Z.length p.Z) (rQ : Reads w aQ q.Z.length q.Z) (fP : p.F < 18446744073709551616) (fQ : q.F < 18446744073709551616) (mP : p.Z.length ≤ 2097152) (mQ : q.Z.length ≤ 2097152) :
    Calls Try.prog 23 #[.agg #[.slice ad N cap, .int .i64 root], .agg #[.int .i64 p.K, .int .i64 p.N, .float .f64 p.F, .slice aP p.Z.length cP], .agg #[.int .i64 q.K, .int .i64 q.N, .float .f64 q.F, .slice aQ q.Z.length cQ]] w fun e w' => ∃ v, e = .returned v ∧ OwnE w' w.heap.size w'.heap.size v (spanS ns root p q) ∧ Below w.heap.size w w' := by
  obtain ⟨i0, hi, hz0, hz1, hz2⟩ := info_parts Try.infoEn
  obtain ⟨z, R1, R2, bW⟩ := three w (.cells #[.slice ad N cap, .int .i64 root] 26) (.cells #[.int .i64 p.K, .int .i64 p.N, .float .f64 p.F, .slice aP p.Z.length cP] 32) (.cells #[.int .i64 q.K, .int .i64 q.N, .float .f64 q.F, .slice aQ q.Z.length cQ] 32)
  have R0 := three_first w (.cells #[.slice ad N cap, .int .i64 root] 26) (.cells #[.int .i64 p.K, .int .i64 p.N, .float .f64 p.F, .slice aP p.Z.length cP] 32) (.cells #[.int .i64 q.K, .int .i64 q.N, .float .f64 q.F, .slice aQ q.Z.length cQ] 32)
  have HR0 := hid R0
  have HR1 := hid R1
  have HR2 := hid R2
  have HB := hid bW
  have HVV := hid bW.size
  have HRD := hid (hR.below bW (Nat.le_refl _))
  have HRP := hid (rP.below bW (Nat.le_refl _))
  have HRQ := hid (rQ.below bW (Nat.le_refl _))
  have HZ := hid z
  have HM := hid hm
  have HNs := hid hns
  have HSm := hid (allS_small ns root)
  have HOk := hid (allS_ok ns root)
  have hsP := fun w a m => run_store Try.prog w a (.float .f64 p.F) m rfl
  have hsQ := fun w a m => run_store Try.prog w a (.float .f64 q.F) m rfl
  have HD := hid (show spanS ns root p q = (allS ns root).filter (inSpE p q) from rfl)
  clear z R0 R1 R2 bW hR rP rQ hm hns
  go_enter Try.func23, Try.ntmps23
  go_upto_region 1 with fail
  generalize (((w.alloc (.cells #[.slice ad N cap, .int .i64 root] 26)).alloc (.cells #[.int .i64 p.K, .int .i64 p.N, .float .f64 p.F, .slice aP p.Z.length cP] 32)).alloc (.cells #[.int .i64 q.K, .int .i64 q.N, .float .f64 q.F, .slice aQ q.Z.length cQ] 32)) = V at *
  obtain ⟨b0, hb0⟩ : ∃ b0, w.heap.size = b0 := ⟨_, rfl⟩
  obtain ⟨b1, hb1⟩ : ∃ b1, w.heap.size + 1 = b1 := ⟨_, rfl⟩
  obtain ⟨b2, hb2⟩ : ∃ b2, w.heap.size + 1 + 1 = b2 := ⟨_, rfl⟩
  rw [hb2] at HR2
  rw [hb1] at HR1
  rw [hb0] at HR0
  have HP0 := hid (show b0 < V.heap.size ∧ b1 < V.heap.size ∧ b2 < V.heap.size by have := HZ.out; omega)
  try simp only [hb2]
  try simp only [hb1]
  try simp only [hb0]
  clear hb0 hb1 hb2 HZ hsP hsQ
  have k0 : V.cell? ⟨b0, 0, none⟩ = some (.slice ad N cap) := by rw [cell_of_row _ _ _ _ _ _ HR0.out]; rfl
  have k1 : V.cell? ⟨b0, 1, none⟩ = some (.int .i64 root) := by rw [cell_of_row _ _ _ _ _ _ HR0.out]; rfl
  go_wp2_with fail
  clear k0 k1
  refine (impl_TreeAll cap root HRD.out HNs.out HM.out).mono ?_
  rintro e W ⟨v, rfl, ow, b⟩
  replace HB := hid (HB.out.trans (b.mono HB.out.size))
  replace HR1 := hid ((b.block b1 HP0.out.2.1).trans HR1.out)
  replace HR2 := hid ((b.block b2 HP0.out.2.2).trans HR2.out)
  replace HRP := hid (HRP.out.below b (Nat.le_refl _))
  replace HRQ := hid (HRQ.out.below b (Nat.le_refl _))
  have HP1 := hid (show b1 < W.heap.size ∧ b2 < W.heap.size by have := HP0.out; have := b.size; omega)
  have HLO := hid b.size
  have HVW := hid (show w.heap.size ≤ V.heap.size ∧ V.heap.size ≤ W.heap.size from ⟨HVV.out, b.size⟩)
  clear b HRD HR0
  obtain ⟨xs, o, hBd⟩ := ow.own
  have HFl := hid ow.fl
  generalize allS ns root = rs at *
  obtain ⟨m, hmm⟩ : ∃ m, rs.length = m := ⟨_, rfl⟩
  rw [hmm] at o
  have hm12 : m ≤ 1200 := by have := HSm.out.1; omega
  obtain ⟨a1', c1', rfl⟩ := own_sl o
  have HO := hid o
  have HBd := hid hBd
  have HMm := hid hmm
  clear ow o hBd hmm HSm HP0
  generalize V.heap.size = lo at *
  go_wp2_with fail
  go_loopw [7, 13] (fun sl i wr => ∃ (j k c2 : Nat) (a2 : Option Addr), j ≤ m ∧ i = .int .i64 j ∧ sl = .slice a2 k c2 ∧ k ≤ j ∧ Hid (((rs.take j).filter (inSpE p q)).length = k) ∧ Hid (PickE wr lo W.heap.size a2 k c2 ((rs.take j).filter (inSpE p q)) xs j) ∧ Hid (Below W.heap.size W wr)) (fun _ i _ => m - (intOf i).toNat)
  case atStart => exact ⟨0, 0, 0, none, Nat.zero_le _, rfl, rfl, by omega, hid (by simp), hid (by simpa using PickE.nil _ _ _ _), hid (Below.refl _ _)⟩
  case round =>
    obtain ⟨j, k, c2, a2, hj, rfl, rfl, hkj, HK, HP, HS⟩ := hrel
    by_cases hlt : j < m
    ·
      have hlt' : (j : Int) < (m : Int) := by omega
      have hj0 : (0 : Int) ≤ (j : Int) := by omega
      have HStep := hid (pick_stepE (inSpE p q) rs j (by have := HMm.out; omega))
      have hrow : ∃ g, a1' = some ⟨g, 0, none⟩ := by
        rcases HO.out.2 with ⟨_, h0⟩ | ⟨g, cap, cur, e, _⟩
        · omega
        · cases e; exact ⟨g, rfl⟩
      obtain ⟨g, rfl⟩ := hrow
      have hgl : g < W.heap.size := (HO.out.lt g rfl).2
      have hca := fun t (ht : t < 5) => (HO.out.cellAt (j * 5 + t) (by omega)).trans (cellsE_at rs xs j t (by rw [HBd.out.len, textsE_len]) (by have := HMm.out; omega) ht)
      have hrw := HBd.out.row j
      rw [textsE_at] at hrw
      have hfe := HFl.out j
      have hsm := show (rs.getD j en0).Z.length ≤ 2097152 from by
        rcases getD_mem_or rs j en0 with e | e
        · rw [e]; simp [en0]
        · have := entOk_small (HOk.out _ e); omega
      obtain ⟨e, he⟩ : ∃ e, rs.getD j en0 = e := ⟨_, rfl⟩
      obtain ⟨u, hu⟩ : ∃ u, xs.getD j nilS = u := ⟨_, rfl⟩
      rw [he, hu] at hca
      rw [he, hu] at hrw
      rw [he] at hfe hsm HStep
      obtain ⟨a1, c1, e1, hr1, _, _⟩ := hrw
      subst e1
      have HRr := hid he
      have HU := hid hu
      have BX0 := hid (show Box5 W g (j * 5) e.K e.N e.F (.slice a1 e.Z.length c1) e.id from ⟨by have := hca 0 (by omega); simpa [cellsE1] using this, by have := hca 1 (by omega); simpa [cellsE1] using this, by have := hca 2 (by omega); simpa [cellsE1] using this, by have := hca 3 (by omega); simpa [cellsE1] using this, by have := hca 4 (by omega); simpa [cellsE1] using this⟩)
      have HR3 := hid hr1
      have hst := fun w a m => run_store Try.prog w a (.float .f64 e.F) m rfl
      have hd0 : inSpE p q e = inSp p.K p.N p.F p.Z.length p.Z q.K q.N q.F q.Z.length q.Z e.K e.N e.F e.Z.length e.Z := rfl
      have HKc := hid (show ∀ W', Below W.heap.size W W' → Box5 W' g (j * 5) e.K e.N e.F (.slice a1 e.Z.length c1) e.id ∧ Box W' b1 p.K p.N p.F aP p.Z.length cP ∧ Box W' b2 q.K q.N q.F aQ q.Z.length cQ from fun W' b => by
        have r1 := (b.block b1 HP1.out.1).trans HR1.out
        have r2 := (b.block b2 HP1.out.2).trans HR2.out
        exact ⟨BX0.out.below b (Nat.le_refl _), ⟨by rw [cell_of_row _ _ _ _ _ _ r1]; rfl, by rw [cell_of_row _ _ _ _ _ _ r1]; rfl, by rw [cell_of_row _ _ _ _ _ _ r1]; rfl, by rw [cell_of_row _ _ _ _ _ _ r1]; rfl⟩, ⟨by rw [cell_of_row _ _ _ _ _ _ r2]; rfl, by rw [cell_of_row _ _ _ _ _ _ r2]; rfl, by rw [cell_of_row _ _ _ _ _ _ r2]; rfl, by rw [cell_of_row _ _ _ _ _ _ r2]; rfl⟩⟩)
      clear hca hr1 hu he
      have HBX := hid (Below.alloc1 wr (.cells #[.int .i64 e.K, .int .i64 e.N, .float .f64 e.F, .slice a1 e.Z.length c1, .int .i64 e.id] 35))
      have HR5 := hid (heap_alloc_new wr (.cells #[.int .i64 e.K, .int .i64 e.N, .float .f64 e.F, .slice a1 e.Z.length c1, .int .i64 e.id] 35))
      have HZ5 := hid (alloc_size wr (.cells #[.int .i64 e.K, .int .i64 e.N, .float .f64 e.F, .slice a1 e.Z.length c1, .int .i64 e.id] 35))
      have HSV := hid (show Below W.heap.size W (wr.alloc (.cells #[.int .i64 e.K, .int .i64 e.N, .float .f64 e.F, .slice a1 e.Z.length c1, .int .i64 e.id] 35)) from HS.out.trans (HBX.out.mono HS.out.size))
      obtain ⟨⟨z0, z1, z2, z3, z4⟩, _, _⟩ := HKc.out wr HS.out
      obtain ⟨_, ⟨p0, p1, p2, p3⟩, ⟨q0, q1, q2, q3⟩⟩ := HKc.out _ HSV.out
      go_wp2_with fail
      clear z0 z1 z2 z3 z4 p0 p1 p2 p3 q0 q1 q2 q3
      generalize wr.alloc (.cells #[.int .i64 e.K, .int .i64 e.N, .float .f64 e.F, .slice a1 e.Z.length c1, .int .i64 e.id] 35) = X at *
      obtain ⟨p5, hp5⟩ : ∃ p5, wr.heap.size = p5 := ⟨_, rfl⟩
      have HP5 := hid hp5
      rw [hp5] at HR5 HZ5
      try simp only [hp5]
      clear hp5
      refine (impl_InSpan p.K p.N q.K q.N e.K e.N p.F q.F e.F cP cQ c1 fP fQ hfe (HRP.out.below HSV.out (Nat.le_refl _)) (HRQ.out.below HSV.out (Nat.le_refl _)) (HR3.out.below HSV.out (Nat.le_refl _)) mP mQ hsm).mono ?_
      rintro e9 wq ⟨rfl, b⟩
      rw [← hd0]
      have HR6 := hid ((b.block p5 (by have := HZ5.out; omega)).trans HR5.out)
      have HSq := hid (HSV.out.trans (b.mono HSV.out.size))
      have HPq := hid (HP.out.below (HBX.out.trans (b.mono HBX.out.size)) (Nat.le_refl _))
      have q0 := cell_of_row _ _ 0 _ _ _ HR6.out
      have q1 := cell_of_row _ _ 1 _ _ _ HR6.out
      have q2 := cell_of_row _ _ 2 _ _ _ HR6.out
      have q3 := cell_of_row _ _ 3 _ _ _ HR6.out
      have q4 := cell_of_row _ _ 4 _ _ _ HR6.out
      clear b hd0 HP HS HSV HBX
      have HXq := hid ((HBd.out.agree (Agree.below HSq.out (Nat.le_refl _))).mono (Nat.le_refl lo) HSq.out.size)
      cases hdd : inSpE p q e with
      | false =>
        have HQ2 := hid (show (rs.take (j + 1)).filter (inSpE p q) = (rs.take j).filter (inSpE p q) by rw [HStep.out, hdd]; simp)
        clear hdd
        go_wp2_with fail
        go_roundw
        case rel => exact ⟨j + 1, k, c2, a2, by omega, by go_num, rfl, by omega, hid (by rw [HQ2.out]; exact HK.out), hid (by rw [HQ2.out]; exact HPq.out.skip), HSq⟩
        case measure => simp [intOf]; omega
      | true =>
        have HQ2 := hid (show (rs.take (j + 1)).filter (inSpE p q) = (rs.take j).filter (inSpE p q) ++ [e] by rw [HStep.out, hdd]; simp)
        generalize (rs.take j).filter (inSpE p q) = qs at *
        have hXa := Below.alloc1 wq (.cells #[.int .i64 e.K, .int .i64 e.N, .float .f64 e.F, .slice a1 e.Z.length c1, .int .i64 e.id] 35)
        have HRA := hid (heap_alloc_new wq (.cells #[.int .i64 e.K, .int .i64 e.N, .float .f64 e.F, .slice a1 e.Z.length c1, .int .i64 e.id] 35))
        have HP2 := hid (HPq.out.below hXa (Nat.le_refl _))
        have HS2 := hid (HSq.out.trans (hXa.mono HSq.out.size))
        have HX2 := hid ((HXq.out.agree (Agree.below hXa (Nat.le_refl _))).mono (Nat.le_refl lo) hXa.size)
        obtain ⟨ys, o7, hB7, hs7⟩ := HP2.out.ex
        have HF7 := hid HP2.out.fl
        have O7 := hid o7
        have B7 := hid hB7
        have S7 := hid hs7
        clear hXa o7 hB7 hs7 HPq HP2 hdd
        go_wp2_with (at_builtin; refine wpList_append_row rfl _ _ 28 rfl W.heap.size 35 i0 _ 5 56 Try.underlying28 hi hz0 hz1 hz2 rfl (by decide) _ _ _ rfl O7.out (some ⟨wq.heap.size, 0, none⟩) 1 1 [.int .i64 e.K, .int .i64 e.N, .float .f64 e.F, .slice a1 e.Z.length c1, .int .i64 e.id] rfl rfl (.inr ⟨_, rfl, World.news_of_block HRA.out⟩) (fun e => by cases e) ?g2 (by unfold maxLen; omega) (by omega) HS2.out.size ?_)
        case g2 => intro u hu; simp only [List.mem_cons, List.not_mem_nil, or_false] at hu; rcases hu with rfl | rfl | rfl | rfl | rfl <;> rfl
        intro a8 c8 w8 o8 g8
        have HN := hid (PickE.push O7.out B7.out S7.out HF7.out (by have := HMm.out; omega) HX2.out HRr.out HU.out hfe o8 g8)
        have HS8 := hid (HS2.out.grown g8 HS2.out.size (fun r hr => (O7.out.lt r hr).1))
        clear o8 g8 O7 q0 q1 q2 q3 q4
        go_wp2_with fail
        go_roundw
        case rel => exact ⟨j + 1, k + 1, c8, a8, by omega, by go_num, rfl, by omega, hid (by rw [HQ2.out]; simp [HK.out]), hid (by rw [HQ2.out]; exact HN.out), HS8⟩
        case measure => simp [intOf]; omega
    · have hlt' : ¬ (j : Int) < (m : Int) := by omega
      go_wp2_with fail
      go_ret
      have ej : rs.take j = rs := List.take_of_length_le (by rw [HMm.out]; omega)
      have hK := HK.out
      have hP := HP.out
      rw [ej] at hK hP
      rw [HD.out]
      exact ⟨_, rfl, (hP.own hK HVW.out.2).mono HVW.out.1 (Nat.le_refl _), HB.out.trans (HS.out.mono HB.out.size)⟩
end Go.Proofs.Ytnjofaiekofamaa
