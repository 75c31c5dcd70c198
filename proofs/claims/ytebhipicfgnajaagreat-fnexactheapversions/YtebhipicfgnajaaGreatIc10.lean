/- The program's iterator over the rows of a heap, for every loop body that goes on. Conditions: what the types say. -/
import Derived.Test.YtebhipicfgnajaaGreatRg10
import Derived.Test.YtebhipicfgnajaaGreatHq10
import Derived.Test.YtebhipicfgnajaaGreatIa10
namespace Go.Proofs.YtebhipicfgnajaaGreat
open Go.RowKit Go.Shelf
attribute [local go_sem] Oper.semAt_some
set_option maxRecDepth 100000

/-- A row that is handed on: its texts are rows of its own, laid since W0. -/
structure RowIs (r : Rw) (f1 f2 : Nat) (a5 : Option Addr) (c5 : Nat) (a6 : Option Addr) (c6 : Nat) (W0 W : World) : Prop where
  same : SameR r (f1, f2)
  o1 : W.ownsRow W0.heap.size 5 1 (.slice a5 r.t.Z.length c5) r.t.Z.length (bys r.t.Z)
  o2 : W.ownsRow W0.heap.size 5 1 (.slice a6 r.t.Y.length c6) r.t.Y.length (bys r.t.Y)
  ap : Apart (.slice a5 r.t.Z.length c5) (.slice a6 r.t.Y.length c6)
  z : ∀ j, 0 ≤ r.t.Z.getD j 0 ∧ r.t.Z.getD j 0 ≤ 255
  y : ∀ j, 0 ≤ r.t.Y.getD j 0 ∧ r.t.Y.getD j 0 ≤ 255
  zl : r.t.Z.length ≤ 92 ∧ r.t.Y.length ≤ 92
def RowAt (r : Rw) (v : Array Value) (W0 W : World) : Prop :=
  ∃ (f1 f2 : Nat) (a5 : Option Addr) (c5 : Nat) (a6 : Option Addr) (c6 : Nat), v = #[.agg #[.int .i64 r.p, .int .i64 r.s, .int .i64 r.t.A, .int .i64 r.t.B, .int .i64 r.t.K, .int .i64 r.t.N, .float .f64 f1, .slice a5 r.t.Z.length c5, .int .i64 r.t.L, .int .i64 r.t.M, .float .f64 f2, .slice a6 r.t.Y.length c6]] ∧ RowIs r f1 f2 a5 c5 a6 c6 W0 W
theorem owns_calm {B base : Nat} {e : TypeId} {size n : Nat} {v : Value} {xs : List Value} {W W' : World} (h : W.ownsRow base e size v n xs) (c : Calm B W W') : W'.ownsRow base e size v n xs := by
  obtain ⟨h1, h2 | ⟨g, cap, cur, e1, h3, h4, h5⟩⟩ := h
  · exact ⟨h1, .inl h2⟩
  · exact ⟨h1, .inr ⟨g, cap, cur, e1, h3, c.cells h4, h5⟩⟩
theorem Bands.calm {B lo hi : Nat} {xs : List Value} {ss : List (List Int)} {W W' : World} (h : Bands W lo hi xs ss) (c : Calm B W W') : Bands W' lo hi xs ss := ⟨h.len, fun i => owns_calm (h.own i) c, h.top, h.apart, h.bd⟩
theorem OwnRw.calm {B lo hi : Nat} {v : Value} {rs : List Rw} {W W' : World} (h : OwnRw W lo hi v rs) (c : Calm B W W') : OwnRw W' lo hi v rs := by
  obtain ⟨fs, xs, o, hf, b, q⟩ := h.own
  exact ⟨⟨fs, xs, owns_calm o c, hf, b.calm c, q⟩, h.top⟩
theorem RowIs.calm {r : Rw} {f1 f2 : Nat} {a5 : Option Addr} {c5 : Nat} {a6 : Option Addr} {c6 : Nat} {W0 W W' : World} {B : Nat} (h : RowIs r f1 f2 a5 c5 a6 c6 W0 W) (c : Calm B W W') : RowIs r f1 f2 a5 c5 a6 c6 W0 W' :=
  ⟨h.same, owns_calm h.o1 c, owns_calm h.o2 c, h.ap, h.z, h.y, h.zl⟩

set_option maxHeartbeats 6400000 in
theorem rows_iter (m : Nat) (hm : 1 ≤ m) (l Bh : Nat) {ad : Option Addr} {n : Nat} (cap : Nat) {ps : List Pg} {w : World} (hR : ReadsG w ad ps) (hl : ps.length = n) (hok : okH ps = true)
    (J : List Rw → World → Prop) (hG : ∀ s W, J s W → Below w.heap.size w W ∧ W.cell? ⟨Bh, 0, none⟩ = some (.slice ad n cap)) (hJ : ∀ s W W', J s W → Below W.heap.size W W' → J s W')
    (hY : ∀ pre r v W0 W1, J pre W0 → pre.length < 256 → Below W0.heap.size W0 W1 → RowAt r v W0 W1 → YieldAt Fence.wide (m - 1) Tryz.prog l v W1 fun e W' => e = .returned (.bool true) ∧ J (pre ++ [r]) W')
    {W : World} (h0 : J [] W) :
    CallsIn Fence.wide m Tryz.prog 144 (#[.func (.yield l) #[] #[]] ++ #[.pointer (some ⟨Bh, 0, none⟩)]) W fun e W' => (∃ v, e = .returned v) ∧ ∃ xs, xs = rowsG 0 ps ∧ J xs W' := by
  have HR := hid hR
  have HJ := hid hJ
  have HY := hid hY
  have HO := hid hok
  have H0 := hid h0
  have hn16 : n ≤ 16 := by have := (okH_of hok).1; omega
  have HG := hid hG
  have hbx := (hG _ _ h0).2
  clear hR hJ hY hok h0 hG
  refine callsIn_of_wp Tryz.func144 rfl trivial ?_ rfl
  simp only [Tryz.ntmps144, List.size_toArray, List.length_cons, List.length_nil, Nat.reduceAdd, Nat.reduceSub, Array.replicate_succ, Array.replicate_zero, List.push_toArray, List.append_toArray, List.nil_append, List.cons_append]
  gi_wp2
  clear hbx
  gi_loopw [12] (fun i wr => ∃ j : Nat, j ≤ n ∧ i = .int .i64 (j : Int) ∧ Hid (J (rowsG 0 (ps.take j)) wr) ∧ Hid ((rowsG 0 (ps.take j)).length ≤ j * 16) ) (fun i _ => n - (intOf i).toNat)
  case atStart => exact ⟨0, Nat.zero_le _, rfl, hid (by simpa [rowsG] using H0.out), hid (by simp [rowsG])⟩
  case round =>
    obtain ⟨j, hj, rfl, HJS, HLN⟩ := hrel
    have HS := hid (HG.out _ _ HJS.out).1
    by_cases hlt : j < n
    · have hlt' : (j : Int) < (n : Int) := by omega
      have hj0 : (0 : Int) ≤ (j : Int) := by omega
      obtain ⟨b, off, a, c, rfl, hca0, hcx0, hr0, hmx⟩ := HR.out.at (k := j) (by omega)
      have hpg := okPg_of ((okH_of HO.out).2 j (by omega))
      have h16 := (okP_of hpg.1).n
      have HZ := hid (okP_of hpg.1).z
      have HStep := hid (rowsG_step ps j (by omega))
      have bl := World.block_lt_of_cell? w _ hcx0
      have hca := (HS.out.cell (p := ⟨b, off + j * 2, none⟩) bl).trans hca0
      have hcx := (HS.out.cell (p := ⟨b, off + j * 2 + 1, none⟩) bl).trans hcx0
      have hr := hid hr0
      generalize ps.getD j pg0 = p at hca hcx hr h16 HZ HStep
      obtain ⟨A, ss⟩ := p
      obtain ⟨k, hlz⟩ : ∃ k, ss.length = k := ⟨_, rfl⟩
      simp only at hca hcx hr h16 HZ HStep
      rw [hlz] at hcx h16
      have HL := hid hlz
      have hX1 := Below.alloc1 wr (.cells #[.int .i64 A, .slice a k c] 97)
      have HJ1 := hid (HJ.out _ _ _ HJS.out hX1)
      have Hrs := hid (show rowsG 0 (ps.take j) ++ rowsP j 0 (ss.take 0) = rowsG 0 (ps.take j) by simp [rowsP])
      clear hca0 hcx0 hr0 hmx hpg hlz bl hX1 HJS HS
      generalize rowsG 0 (ps.take j) = rs at *
      gi_wp2
      clear hca hcx
      gi_loopw [20] (fun i wi => ∃ q : Nat, q ≤ k ∧ i = .int .i64 (q : Int) ∧ Hid (J (rs ++ rowsP j 0 (ss.take q)) wi)) (fun i _ => k - (intOf i).toNat)
      case atStart => exact ⟨0, Nat.zero_le _, rfl, hid (by rw [Hrs.out]; exact HJ1.out)⟩
      case round =>
        obtain ⟨q, hq, rfl, HJS⟩ := hrel
        have HS := hid (HG.out _ _ HJS.out).1
        by_cases hlq : q < k
        · have hlq' : (q : Int) < (k : Int) := by omega
          have hq0 : (0 : Int) ≤ (q : Int) := by omega
          obtain ⟨b3, off3, a3, c3, rfl, hs0, hrs0, hnil, hroom⟩ := hr.out.at (k := q) (by rw [HL.out]; exact hlq)
          have hs1 := (HS.out.cell (p := ⟨b3, off3 + q, none⟩) (World.block_lt_of_cell? w _ hs0)).trans hs0
          have hrs := hrs0.below HS.out (Nat.le_refl _)
          have hz92 := HZ.out q
          have hTbd := readT_bd (zs := ss.getD q []) hrs0.bd (by omega)
          have HPS := hid (rowsP_step j ss q (by rw [HL.out]; exact hlq))
          generalize ss.getD q [] = zz at hs1 hrs hz92 hroom hTbd HPS
          have hTl := hid (readT_len zz)
          obtain ⟨lz, hlz⟩ : ∃ lz, zz.length = lz := ⟨_, rfl⟩
          rw [hlz] at hs1 hz92 hroom hrs
          have HTL := hid hlz
          have BD1 := hid hTbd.1
          have BD2 := hid hTbd.2.2.1
          have hT := impl_TupleRead c3 hroom hrs (by omega)
          clear hs0 hrs0 hTbd hlz hnil hrs
          gi_wp2_with fail
          refine ⟨trivial, ?_⟩
          refine ((callsIn_wide (n := _)).2 hT).mono ?_
          rintro e w5 ⟨f1, v1, f2, v2, rfl, hf1, hf2, sf1, sf2, o1, o2, hap, b5⟩
          obtain ⟨a5, c5, rfl⟩ := own_sl o1
          obtain ⟨a6, c6, rfl⟩ := own_sl o2
          have hst1 := fun w a m => run_store Tryz.prog w a (.float .f64 f1) m rfl
          have hst2 := fun w a m => run_store Tryz.prog w a (.float .f64 f2) m rfl
          have hX1 := Below.alloc1 w5 (.cells #[.int .i64 (readT zz).A, .int .i64 (readT zz).B, .int .i64 (readT zz).K, .int .i64 (readT zz).N, .float .f64 f1, .slice a5 (readT zz).Z.length c5, .int .i64 (readT zz).L, .int .i64 (readT zz).M, .float .f64 f2, .slice a6 (readT zz).Y.length c6] 40)
          have B6 := hid (b5.trans (hX1.mono b5.size))
          cases hokt : (readT zz).ok with
          | false =>
            have HQ2 := hid (show rowsP j 0 (ss.take (q + 1)) = rowsP j 0 (ss.take q) by rw [HPS.out, hokt]; simp)
            have HJ6 := hid (HJ.out _ _ _ HJS.out B6.out)
            clear o1 o2 hap b5 hX1 hT hs1
            gi_wp2
            refine ⟨fun _ h => (by cases h), ?_⟩
            gi_wp2
            go_roundw
            case rel => exact ⟨q + 1, by omega, by go_num, hid (by rw [HQ2.out]; exact HJ6.out)⟩
            case measure => simp [intOf]; omega
          | true =>
            have HQ2 := hid (show (rs ++ rowsP j 0 (ss.take q)) ++ [⟨(j : Int), (q : Int), readT zz⟩] = rs ++ rowsP j 0 (ss.take (q + 1)) by rw [HPS.out, hokt]; simp)
            have hlen : (rs ++ rowsP j 0 (ss.take q)).length < 256 := by
              rw [List.length_append]
              have := HLN.out
              have := rowsP_len j 0 (ss.take q)
              have h5 : (ss.take q).length ≤ q := by rw [List.length_take]; omega
              omega
            have hRA : RowAt ⟨(j : Int), (q : Int), readT zz⟩ #[.agg #[.int .i64 (j : Int), .int .i64 (q : Int), .int .i64 (readT zz).A, .int .i64 (readT zz).B, .int .i64 (readT zz).K, .int .i64 (readT zz).N, .float .f64 f1, .slice a5 (readT zz).Z.length c5, .int .i64 (readT zz).L, .int .i64 (readT zz).M, .float .f64 f2, .slice a6 (readT zz).Y.length c6]] wr (w5.alloc (.cells #[.int .i64 (readT zz).A, .int .i64 (readT zz).B, .int .i64 (readT zz).K, .int .i64 (readT zz).N, .float .f64 f1, .slice a5 (readT zz).Z.length c5, .int .i64 (readT zz).L, .int .i64 (readT zz).M, .float .f64 f2, .slice a6 (readT zz).Y.length c6] 40)) :=
              ⟨f1, f2, a5, c5, a6, c6, rfl, ⟨⟨sf1.out, sf2.out, hf1, hf2⟩, o1.alloc _, o2.alloc _, hap, BD1.out, BD2.out, ⟨Nat.le_trans hTl.out.1 (by rw [HTL.out]; exact hz92), Nat.le_trans hTl.out.2 (by rw [HTL.out]; exact hz92)⟩⟩⟩
            obtain ⟨fn, tmps, assign, body, hy, hRn⟩ := HY.out _ _ _ _ _ HJS.out hlen B6.out hRA
            clear o1 o2 hap b5 hX1 hT hs1 hRA hlen
            gi_wp2
            refine hRn.mono ?_
            rintro e W3 ⟨rfl, hJ3⟩
            gi_wp2
            go_roundw
            case rel => exact ⟨q + 1, by omega, by go_num, hid (by rw [← HQ2.out]; exact hJ3)⟩
            case measure => simp [intOf]; omega
        · have hlq' : ¬ (q : Int) < (k : Int) := by omega
          have hql : q = k := by omega
          have HG := hid (show rs ++ rowsP j 0 (ss.take q) = rowsG 0 (ps.take (j + 1)) by rw [HStep.out, show ss.take q = ss from List.take_of_length_le (by rw [HL.out]; omega)])
          gi_wp2
          go_roundw
          case rel => exact ⟨j + 1, by omega, by go_num, hid (by rw [← HG.out]; exact HJS.out), hid (by rw [← HG.out, List.length_append]; have := HLN.out; have := rowsP_len j 0 (ss.take q); have h5 : (ss.take q).length ≤ 16 := (by rw [List.length_take]; omega); omega)⟩
          case measure => simp [intOf]; omega
    · have hlt' : ¬ (j : Int) < (n : Int) := by omega
      gi_wp2
      go_end0
      have hJe := HJS.out
      rw [show ps.take j = ps from List.take_of_length_le (by omega)] at hJe
      exact ⟨⟨_, rfl⟩, hJe⟩
end Go.Proofs.YtebhipicfgnajaaGreat
