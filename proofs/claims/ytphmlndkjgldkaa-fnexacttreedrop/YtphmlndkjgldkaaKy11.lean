/- The specification's walk below a node of a tree. Conditions: at most 300 nodes, texts of at most 2^21 bytes. -/
import Derived.Test.YtphmlndkjgldkaaKx11
import Derived.Deep.DeepCutAuto
namespace Go.Proofs.Ytphmlndkjgldkaa
open Go.RowKit
set_option maxRecDepth 100000
section
variable {P : Program} {ops : Array Oper} {Q : Exit → Act → World → Prop} {md : Region.Mode} {S : World → Prop} {L : Nat}
theorem tkA {i : Nat} {oi : Oper} {v : Value} {n : Nat} {listed : Array Bool} {a : Act} {w : World} (hi : ops[i]? = some oi) (hS : S w) (hy : ∀ w, S w → (execOp a.eval oi).run P w = .ok (.value v) w) (d : Option Tmp) (hd : oi.dst = d)
 (h : anyK P md ops Q S L n (listed.setIfInBounds i true) (a.put d v) w) (hs : Region.noSelect ops = true := by as_aux_lemma => kernel_rfl) (hf : Region.free md ops listed i = true := by as_aux_lemma => kernel_rfl) (hr : (Region.ready md ops listed).contains i = true := by as_aux_lemma => kernel_rfl) (hL : ops[L]? = none := by rfl)
 (hQ : ∀ c a w, Q (.panic c) (a.put oi.dst v) w → Q (.panic c) a w := by exact fun _ _ _ h => h) (hw : Region.wanted oi (yielded ops a.tmps) = true := by rfl) : anyK P md ops Q S L (n + 1) listed a w :=
 anyK_take2 hi hs hf hr hL hQ hw hS hy d hd h
theorem skA {i : Nat} {oi : Oper} {n : Nat} {listed : Array Bool} {a : Act} {w : World} (hi : ops[i]? = some oi) (hS : S w) (d : Option Tmp) (hd : oi.dst = d)
 (h : anyK P md ops Q S L n (listed.setIfInBounds i true) (a.put d undef) w) (hs : Region.noSelect ops = true := by as_aux_lemma => kernel_rfl) (hf : Region.free md ops listed i = true := by as_aux_lemma => kernel_rfl) (hr : (Region.ready md ops listed).contains i = true := by as_aux_lemma => kernel_rfl) (hL : ops[L]? = none := by as_aux_lemma => kernel_rfl)
 (hQ : ∀ c a w, Q (.panic c) (a.put oi.dst undef) w → Q (.panic c) a w := by exact fun _ _ _ h => h) (hw : Region.wanted oi (yielded ops a.tmps) = false := by rfl) : anyK P md ops Q S L (n + 1) listed a w :=
 anyK_skip hi hs hf hr hL hQ hw hS d hd h
end
def GoP (w0 w w' : World) (p r N lo : Nat) (av : Value) (st : St) (e : Ending) : Prop := e = .returned (.tuple #[]) ∧ ∃ av', WK w0 w' p r N lo st av' ∧ Step p r w av w' av'
theorem okAt_of (lo hi : Option En) (es : List En) (i : Nat) : okAt lo hi es i = ((entOk (es.getD i en0) && (loB lo (es.getD i en0) && hiB hi (es.getD i en0))) && (decide (i = 0) || ltE (es.getD (i - 1) en0) (es.getD i en0))) := rfl
def GoH (w0 : World) (ns : List Nd) (ad : Option Addr) (N cap : Nat) (root : Int) (p r lo0 f : Nat) : Prop :=
 ∀ (st : St) (x deep : Int) (lo hi : Option En) (vl vh av : Value) (w : World), unseen st.seen < f → 0 < deep → deep + f ≤ 1000 → st.all.length + 4 * unseen st.seen ≤ 1200 → lo0 ≤ w.heap.size → Below w0.heap.size w0 w → WK w0 w p r N lo0 st av → SlE w0 w lo vl → SlE w0 w hi vh → Side p r av vl → Side p r av vh →
 Calls Try.prog 103 #[.agg #[.slice ad N cap, .int .i64 root], .pointer (some ⟨p, 0, none⟩), .int .i64 x, .int .i64 deep, vl, vh] w fun e w' => GoP w0 w w' p r N lo0 av (goS ns f st x deep lo hi) e
set_option maxHeartbeats 25600000 in
theorem spec_go_step {w0 : World} {ns : List Nd} {ad : Option Addr} {N : Nat} (cap : Nat) (root : Int) (hns : ns.length = N) (hR : ReadsD w0 ad ns) (hm : ∀ i j, ((ns.getD i nd0).es.getD j en0).Z.length ≤ 2097152) (hN : N ≤ 300) (p r lo0 : Nat) (hp0 : w0.heap.size ≤ p) (hr0 : w0.heap.size ≤ r) (hlo0 : w0.heap.size ≤ lo0) (f : Nat) (hIH : GoH w0 ns ad N cap root p r lo0 f) : GoH w0 ns ad N cap root p r lo0 (f + 1) := by
 rintro ⟨sn, dp, wr, al⟩ x deep lo hi vl vh av w hu hd0 hd1 hal hlw hw hk hl hh hsl hsh
 have IH := hid hIH
 clear hIH
 have HGB := hid (fun h => goS_wrongB ns f ⟨sn, dp, wr, al⟩ x deep lo hi h)
 have HGR := hid (fun d hd h => goS_right ns f ⟨sn, dp, wr, al⟩ x deep lo hi d hd h)
 simp only at hu hal
 have hB := Below.alloc1 w (.cells #[.slice ad N cap, .int .i64 root] 26)
 have HR6 := hid (heap_alloc_new w (.cells #[.slice ad N cap, .int .i64 root] 26))
 have hz := alloc_size w (.cells #[.slice ad N cap, .int .i64 root] 26)
 have hpl := blk_lt hk.box
 have hrl := blk_lt hk.row
 have HWK := hid (hk.below hB)
 have HST := hid (Step.of_below p r av hB)
 have HW := hid (hw.trans (hB.mono hw.size))
 have HSL := hid (hl.step hsl HST.out)
 have HSH := hid (hh.step hsh HST.out)
 have HDL := hid hsl
 have HDH := hid hsh
 have HU := hid hu
 have HAL := hid hal
 have HZ := hid (show p < w.heap.size ∧ r < w.heap.size ∧ (w.alloc (.cells #[.slice ad N cap, .int .i64 root] 26)).heap.size = w.heap.size + 1 ∧ lo0 ≤ w.heap.size ∧ w0.heap.size ≤ w.heap.size ∧ (∀ b, av.ownBlock = some b → lo0 ≤ b ∧ b < w.heap.size) from ⟨hpl, hrl, hz, hlw, hw.size, hk.all.lt⟩)
 have HM := hid hm
 have HRD := hid hR
 have hp6 : p ≠ w.heap.size := by omega
 have hr6 : r ≠ w.heap.size := by omega
 have hpr := hk.pr
 clear hB hz hpl hrl hw hk hl hh hsl hsh hu hal hlw hm
 go_enter Try.func103, Try.ntmps103
 go_upto_region 1 with fail
 generalize w.alloc (.cells #[.slice ad N cap, .int .i64 root] 26) = V at *
 obtain ⟨p6, hp6'⟩ : ∃ p6, w.heap.size = p6 := ⟨_, rfl⟩
 have HP6 := hid hp6'
 rw [hp6'] at HR6 hp6 hr6
 try simp only [hp6']
 clear hp6'
 have c60 : V.cell? ⟨p6, 0, none⟩ = some (.slice ad N cap) := by rw [cell_of_row _ _ _ _ _ _ HR6.out]; rfl
 have cp0 : V.cell? ⟨p, 0, none⟩ = some (.slice (some ⟨r, 0, none⟩) N N) := by rw [cell_of_row _ _ _ _ _ _ HWK.out.box]; rfl
 have cp2 : V.cell? ⟨p, 2, none⟩ = some (.bool wr) := by rw [cell_of_row _ _ _ _ _ _ HWK.out.box]; rfl
 have fp2 : V.frozen? ⟨p, 2, none⟩ = false := frozen_of_row _ _ _ _ _ HWK.out.box
 have HBD := hid HWK.out.bad
 have HSB := hid (HST.out.trans (Step.set_p p r V av 2 (.bool true)))
 cases wr with
 | true =>
  have HE := hid (show goS ns (f + 1) _ _ deep lo hi = _ from HGB.out (by rfl))
  clear HGB HGR
  go_wp2_with fail
  exact ⟨rfl, _, results_none Try.results103 _ _ _, ⟨rfl, av, by rw [HE.out]; exact HBD.out, HSB.out⟩⟩
 | false =>
  by_cases hx0 : x < 0
  ·
   have HE := hid (show goS ns (f + 1) _ _ deep lo hi = _ from HGB.out (by simp [outB, hx0]))
   clear HGB HGR
   go_wp2_with fail
   exact ⟨rfl, _, results_none Try.results103 _ _ _, ⟨rfl, av, by rw [HE.out]; exact HBD.out, HSB.out⟩⟩
  by_cases hxN : (N : Int) ≤ x
  ·
   have HE := hid (show goS ns (f + 1) _ _ deep lo hi = _ from HGB.out (by simp only [Bool.false_or]; unfold outB; rw [decide_eq_true (Or.inr (by rw [hns]; exact hxN)), Bool.true_or]))
   clear HGB HGR
   go_wp2_with fail
   exact ⟨rfl, _, results_none Try.results103 _ _ _, ⟨rfl, av, by rw [HE.out]; exact HBD.out, HSB.out⟩⟩
  obtain ⟨k, rfl⟩ : ∃ k : Nat, x = (k : Int) := ⟨x.toNat, by omega⟩
  have hkN : k < N := by omega
  have hkN' : (k : Int) < (N : Int) := by omega
  have hkN3 : ¬ (N : Int) ≤ (k : Int) := by omega
  have hk0 : (0 : Int) ≤ (k : Int) := by omega
  have cr := HWK.out.seen_at hkN
  simp only at cr
  clear hx0 hxN
  cases hsk : sn.getD k true with
  | true =>
   rw [hsk] at cr
   have HSK := hid hsk
   clear hsk
   have HE := hid (show goS ns (f + 1) _ _ deep lo hi = _ from HGB.out (by simp only [Bool.false_or]; unfold outB; rw [Int.toNat_natCast, HSK.out, Bool.or_true]))
   clear HGB HGR
   go_wp2_with fail
   exact ⟨rfl, _, results_none Try.results103 _ _ _, ⟨rfl, av, by rw [HE.out]; exact HBD.out, HSB.out⟩⟩
  | false =>
   rw [hsk] at cr
   have HSK := hid hsk
   clear hsk
   have HOut := hid (show (false || outB ns sn (k : Int)) = false by rw [Bool.false_or]; unfold outB; rw [Int.toNat_natCast, HSK.out, decide_eq_false (by rw [hns]; omega)]; rfl)
   obtain ⟨b, off, ae, ce, ak, ck, rfl, n0, n1, n2, re, hml, ri, hmk⟩ := HRD.out.at (k := k) (by omega)
   have bl := World.block_lt_of_cell? w0 _ n0
   simp only at bl
   have N0 := (HW.out.cell (p := ⟨b, off + k * 3, none⟩) bl).trans n0
   have N1 := (HW.out.cell (p := ⟨b, off + k * 3 + 1, none⟩) bl).trans n1
   have N2 := (HW.out.cell (p := ⟨b, off + k * 3 + 2, none⟩) bl).trans n2
   have HRe := hid re
   have HRi := hid ri
   have hbr : b ≠ r := by omega
   have hrb : r ≠ b := by omega
   have h6r : p6 ≠ r := fun e => hr6 e.symm
   obtain ⟨d, hdd⟩ : ∃ d, ns.getD k nd0 = d := ⟨_, rfl⟩
   rw [hdd] at N0 N1 N2 HRe HRi hml hmk
   have HMd := hid (show ∀ j, (d.es.getD j en0).Z.length ≤ 2097152 from fun j => hdd ▸ HM.out k j)
   have HE := hid (HGR.out d (by rw [Int.toNat_natCast]; exact hdd) HOut.out)
   simp only [Int.toNat_natCast] at HE
   obtain ⟨n, hn⟩ : ∃ n, d.es.length = n := ⟨_, rfl⟩
   obtain ⟨m, hm⟩ : ∃ m, d.ks.length = m := ⟨_, rfl⟩
   rw [hn] at N1 hml HE
   rw [hm] at N2 HRi hmk HE
   have HNn := hid hn
   have HMm := hid hm
   have fr : V.frozen? ⟨r, k, none⟩ = false := frozen_of_row _ _ _ _ _ HWK.out.row
   have HUn := hid (unseen_set sn k HSK.out)
   have hzs : (V.setCell ⟨r, k, none⟩ (.bool true)).heap.size = V.heap.size := set_size _ _ _
   have hB1 := Below.alloc1 (V.setCell ⟨r, k, none⟩ (.bool true)) (.cells #[.bool d.leaf, .slice ae n ce, .slice ak m ck] 67)
   have HW1 := hid (show WK w0 ((V.setCell ⟨r, k, none⟩ (.bool true)).alloc (.cells #[.bool d.leaf, .slice ae n ce, .slice ak m ck] 67)) p r N lo0 ⟨sn.set k true, dp, false, al⟩ av from (HWK.out.see k).below hB1)
   have HS1 := hid (show Step p r V av ((V.setCell ⟨r, k, none⟩ (.bool true)).alloc (.cells #[.bool d.leaf, .slice ae n ce, .slice ak m ck] 67)) av from (Step.set_r p r V av k (.bool true)).trans (Step.of_below p r av hB1))
   have H12 := hid (heap_alloc_new (V.setCell ⟨r, k, none⟩ (.bool true)) (.cells #[.bool d.leaf, .slice ae n ce, .slice ak m ck] 67))
   have hz1 := alloc_size (V.setCell ⟨r, k, none⟩ (.bool true)) (.cells #[.bool d.leaf, .slice ae n ce, .slice ak m ck] 67)
   rw [hzs] at H12 hz1
   have H61 := hid (show ((V.setCell ⟨r, k, none⟩ (.bool true)).alloc (.cells #[.bool d.leaf, .slice ae n ce, .slice ak m ck] 67)).heap[p6]? = some (.cells #[.slice (some ⟨b, off, none⟩) N cap, .int .i64 root] 26) from (hB1.block p6 (by rw [hzs]; have := HP6.out; have := HZ.out; omega)).trans ((heap_set_ne _ r k p6 _ h6r).trans HR6.out))
   have HZ1 := hid (show ((V.setCell ⟨r, k, none⟩ (.bool true)).alloc (.cells #[.bool d.leaf, .slice ae n ce, .slice ak m ck] 67)).heap.size = V.heap.size + 1 from hz1)
   have h12r : V.heap.size ≠ r := by have := HZ.out; omega
   have h12r' : r ≠ V.heap.size := by have := HZ.out; omega
   have h12p : p ≠ V.heap.size := by have := HZ.out; omega
   have h12b : b ≠ V.heap.size := by have := HZ.out; omega
   clear hB1 hz1 n0 n1 n2 re ri bl hdd HGB HGR HBD HSB hn hm
   by_cases h4 : 4 < n
   ·
    have h4' : (4 : Int) < (n : Int) := by omega
    have HE2 := hid (show goS ns (f + 1) ⟨sn, dp, false, al⟩ (k : Int) deep lo hi = _ from HE.out.trans (if_pos (decide_eq_true h4)))
    have HB1 := hid HW1.out.bad
    have HB2 := hid ((HST.out.trans HS1.out).trans (Step.set_p p r ((V.setCell ⟨r, k, none⟩ (.bool true)).alloc (.cells #[.bool d.leaf, .slice ae n ce, .slice ak m ck] 67)) av 2 (.bool true)))
    have e2 : ((V.setCell ⟨r, k, none⟩ (.bool true)).alloc (.cells #[.bool d.leaf, .slice ae n ce, .slice ak m ck] 67)).cell? ⟨p, 2, none⟩ = some (.bool false) := by rw [cell_of_row _ _ _ _ _ _ HW1.out.box]; rfl
    have f2 : ((V.setCell ⟨r, k, none⟩ (.bool true)).alloc (.cells #[.bool d.leaf, .slice ae n ce, .slice ak m ck] 67)).frozen? ⟨p, 2, none⟩ = false := frozen_of_row _ _ _ _ _ HW1.out.box
    clear h4 hzs
    go_upto_region 6 with fail
    generalize ((V.setCell ⟨r, k, none⟩ (.bool true)).alloc (.cells #[.bool d.leaf, .slice ae n ce, .slice ak m ck] 67)) = W1 at *
    go_wp2_with fail
    exact ⟨rfl, _, results_none Try.results103 _ _ _, ⟨rfl, av, by rw [HE2.out]; exact HB1.out, HB2.out⟩⟩
   have hn4 : n ≤ 4 := by omega
   have hn4' : ¬ (4 : Int) < (n : Int) := by omega
   replace HE := hid (show goS ns (f + 1) ⟨sn, dp, false, al⟩ (k : Int) deep lo hi = _ from HE.out.trans (if_neg (by simpa using h4)))
   clear h4 hzs
   go_upto_region 7 with fail
   generalize ((V.setCell ⟨r, k, none⟩ (.bool true)).alloc (.cells #[.bool d.leaf, .slice ae n ce, .slice ak m ck] 67)) = W1 at *
   obtain ⟨p12, hp12⟩ : ∃ p12, V.heap.size = p12 := ⟨_, rfl⟩
   have HP12 := hid (show w.heap.size < p12 ∧ p12 < W1.heap.size ∧ p6 < p12 ∧ p < p12 ∧ r < p12 ∧ W1.heap.size = p12 + 1 ∧ p6 = w.heap.size by have := HZ.out; have := HZ1.out; have := HP6.out; omega)
   rw [hp12] at H12 h12r h12r' h12p h12b
   try simp only [hp12]
   clear hp12
   have HST1 := hid (HST.out.trans HS1.out)
   have HSL1 := hid (HSL.out.step HDL.out HS1.out)
   have HSH1 := hid (HSH.out.step HDH.out HS1.out)
   have HBW1 := hid (show Below w0.heap.size w0 W1 from HW.out.trans (HS1.out.below HW.out.size hp0 hr0 (fun b hb => Nat.le_trans hlo0 (HZ.out.2.2.2.2.2 b hb).1)))
   clear HWK HS1 HST HSL HSH HR6 c60 cp0 cp2 fp2 cr fr N0 N1 N2 hrb hbr h6r HW
   go_wp2_with fail
   go_loopw [13] (fun i wr => ∃ kk : Nat, kk ≤ n ∧ i = .int .i64 kk ∧ Hid (∀ j, j < kk → okAt lo hi d.es j = true) ∧ Hid (Below W1.heap.size W1 wr)) (fun i _ => n - (intOf i).toNat)
   case atStart => exact ⟨0, Nat.zero_le _, rfl, hid (fun j hj => absurd hj (Nat.not_lt_zero _)), hid (Below.refl _ _)⟩
   case round =>
    obtain ⟨kk, hkk, rfl, HOK, HB⟩ := hrel
    have c121 : wr.cell? ⟨p12, 1, none⟩ = some (.slice ae n ce) := by rw [cell_of_row _ _ _ _ _ _ ((HB.out.block p12 HP12.out.2.1).trans H12.out)]; rfl
    by_cases hlt : kk < n
    ·
     have hlt' : (kk : Int) < (n : Int) := by omega
     have hkk0 : (0 : Int) ≤ (kk : Int) := by omega
     obtain ⟨be, oe, a1, c1, rfl, bx0, r1, _, _, f1⟩ := HRe.out.at (k := kk) (by rw [HNn.out]; exact hlt)
     have HBW := hid (HBW1.out.trans (HB.out.mono HBW1.out.size))
     have HEq := hid (okAt_of lo hi d.es kk)
     have m1 := HMd.out kk
     obtain ⟨e, he⟩ : ∃ e, d.es.getD kk en0 = e := ⟨_, rfl⟩
     rw [he] at bx0 r1 f1 HEq m1
     have HR1 := hid r1
     obtain ⟨z0, z1, z2, z3, z4⟩ := bx0.below HBW.out (Nat.le_refl _)
     have hst := fun w a m => run_store Try.prog w a (.float .f64 e.F) m rfl
     have HBX := hid (Below.alloc1 wr (.cells #[.int .i64 e.K, .int .i64 e.N, .float .f64 e.F, .slice a1 e.Z.length c1, .int .i64 e.id] 35))
     have HR14 := hid (heap_alloc_new wr (.cells #[.int .i64 e.K, .int .i64 e.N, .float .f64 e.F, .slice a1 e.Z.length c1, .int .i64 e.id] 35))
     have HZ14 := hid (alloc_size wr (.cells #[.int .i64 e.K, .int .i64 e.N, .float .f64 e.F, .slice a1 e.Z.length c1, .int .i64 e.id] 35))
     clear bx0 r1 he
     go_upto_region 11 with fail
     clear z0 z1 z2 z3 z4 c121
     generalize wr.alloc (.cells #[.int .i64 e.K, .int .i64 e.N, .float .f64 e.F, .slice a1 e.Z.length c1, .int .i64 e.id] 35) = V2 at *
     obtain ⟨p14, hp14⟩ : ∃ p14, wr.heap.size = p14 := ⟨_, rfl⟩
     have HP14 := hid (show p14 < V2.heap.size ∧ W1.heap.size ≤ p14 ∧ p14 = wr.heap.size by have := HZ14.out; have := HB.out.size; omega)
     rw [hp14] at HR14
     try simp only [hp14]
     clear hp14
     have HB2 := hid (show Below W1.heap.size W1 V2 from HB.out.trans (HBX.out.mono HB.out.size))
     go_cut [117] (fun s wx => s = .bool (!okAt lo hi d.es kk) ∧ Hid (Below V2.heap.size V2 wx))
     case first =>
      try clear IH
      try clear HE
      try clear HU
      try clear HAL
      try clear HRi
      try clear HUn
      try clear HOK
      try clear HST1
      try clear HZ
      try clear HZ1
      try clear HRD
      try clear HMm
      try clear HW1
      try clear HSK
      try clear HOut
      try clear HM
      try clear HDL
      try clear HDH
      try clear HP6
      try clear hp6
      try clear hr6
      try clear hpr
      try clear h12r
      try clear h12r'
      try clear h12p
      try clear h12b
      try clear hp0
      try clear hr0
      try clear hlo0
      try clear hd0
      try clear hd1
      try clear hns
      try clear hN
      try clear hkN
      try clear hkN'
      try clear hkN3
      try clear hk0
      try clear hml
      try clear hmk
      try clear hn4'
      try clear hlt'
      try clear hB
      try clear hR
      try clear hm
      try clear H61
      cases lo with
      | none =>
       obtain rfl : vl = Value.slice none 0 0 := HSL1.out
       cases hi with
       | none =>
        obtain rfl : vh = Value.slice none 0 0 := HSH1.out
        as_aux_lemma =>
         have HKp := hid (show ∀ W', Below V2.heap.size V2 W' → (W'.cell? ⟨p14, 0, none⟩ = some (.int .i64 e.K) ∧ W'.cell? ⟨p14, 1, none⟩ = some (.int .i64 e.N) ∧ W'.cell? ⟨p14, 2, none⟩ = some (.float .f64 e.F) ∧ W'.cell? ⟨p14, 3, none⟩ = some (.slice a1 e.Z.length c1) ∧ W'.cell? ⟨p14, 4, none⟩ = some (.int .i64 e.id)) ∧ W'.cell? ⟨p12, 1, none⟩ = some (.slice (some ⟨be, oe, none⟩) n ce) ∧ Hid (Below w0.heap.size w0 W') ∧ True ∧ True from fun W' b => by
          have r14 := (b.block p14 HP14.out.1).trans HR14.out
          have b1 := HB2.out.trans (b.mono HB2.out.size)
          have r12 := (b1.block p12 HP12.out.2.1).trans H12.out
          exact ⟨⟨by rw [cell_of_row _ _ _ _ _ _ r14]; rfl, by rw [cell_of_row _ _ _ _ _ _ r14]; rfl, by rw [cell_of_row _ _ _ _ _ _ r14]; rfl, by rw [cell_of_row _ _ _ _ _ _ r14]; rfl, by rw [cell_of_row _ _ _ _ _ _ r14]; rfl⟩, by rw [cell_of_row _ _ _ _ _ _ r12]; rfl, hid (HBW1.out.trans (b1.mono HBW1.out.size)), trivial, trivial⟩)
         have BC := hid ((Still.drew V2).below V2.heap.size)
         refine region_K 99 (fun W => (W.cell? ⟨p14, 0, none⟩ = some (.int .i64 e.K) ∧ W.cell? ⟨p14, 1, none⟩ = some (.int .i64 e.N) ∧ W.cell? ⟨p14, 2, none⟩ = some (.float .f64 e.F) ∧ W.cell? ⟨p14, 3, none⟩ = some (.slice a1 e.Z.length c1) ∧ W.cell? ⟨p14, 4, none⟩ = some (.int .i64 e.id)) ∧ W.cell? ⟨p12, 1, none⟩ = some (.slice (some ⟨be, oe, none⟩) n ce) ∧ Hid (Below w0.heap.size w0 W) ∧ True ∧ True) (by kernel_rfl) ?_ (fun hHeld => ?_)
         · exact HKp.out _ BC.out
         generalize V2.drew = vd at *
         refine tkA (i := 0) (v := ?v1) rfl hHeld ?hy1 (some 75) rfl ?rest1
         case hy1 => (intro W hSw; obtain ⟨⟨y0, y1, y2, y3, y4⟩, x1, HbW, HLo, HHi⟩ := hSw; go_simp; (try with_reducible rfl))
         try simp only [Act.put, List.setIfInBounds_toArray, List.set_cons_succ, List.set_cons_zero]
         refine anyK_step (i := 1) (by kernel_rfl) rfl (fun KP hK => ?_)
         go_simp
         refine (spec_entry e.K e.N e.F a1 e.Z.length c1 e.id f1 m1 _).mono ?_
         rintro e v1 ⟨rfl, b⟩
         replace BC := hid (BC.out.trans (b.mono BC.out.size))
         clear b
         obtain ⟨EO, hEO⟩ : ∃ EO, entB e.K e.N e.F e.Z.length e.id = EO := ⟨_, rfl⟩
         rw [hEO]
         rw [show entOk e = EO from hEO] at HEq
         clear hEO
         go_wp2_with fail
         clear hHeld
         refine hK.out _ _ (HKp.out _ BC.out) (fun hHeld => ?_)
         clear hK KP
         try simp only [Act.put, List.setIfInBounds_toArray, List.set_cons_succ, List.set_cons_zero]
         cases EO with
         | false =>
          refine tkA (i := 2) (v := ?v2) rfl hHeld ?hy2 (some 77) rfl ?rest2
          case hy2 => (intro W hSw; obtain ⟨⟨y0, y1, y2, y3, y4⟩, x1, HbW, HLo, HHi⟩ := hSw; go_simp; (try with_reducible rfl))
          try simp only [Act.put, List.setIfInBounds_toArray, List.set_cons_succ, List.set_cons_zero]
          refine tkA (i := 3) (v := ?v3) rfl hHeld ?hy3 (some 78) rfl ?rest3
          case hy3 => (intro W hSw; obtain ⟨⟨y0, y1, y2, y3, y4⟩, x1, HbW, HLo, HHi⟩ := hSw; go_simp; (try with_reducible rfl))
          try simp only [Act.put, List.setIfInBounds_toArray, List.set_cons_succ, List.set_cons_zero]
          refine skA (i := 4) rfl hHeld (some 79) rfl ?_
          try simp only [Act.put, List.setIfInBounds_toArray, List.set_cons_succ, List.set_cons_zero]
          refine skA (i := 5) rfl hHeld (some 80) rfl ?_
          try simp only [Act.put, List.setIfInBounds_toArray, List.set_cons_succ, List.set_cons_zero]
          refine skA (i := 6) rfl hHeld (some 81) rfl ?_
          try simp only [Act.put, List.setIfInBounds_toArray, List.set_cons_succ, List.set_cons_zero]
          refine skA (i := 7) rfl hHeld (some 82) rfl ?_
          try simp only [Act.put, List.setIfInBounds_toArray, List.set_cons_succ, List.set_cons_zero]
          refine skA (i := 8) rfl hHeld (some 83) rfl ?_
          try simp only [Act.put, List.setIfInBounds_toArray, List.set_cons_succ, List.set_cons_zero]
          refine skA (i := 9) rfl hHeld (some 84) rfl ?_
          try simp only [Act.put, List.setIfInBounds_toArray, List.set_cons_succ, List.set_cons_zero]
          refine skA (i := 10) rfl hHeld (some 85) rfl ?_
          try simp only [Act.put, List.setIfInBounds_toArray, List.set_cons_succ, List.set_cons_zero]
          refine skA (i := 11) rfl hHeld (some 86) rfl ?_
          try simp only [Act.put, List.setIfInBounds_toArray, List.set_cons_succ, List.set_cons_zero]
          refine skA (i := 12) rfl hHeld (some 87) rfl ?_
          try simp only [Act.put, List.setIfInBounds_toArray, List.set_cons_succ, List.set_cons_zero]
          refine skA (i := 13) rfl hHeld (some 88) rfl ?_
          try simp only [Act.put, List.setIfInBounds_toArray, List.set_cons_succ, List.set_cons_zero]
          refine skA (i := 14) rfl hHeld (some 89) rfl ?_
          try simp only [Act.put, List.setIfInBounds_toArray, List.set_cons_succ, List.set_cons_zero]
          refine skA (i := 15) rfl hHeld (some 90) rfl ?_
          try simp only [Act.put, List.setIfInBounds_toArray, List.set_cons_succ, List.set_cons_zero]
          refine skA (i := 16) rfl hHeld (some 91) rfl ?_
          try simp only [Act.put, List.setIfInBounds_toArray, List.set_cons_succ, List.set_cons_zero]
          refine tkA (i := 17) (v := ?v4) rfl hHeld ?hy4 (some 92) rfl ?rest4
          case hy4 => (intro W hSw; obtain ⟨⟨y0, y1, y2, y3, y4⟩, x1, HbW, HLo, HHi⟩ := hSw; go_simp; (try with_reducible rfl))
          try simp only [Act.put, List.setIfInBounds_toArray, List.set_cons_succ, List.set_cons_zero]
          refine tkA (i := 18) (v := ?v5) rfl hHeld ?hy5 (some 93) rfl ?rest5
          case hy5 => (intro W hSw; obtain ⟨⟨y0, y1, y2, y3, y4⟩, x1, HbW, HLo, HHi⟩ := hSw; go_simp; (try with_reducible rfl))
          try simp only [Act.put, List.setIfInBounds_toArray, List.set_cons_succ, List.set_cons_zero]
          refine skA (i := 19) rfl hHeld (some 94) rfl ?_
          try simp only [Act.put, List.setIfInBounds_toArray, List.set_cons_succ, List.set_cons_zero]
          refine skA (i := 20) rfl hHeld (some 95) rfl ?_
          try simp only [Act.put, List.setIfInBounds_toArray, List.set_cons_succ, List.set_cons_zero]
          refine skA (i := 21) rfl hHeld (some 96) rfl ?_
          try simp only [Act.put, List.setIfInBounds_toArray, List.set_cons_succ, List.set_cons_zero]
          refine skA (i := 22) rfl hHeld (some 97) rfl ?_
          try simp only [Act.put, List.setIfInBounds_toArray, List.set_cons_succ, List.set_cons_zero]
          refine skA (i := 23) rfl hHeld (some 98) rfl ?_
          try simp only [Act.put, List.setIfInBounds_toArray, List.set_cons_succ, List.set_cons_zero]
          refine skA (i := 24) rfl hHeld (some 99) rfl ?_
          try simp only [Act.put, List.setIfInBounds_toArray, List.set_cons_succ, List.set_cons_zero]
          refine skA (i := 25) rfl hHeld (some 100) rfl ?_
          try simp only [Act.put, List.setIfInBounds_toArray, List.set_cons_succ, List.set_cons_zero]
          refine skA (i := 26) rfl hHeld (some 101) rfl ?_
          try simp only [Act.put, List.setIfInBounds_toArray, List.set_cons_succ, List.set_cons_zero]
          refine skA (i := 27) rfl hHeld (some 102) rfl ?_
          try simp only [Act.put, List.setIfInBounds_toArray, List.set_cons_succ, List.set_cons_zero]
          refine skA (i := 28) rfl hHeld (some 103) rfl ?_
          try simp only [Act.put, List.setIfInBounds_toArray, List.set_cons_succ, List.set_cons_zero]
          refine tkA (i := 29) (v := ?v6) rfl hHeld ?hy6 (some 104) rfl ?rest6
          case hy6 => (intro W hSw; obtain ⟨⟨y0, y1, y2, y3, y4⟩, x1, HbW, HLo, HHi⟩ := hSw; go_simp; (try with_reducible rfl))
          try simp only [Act.put, List.setIfInBounds_toArray, List.set_cons_succ, List.set_cons_zero]
          refine tkA (i := 30) (v := ?v7) rfl hHeld ?hy7 (some 105) rfl ?rest7
          case hy7 => (intro W hSw; obtain ⟨⟨y0, y1, y2, y3, y4⟩, x1, HbW, HLo, HHi⟩ := hSw; go_simp; (try with_reducible rfl))
          try simp only [Act.put, List.setIfInBounds_toArray, List.set_cons_succ, List.set_cons_zero]
          refine skA (i := 31) rfl hHeld (some 106) rfl ?_
          try simp only [Act.put, List.setIfInBounds_toArray, List.set_cons_succ, List.set_cons_zero]
          refine skA (i := 32) rfl hHeld (some 107) rfl ?_
          try simp only [Act.put, List.setIfInBounds_toArray, List.set_cons_succ, List.set_cons_zero]
          refine skA (i := 33) rfl hHeld (some 108) rfl ?_
          try simp only [Act.put, List.setIfInBounds_toArray, List.set_cons_succ, List.set_cons_zero]
          refine skA (i := 34) rfl hHeld (some 109) rfl ?_
          try simp only [Act.put, List.setIfInBounds_toArray, List.set_cons_succ, List.set_cons_zero]
          refine skA (i := 35) rfl hHeld (some 110) rfl ?_
          try simp only [Act.put, List.setIfInBounds_toArray, List.set_cons_succ, List.set_cons_zero]
          refine skA (i := 36) rfl hHeld (some 111) rfl ?_
          try simp only [Act.put, List.setIfInBounds_toArray, List.set_cons_succ, List.set_cons_zero]
          refine skA (i := 37) rfl hHeld (some 112) rfl ?_
          try simp only [Act.put, List.setIfInBounds_toArray, List.set_cons_succ, List.set_cons_zero]
          refine skA (i := 38) rfl hHeld (some 113) rfl ?_
          try simp only [Act.put, List.setIfInBounds_toArray, List.set_cons_succ, List.set_cons_zero]
          refine skA (i := 39) rfl hHeld (some 114) rfl ?_
          try simp only [Act.put, List.setIfInBounds_toArray, List.set_cons_succ, List.set_cons_zero]
          refine skA (i := 40) rfl hHeld (some 115) rfl ?_
          try simp only [Act.put, List.setIfInBounds_toArray, List.set_cons_succ, List.set_cons_zero]
          refine skA (i := 41) rfl hHeld (some 116) rfl ?_
          try simp only [Act.put, List.setIfInBounds_toArray, List.set_cons_succ, List.set_cons_zero]
          refine tkA (i := 42) (v := ?v8) rfl hHeld ?hy8 (some 117) rfl ?rest8
          case hy8 => (intro W hSw; obtain ⟨⟨y0, y1, y2, y3, y4⟩, x1, HbW, HLo, HHi⟩ := hSw; go_simp; (try with_reducible rfl))
          try simp only [Act.put, List.setIfInBounds_toArray, List.set_cons_succ, List.set_cons_zero]
          refine anyK_done (by kernel_rfl) ?_ _
          clear hHeld
          go_wp2_with fail
          go_meet
          case rel => exact ⟨by rw [HEq.out]; first | rfl | simp, BC⟩
         | true =>
          refine tkA (i := 2) (v := ?v9) rfl hHeld ?hy9 (some 77) rfl ?rest9
          case hy9 => (intro W hSw; obtain ⟨⟨y0, y1, y2, y3, y4⟩, x1, HbW, HLo, HHi⟩ := hSw; go_simp; (try with_reducible rfl))
          try simp only [Act.put, List.setIfInBounds_toArray, List.set_cons_succ, List.set_cons_zero]
          refine tkA (i := 3) (v := ?v10) rfl hHeld ?hy10 (some 78) rfl ?rest10
          case hy10 => (intro W hSw; obtain ⟨⟨y0, y1, y2, y3, y4⟩, x1, HbW, HLo, HHi⟩ := hSw; go_simp; (try with_reducible rfl))
          try simp only [Act.put, List.setIfInBounds_toArray, List.set_cons_succ, List.set_cons_zero]
          refine tkA (i := 4) (v := ?v11) rfl hHeld ?hy11 (some 79) rfl ?rest11
          case hy11 => (intro W hSw; obtain ⟨⟨y0, y1, y2, y3, y4⟩, x1, HbW, HLo, HHi⟩ := hSw; go_simp; (try with_reducible rfl))
          try simp only [Act.put, List.setIfInBounds_toArray, List.set_cons_succ, List.set_cons_zero]
          by_cases hk1 : kk = 0
          ·
           subst hk1
           refine tkA (i := 5) (v := ?v12) rfl hHeld ?hy12 (some 80) rfl ?rest12
           case hy12 => (intro W hSw; obtain ⟨⟨y0, y1, y2, y3, y4⟩, x1, HbW, HLo, HHi⟩ := hSw; go_simp; (try with_reducible rfl))
           try simp only [Act.put, List.setIfInBounds_toArray, List.set_cons_succ, List.set_cons_zero]
           refine tkA (i := 6) (v := ?v13) rfl hHeld ?hy13 (some 81) rfl ?rest13
           case hy13 => (intro W hSw; obtain ⟨⟨y0, y1, y2, y3, y4⟩, x1, HbW, HLo, HHi⟩ := hSw; go_simp; (try with_reducible rfl))
           try simp only [Act.put, List.setIfInBounds_toArray, List.set_cons_succ, List.set_cons_zero]
           refine skA (i := 7) rfl hHeld (some 82) rfl ?_
           try simp only [Act.put, List.setIfInBounds_toArray, List.set_cons_succ, List.set_cons_zero]
           refine skA (i := 8) rfl hHeld (some 83) rfl ?_
           try simp only [Act.put, List.setIfInBounds_toArray, List.set_cons_succ, List.set_cons_zero]
           refine skA (i := 9) rfl hHeld (some 84) rfl ?_
           try simp only [Act.put, List.setIfInBounds_toArray, List.set_cons_succ, List.set_cons_zero]
           refine skA (i := 10) rfl hHeld (some 85) rfl ?_
           try simp only [Act.put, List.setIfInBounds_toArray, List.set_cons_succ, List.set_cons_zero]
           refine skA (i := 11) rfl hHeld (some 86) rfl ?_
           try simp only [Act.put, List.setIfInBounds_toArray, List.set_cons_succ, List.set_cons_zero]
           refine skA (i := 12) rfl hHeld (some 87) rfl ?_
           try simp only [Act.put, List.setIfInBounds_toArray, List.set_cons_succ, List.set_cons_zero]
           refine skA (i := 13) rfl hHeld (some 88) rfl ?_
           try simp only [Act.put, List.setIfInBounds_toArray, List.set_cons_succ, List.set_cons_zero]
           refine skA (i := 14) rfl hHeld (some 89) rfl ?_
           try simp only [Act.put, List.setIfInBounds_toArray, List.set_cons_succ, List.set_cons_zero]
           refine skA (i := 15) rfl hHeld (some 90) rfl ?_
           try simp only [Act.put, List.setIfInBounds_toArray, List.set_cons_succ, List.set_cons_zero]
           refine tkA (i := 16) (v := ?v14) rfl hHeld ?hy14 (some 91) rfl ?rest14
           case hy14 => (intro W hSw; obtain ⟨⟨y0, y1, y2, y3, y4⟩, x1, HbW, HLo, HHi⟩ := hSw; go_simp; (try with_reducible rfl))
           try simp only [Act.put, List.setIfInBounds_toArray, List.set_cons_succ, List.set_cons_zero]
           refine tkA (i := 17) (v := ?v15) rfl hHeld ?hy15 (some 92) rfl ?rest15
           case hy15 => (intro W hSw; obtain ⟨⟨y0, y1, y2, y3, y4⟩, x1, HbW, HLo, HHi⟩ := hSw; go_simp; (try with_reducible rfl))
           try simp only [Act.put, List.setIfInBounds_toArray, List.set_cons_succ, List.set_cons_zero]
           refine tkA (i := 18) (v := ?v16) rfl hHeld ?hy16 (some 93) rfl ?rest16
           case hy16 => (intro W hSw; obtain ⟨⟨y0, y1, y2, y3, y4⟩, x1, HbW, HLo, HHi⟩ := hSw; go_simp; (try with_reducible rfl))
           try simp only [Act.put, List.setIfInBounds_toArray, List.set_cons_succ, List.set_cons_zero]
           refine tkA (i := 19) (v := ?v17) rfl hHeld ?hy17 (some 94) rfl ?rest17
           case hy17 => (intro W hSw; obtain ⟨⟨y0, y1, y2, y3, y4⟩, x1, HbW, HLo, HHi⟩ := hSw; go_simp; (try with_reducible rfl))
           try simp only [Act.put, List.setIfInBounds_toArray, List.set_cons_succ, List.set_cons_zero]
           refine tkA (i := 20) (v := ?v18) rfl hHeld ?hy18 (some 95) rfl ?rest18
           case hy18 => (intro W hSw; obtain ⟨⟨y0, y1, y2, y3, y4⟩, x1, HbW, HLo, HHi⟩ := hSw; go_simp; (try with_reducible rfl))
           try simp only [Act.put, List.setIfInBounds_toArray, List.set_cons_succ, List.set_cons_zero]
           refine tkA (i := 21) (v := ?v19) rfl hHeld ?hy19 (some 96) rfl ?rest19
           case hy19 => (intro W hSw; obtain ⟨⟨y0, y1, y2, y3, y4⟩, x1, HbW, HLo, HHi⟩ := hSw; go_simp; (try with_reducible rfl))
           try simp only [Act.put, List.setIfInBounds_toArray, List.set_cons_succ, List.set_cons_zero]
           refine tkA (i := 22) (v := ?v20) rfl hHeld ?hy20 (some 97) rfl ?rest20
           case hy20 => (intro W hSw; obtain ⟨⟨y0, y1, y2, y3, y4⟩, x1, HbW, HLo, HHi⟩ := hSw; go_simp; (try with_reducible rfl))
           try simp only [Act.put, List.setIfInBounds_toArray, List.set_cons_succ, List.set_cons_zero]
           refine skA (i := 23) rfl hHeld (some 98) rfl ?_
           try simp only [Act.put, List.setIfInBounds_toArray, List.set_cons_succ, List.set_cons_zero]
           refine skA (i := 24) rfl hHeld (some 99) rfl ?_
           try simp only [Act.put, List.setIfInBounds_toArray, List.set_cons_succ, List.set_cons_zero]
           refine skA (i := 25) rfl hHeld (some 100) rfl ?_
           try simp only [Act.put, List.setIfInBounds_toArray, List.set_cons_succ, List.set_cons_zero]
           refine skA (i := 26) rfl hHeld (some 101) rfl ?_
           try simp only [Act.put, List.setIfInBounds_toArray, List.set_cons_succ, List.set_cons_zero]
           refine skA (i := 27) rfl hHeld (some 102) rfl ?_
           try simp only [Act.put, List.setIfInBounds_toArray, List.set_cons_succ, List.set_cons_zero]
           refine tkA (i := 28) (v := ?v21) rfl hHeld ?hy21 (some 103) rfl ?rest21
           case hy21 => (intro W hSw; obtain ⟨⟨y0, y1, y2, y3, y4⟩, x1, HbW, HLo, HHi⟩ := hSw; go_simp; (try with_reducible rfl))
           try simp only [Act.put, List.setIfInBounds_toArray, List.set_cons_succ, List.set_cons_zero]
           refine tkA (i := 29) (v := ?v22) rfl hHeld ?hy22 (some 104) rfl ?rest22
           case hy22 => (intro W hSw; obtain ⟨⟨y0, y1, y2, y3, y4⟩, x1, HbW, HLo, HHi⟩ := hSw; go_simp; (try with_reducible rfl))
           try simp only [Act.put, List.setIfInBounds_toArray, List.set_cons_succ, List.set_cons_zero]
           refine tkA (i := 30) (v := ?v23) rfl hHeld ?hy23 (some 105) rfl ?rest23
           case hy23 => (intro W hSw; obtain ⟨⟨y0, y1, y2, y3, y4⟩, x1, HbW, HLo, HHi⟩ := hSw; go_simp; (try with_reducible rfl))
           try simp only [Act.put, List.setIfInBounds_toArray, List.set_cons_succ, List.set_cons_zero]
           refine tkA (i := 31) (v := ?v24) rfl hHeld ?hy24 (some 106) rfl ?rest24
           case hy24 => (intro W hSw; obtain ⟨⟨y0, y1, y2, y3, y4⟩, x1, HbW, HLo, HHi⟩ := hSw; go_simp; (try with_reducible rfl))
           try simp only [Act.put, List.setIfInBounds_toArray, List.set_cons_succ, List.set_cons_zero]
           refine tkA (i := 32) (v := ?v25) rfl hHeld ?hy25 (some 107) rfl ?rest25
           case hy25 => (intro W hSw; obtain ⟨⟨y0, y1, y2, y3, y4⟩, x1, HbW, HLo, HHi⟩ := hSw; go_simp; (try with_reducible rfl))
           try simp only [Act.put, List.setIfInBounds_toArray, List.set_cons_succ, List.set_cons_zero]
           refine tkA (i := 33) (v := ?v26) rfl hHeld ?hy26 (some 108) rfl ?rest26
           case hy26 => (intro W hSw; obtain ⟨⟨y0, y1, y2, y3, y4⟩, x1, HbW, HLo, HHi⟩ := hSw; go_simp; (try with_reducible rfl))
           try simp only [Act.put, List.setIfInBounds_toArray, List.set_cons_succ, List.set_cons_zero]
           refine tkA (i := 34) (v := ?v27) rfl hHeld ?hy27 (some 109) rfl ?rest27
           case hy27 => (intro W hSw; obtain ⟨⟨y0, y1, y2, y3, y4⟩, x1, HbW, HLo, HHi⟩ := hSw; go_simp; (try with_reducible rfl))
           try simp only [Act.put, List.setIfInBounds_toArray, List.set_cons_succ, List.set_cons_zero]
           refine skA (i := 35) rfl hHeld (some 110) rfl ?_
           try simp only [Act.put, List.setIfInBounds_toArray, List.set_cons_succ, List.set_cons_zero]
           refine skA (i := 36) rfl hHeld (some 111) rfl ?_
           try simp only [Act.put, List.setIfInBounds_toArray, List.set_cons_succ, List.set_cons_zero]
           refine skA (i := 37) rfl hHeld (some 112) rfl ?_
           try simp only [Act.put, List.setIfInBounds_toArray, List.set_cons_succ, List.set_cons_zero]
           refine skA (i := 38) rfl hHeld (some 113) rfl ?_
           try simp only [Act.put, List.setIfInBounds_toArray, List.set_cons_succ, List.set_cons_zero]
           refine skA (i := 39) rfl hHeld (some 114) rfl ?_
           try simp only [Act.put, List.setIfInBounds_toArray, List.set_cons_succ, List.set_cons_zero]
           refine skA (i := 40) rfl hHeld (some 115) rfl ?_
           try simp only [Act.put, List.setIfInBounds_toArray, List.set_cons_succ, List.set_cons_zero]
           refine tkA (i := 41) (v := ?v28) rfl hHeld ?hy28 (some 116) rfl ?rest28
           case hy28 => (intro W hSw; obtain ⟨⟨y0, y1, y2, y3, y4⟩, x1, HbW, HLo, HHi⟩ := hSw; go_simp; (try with_reducible rfl))
           try simp only [Act.put, List.setIfInBounds_toArray, List.set_cons_succ, List.set_cons_zero]
           refine tkA (i := 42) (v := ?v29) rfl hHeld ?hy29 (some 117) rfl ?rest29
           case hy29 => (intro W hSw; obtain ⟨⟨y0, y1, y2, y3, y4⟩, x1, HbW, HLo, HHi⟩ := hSw; go_simp; (try with_reducible rfl))
           try simp only [Act.put, List.setIfInBounds_toArray, List.set_cons_succ, List.set_cons_zero]
           refine anyK_done (by kernel_rfl) ?_ _
           clear hHeld
           go_wp2_with fail
           go_meet
           case rel => exact ⟨by rw [HEq.out]; first | rfl | simp, BC⟩
          ·
           have hk2 : (0 : Int) < (kk : Int) := by omega
           have hk3 : 0 < kk := by omega
           have h1' : (kk : Int) - 1 < (n : Int) := by omega
           have h2' : (0 : Int) ≤ (kk : Int) - 1 := by omega
           have h3' : ((kk : Int) - 1).toNat = kk - 1 := by omega
           have hwr : IntKind.i64.wrap ((kk : Int) - 1) = ((kk - 1 : Nat) : Int) := by rw [IntKind.wrap_i64]; omega
           have h1n : ((kk - 1 : Nat) : Int) < (n : Int) := by omega
           obtain ⟨be', oe', a0, c0, e0', bxp, rp, _, _, f0⟩ := HRe.out.at (k := kk - 1) (by rw [HNn.out]; omega)
           obtain ⟨rfl, rfl⟩ : be = be' ∧ oe = oe' := by simpa using e0'
           have m0 := HMd.out (kk - 1)
           rw [decide_eq_false hk1, Bool.false_or] at HEq
           obtain ⟨x, hx⟩ : ∃ x, d.es.getD (kk - 1) en0 = x := ⟨_, rfl⟩
           rw [hx] at bxp rp f0 m0 HEq
           have BXP := hid bxp
           have RXP := hid rp
           clear bxp rp e0' hx hk1
           refine tkA (i := 5) (v := ?v30) rfl hHeld ?hy30 (some 80) rfl ?rest30
           case hy30 => (intro W hSw; obtain ⟨⟨y0, y1, y2, y3, y4⟩, x1, HbW, HLo, HHi⟩ := hSw; go_simp; (try with_reducible rfl))
           try simp only [Act.put, List.setIfInBounds_toArray, List.set_cons_succ, List.set_cons_zero]
           refine tkA (i := 6) (v := ?v31) rfl hHeld ?hy31 (some 81) rfl ?rest31
           case hy31 => (intro W hSw; obtain ⟨⟨y0, y1, y2, y3, y4⟩, x1, HbW, HLo, HHi⟩ := hSw; go_simp; (try with_reducible rfl))
           try simp only [Act.put, List.setIfInBounds_toArray, List.set_cons_succ, List.set_cons_zero]
           refine tkA (i := 7) (v := ?v32) rfl hHeld ?hy32 (some 82) rfl ?rest32
           case hy32 => (intro W hSw; obtain ⟨⟨y0, y1, y2, y3, y4⟩, x1, HbW, HLo, HHi⟩ := hSw; go_simp; (try with_reducible rfl))
           try simp only [Act.put, List.setIfInBounds_toArray, List.set_cons_succ, List.set_cons_zero]
           refine tkA (i := 8) (v := ?v33) rfl hHeld ?hy33 (some 83) rfl ?rest33
           case hy33 => (intro W hSw; obtain ⟨⟨y0, y1, y2, y3, y4⟩, x1, HbW, HLo, HHi⟩ := hSw; go_simp; (try with_reducible rfl))
           try simp only [Act.put, List.setIfInBounds_toArray, List.set_cons_succ, List.set_cons_zero]
           refine tkA (i := 9) (v := ?v34) rfl hHeld ?hy34 (some 84) rfl ?rest34
           case hy34 => (intro W hSw; obtain ⟨⟨y0, y1, y2, y3, y4⟩, x1, HbW, HLo, HHi⟩ := hSw; go_simp; (try with_reducible rfl))
           try simp only [Act.put, List.setIfInBounds_toArray, List.set_cons_succ, List.set_cons_zero]
           refine tkA (i := 10) (v := ?v35) rfl hHeld ?hy35 (some 85) rfl ?rest35
           case hy35 => (intro W hSw; obtain ⟨⟨y0, y1, y2, y3, y4⟩, x1, HbW, HLo, HHi⟩ := hSw; go_simp; (try with_reducible rfl))
           try simp only [Act.put, List.setIfInBounds_toArray, List.set_cons_succ, List.set_cons_zero]
           refine tkA (i := 11) (v := ?v36) rfl hHeld ?hy36 (some 86) rfl ?rest36
           case hy36 => (intro W hSw; obtain ⟨⟨y0, y1, y2, y3, y4⟩, x1, HbW, HLo, HHi⟩ := hSw; go_simp; (try with_reducible rfl))
           try simp only [Act.put, List.setIfInBounds_toArray, List.set_cons_succ, List.set_cons_zero]
           refine tkA (i := 12) (v := ?v37) rfl hHeld ?hy37 (some 87) rfl ?rest37
           case hy37 => (intro W hSw; obtain ⟨⟨y0, y1, y2, y3, y4⟩, x1, HbW, HLo, HHi⟩ := hSw; obtain ⟨q0, q1, q2, q3, q4⟩ := BXP.out.below HbW.out (Nat.le_refl _); go_simp; (try with_reducible rfl))
           try simp only [Act.put, List.setIfInBounds_toArray, List.set_cons_succ, List.set_cons_zero]
           refine tkA (i := 13) (v := ?v38) rfl hHeld ?hy38 (some 88) rfl ?rest38
           case hy38 => (intro W hSw; obtain ⟨⟨y0, y1, y2, y3, y4⟩, x1, HbW, HLo, HHi⟩ := hSw; go_simp; (try with_reducible rfl))
           try simp only [Act.put, List.setIfInBounds_toArray, List.set_cons_succ, List.set_cons_zero]
           refine anyK_step (i := 14) (by kernel_rfl) rfl (fun KP hK => ?_)
           go_simp
           refine (spec_less x.K x.N x.F c0 x.id e.K e.N e.F c1 e.id f0 f1 (RXP.out.below (HKp.out _ BC.out).2.2.1.out (Nat.le_refl _)) (HR1.out.below (HKp.out _ BC.out).2.2.1.out (Nat.le_refl _)) m0 m1).mono ?_
           rintro e v2 ⟨rfl, b⟩
           replace BC := hid (BC.out.trans (b.mono BC.out.size))
           clear b
           obtain ⟨LT, hLT⟩ : ∃ LT, ltB (cmpI x.K x.N x.F x.Z.length x.Z e.K e.N e.F e.Z.length e.Z) x.id e.id = LT := ⟨_, rfl⟩
           rw [hLT]
           rw [show ltE x e = LT from hLT] at HEq
           clear hLT
           go_wp2_with fail
           clear hHeld
           refine hK.out _ _ (HKp.out _ BC.out) (fun hHeld => ?_)
           clear hK KP
           try simp only [Act.put, List.setIfInBounds_toArray, List.set_cons_succ, List.set_cons_zero]
           cases LT with
           | false =>
            refine tkA (i := 15) (v := ?v39) rfl hHeld ?hy39 (some 90) rfl ?rest39
            case hy39 => (intro W hSw; obtain ⟨⟨y0, y1, y2, y3, y4⟩, x1, HbW, HLo, HHi⟩ := hSw; go_simp; (try with_reducible rfl))
            try simp only [Act.put, List.setIfInBounds_toArray, List.set_cons_succ, List.set_cons_zero]
            refine tkA (i := 16) (v := ?v40) rfl hHeld ?hy40 (some 91) rfl ?rest40
            case hy40 => (intro W hSw; obtain ⟨⟨y0, y1, y2, y3, y4⟩, x1, HbW, HLo, HHi⟩ := hSw; go_simp; (try with_reducible rfl))
            try simp only [Act.put, List.setIfInBounds_toArray, List.set_cons_succ, List.set_cons_zero]
            refine tkA (i := 17) (v := ?v41) rfl hHeld ?hy41 (some 92) rfl ?rest41
            case hy41 => (intro W hSw; obtain ⟨⟨y0, y1, y2, y3, y4⟩, x1, HbW, HLo, HHi⟩ := hSw; go_simp; (try with_reducible rfl))
            try simp only [Act.put, List.setIfInBounds_toArray, List.set_cons_succ, List.set_cons_zero]
            refine tkA (i := 18) (v := ?v42) rfl hHeld ?hy42 (some 93) rfl ?rest42
            case hy42 => (intro W hSw; obtain ⟨⟨y0, y1, y2, y3, y4⟩, x1, HbW, HLo, HHi⟩ := hSw; go_simp; (try with_reducible rfl))
            try simp only [Act.put, List.setIfInBounds_toArray, List.set_cons_succ, List.set_cons_zero]
            refine skA (i := 19) rfl hHeld (some 94) rfl ?_
            try simp only [Act.put, List.setIfInBounds_toArray, List.set_cons_succ, List.set_cons_zero]
            refine skA (i := 20) rfl hHeld (some 95) rfl ?_
            try simp only [Act.put, List.setIfInBounds_toArray, List.set_cons_succ, List.set_cons_zero]
            refine skA (i := 21) rfl hHeld (some 96) rfl ?_
            try simp only [Act.put, List.setIfInBounds_toArray, List.set_cons_succ, List.set_cons_zero]
            refine skA (i := 22) rfl hHeld (some 97) rfl ?_
            try simp only [Act.put, List.setIfInBounds_toArray, List.set_cons_succ, List.set_cons_zero]
            refine skA (i := 23) rfl hHeld (some 98) rfl ?_
            try simp only [Act.put, List.setIfInBounds_toArray, List.set_cons_succ, List.set_cons_zero]
            refine skA (i := 24) rfl hHeld (some 99) rfl ?_
            try simp only [Act.put, List.setIfInBounds_toArray, List.set_cons_succ, List.set_cons_zero]
            refine skA (i := 25) rfl hHeld (some 100) rfl ?_
            try simp only [Act.put, List.setIfInBounds_toArray, List.set_cons_succ, List.set_cons_zero]
            refine skA (i := 26) rfl hHeld (some 101) rfl ?_
            try simp only [Act.put, List.setIfInBounds_toArray, List.set_cons_succ, List.set_cons_zero]
            refine skA (i := 27) rfl hHeld (some 102) rfl ?_
            try simp only [Act.put, List.setIfInBounds_toArray, List.set_cons_succ, List.set_cons_zero]
            refine skA (i := 28) rfl hHeld (some 103) rfl ?_
            try simp only [Act.put, List.setIfInBounds_toArray, List.set_cons_succ, List.set_cons_zero]
            refine tkA (i := 29) (v := ?v43) rfl hHeld ?hy43 (some 104) rfl ?rest43
            case hy43 => (intro W hSw; obtain ⟨⟨y0, y1, y2, y3, y4⟩, x1, HbW, HLo, HHi⟩ := hSw; go_simp; (try with_reducible rfl))
            try simp only [Act.put, List.setIfInBounds_toArray, List.set_cons_succ, List.set_cons_zero]
            refine tkA (i := 30) (v := ?v44) rfl hHeld ?hy44 (some 105) rfl ?rest44
            case hy44 => (intro W hSw; obtain ⟨⟨y0, y1, y2, y3, y4⟩, x1, HbW, HLo, HHi⟩ := hSw; go_simp; (try with_reducible rfl))
            try simp only [Act.put, List.setIfInBounds_toArray, List.set_cons_succ, List.set_cons_zero]
            refine skA (i := 31) rfl hHeld (some 106) rfl ?_
            try simp only [Act.put, List.setIfInBounds_toArray, List.set_cons_succ, List.set_cons_zero]
            refine skA (i := 32) rfl hHeld (some 107) rfl ?_
            try simp only [Act.put, List.setIfInBounds_toArray, List.set_cons_succ, List.set_cons_zero]
            refine skA (i := 33) rfl hHeld (some 108) rfl ?_
            try simp only [Act.put, List.setIfInBounds_toArray, List.set_cons_succ, List.set_cons_zero]
            refine skA (i := 34) rfl hHeld (some 109) rfl ?_
            try simp only [Act.put, List.setIfInBounds_toArray, List.set_cons_succ, List.set_cons_zero]
            refine skA (i := 35) rfl hHeld (some 110) rfl ?_
            try simp only [Act.put, List.setIfInBounds_toArray, List.set_cons_succ, List.set_cons_zero]
            refine skA (i := 36) rfl hHeld (some 111) rfl ?_
            try simp only [Act.put, List.setIfInBounds_toArray, List.set_cons_succ, List.set_cons_zero]
            refine skA (i := 37) rfl hHeld (some 112) rfl ?_
            try simp only [Act.put, List.setIfInBounds_toArray, List.set_cons_succ, List.set_cons_zero]
            refine skA (i := 38) rfl hHeld (some 113) rfl ?_
            try simp only [Act.put, List.setIfInBounds_toArray, List.set_cons_succ, List.set_cons_zero]
            refine skA (i := 39) rfl hHeld (some 114) rfl ?_
            try simp only [Act.put, List.setIfInBounds_toArray, List.set_cons_succ, List.set_cons_zero]
            refine skA (i := 40) rfl hHeld (some 115) rfl ?_
            try simp only [Act.put, List.setIfInBounds_toArray, List.set_cons_succ, List.set_cons_zero]
            refine skA (i := 41) rfl hHeld (some 116) rfl ?_
            try simp only [Act.put, List.setIfInBounds_toArray, List.set_cons_succ, List.set_cons_zero]
            refine tkA (i := 42) (v := ?v45) rfl hHeld ?hy45 (some 117) rfl ?rest45
            case hy45 => (intro W hSw; obtain ⟨⟨y0, y1, y2, y3, y4⟩, x1, HbW, HLo, HHi⟩ := hSw; go_simp; (try with_reducible rfl))
            try simp only [Act.put, List.setIfInBounds_toArray, List.set_cons_succ, List.set_cons_zero]
            refine anyK_done (by kernel_rfl) ?_ _
            clear hHeld
            go_wp2_with fail
            go_meet
            case rel => exact ⟨by rw [HEq.out]; first | rfl | simp, BC⟩
           | true =>
            refine tkA (i := 15) (v := ?v46) rfl hHeld ?hy46 (some 90) rfl ?rest46
            case hy46 => (intro W hSw; obtain ⟨⟨y0, y1, y2, y3, y4⟩, x1, HbW, HLo, HHi⟩ := hSw; go_simp; (try with_reducible rfl))
            try simp only [Act.put, List.setIfInBounds_toArray, List.set_cons_succ, List.set_cons_zero]
            refine tkA (i := 16) (v := ?v47) rfl hHeld ?hy47 (some 91) rfl ?rest47
            case hy47 => (intro W hSw; obtain ⟨⟨y0, y1, y2, y3, y4⟩, x1, HbW, HLo, HHi⟩ := hSw; go_simp; (try with_reducible rfl))
            try simp only [Act.put, List.setIfInBounds_toArray, List.set_cons_succ, List.set_cons_zero]
            refine tkA (i := 17) (v := ?v48) rfl hHeld ?hy48 (some 92) rfl ?rest48
            case hy48 => (intro W hSw; obtain ⟨⟨y0, y1, y2, y3, y4⟩, x1, HbW, HLo, HHi⟩ := hSw; go_simp; (try with_reducible rfl))
            try simp only [Act.put, List.setIfInBounds_toArray, List.set_cons_succ, List.set_cons_zero]
            refine tkA (i := 18) (v := ?v49) rfl hHeld ?hy49 (some 93) rfl ?rest49
            case hy49 => (intro W hSw; obtain ⟨⟨y0, y1, y2, y3, y4⟩, x1, HbW, HLo, HHi⟩ := hSw; go_simp; (try with_reducible rfl))
            try simp only [Act.put, List.setIfInBounds_toArray, List.set_cons_succ, List.set_cons_zero]
            refine tkA (i := 19) (v := ?v50) rfl hHeld ?hy50 (some 94) rfl ?rest50
            case hy50 => (intro W hSw; obtain ⟨⟨y0, y1, y2, y3, y4⟩, x1, HbW, HLo, HHi⟩ := hSw; go_simp; (try with_reducible rfl))
            try simp only [Act.put, List.setIfInBounds_toArray, List.set_cons_succ, List.set_cons_zero]
            refine tkA (i := 20) (v := ?v51) rfl hHeld ?hy51 (some 95) rfl ?rest51
            case hy51 => (intro W hSw; obtain ⟨⟨y0, y1, y2, y3, y4⟩, x1, HbW, HLo, HHi⟩ := hSw; go_simp; (try with_reducible rfl))
            try simp only [Act.put, List.setIfInBounds_toArray, List.set_cons_succ, List.set_cons_zero]
            refine tkA (i := 21) (v := ?v52) rfl hHeld ?hy52 (some 96) rfl ?rest52
            case hy52 => (intro W hSw; obtain ⟨⟨y0, y1, y2, y3, y4⟩, x1, HbW, HLo, HHi⟩ := hSw; go_simp; (try with_reducible rfl))
            try simp only [Act.put, List.setIfInBounds_toArray, List.set_cons_succ, List.set_cons_zero]
            refine tkA (i := 22) (v := ?v53) rfl hHeld ?hy53 (some 97) rfl ?rest53
            case hy53 => (intro W hSw; obtain ⟨⟨y0, y1, y2, y3, y4⟩, x1, HbW, HLo, HHi⟩ := hSw; go_simp; (try with_reducible rfl))
            try simp only [Act.put, List.setIfInBounds_toArray, List.set_cons_succ, List.set_cons_zero]
            refine skA (i := 23) rfl hHeld (some 98) rfl ?_
            try simp only [Act.put, List.setIfInBounds_toArray, List.set_cons_succ, List.set_cons_zero]
            refine skA (i := 24) rfl hHeld (some 99) rfl ?_
            try simp only [Act.put, List.setIfInBounds_toArray, List.set_cons_succ, List.set_cons_zero]
            refine skA (i := 25) rfl hHeld (some 100) rfl ?_
            try simp only [Act.put, List.setIfInBounds_toArray, List.set_cons_succ, List.set_cons_zero]
            refine skA (i := 26) rfl hHeld (some 101) rfl ?_
            try simp only [Act.put, List.setIfInBounds_toArray, List.set_cons_succ, List.set_cons_zero]
            refine skA (i := 27) rfl hHeld (some 102) rfl ?_
            try simp only [Act.put, List.setIfInBounds_toArray, List.set_cons_succ, List.set_cons_zero]
            refine tkA (i := 28) (v := ?v54) rfl hHeld ?hy54 (some 103) rfl ?rest54
            case hy54 => (intro W hSw; obtain ⟨⟨y0, y1, y2, y3, y4⟩, x1, HbW, HLo, HHi⟩ := hSw; go_simp; (try with_reducible rfl))
            try simp only [Act.put, List.setIfInBounds_toArray, List.set_cons_succ, List.set_cons_zero]
            refine tkA (i := 29) (v := ?v55) rfl hHeld ?hy55 (some 104) rfl ?rest55
            case hy55 => (intro W hSw; obtain ⟨⟨y0, y1, y2, y3, y4⟩, x1, HbW, HLo, HHi⟩ := hSw; go_simp; (try with_reducible rfl))
            try simp only [Act.put, List.setIfInBounds_toArray, List.set_cons_succ, List.set_cons_zero]
            refine tkA (i := 30) (v := ?v56) rfl hHeld ?hy56 (some 105) rfl ?rest56
            case hy56 => (intro W hSw; obtain ⟨⟨y0, y1, y2, y3, y4⟩, x1, HbW, HLo, HHi⟩ := hSw; go_simp; (try with_reducible rfl))
            try simp only [Act.put, List.setIfInBounds_toArray, List.set_cons_succ, List.set_cons_zero]
            refine tkA (i := 31) (v := ?v57) rfl hHeld ?hy57 (some 106) rfl ?rest57
            case hy57 => (intro W hSw; obtain ⟨⟨y0, y1, y2, y3, y4⟩, x1, HbW, HLo, HHi⟩ := hSw; go_simp; (try with_reducible rfl))
            try simp only [Act.put, List.setIfInBounds_toArray, List.set_cons_succ, List.set_cons_zero]
            refine tkA (i := 32) (v := ?v58) rfl hHeld ?hy58 (some 107) rfl ?rest58
            case hy58 => (intro W hSw; obtain ⟨⟨y0, y1, y2, y3, y4⟩, x1, HbW, HLo, HHi⟩ := hSw; go_simp; (try with_reducible rfl))
            try simp only [Act.put, List.setIfInBounds_toArray, List.set_cons_succ, List.set_cons_zero]
            refine tkA (i := 33) (v := ?v59) rfl hHeld ?hy59 (some 108) rfl ?rest59
            case hy59 => (intro W hSw; obtain ⟨⟨y0, y1, y2, y3, y4⟩, x1, HbW, HLo, HHi⟩ := hSw; go_simp; (try with_reducible rfl))
            try simp only [Act.put, List.setIfInBounds_toArray, List.set_cons_succ, List.set_cons_zero]
            refine tkA (i := 34) (v := ?v60) rfl hHeld ?hy60 (some 109) rfl ?rest60
            case hy60 => (intro W hSw; obtain ⟨⟨y0, y1, y2, y3, y4⟩, x1, HbW, HLo, HHi⟩ := hSw; go_simp; (try with_reducible rfl))
            try simp only [Act.put, List.setIfInBounds_toArray, List.set_cons_succ, List.set_cons_zero]
            refine skA (i := 35) rfl hHeld (some 110) rfl ?_
            try simp only [Act.put, List.setIfInBounds_toArray, List.set_cons_succ, List.set_cons_zero]
            refine skA (i := 36) rfl hHeld (some 111) rfl ?_
            try simp only [Act.put, List.setIfInBounds_toArray, List.set_cons_succ, List.set_cons_zero]
            refine skA (i := 37) rfl hHeld (some 112) rfl ?_
            try simp only [Act.put, List.setIfInBounds_toArray, List.set_cons_succ, List.set_cons_zero]
            refine skA (i := 38) rfl hHeld (some 113) rfl ?_
            try simp only [Act.put, List.setIfInBounds_toArray, List.set_cons_succ, List.set_cons_zero]
            refine skA (i := 39) rfl hHeld (some 114) rfl ?_
            try simp only [Act.put, List.setIfInBounds_toArray, List.set_cons_succ, List.set_cons_zero]
            refine skA (i := 40) rfl hHeld (some 115) rfl ?_
            try simp only [Act.put, List.setIfInBounds_toArray, List.set_cons_succ, List.set_cons_zero]
            refine tkA (i := 41) (v := ?v61) rfl hHeld ?hy61 (some 116) rfl ?rest61
            case hy61 => (intro W hSw; obtain ⟨⟨y0, y1, y2, y3, y4⟩, x1, HbW, HLo, HHi⟩ := hSw; go_simp; (try with_reducible rfl))
            try simp only [Act.put, List.setIfInBounds_toArray, List.set_cons_succ, List.set_cons_zero]
            refine tkA (i := 42) (v := ?v62) rfl hHeld ?hy62 (some 117) rfl ?rest62
            case hy62 => (intro W hSw; obtain ⟨⟨y0, y1, y2, y3, y4⟩, x1, HbW, HLo, HHi⟩ := hSw; go_simp; (try with_reducible rfl))
            try simp only [Act.put, List.setIfInBounds_toArray, List.set_cons_succ, List.set_cons_zero]
            refine anyK_done (by kernel_rfl) ?_ _
            clear hHeld
            go_wp2_with fail
            go_meet
            case rel => exact ⟨by rw [HEq.out]; first | rfl | simp, BC⟩
       | some eH =>
        obtain ⟨bH, cH, aH, kH, rfl, bxH, rH, fH, mH⟩ := HSH1.out
        have BXH := hid bxH
        have RXH := hid rH
        clear bxH rH
        as_aux_lemma =>
         have HKp := hid (show ∀ W', Below V2.heap.size V2 W' → (W'.cell? ⟨p14, 0, none⟩ = some (.int .i64 e.K) ∧ W'.cell? ⟨p14, 1, none⟩ = some (.int .i64 e.N) ∧ W'.cell? ⟨p14, 2, none⟩ = some (.float .f64 e.F) ∧ W'.cell? ⟨p14, 3, none⟩ = some (.slice a1 e.Z.length c1) ∧ W'.cell? ⟨p14, 4, none⟩ = some (.int .i64 e.id)) ∧ W'.cell? ⟨p12, 1, none⟩ = some (.slice (some ⟨be, oe, none⟩) n ce) ∧ Hid (Below w0.heap.size w0 W') ∧ True ∧ Hid (Box5 W' bH 0 eH.K eH.N eH.F (.slice aH eH.Z.length kH) eH.id) from fun W' b => by
          have r14 := (b.block p14 HP14.out.1).trans HR14.out
          have b1 := HB2.out.trans (b.mono HB2.out.size)
          have r12 := (b1.block p12 HP12.out.2.1).trans H12.out
          exact ⟨⟨by rw [cell_of_row _ _ _ _ _ _ r14]; rfl, by rw [cell_of_row _ _ _ _ _ _ r14]; rfl, by rw [cell_of_row _ _ _ _ _ _ r14]; rfl, by rw [cell_of_row _ _ _ _ _ _ r14]; rfl, by rw [cell_of_row _ _ _ _ _ _ r14]; rfl⟩, by rw [cell_of_row _ _ _ _ _ _ r12]; rfl, hid (HBW1.out.trans (b1.mono HBW1.out.size)), trivial, hid (BXH.out.below b1 (Nat.le_refl _))⟩)
         have BC := hid ((Still.drew V2).below V2.heap.size)
         refine region_K 99 (fun W => (W.cell? ⟨p14, 0, none⟩ = some (.int .i64 e.K) ∧ W.cell? ⟨p14, 1, none⟩ = some (.int .i64 e.N) ∧ W.cell? ⟨p14, 2, none⟩ = some (.float .f64 e.F) ∧ W.cell? ⟨p14, 3, none⟩ = some (.slice a1 e.Z.length c1) ∧ W.cell? ⟨p14, 4, none⟩ = some (.int .i64 e.id)) ∧ W.cell? ⟨p12, 1, none⟩ = some (.slice (some ⟨be, oe, none⟩) n ce) ∧ Hid (Below w0.heap.size w0 W) ∧ True ∧ Hid (Box5 W bH 0 eH.K eH.N eH.F (.slice aH eH.Z.length kH) eH.id)) (by kernel_rfl) ?_ (fun hHeld => ?_)
         · exact HKp.out _ BC.out
         generalize V2.drew = vd at *
         refine tkA (i := 0) (v := ?v63) rfl hHeld ?hy63 (some 75) rfl ?rest63
         case hy63 => (intro W hSw; obtain ⟨⟨y0, y1, y2, y3, y4⟩, x1, HbW, HLo, HHi⟩ := hSw; go_simp; (try with_reducible rfl))
         try simp only [Act.put, List.setIfInBounds_toArray, List.set_cons_succ, List.set_cons_zero]
         refine anyK_step (i := 1) (by kernel_rfl) rfl (fun KP hK => ?_)
         go_simp
         refine (spec_entry e.K e.N e.F a1 e.Z.length c1 e.id f1 m1 _).mono ?_
         rintro e v1 ⟨rfl, b⟩
         replace BC := hid (BC.out.trans (b.mono BC.out.size))
         clear b
         obtain ⟨EO, hEO⟩ : ∃ EO, entB e.K e.N e.F e.Z.length e.id = EO := ⟨_, rfl⟩
         rw [hEO]
         rw [show entOk e = EO from hEO] at HEq
         clear hEO
         go_wp2_with fail
         clear hHeld
         refine hK.out _ _ (HKp.out _ BC.out) (fun hHeld => ?_)
         clear hK KP
         try simp only [Act.put, List.setIfInBounds_toArray, List.set_cons_succ, List.set_cons_zero]
         cases EO with
         | false =>
          refine tkA (i := 2) (v := ?v64) rfl hHeld ?hy64 (some 77) rfl ?rest64
          case hy64 => (intro W hSw; obtain ⟨⟨y0, y1, y2, y3, y4⟩, x1, HbW, HLo, HHi⟩ := hSw; go_simp; (try with_reducible rfl))
          try simp only [Act.put, List.setIfInBounds_toArray, List.set_cons_succ, List.set_cons_zero]
          refine tkA (i := 3) (v := ?v65) rfl hHeld ?hy65 (some 78) rfl ?rest65
          case hy65 => (intro W hSw; obtain ⟨⟨y0, y1, y2, y3, y4⟩, x1, HbW, HLo, HHi⟩ := hSw; go_simp; (try with_reducible rfl))
          try simp only [Act.put, List.setIfInBounds_toArray, List.set_cons_succ, List.set_cons_zero]
          refine skA (i := 4) rfl hHeld (some 79) rfl ?_
          try simp only [Act.put, List.setIfInBounds_toArray, List.set_cons_succ, List.set_cons_zero]
          refine skA (i := 5) rfl hHeld (some 80) rfl ?_
          try simp only [Act.put, List.setIfInBounds_toArray, List.set_cons_succ, List.set_cons_zero]
          refine skA (i := 6) rfl hHeld (some 81) rfl ?_
          try simp only [Act.put, List.setIfInBounds_toArray, List.set_cons_succ, List.set_cons_zero]
          refine skA (i := 7) rfl hHeld (some 82) rfl ?_
          try simp only [Act.put, List.setIfInBounds_toArray, List.set_cons_succ, List.set_cons_zero]
          refine skA (i := 8) rfl hHeld (some 83) rfl ?_
          try simp only [Act.put, List.setIfInBounds_toArray, List.set_cons_succ, List.set_cons_zero]
          refine skA (i := 9) rfl hHeld (some 84) rfl ?_
          try simp only [Act.put, List.setIfInBounds_toArray, List.set_cons_succ, List.set_cons_zero]
          refine skA (i := 10) rfl hHeld (some 85) rfl ?_
          try simp only [Act.put, List.setIfInBounds_toArray, List.set_cons_succ, List.set_cons_zero]
          refine skA (i := 11) rfl hHeld (some 86) rfl ?_
          try simp only [Act.put, List.setIfInBounds_toArray, List.set_cons_succ, List.set_cons_zero]
          refine skA (i := 12) rfl hHeld (some 87) rfl ?_
          try simp only [Act.put, List.setIfInBounds_toArray, List.set_cons_succ, List.set_cons_zero]
          refine skA (i := 13) rfl hHeld (some 88) rfl ?_
          try simp only [Act.put, List.setIfInBounds_toArray, List.set_cons_succ, List.set_cons_zero]
          refine skA (i := 14) rfl hHeld (some 89) rfl ?_
          try simp only [Act.put, List.setIfInBounds_toArray, List.set_cons_succ, List.set_cons_zero]
          refine skA (i := 15) rfl hHeld (some 90) rfl ?_
          try simp only [Act.put, List.setIfInBounds_toArray, List.set_cons_succ, List.set_cons_zero]
          refine skA (i := 16) rfl hHeld (some 91) rfl ?_
          try simp only [Act.put, List.setIfInBounds_toArray, List.set_cons_succ, List.set_cons_zero]
          refine tkA (i := 17) (v := ?v66) rfl hHeld ?hy66 (some 92) rfl ?rest66
          case hy66 => (intro W hSw; obtain ⟨⟨y0, y1, y2, y3, y4⟩, x1, HbW, HLo, HHi⟩ := hSw; go_simp; (try with_reducible rfl))
          try simp only [Act.put, List.setIfInBounds_toArray, List.set_cons_succ, List.set_cons_zero]
          refine tkA (i := 18) (v := ?v67) rfl hHeld ?hy67 (some 93) rfl ?rest67
          case hy67 => (intro W hSw; obtain ⟨⟨y0, y1, y2, y3, y4⟩, x1, HbW, HLo, HHi⟩ := hSw; go_simp; (try with_reducible rfl))
          try simp only [Act.put, List.setIfInBounds_toArray, List.set_cons_succ, List.set_cons_zero]
          refine skA (i := 19) rfl hHeld (some 94) rfl ?_
          try simp only [Act.put, List.setIfInBounds_toArray, List.set_cons_succ, List.set_cons_zero]
          refine skA (i := 20) rfl hHeld (some 95) rfl ?_
          try simp only [Act.put, List.setIfInBounds_toArray, List.set_cons_succ, List.set_cons_zero]
          refine skA (i := 21) rfl hHeld (some 96) rfl ?_
          try simp only [Act.put, List.setIfInBounds_toArray, List.set_cons_succ, List.set_cons_zero]
          refine skA (i := 22) rfl hHeld (some 97) rfl ?_
          try simp only [Act.put, List.setIfInBounds_toArray, List.set_cons_succ, List.set_cons_zero]
          refine skA (i := 23) rfl hHeld (some 98) rfl ?_
          try simp only [Act.put, List.setIfInBounds_toArray, List.set_cons_succ, List.set_cons_zero]
          refine skA (i := 24) rfl hHeld (some 99) rfl ?_
          try simp only [Act.put, List.setIfInBounds_toArray, List.set_cons_succ, List.set_cons_zero]
          refine skA (i := 25) rfl hHeld (some 100) rfl ?_
          try simp only [Act.put, List.setIfInBounds_toArray, List.set_cons_succ, List.set_cons_zero]
          refine skA (i := 26) rfl hHeld (some 101) rfl ?_
          try simp only [Act.put, List.setIfInBounds_toArray, List.set_cons_succ, List.set_cons_zero]
          refine skA (i := 27) rfl hHeld (some 102) rfl ?_
          try simp only [Act.put, List.setIfInBounds_toArray, List.set_cons_succ, List.set_cons_zero]
          refine skA (i := 28) rfl hHeld (some 103) rfl ?_
          try simp only [Act.put, List.setIfInBounds_toArray, List.set_cons_succ, List.set_cons_zero]
          refine tkA (i := 29) (v := ?v68) rfl hHeld ?hy68 (some 104) rfl ?rest68
          case hy68 => (intro W hSw; obtain ⟨⟨y0, y1, y2, y3, y4⟩, x1, HbW, HLo, HHi⟩ := hSw; go_simp; (try with_reducible rfl))
          try simp only [Act.put, List.setIfInBounds_toArray, List.set_cons_succ, List.set_cons_zero]
          refine tkA (i := 30) (v := ?v69) rfl hHeld ?hy69 (some 105) rfl ?rest69
          case hy69 => (intro W hSw; obtain ⟨⟨y0, y1, y2, y3, y4⟩, x1, HbW, HLo, HHi⟩ := hSw; go_simp; (try with_reducible rfl))
          try simp only [Act.put, List.setIfInBounds_toArray, List.set_cons_succ, List.set_cons_zero]
          refine skA (i := 31) rfl hHeld (some 106) rfl ?_
          try simp only [Act.put, List.setIfInBounds_toArray, List.set_cons_succ, List.set_cons_zero]
          refine skA (i := 32) rfl hHeld (some 107) rfl ?_
          try simp only [Act.put, List.setIfInBounds_toArray, List.set_cons_succ, List.set_cons_zero]
          refine skA (i := 33) rfl hHeld (some 108) rfl ?_
          try simp only [Act.put, List.setIfInBounds_toArray, List.set_cons_succ, List.set_cons_zero]
          refine skA (i := 34) rfl hHeld (some 109) rfl ?_
          try simp only [Act.put, List.setIfInBounds_toArray, List.set_cons_succ, List.set_cons_zero]
          refine skA (i := 35) rfl hHeld (some 110) rfl ?_
          try simp only [Act.put, List.setIfInBounds_toArray, List.set_cons_succ, List.set_cons_zero]
          refine skA (i := 36) rfl hHeld (some 111) rfl ?_
          try simp only [Act.put, List.setIfInBounds_toArray, List.set_cons_succ, List.set_cons_zero]
          refine skA (i := 37) rfl hHeld (some 112) rfl ?_
          try simp only [Act.put, List.setIfInBounds_toArray, List.set_cons_succ, List.set_cons_zero]
          refine skA (i := 38) rfl hHeld (some 113) rfl ?_
          try simp only [Act.put, List.setIfInBounds_toArray, List.set_cons_succ, List.set_cons_zero]
          refine skA (i := 39) rfl hHeld (some 114) rfl ?_
          try simp only [Act.put, List.setIfInBounds_toArray, List.set_cons_succ, List.set_cons_zero]
          refine skA (i := 40) rfl hHeld (some 115) rfl ?_
          try simp only [Act.put, List.setIfInBounds_toArray, List.set_cons_succ, List.set_cons_zero]
          refine skA (i := 41) rfl hHeld (some 116) rfl ?_
          try simp only [Act.put, List.setIfInBounds_toArray, List.set_cons_succ, List.set_cons_zero]
          refine tkA (i := 42) (v := ?v70) rfl hHeld ?hy70 (some 117) rfl ?rest70
          case hy70 => (intro W hSw; obtain ⟨⟨y0, y1, y2, y3, y4⟩, x1, HbW, HLo, HHi⟩ := hSw; go_simp; (try with_reducible rfl))
          try simp only [Act.put, List.setIfInBounds_toArray, List.set_cons_succ, List.set_cons_zero]
          refine anyK_done (by kernel_rfl) ?_ _
          clear hHeld
          go_wp2_with fail
          go_meet
          case rel => exact ⟨by rw [HEq.out]; first | rfl | simp, BC⟩
         | true =>
          refine tkA (i := 2) (v := ?v71) rfl hHeld ?hy71 (some 77) rfl ?rest71
          case hy71 => (intro W hSw; obtain ⟨⟨y0, y1, y2, y3, y4⟩, x1, HbW, HLo, HHi⟩ := hSw; go_simp; (try with_reducible rfl))
          try simp only [Act.put, List.setIfInBounds_toArray, List.set_cons_succ, List.set_cons_zero]
          refine tkA (i := 3) (v := ?v72) rfl hHeld ?hy72 (some 78) rfl ?rest72
          case hy72 => (intro W hSw; obtain ⟨⟨y0, y1, y2, y3, y4⟩, x1, HbW, HLo, HHi⟩ := hSw; go_simp; (try with_reducible rfl))
          try simp only [Act.put, List.setIfInBounds_toArray, List.set_cons_succ, List.set_cons_zero]
          refine tkA (i := 4) (v := ?v73) rfl hHeld ?hy73 (some 79) rfl ?rest73
          case hy73 => (intro W hSw; obtain ⟨⟨y0, y1, y2, y3, y4⟩, x1, HbW, HLo, HHi⟩ := hSw; go_simp; (try with_reducible rfl))
          try simp only [Act.put, List.setIfInBounds_toArray, List.set_cons_succ, List.set_cons_zero]
          by_cases hk1 : kk = 0
          ·
           subst hk1
           refine tkA (i := 5) (v := ?v74) rfl hHeld ?hy74 (some 80) rfl ?rest74
           case hy74 => (intro W hSw; obtain ⟨⟨y0, y1, y2, y3, y4⟩, x1, HbW, HLo, HHi⟩ := hSw; go_simp; (try with_reducible rfl))
           try simp only [Act.put, List.setIfInBounds_toArray, List.set_cons_succ, List.set_cons_zero]
           refine tkA (i := 6) (v := ?v75) rfl hHeld ?hy75 (some 81) rfl ?rest75
           case hy75 => (intro W hSw; obtain ⟨⟨y0, y1, y2, y3, y4⟩, x1, HbW, HLo, HHi⟩ := hSw; go_simp; (try with_reducible rfl))
           try simp only [Act.put, List.setIfInBounds_toArray, List.set_cons_succ, List.set_cons_zero]
           refine skA (i := 7) rfl hHeld (some 82) rfl ?_
           try simp only [Act.put, List.setIfInBounds_toArray, List.set_cons_succ, List.set_cons_zero]
           refine skA (i := 8) rfl hHeld (some 83) rfl ?_
           try simp only [Act.put, List.setIfInBounds_toArray, List.set_cons_succ, List.set_cons_zero]
           refine skA (i := 9) rfl hHeld (some 84) rfl ?_
           try simp only [Act.put, List.setIfInBounds_toArray, List.set_cons_succ, List.set_cons_zero]
           refine skA (i := 10) rfl hHeld (some 85) rfl ?_
           try simp only [Act.put, List.setIfInBounds_toArray, List.set_cons_succ, List.set_cons_zero]
           refine skA (i := 11) rfl hHeld (some 86) rfl ?_
           try simp only [Act.put, List.setIfInBounds_toArray, List.set_cons_succ, List.set_cons_zero]
           refine skA (i := 12) rfl hHeld (some 87) rfl ?_
           try simp only [Act.put, List.setIfInBounds_toArray, List.set_cons_succ, List.set_cons_zero]
           refine skA (i := 13) rfl hHeld (some 88) rfl ?_
           try simp only [Act.put, List.setIfInBounds_toArray, List.set_cons_succ, List.set_cons_zero]
           refine skA (i := 14) rfl hHeld (some 89) rfl ?_
           try simp only [Act.put, List.setIfInBounds_toArray, List.set_cons_succ, List.set_cons_zero]
           refine skA (i := 15) rfl hHeld (some 90) rfl ?_
           try simp only [Act.put, List.setIfInBounds_toArray, List.set_cons_succ, List.set_cons_zero]
           refine tkA (i := 16) (v := ?v76) rfl hHeld ?hy76 (some 91) rfl ?rest76
           case hy76 => (intro W hSw; obtain ⟨⟨y0, y1, y2, y3, y4⟩, x1, HbW, HLo, HHi⟩ := hSw; go_simp; (try with_reducible rfl))
           try simp only [Act.put, List.setIfInBounds_toArray, List.set_cons_succ, List.set_cons_zero]
           refine tkA (i := 17) (v := ?v77) rfl hHeld ?hy77 (some 92) rfl ?rest77
           case hy77 => (intro W hSw; obtain ⟨⟨y0, y1, y2, y3, y4⟩, x1, HbW, HLo, HHi⟩ := hSw; go_simp; (try with_reducible rfl))
           try simp only [Act.put, List.setIfInBounds_toArray, List.set_cons_succ, List.set_cons_zero]
           refine tkA (i := 18) (v := ?v78) rfl hHeld ?hy78 (some 93) rfl ?rest78
           case hy78 => (intro W hSw; obtain ⟨⟨y0, y1, y2, y3, y4⟩, x1, HbW, HLo, HHi⟩ := hSw; go_simp; (try with_reducible rfl))
           try simp only [Act.put, List.setIfInBounds_toArray, List.set_cons_succ, List.set_cons_zero]
           refine tkA (i := 19) (v := ?v79) rfl hHeld ?hy79 (some 94) rfl ?rest79
           case hy79 => (intro W hSw; obtain ⟨⟨y0, y1, y2, y3, y4⟩, x1, HbW, HLo, HHi⟩ := hSw; go_simp; (try with_reducible rfl))
           try simp only [Act.put, List.setIfInBounds_toArray, List.set_cons_succ, List.set_cons_zero]
           refine tkA (i := 20) (v := ?v80) rfl hHeld ?hy80 (some 95) rfl ?rest80
           case hy80 => (intro W hSw; obtain ⟨⟨y0, y1, y2, y3, y4⟩, x1, HbW, HLo, HHi⟩ := hSw; go_simp; (try with_reducible rfl))
           try simp only [Act.put, List.setIfInBounds_toArray, List.set_cons_succ, List.set_cons_zero]
           refine tkA (i := 21) (v := ?v81) rfl hHeld ?hy81 (some 96) rfl ?rest81
           case hy81 => (intro W hSw; obtain ⟨⟨y0, y1, y2, y3, y4⟩, x1, HbW, HLo, HHi⟩ := hSw; go_simp; (try with_reducible rfl))
           try simp only [Act.put, List.setIfInBounds_toArray, List.set_cons_succ, List.set_cons_zero]
           refine tkA (i := 22) (v := ?v82) rfl hHeld ?hy82 (some 97) rfl ?rest82
           case hy82 => (intro W hSw; obtain ⟨⟨y0, y1, y2, y3, y4⟩, x1, HbW, HLo, HHi⟩ := hSw; go_simp; (try with_reducible rfl))
           try simp only [Act.put, List.setIfInBounds_toArray, List.set_cons_succ, List.set_cons_zero]
           refine skA (i := 23) rfl hHeld (some 98) rfl ?_
           try simp only [Act.put, List.setIfInBounds_toArray, List.set_cons_succ, List.set_cons_zero]
           refine skA (i := 24) rfl hHeld (some 99) rfl ?_
           try simp only [Act.put, List.setIfInBounds_toArray, List.set_cons_succ, List.set_cons_zero]
           refine skA (i := 25) rfl hHeld (some 100) rfl ?_
           try simp only [Act.put, List.setIfInBounds_toArray, List.set_cons_succ, List.set_cons_zero]
           refine skA (i := 26) rfl hHeld (some 101) rfl ?_
           try simp only [Act.put, List.setIfInBounds_toArray, List.set_cons_succ, List.set_cons_zero]
           refine skA (i := 27) rfl hHeld (some 102) rfl ?_
           try simp only [Act.put, List.setIfInBounds_toArray, List.set_cons_succ, List.set_cons_zero]
           refine tkA (i := 28) (v := ?v83) rfl hHeld ?hy83 (some 103) rfl ?rest83
           case hy83 => (intro W hSw; obtain ⟨⟨y0, y1, y2, y3, y4⟩, x1, HbW, HLo, HHi⟩ := hSw; go_simp; (try with_reducible rfl))
           try simp only [Act.put, List.setIfInBounds_toArray, List.set_cons_succ, List.set_cons_zero]
           refine tkA (i := 29) (v := ?v84) rfl hHeld ?hy84 (some 104) rfl ?rest84
           case hy84 => (intro W hSw; obtain ⟨⟨y0, y1, y2, y3, y4⟩, x1, HbW, HLo, HHi⟩ := hSw; go_simp; (try with_reducible rfl))
           try simp only [Act.put, List.setIfInBounds_toArray, List.set_cons_succ, List.set_cons_zero]
           refine tkA (i := 30) (v := ?v85) rfl hHeld ?hy85 (some 105) rfl ?rest85
           case hy85 => (intro W hSw; obtain ⟨⟨y0, y1, y2, y3, y4⟩, x1, HbW, HLo, HHi⟩ := hSw; go_simp; (try with_reducible rfl))
           try simp only [Act.put, List.setIfInBounds_toArray, List.set_cons_succ, List.set_cons_zero]
           refine tkA (i := 31) (v := ?v86) rfl hHeld ?hy86 (some 106) rfl ?rest86
           case hy86 => (intro W hSw; obtain ⟨⟨y0, y1, y2, y3, y4⟩, x1, HbW, HLo, HHi⟩ := hSw; go_simp; (try with_reducible rfl))
           try simp only [Act.put, List.setIfInBounds_toArray, List.set_cons_succ, List.set_cons_zero]
           refine tkA (i := 32) (v := ?v87) rfl hHeld ?hy87 (some 107) rfl ?rest87
           case hy87 => (intro W hSw; obtain ⟨⟨y0, y1, y2, y3, y4⟩, x1, HbW, HLo, HHi⟩ := hSw; go_simp; (try with_reducible rfl))
           try simp only [Act.put, List.setIfInBounds_toArray, List.set_cons_succ, List.set_cons_zero]
           refine tkA (i := 33) (v := ?v88) rfl hHeld ?hy88 (some 108) rfl ?rest88
           case hy88 => (intro W hSw; obtain ⟨⟨y0, y1, y2, y3, y4⟩, x1, HbW, HLo, HHi⟩ := hSw; go_simp; (try with_reducible rfl))
           try simp only [Act.put, List.setIfInBounds_toArray, List.set_cons_succ, List.set_cons_zero]
           refine tkA (i := 34) (v := ?v89) rfl hHeld ?hy89 (some 109) rfl ?rest89
           case hy89 => (intro W hSw; obtain ⟨⟨y0, y1, y2, y3, y4⟩, x1, HbW, HLo, HHi⟩ := hSw; go_simp; (try with_reducible rfl))
           try simp only [Act.put, List.setIfInBounds_toArray, List.set_cons_succ, List.set_cons_zero]
           refine tkA (i := 35) (v := ?v90) rfl hHeld ?hy90 (some 110) rfl ?rest90
           case hy90 => (intro W hSw; obtain ⟨⟨y0, y1, y2, y3, y4⟩, x1, HbW, HLo, HHi⟩ := hSw; go_simp; (try with_reducible rfl))
           try simp only [Act.put, List.setIfInBounds_toArray, List.set_cons_succ, List.set_cons_zero]
           refine tkA (i := 36) (v := ?v91) rfl hHeld ?hy91 (some 111) rfl ?rest91
           case hy91 => (intro W hSw; obtain ⟨⟨y0, y1, y2, y3, y4⟩, x1, HbW, HLo, HHi⟩ := hSw; go_simp; (try with_reducible rfl))
           try simp only [Act.put, List.setIfInBounds_toArray, List.set_cons_succ, List.set_cons_zero]
           refine tkA (i := 37) (v := ?v92) rfl hHeld ?hy92 (some 112) rfl ?rest92
           case hy92 => (intro W hSw; obtain ⟨⟨y0, y1, y2, y3, y4⟩, x1, HbW, HLo, HHi⟩ := hSw; go_simp; (try with_reducible rfl))
           try simp only [Act.put, List.setIfInBounds_toArray, List.set_cons_succ, List.set_cons_zero]
           refine tkA (i := 38) (v := ?v93) rfl hHeld ?hy93 (some 113) rfl ?rest93
           case hy93 => (intro W hSw; obtain ⟨⟨y0, y1, y2, y3, y4⟩, x1, HbW, HLo, HHi⟩ := hSw; obtain ⟨q0, q1, q2, q3, q4⟩ := HHi.out; go_simp; (try with_reducible rfl))
           try simp only [Act.put, List.setIfInBounds_toArray, List.set_cons_succ, List.set_cons_zero]
           refine anyK_step (i := 39) (by kernel_rfl) rfl (fun KP hK => ?_)
           go_simp
           refine (spec_less e.K e.N e.F c1 e.id eH.K eH.N eH.F kH eH.id f1 fH (HR1.out.below (HKp.out _ BC.out).2.2.1.out (Nat.le_refl _)) (RXH.out.below (HKp.out _ BC.out).2.2.1.out (Nat.le_refl _)) m1 mH).mono ?_
           rintro e v4 ⟨rfl, b⟩
           replace BC := hid (BC.out.trans (b.mono BC.out.size))
           clear b
           obtain ⟨HT, hHT⟩ : ∃ HT, ltB (cmpI e.K e.N e.F e.Z.length e.Z eH.K eH.N eH.F eH.Z.length eH.Z) e.id eH.id = HT := ⟨_, rfl⟩
           rw [hHT]
           rw [show hiB (some eH) e = HT from hHT] at HEq
           clear hHT
           go_wp2_with fail
           clear hHeld
           refine hK.out _ _ (HKp.out _ BC.out) (fun hHeld => ?_)
           clear hK KP
           try simp only [Act.put, List.setIfInBounds_toArray, List.set_cons_succ, List.set_cons_zero]
           cases HT with
           | false =>
            refine tkA (i := 40) (v := ?v94) rfl hHeld ?hy94 (some 115) rfl ?rest94
            case hy94 => (intro W hSw; obtain ⟨⟨y0, y1, y2, y3, y4⟩, x1, HbW, HLo, HHi⟩ := hSw; go_simp; (try with_reducible rfl))
            try simp only [Act.put, List.setIfInBounds_toArray, List.set_cons_succ, List.set_cons_zero]
            refine tkA (i := 41) (v := ?v95) rfl hHeld ?hy95 (some 116) rfl ?rest95
            case hy95 => (intro W hSw; obtain ⟨⟨y0, y1, y2, y3, y4⟩, x1, HbW, HLo, HHi⟩ := hSw; go_simp; (try with_reducible rfl))
            try simp only [Act.put, List.setIfInBounds_toArray, List.set_cons_succ, List.set_cons_zero]
            refine tkA (i := 42) (v := ?v96) rfl hHeld ?hy96 (some 117) rfl ?rest96
            case hy96 => (intro W hSw; obtain ⟨⟨y0, y1, y2, y3, y4⟩, x1, HbW, HLo, HHi⟩ := hSw; go_simp; (try with_reducible rfl))
            try simp only [Act.put, List.setIfInBounds_toArray, List.set_cons_succ, List.set_cons_zero]
            refine anyK_done (by kernel_rfl) ?_ _
            clear hHeld
            go_wp2_with fail
            go_meet
            case rel => exact ⟨by rw [HEq.out]; first | rfl | simp, BC⟩
           | true =>
            refine tkA (i := 40) (v := ?v97) rfl hHeld ?hy97 (some 115) rfl ?rest97
            case hy97 => (intro W hSw; obtain ⟨⟨y0, y1, y2, y3, y4⟩, x1, HbW, HLo, HHi⟩ := hSw; go_simp; (try with_reducible rfl))
            try simp only [Act.put, List.setIfInBounds_toArray, List.set_cons_succ, List.set_cons_zero]
            refine tkA (i := 41) (v := ?v98) rfl hHeld ?hy98 (some 116) rfl ?rest98
            case hy98 => (intro W hSw; obtain ⟨⟨y0, y1, y2, y3, y4⟩, x1, HbW, HLo, HHi⟩ := hSw; go_simp; (try with_reducible rfl))
            try simp only [Act.put, List.setIfInBounds_toArray, List.set_cons_succ, List.set_cons_zero]
            refine tkA (i := 42) (v := ?v99) rfl hHeld ?hy99 (some 117) rfl ?rest99
            case hy99 => (intro W hSw; obtain ⟨⟨y0, y1, y2, y3, y4⟩, x1, HbW, HLo, HHi⟩ := hSw; go_simp; (try with_reducible rfl))
            try simp only [Act.put, List.setIfInBounds_toArray, List.set_cons_succ, List.set_cons_zero]
            refine anyK_done (by kernel_rfl) ?_ _
            clear hHeld
            go_wp2_with fail
            go_meet
            case rel => exact ⟨by rw [HEq.out]; first | rfl | simp, BC⟩
          ·
           have hk2 : (0 : Int) < (kk : Int) := by omega
           have hk3 : 0 < kk := by omega
           have h1' : (kk : Int) - 1 < (n : Int) := by omega
           have h2' : (0 : Int) ≤ (kk : Int) - 1 := by omega
           have h3' : ((kk : Int) - 1).toNat = kk - 1 := by omega
           have hwr : IntKind.i64.wrap ((kk : Int) - 1) = ((kk - 1 : Nat) : Int) := by rw [IntKind.wrap_i64]; omega
           have h1n : ((kk - 1 : Nat) : Int) < (n : Int) := by omega
           obtain ⟨be', oe', a0, c0, e0', bxp, rp, _, _, f0⟩ := HRe.out.at (k := kk - 1) (by rw [HNn.out]; omega)
           obtain ⟨rfl, rfl⟩ : be = be' ∧ oe = oe' := by simpa using e0'
           have m0 := HMd.out (kk - 1)
           rw [decide_eq_false hk1, Bool.false_or] at HEq
           obtain ⟨x, hx⟩ : ∃ x, d.es.getD (kk - 1) en0 = x := ⟨_, rfl⟩
           rw [hx] at bxp rp f0 m0 HEq
           have BXP := hid bxp
           have RXP := hid rp
           clear bxp rp e0' hx hk1
           refine tkA (i := 5) (v := ?v100) rfl hHeld ?hy100 (some 80) rfl ?rest100
           case hy100 => (intro W hSw; obtain ⟨⟨y0, y1, y2, y3, y4⟩, x1, HbW, HLo, HHi⟩ := hSw; go_simp; (try with_reducible rfl))
           try simp only [Act.put, List.setIfInBounds_toArray, List.set_cons_succ, List.set_cons_zero]
           refine tkA (i := 6) (v := ?v101) rfl hHeld ?hy101 (some 81) rfl ?rest101
           case hy101 => (intro W hSw; obtain ⟨⟨y0, y1, y2, y3, y4⟩, x1, HbW, HLo, HHi⟩ := hSw; go_simp; (try with_reducible rfl))
           try simp only [Act.put, List.setIfInBounds_toArray, List.set_cons_succ, List.set_cons_zero]
           refine tkA (i := 7) (v := ?v102) rfl hHeld ?hy102 (some 82) rfl ?rest102
           case hy102 => (intro W hSw; obtain ⟨⟨y0, y1, y2, y3, y4⟩, x1, HbW, HLo, HHi⟩ := hSw; go_simp; (try with_reducible rfl))
           try simp only [Act.put, List.setIfInBounds_toArray, List.set_cons_succ, List.set_cons_zero]
           refine tkA (i := 8) (v := ?v103) rfl hHeld ?hy103 (some 83) rfl ?rest103
           case hy103 => (intro W hSw; obtain ⟨⟨y0, y1, y2, y3, y4⟩, x1, HbW, HLo, HHi⟩ := hSw; go_simp; (try with_reducible rfl))
           try simp only [Act.put, List.setIfInBounds_toArray, List.set_cons_succ, List.set_cons_zero]
           refine tkA (i := 9) (v := ?v104) rfl hHeld ?hy104 (some 84) rfl ?rest104
           case hy104 => (intro W hSw; obtain ⟨⟨y0, y1, y2, y3, y4⟩, x1, HbW, HLo, HHi⟩ := hSw; go_simp; (try with_reducible rfl))
           try simp only [Act.put, List.setIfInBounds_toArray, List.set_cons_succ, List.set_cons_zero]
           refine tkA (i := 10) (v := ?v105) rfl hHeld ?hy105 (some 85) rfl ?rest105
           case hy105 => (intro W hSw; obtain ⟨⟨y0, y1, y2, y3, y4⟩, x1, HbW, HLo, HHi⟩ := hSw; go_simp; (try with_reducible rfl))
           try simp only [Act.put, List.setIfInBounds_toArray, List.set_cons_succ, List.set_cons_zero]
           refine tkA (i := 11) (v := ?v106) rfl hHeld ?hy106 (some 86) rfl ?rest106
           case hy106 => (intro W hSw; obtain ⟨⟨y0, y1, y2, y3, y4⟩, x1, HbW, HLo, HHi⟩ := hSw; go_simp; (try with_reducible rfl))
           try simp only [Act.put, List.setIfInBounds_toArray, List.set_cons_succ, List.set_cons_zero]
           refine tkA (i := 12) (v := ?v107) rfl hHeld ?hy107 (some 87) rfl ?rest107
           case hy107 => (intro W hSw; obtain ⟨⟨y0, y1, y2, y3, y4⟩, x1, HbW, HLo, HHi⟩ := hSw; obtain ⟨q0, q1, q2, q3, q4⟩ := BXP.out.below HbW.out (Nat.le_refl _); go_simp; (try with_reducible rfl))
           try simp only [Act.put, List.setIfInBounds_toArray, List.set_cons_succ, List.set_cons_zero]
           refine tkA (i := 13) (v := ?v108) rfl hHeld ?hy108 (some 88) rfl ?rest108
           case hy108 => (intro W hSw; obtain ⟨⟨y0, y1, y2, y3, y4⟩, x1, HbW, HLo, HHi⟩ := hSw; go_simp; (try with_reducible rfl))
           try simp only [Act.put, List.setIfInBounds_toArray, List.set_cons_succ, List.set_cons_zero]
           refine anyK_step (i := 14) (by kernel_rfl) rfl (fun KP hK => ?_)
           go_simp
           refine (spec_less x.K x.N x.F c0 x.id e.K e.N e.F c1 e.id f0 f1 (RXP.out.below (HKp.out _ BC.out).2.2.1.out (Nat.le_refl _)) (HR1.out.below (HKp.out _ BC.out).2.2.1.out (Nat.le_refl _)) m0 m1).mono ?_
           rintro e v2 ⟨rfl, b⟩
           replace BC := hid (BC.out.trans (b.mono BC.out.size))
           clear b
           obtain ⟨LT, hLT⟩ : ∃ LT, ltB (cmpI x.K x.N x.F x.Z.length x.Z e.K e.N e.F e.Z.length e.Z) x.id e.id = LT := ⟨_, rfl⟩
           rw [hLT]
           rw [show ltE x e = LT from hLT] at HEq
           clear hLT
           go_wp2_with fail
           clear hHeld
           refine hK.out _ _ (HKp.out _ BC.out) (fun hHeld => ?_)
           clear hK KP
           try simp only [Act.put, List.setIfInBounds_toArray, List.set_cons_succ, List.set_cons_zero]
           cases LT with
           | false =>
            refine tkA (i := 15) (v := ?v109) rfl hHeld ?hy109 (some 90) rfl ?rest109
            case hy109 => (intro W hSw; obtain ⟨⟨y0, y1, y2, y3, y4⟩, x1, HbW, HLo, HHi⟩ := hSw; go_simp; (try with_reducible rfl))
            try simp only [Act.put, List.setIfInBounds_toArray, List.set_cons_succ, List.set_cons_zero]
            refine tkA (i := 16) (v := ?v110) rfl hHeld ?hy110 (some 91) rfl ?rest110
            case hy110 => (intro W hSw; obtain ⟨⟨y0, y1, y2, y3, y4⟩, x1, HbW, HLo, HHi⟩ := hSw; go_simp; (try with_reducible rfl))
            try simp only [Act.put, List.setIfInBounds_toArray, List.set_cons_succ, List.set_cons_zero]
            refine tkA (i := 17) (v := ?v111) rfl hHeld ?hy111 (some 92) rfl ?rest111
            case hy111 => (intro W hSw; obtain ⟨⟨y0, y1, y2, y3, y4⟩, x1, HbW, HLo, HHi⟩ := hSw; go_simp; (try with_reducible rfl))
            try simp only [Act.put, List.setIfInBounds_toArray, List.set_cons_succ, List.set_cons_zero]
            refine tkA (i := 18) (v := ?v112) rfl hHeld ?hy112 (some 93) rfl ?rest112
            case hy112 => (intro W hSw; obtain ⟨⟨y0, y1, y2, y3, y4⟩, x1, HbW, HLo, HHi⟩ := hSw; go_simp; (try with_reducible rfl))
            try simp only [Act.put, List.setIfInBounds_toArray, List.set_cons_succ, List.set_cons_zero]
            refine skA (i := 19) rfl hHeld (some 94) rfl ?_
            try simp only [Act.put, List.setIfInBounds_toArray, List.set_cons_succ, List.set_cons_zero]
            refine skA (i := 20) rfl hHeld (some 95) rfl ?_
            try simp only [Act.put, List.setIfInBounds_toArray, List.set_cons_succ, List.set_cons_zero]
            refine skA (i := 21) rfl hHeld (some 96) rfl ?_
            try simp only [Act.put, List.setIfInBounds_toArray, List.set_cons_succ, List.set_cons_zero]
            refine skA (i := 22) rfl hHeld (some 97) rfl ?_
            try simp only [Act.put, List.setIfInBounds_toArray, List.set_cons_succ, List.set_cons_zero]
            refine skA (i := 23) rfl hHeld (some 98) rfl ?_
            try simp only [Act.put, List.setIfInBounds_toArray, List.set_cons_succ, List.set_cons_zero]
            refine skA (i := 24) rfl hHeld (some 99) rfl ?_
            try simp only [Act.put, List.setIfInBounds_toArray, List.set_cons_succ, List.set_cons_zero]
            refine skA (i := 25) rfl hHeld (some 100) rfl ?_
            try simp only [Act.put, List.setIfInBounds_toArray, List.set_cons_succ, List.set_cons_zero]
            refine skA (i := 26) rfl hHeld (some 101) rfl ?_
            try simp only [Act.put, List.setIfInBounds_toArray, List.set_cons_succ, List.set_cons_zero]
            refine skA (i := 27) rfl hHeld (some 102) rfl ?_
            try simp only [Act.put, List.setIfInBounds_toArray, List.set_cons_succ, List.set_cons_zero]
            refine skA (i := 28) rfl hHeld (some 103) rfl ?_
            try simp only [Act.put, List.setIfInBounds_toArray, List.set_cons_succ, List.set_cons_zero]
            refine tkA (i := 29) (v := ?v113) rfl hHeld ?hy113 (some 104) rfl ?rest113
            case hy113 => (intro W hSw; obtain ⟨⟨y0, y1, y2, y3, y4⟩, x1, HbW, HLo, HHi⟩ := hSw; go_simp; (try with_reducible rfl))
            try simp only [Act.put, List.setIfInBounds_toArray, List.set_cons_succ, List.set_cons_zero]
            refine tkA (i := 30) (v := ?v114) rfl hHeld ?hy114 (some 105) rfl ?rest114
            case hy114 => (intro W hSw; obtain ⟨⟨y0, y1, y2, y3, y4⟩, x1, HbW, HLo, HHi⟩ := hSw; go_simp; (try with_reducible rfl))
            try simp only [Act.put, List.setIfInBounds_toArray, List.set_cons_succ, List.set_cons_zero]
            refine skA (i := 31) rfl hHeld (some 106) rfl ?_
            try simp only [Act.put, List.setIfInBounds_toArray, List.set_cons_succ, List.set_cons_zero]
            refine skA (i := 32) rfl hHeld (some 107) rfl ?_
            try simp only [Act.put, List.setIfInBounds_toArray, List.set_cons_succ, List.set_cons_zero]
            refine skA (i := 33) rfl hHeld (some 108) rfl ?_
            try simp only [Act.put, List.setIfInBounds_toArray, List.set_cons_succ, List.set_cons_zero]
            refine skA (i := 34) rfl hHeld (some 109) rfl ?_
            try simp only [Act.put, List.setIfInBounds_toArray, List.set_cons_succ, List.set_cons_zero]
            refine skA (i := 35) rfl hHeld (some 110) rfl ?_
            try simp only [Act.put, List.setIfInBounds_toArray, List.set_cons_succ, List.set_cons_zero]
            refine skA (i := 36) rfl hHeld (some 111) rfl ?_
            try simp only [Act.put, List.setIfInBounds_toArray, List.set_cons_succ, List.set_cons_zero]
            refine skA (i := 37) rfl hHeld (some 112) rfl ?_
            try simp only [Act.put, List.setIfInBounds_toArray, List.set_cons_succ, List.set_cons_zero]
            refine skA (i := 38) rfl hHeld (some 113) rfl ?_
            try simp only [Act.put, List.setIfInBounds_toArray, List.set_cons_succ, List.set_cons_zero]
            refine skA (i := 39) rfl hHeld (some 114) rfl ?_
            try simp only [Act.put, List.setIfInBounds_toArray, List.set_cons_succ, List.set_cons_zero]
            refine skA (i := 40) rfl hHeld (some 115) rfl ?_
            try simp only [Act.put, List.setIfInBounds_toArray, List.set_cons_succ, List.set_cons_zero]
            refine skA (i := 41) rfl hHeld (some 116) rfl ?_
            try simp only [Act.put, List.setIfInBounds_toArray, List.set_cons_succ, List.set_cons_zero]
            refine tkA (i := 42) (v := ?v115) rfl hHeld ?hy115 (some 117) rfl ?rest115
            case hy115 => (intro W hSw; obtain ⟨⟨y0, y1, y2, y3, y4⟩, x1, HbW, HLo, HHi⟩ := hSw; go_simp; (try with_reducible rfl))
            try simp only [Act.put, List.setIfInBounds_toArray, List.set_cons_succ, List.set_cons_zero]
            refine anyK_done (by kernel_rfl) ?_ _
            clear hHeld
            go_wp2_with fail
            go_meet
            case rel => exact ⟨by rw [HEq.out]; first | rfl | simp, BC⟩
           | true =>
            refine tkA (i := 15) (v := ?v116) rfl hHeld ?hy116 (some 90) rfl ?rest116
            case hy116 => (intro W hSw; obtain ⟨⟨y0, y1, y2, y3, y4⟩, x1, HbW, HLo, HHi⟩ := hSw; go_simp; (try with_reducible rfl))
            try simp only [Act.put, List.setIfInBounds_toArray, List.set_cons_succ, List.set_cons_zero]
            refine tkA (i := 16) (v := ?v117) rfl hHeld ?hy117 (some 91) rfl ?rest117
            case hy117 => (intro W hSw; obtain ⟨⟨y0, y1, y2, y3, y4⟩, x1, HbW, HLo, HHi⟩ := hSw; go_simp; (try with_reducible rfl))
            try simp only [Act.put, List.setIfInBounds_toArray, List.set_cons_succ, List.set_cons_zero]
            refine tkA (i := 17) (v := ?v118) rfl hHeld ?hy118 (some 92) rfl ?rest118
            case hy118 => (intro W hSw; obtain ⟨⟨y0, y1, y2, y3, y4⟩, x1, HbW, HLo, HHi⟩ := hSw; go_simp; (try with_reducible rfl))
            try simp only [Act.put, List.setIfInBounds_toArray, List.set_cons_succ, List.set_cons_zero]
            refine tkA (i := 18) (v := ?v119) rfl hHeld ?hy119 (some 93) rfl ?rest119
            case hy119 => (intro W hSw; obtain ⟨⟨y0, y1, y2, y3, y4⟩, x1, HbW, HLo, HHi⟩ := hSw; go_simp; (try with_reducible rfl))
            try simp only [Act.put, List.setIfInBounds_toArray, List.set_cons_succ, List.set_cons_zero]
            refine tkA (i := 19) (v := ?v120) rfl hHeld ?hy120 (some 94) rfl ?rest120
            case hy120 => (intro W hSw; obtain ⟨⟨y0, y1, y2, y3, y4⟩, x1, HbW, HLo, HHi⟩ := hSw; go_simp; (try with_reducible rfl))
            try simp only [Act.put, List.setIfInBounds_toArray, List.set_cons_succ, List.set_cons_zero]
            refine tkA (i := 20) (v := ?v121) rfl hHeld ?hy121 (some 95) rfl ?rest121
            case hy121 => (intro W hSw; obtain ⟨⟨y0, y1, y2, y3, y4⟩, x1, HbW, HLo, HHi⟩ := hSw; go_simp; (try with_reducible rfl))
            try simp only [Act.put, List.setIfInBounds_toArray, List.set_cons_succ, List.set_cons_zero]
            refine tkA (i := 21) (v := ?v122) rfl hHeld ?hy122 (some 96) rfl ?rest122
            case hy122 => (intro W hSw; obtain ⟨⟨y0, y1, y2, y3, y4⟩, x1, HbW, HLo, HHi⟩ := hSw; go_simp; (try with_reducible rfl))
            try simp only [Act.put, List.setIfInBounds_toArray, List.set_cons_succ, List.set_cons_zero]
            refine tkA (i := 22) (v := ?v123) rfl hHeld ?hy123 (some 97) rfl ?rest123
            case hy123 => (intro W hSw; obtain ⟨⟨y0, y1, y2, y3, y4⟩, x1, HbW, HLo, HHi⟩ := hSw; go_simp; (try with_reducible rfl))
            try simp only [Act.put, List.setIfInBounds_toArray, List.set_cons_succ, List.set_cons_zero]
            refine skA (i := 23) rfl hHeld (some 98) rfl ?_
            try simp only [Act.put, List.setIfInBounds_toArray, List.set_cons_succ, List.set_cons_zero]
            refine skA (i := 24) rfl hHeld (some 99) rfl ?_
            try simp only [Act.put, List.setIfInBounds_toArray, List.set_cons_succ, List.set_cons_zero]
            refine skA (i := 25) rfl hHeld (some 100) rfl ?_
            try simp only [Act.put, List.setIfInBounds_toArray, List.set_cons_succ, List.set_cons_zero]
            refine skA (i := 26) rfl hHeld (some 101) rfl ?_
            try simp only [Act.put, List.setIfInBounds_toArray, List.set_cons_succ, List.set_cons_zero]
            refine skA (i := 27) rfl hHeld (some 102) rfl ?_
            try simp only [Act.put, List.setIfInBounds_toArray, List.set_cons_succ, List.set_cons_zero]
            refine tkA (i := 28) (v := ?v124) rfl hHeld ?hy124 (some 103) rfl ?rest124
            case hy124 => (intro W hSw; obtain ⟨⟨y0, y1, y2, y3, y4⟩, x1, HbW, HLo, HHi⟩ := hSw; go_simp; (try with_reducible rfl))
            try simp only [Act.put, List.setIfInBounds_toArray, List.set_cons_succ, List.set_cons_zero]
            refine tkA (i := 29) (v := ?v125) rfl hHeld ?hy125 (some 104) rfl ?rest125
            case hy125 => (intro W hSw; obtain ⟨⟨y0, y1, y2, y3, y4⟩, x1, HbW, HLo, HHi⟩ := hSw; go_simp; (try with_reducible rfl))
            try simp only [Act.put, List.setIfInBounds_toArray, List.set_cons_succ, List.set_cons_zero]
            refine tkA (i := 30) (v := ?v126) rfl hHeld ?hy126 (some 105) rfl ?rest126
            case hy126 => (intro W hSw; obtain ⟨⟨y0, y1, y2, y3, y4⟩, x1, HbW, HLo, HHi⟩ := hSw; go_simp; (try with_reducible rfl))
            try simp only [Act.put, List.setIfInBounds_toArray, List.set_cons_succ, List.set_cons_zero]
            refine tkA (i := 31) (v := ?v127) rfl hHeld ?hy127 (some 106) rfl ?rest127
            case hy127 => (intro W hSw; obtain ⟨⟨y0, y1, y2, y3, y4⟩, x1, HbW, HLo, HHi⟩ := hSw; go_simp; (try with_reducible rfl))
            try simp only [Act.put, List.setIfInBounds_toArray, List.set_cons_succ, List.set_cons_zero]
            refine tkA (i := 32) (v := ?v128) rfl hHeld ?hy128 (some 107) rfl ?rest128
            case hy128 => (intro W hSw; obtain ⟨⟨y0, y1, y2, y3, y4⟩, x1, HbW, HLo, HHi⟩ := hSw; go_simp; (try with_reducible rfl))
            try simp only [Act.put, List.setIfInBounds_toArray, List.set_cons_succ, List.set_cons_zero]
            refine tkA (i := 33) (v := ?v129) rfl hHeld ?hy129 (some 108) rfl ?rest129
            case hy129 => (intro W hSw; obtain ⟨⟨y0, y1, y2, y3, y4⟩, x1, HbW, HLo, HHi⟩ := hSw; go_simp; (try with_reducible rfl))
            try simp only [Act.put, List.setIfInBounds_toArray, List.set_cons_succ, List.set_cons_zero]
            refine tkA (i := 34) (v := ?v130) rfl hHeld ?hy130 (some 109) rfl ?rest130
            case hy130 => (intro W hSw; obtain ⟨⟨y0, y1, y2, y3, y4⟩, x1, HbW, HLo, HHi⟩ := hSw; go_simp; (try with_reducible rfl))
            try simp only [Act.put, List.setIfInBounds_toArray, List.set_cons_succ, List.set_cons_zero]
            refine tkA (i := 35) (v := ?v131) rfl hHeld ?hy131 (some 110) rfl ?rest131
            case hy131 => (intro W hSw; obtain ⟨⟨y0, y1, y2, y3, y4⟩, x1, HbW, HLo, HHi⟩ := hSw; go_simp; (try with_reducible rfl))
            try simp only [Act.put, List.setIfInBounds_toArray, List.set_cons_succ, List.set_cons_zero]
            refine tkA (i := 36) (v := ?v132) rfl hHeld ?hy132 (some 111) rfl ?rest132
            case hy132 => (intro W hSw; obtain ⟨⟨y0, y1, y2, y3, y4⟩, x1, HbW, HLo, HHi⟩ := hSw; go_simp; (try with_reducible rfl))
            try simp only [Act.put, List.setIfInBounds_toArray, List.set_cons_succ, List.set_cons_zero]
            refine tkA (i := 37) (v := ?v133) rfl hHeld ?hy133 (some 112) rfl ?rest133
            case hy133 => (intro W hSw; obtain ⟨⟨y0, y1, y2, y3, y4⟩, x1, HbW, HLo, HHi⟩ := hSw; go_simp; (try with_reducible rfl))
            try simp only [Act.put, List.setIfInBounds_toArray, List.set_cons_succ, List.set_cons_zero]
            refine tkA (i := 38) (v := ?v134) rfl hHeld ?hy134 (some 113) rfl ?rest134
            case hy134 => (intro W hSw; obtain ⟨⟨y0, y1, y2, y3, y4⟩, x1, HbW, HLo, HHi⟩ := hSw; obtain ⟨q0, q1, q2, q3, q4⟩ := HHi.out; go_simp; (try with_reducible rfl))
            try simp only [Act.put, List.setIfInBounds_toArray, List.set_cons_succ, List.set_cons_zero]
            refine anyK_step (i := 39) (by kernel_rfl) rfl (fun KP hK => ?_)
            go_simp
            refine (spec_less e.K e.N e.F c1 e.id eH.K eH.N eH.F kH eH.id f1 fH (HR1.out.below (HKp.out _ BC.out).2.2.1.out (Nat.le_refl _)) (RXH.out.below (HKp.out _ BC.out).2.2.1.out (Nat.le_refl _)) m1 mH).mono ?_
            rintro e v4 ⟨rfl, b⟩
            replace BC := hid (BC.out.trans (b.mono BC.out.size))
            clear b
            obtain ⟨HT, hHT⟩ : ∃ HT, ltB (cmpI e.K e.N e.F e.Z.length e.Z eH.K eH.N eH.F eH.Z.length eH.Z) e.id eH.id = HT := ⟨_, rfl⟩
            rw [hHT]
            rw [show hiB (some eH) e = HT from hHT] at HEq
            clear hHT
            go_wp2_with fail
            clear hHeld
            refine hK.out _ _ (HKp.out _ BC.out) (fun hHeld => ?_)
            clear hK KP
            try simp only [Act.put, List.setIfInBounds_toArray, List.set_cons_succ, List.set_cons_zero]
            cases HT with
            | false =>
             refine tkA (i := 40) (v := ?v135) rfl hHeld ?hy135 (some 115) rfl ?rest135
             case hy135 => (intro W hSw; obtain ⟨⟨y0, y1, y2, y3, y4⟩, x1, HbW, HLo, HHi⟩ := hSw; go_simp; (try with_reducible rfl))
             try simp only [Act.put, List.setIfInBounds_toArray, List.set_cons_succ, List.set_cons_zero]
             refine tkA (i := 41) (v := ?v136) rfl hHeld ?hy136 (some 116) rfl ?rest136
             case hy136 => (intro W hSw; obtain ⟨⟨y0, y1, y2, y3, y4⟩, x1, HbW, HLo, HHi⟩ := hSw; go_simp; (try with_reducible rfl))
             try simp only [Act.put, List.setIfInBounds_toArray, List.set_cons_succ, List.set_cons_zero]
             refine tkA (i := 42) (v := ?v137) rfl hHeld ?hy137 (some 117) rfl ?rest137
             case hy137 => (intro W hSw; obtain ⟨⟨y0, y1, y2, y3, y4⟩, x1, HbW, HLo, HHi⟩ := hSw; go_simp; (try with_reducible rfl))
             try simp only [Act.put, List.setIfInBounds_toArray, List.set_cons_succ, List.set_cons_zero]
             refine anyK_done (by kernel_rfl) ?_ _
             clear hHeld
             go_wp2_with fail
             go_meet
             case rel => exact ⟨by rw [HEq.out]; first | rfl | simp, BC⟩
            | true =>
             refine tkA (i := 40) (v := ?v138) rfl hHeld ?hy138 (some 115) rfl ?rest138
             case hy138 => (intro W hSw; obtain ⟨⟨y0, y1, y2, y3, y4⟩, x1, HbW, HLo, HHi⟩ := hSw; go_simp; (try with_reducible rfl))
             try simp only [Act.put, List.setIfInBounds_toArray, List.set_cons_succ, List.set_cons_zero]
             refine tkA (i := 41) (v := ?v139) rfl hHeld ?hy139 (some 116) rfl ?rest139
             case hy139 => (intro W hSw; obtain ⟨⟨y0, y1, y2, y3, y4⟩, x1, HbW, HLo, HHi⟩ := hSw; go_simp; (try with_reducible rfl))
             try simp only [Act.put, List.setIfInBounds_toArray, List.set_cons_succ, List.set_cons_zero]
             refine tkA (i := 42) (v := ?v140) rfl hHeld ?hy140 (some 117) rfl ?rest140
             case hy140 => (intro W hSw; obtain ⟨⟨y0, y1, y2, y3, y4⟩, x1, HbW, HLo, HHi⟩ := hSw; go_simp; (try with_reducible rfl))
             try simp only [Act.put, List.setIfInBounds_toArray, List.set_cons_succ, List.set_cons_zero]
             refine anyK_done (by kernel_rfl) ?_ _
             clear hHeld
             go_wp2_with fail
             go_meet
             case rel => exact ⟨by rw [HEq.out]; first | rfl | simp, BC⟩
      | some eL =>
       obtain ⟨bL, cL, aL, kL, rfl, bxL, rL, fL, mL⟩ := HSL1.out
       have BXL := hid bxL
       have RXL := hid rL
       clear bxL rL
       cases hi with
       | none =>
        obtain rfl : vh = Value.slice none 0 0 := HSH1.out
        as_aux_lemma =>
         have HKp := hid (show ∀ W', Below V2.heap.size V2 W' → (W'.cell? ⟨p14, 0, none⟩ = some (.int .i64 e.K) ∧ W'.cell? ⟨p14, 1, none⟩ = some (.int .i64 e.N) ∧ W'.cell? ⟨p14, 2, none⟩ = some (.float .f64 e.F) ∧ W'.cell? ⟨p14, 3, none⟩ = some (.slice a1 e.Z.length c1) ∧ W'.cell? ⟨p14, 4, none⟩ = some (.int .i64 e.id)) ∧ W'.cell? ⟨p12, 1, none⟩ = some (.slice (some ⟨be, oe, none⟩) n ce) ∧ Hid (Below w0.heap.size w0 W') ∧ Hid (Box5 W' bL 0 eL.K eL.N eL.F (.slice aL eL.Z.length kL) eL.id) ∧ True from fun W' b => by
          have r14 := (b.block p14 HP14.out.1).trans HR14.out
          have b1 := HB2.out.trans (b.mono HB2.out.size)
          have r12 := (b1.block p12 HP12.out.2.1).trans H12.out
          exact ⟨⟨by rw [cell_of_row _ _ _ _ _ _ r14]; rfl, by rw [cell_of_row _ _ _ _ _ _ r14]; rfl, by rw [cell_of_row _ _ _ _ _ _ r14]; rfl, by rw [cell_of_row _ _ _ _ _ _ r14]; rfl, by rw [cell_of_row _ _ _ _ _ _ r14]; rfl⟩, by rw [cell_of_row _ _ _ _ _ _ r12]; rfl, hid (HBW1.out.trans (b1.mono HBW1.out.size)), hid (BXL.out.below b1 (Nat.le_refl _)), trivial⟩)
         have BC := hid ((Still.drew V2).below V2.heap.size)
         refine region_K 99 (fun W => (W.cell? ⟨p14, 0, none⟩ = some (.int .i64 e.K) ∧ W.cell? ⟨p14, 1, none⟩ = some (.int .i64 e.N) ∧ W.cell? ⟨p14, 2, none⟩ = some (.float .f64 e.F) ∧ W.cell? ⟨p14, 3, none⟩ = some (.slice a1 e.Z.length c1) ∧ W.cell? ⟨p14, 4, none⟩ = some (.int .i64 e.id)) ∧ W.cell? ⟨p12, 1, none⟩ = some (.slice (some ⟨be, oe, none⟩) n ce) ∧ Hid (Below w0.heap.size w0 W) ∧ Hid (Box5 W bL 0 eL.K eL.N eL.F (.slice aL eL.Z.length kL) eL.id) ∧ True) (by kernel_rfl) ?_ (fun hHeld => ?_)
         · exact HKp.out _ BC.out
         generalize V2.drew = vd at *
         refine tkA (i := 0) (v := ?v141) rfl hHeld ?hy141 (some 75) rfl ?rest141
         case hy141 => (intro W hSw; obtain ⟨⟨y0, y1, y2, y3, y4⟩, x1, HbW, HLo, HHi⟩ := hSw; go_simp; (try with_reducible rfl))
         try simp only [Act.put, List.setIfInBounds_toArray, List.set_cons_succ, List.set_cons_zero]
         refine anyK_step (i := 1) (by kernel_rfl) rfl (fun KP hK => ?_)
         go_simp
         refine (spec_entry e.K e.N e.F a1 e.Z.length c1 e.id f1 m1 _).mono ?_
         rintro e v1 ⟨rfl, b⟩
         replace BC := hid (BC.out.trans (b.mono BC.out.size))
         clear b
         obtain ⟨EO, hEO⟩ : ∃ EO, entB e.K e.N e.F e.Z.length e.id = EO := ⟨_, rfl⟩
         rw [hEO]
         rw [show entOk e = EO from hEO] at HEq
         clear hEO
         go_wp2_with fail
         clear hHeld
         refine hK.out _ _ (HKp.out _ BC.out) (fun hHeld => ?_)
         clear hK KP
         try simp only [Act.put, List.setIfInBounds_toArray, List.set_cons_succ, List.set_cons_zero]
         cases EO with
         | false =>
          refine tkA (i := 2) (v := ?v142) rfl hHeld ?hy142 (some 77) rfl ?rest142
          case hy142 => (intro W hSw; obtain ⟨⟨y0, y1, y2, y3, y4⟩, x1, HbW, HLo, HHi⟩ := hSw; go_simp; (try with_reducible rfl))
          try simp only [Act.put, List.setIfInBounds_toArray, List.set_cons_succ, List.set_cons_zero]
          refine tkA (i := 3) (v := ?v143) rfl hHeld ?hy143 (some 78) rfl ?rest143
          case hy143 => (intro W hSw; obtain ⟨⟨y0, y1, y2, y3, y4⟩, x1, HbW, HLo, HHi⟩ := hSw; go_simp; (try with_reducible rfl))
          try simp only [Act.put, List.setIfInBounds_toArray, List.set_cons_succ, List.set_cons_zero]
          refine skA (i := 4) rfl hHeld (some 79) rfl ?_
          try simp only [Act.put, List.setIfInBounds_toArray, List.set_cons_succ, List.set_cons_zero]
          refine skA (i := 5) rfl hHeld (some 80) rfl ?_
          try simp only [Act.put, List.setIfInBounds_toArray, List.set_cons_succ, List.set_cons_zero]
          refine skA (i := 6) rfl hHeld (some 81) rfl ?_
          try simp only [Act.put, List.setIfInBounds_toArray, List.set_cons_succ, List.set_cons_zero]
          refine skA (i := 7) rfl hHeld (some 82) rfl ?_
          try simp only [Act.put, List.setIfInBounds_toArray, List.set_cons_succ, List.set_cons_zero]
          refine skA (i := 8) rfl hHeld (some 83) rfl ?_
          try simp only [Act.put, List.setIfInBounds_toArray, List.set_cons_succ, List.set_cons_zero]
          refine skA (i := 9) rfl hHeld (some 84) rfl ?_
          try simp only [Act.put, List.setIfInBounds_toArray, List.set_cons_succ, List.set_cons_zero]
          refine skA (i := 10) rfl hHeld (some 85) rfl ?_
          try simp only [Act.put, List.setIfInBounds_toArray, List.set_cons_succ, List.set_cons_zero]
          refine skA (i := 11) rfl hHeld (some 86) rfl ?_
          try simp only [Act.put, List.setIfInBounds_toArray, List.set_cons_succ, List.set_cons_zero]
          refine skA (i := 12) rfl hHeld (some 87) rfl ?_
          try simp only [Act.put, List.setIfInBounds_toArray, List.set_cons_succ, List.set_cons_zero]
          refine skA (i := 13) rfl hHeld (some 88) rfl ?_
          try simp only [Act.put, List.setIfInBounds_toArray, List.set_cons_succ, List.set_cons_zero]
          refine skA (i := 14) rfl hHeld (some 89) rfl ?_
          try simp only [Act.put, List.setIfInBounds_toArray, List.set_cons_succ, List.set_cons_zero]
          refine skA (i := 15) rfl hHeld (some 90) rfl ?_
          try simp only [Act.put, List.setIfInBounds_toArray, List.set_cons_succ, List.set_cons_zero]
          refine skA (i := 16) rfl hHeld (some 91) rfl ?_
          try simp only [Act.put, List.setIfInBounds_toArray, List.set_cons_succ, List.set_cons_zero]
          refine tkA (i := 17) (v := ?v144) rfl hHeld ?hy144 (some 92) rfl ?rest144
          case hy144 => (intro W hSw; obtain ⟨⟨y0, y1, y2, y3, y4⟩, x1, HbW, HLo, HHi⟩ := hSw; go_simp; (try with_reducible rfl))
          try simp only [Act.put, List.setIfInBounds_toArray, List.set_cons_succ, List.set_cons_zero]
          refine tkA (i := 18) (v := ?v145) rfl hHeld ?hy145 (some 93) rfl ?rest145
          case hy145 => (intro W hSw; obtain ⟨⟨y0, y1, y2, y3, y4⟩, x1, HbW, HLo, HHi⟩ := hSw; go_simp; (try with_reducible rfl))
          try simp only [Act.put, List.setIfInBounds_toArray, List.set_cons_succ, List.set_cons_zero]
          refine skA (i := 19) rfl hHeld (some 94) rfl ?_
          try simp only [Act.put, List.setIfInBounds_toArray, List.set_cons_succ, List.set_cons_zero]
          refine skA (i := 20) rfl hHeld (some 95) rfl ?_
          try simp only [Act.put, List.setIfInBounds_toArray, List.set_cons_succ, List.set_cons_zero]
          refine skA (i := 21) rfl hHeld (some 96) rfl ?_
          try simp only [Act.put, List.setIfInBounds_toArray, List.set_cons_succ, List.set_cons_zero]
          refine skA (i := 22) rfl hHeld (some 97) rfl ?_
          try simp only [Act.put, List.setIfInBounds_toArray, List.set_cons_succ, List.set_cons_zero]
          refine skA (i := 23) rfl hHeld (some 98) rfl ?_
          try simp only [Act.put, List.setIfInBounds_toArray, List.set_cons_succ, List.set_cons_zero]
          refine skA (i := 24) rfl hHeld (some 99) rfl ?_
          try simp only [Act.put, List.setIfInBounds_toArray, List.set_cons_succ, List.set_cons_zero]
          refine skA (i := 25) rfl hHeld (some 100) rfl ?_
          try simp only [Act.put, List.setIfInBounds_toArray, List.set_cons_succ, List.set_cons_zero]
          refine skA (i := 26) rfl hHeld (some 101) rfl ?_
          try simp only [Act.put, List.setIfInBounds_toArray, List.set_cons_succ, List.set_cons_zero]
          refine skA (i := 27) rfl hHeld (some 102) rfl ?_
          try simp only [Act.put, List.setIfInBounds_toArray, List.set_cons_succ, List.set_cons_zero]
          refine skA (i := 28) rfl hHeld (some 103) rfl ?_
          try simp only [Act.put, List.setIfInBounds_toArray, List.set_cons_succ, List.set_cons_zero]
          refine tkA (i := 29) (v := ?v146) rfl hHeld ?hy146 (some 104) rfl ?rest146
          case hy146 => (intro W hSw; obtain ⟨⟨y0, y1, y2, y3, y4⟩, x1, HbW, HLo, HHi⟩ := hSw; go_simp; (try with_reducible rfl))
          try simp only [Act.put, List.setIfInBounds_toArray, List.set_cons_succ, List.set_cons_zero]
          refine tkA (i := 30) (v := ?v147) rfl hHeld ?hy147 (some 105) rfl ?rest147
          case hy147 => (intro W hSw; obtain ⟨⟨y0, y1, y2, y3, y4⟩, x1, HbW, HLo, HHi⟩ := hSw; go_simp; (try with_reducible rfl))
          try simp only [Act.put, List.setIfInBounds_toArray, List.set_cons_succ, List.set_cons_zero]
          refine skA (i := 31) rfl hHeld (some 106) rfl ?_
          try simp only [Act.put, List.setIfInBounds_toArray, List.set_cons_succ, List.set_cons_zero]
          refine skA (i := 32) rfl hHeld (some 107) rfl ?_
          try simp only [Act.put, List.setIfInBounds_toArray, List.set_cons_succ, List.set_cons_zero]
          refine skA (i := 33) rfl hHeld (some 108) rfl ?_
          try simp only [Act.put, List.setIfInBounds_toArray, List.set_cons_succ, List.set_cons_zero]
          refine skA (i := 34) rfl hHeld (some 109) rfl ?_
          try simp only [Act.put, List.setIfInBounds_toArray, List.set_cons_succ, List.set_cons_zero]
          refine skA (i := 35) rfl hHeld (some 110) rfl ?_
          try simp only [Act.put, List.setIfInBounds_toArray, List.set_cons_succ, List.set_cons_zero]
          refine skA (i := 36) rfl hHeld (some 111) rfl ?_
          try simp only [Act.put, List.setIfInBounds_toArray, List.set_cons_succ, List.set_cons_zero]
          refine skA (i := 37) rfl hHeld (some 112) rfl ?_
          try simp only [Act.put, List.setIfInBounds_toArray, List.set_cons_succ, List.set_cons_zero]
          refine skA (i := 38) rfl hHeld (some 113) rfl ?_
          try simp only [Act.put, List.setIfInBounds_toArray, List.set_cons_succ, List.set_cons_zero]
          refine skA (i := 39) rfl hHeld (some 114) rfl ?_
          try simp only [Act.put, List.setIfInBounds_toArray, List.set_cons_succ, List.set_cons_zero]
          refine skA (i := 40) rfl hHeld (some 115) rfl ?_
          try simp only [Act.put, List.setIfInBounds_toArray, List.set_cons_succ, List.set_cons_zero]
          refine skA (i := 41) rfl hHeld (some 116) rfl ?_
          try simp only [Act.put, List.setIfInBounds_toArray, List.set_cons_succ, List.set_cons_zero]
          refine tkA (i := 42) (v := ?v148) rfl hHeld ?hy148 (some 117) rfl ?rest148
          case hy148 => (intro W hSw; obtain ⟨⟨y0, y1, y2, y3, y4⟩, x1, HbW, HLo, HHi⟩ := hSw; go_simp; (try with_reducible rfl))
          try simp only [Act.put, List.setIfInBounds_toArray, List.set_cons_succ, List.set_cons_zero]
          refine anyK_done (by kernel_rfl) ?_ _
          clear hHeld
          go_wp2_with fail
          go_meet
          case rel => exact ⟨by rw [HEq.out]; first | rfl | simp, BC⟩
         | true =>
          refine tkA (i := 2) (v := ?v149) rfl hHeld ?hy149 (some 77) rfl ?rest149
          case hy149 => (intro W hSw; obtain ⟨⟨y0, y1, y2, y3, y4⟩, x1, HbW, HLo, HHi⟩ := hSw; go_simp; (try with_reducible rfl))
          try simp only [Act.put, List.setIfInBounds_toArray, List.set_cons_succ, List.set_cons_zero]
          refine tkA (i := 3) (v := ?v150) rfl hHeld ?hy150 (some 78) rfl ?rest150
          case hy150 => (intro W hSw; obtain ⟨⟨y0, y1, y2, y3, y4⟩, x1, HbW, HLo, HHi⟩ := hSw; go_simp; (try with_reducible rfl))
          try simp only [Act.put, List.setIfInBounds_toArray, List.set_cons_succ, List.set_cons_zero]
          refine tkA (i := 4) (v := ?v151) rfl hHeld ?hy151 (some 79) rfl ?rest151
          case hy151 => (intro W hSw; obtain ⟨⟨y0, y1, y2, y3, y4⟩, x1, HbW, HLo, HHi⟩ := hSw; go_simp; (try with_reducible rfl))
          try simp only [Act.put, List.setIfInBounds_toArray, List.set_cons_succ, List.set_cons_zero]
          by_cases hk1 : kk = 0
          ·
           subst hk1
           refine tkA (i := 5) (v := ?v152) rfl hHeld ?hy152 (some 80) rfl ?rest152
           case hy152 => (intro W hSw; obtain ⟨⟨y0, y1, y2, y3, y4⟩, x1, HbW, HLo, HHi⟩ := hSw; go_simp; (try with_reducible rfl))
           try simp only [Act.put, List.setIfInBounds_toArray, List.set_cons_succ, List.set_cons_zero]
           refine tkA (i := 6) (v := ?v153) rfl hHeld ?hy153 (some 81) rfl ?rest153
           case hy153 => (intro W hSw; obtain ⟨⟨y0, y1, y2, y3, y4⟩, x1, HbW, HLo, HHi⟩ := hSw; go_simp; (try with_reducible rfl))
           try simp only [Act.put, List.setIfInBounds_toArray, List.set_cons_succ, List.set_cons_zero]
           refine skA (i := 7) rfl hHeld (some 82) rfl ?_
           try simp only [Act.put, List.setIfInBounds_toArray, List.set_cons_succ, List.set_cons_zero]
           refine skA (i := 8) rfl hHeld (some 83) rfl ?_
           try simp only [Act.put, List.setIfInBounds_toArray, List.set_cons_succ, List.set_cons_zero]
           refine skA (i := 9) rfl hHeld (some 84) rfl ?_
           try simp only [Act.put, List.setIfInBounds_toArray, List.set_cons_succ, List.set_cons_zero]
           refine skA (i := 10) rfl hHeld (some 85) rfl ?_
           try simp only [Act.put, List.setIfInBounds_toArray, List.set_cons_succ, List.set_cons_zero]
           refine skA (i := 11) rfl hHeld (some 86) rfl ?_
           try simp only [Act.put, List.setIfInBounds_toArray, List.set_cons_succ, List.set_cons_zero]
           refine skA (i := 12) rfl hHeld (some 87) rfl ?_
           try simp only [Act.put, List.setIfInBounds_toArray, List.set_cons_succ, List.set_cons_zero]
           refine skA (i := 13) rfl hHeld (some 88) rfl ?_
           try simp only [Act.put, List.setIfInBounds_toArray, List.set_cons_succ, List.set_cons_zero]
           refine skA (i := 14) rfl hHeld (some 89) rfl ?_
           try simp only [Act.put, List.setIfInBounds_toArray, List.set_cons_succ, List.set_cons_zero]
           refine skA (i := 15) rfl hHeld (some 90) rfl ?_
           try simp only [Act.put, List.setIfInBounds_toArray, List.set_cons_succ, List.set_cons_zero]
           refine tkA (i := 16) (v := ?v154) rfl hHeld ?hy154 (some 91) rfl ?rest154
           case hy154 => (intro W hSw; obtain ⟨⟨y0, y1, y2, y3, y4⟩, x1, HbW, HLo, HHi⟩ := hSw; go_simp; (try with_reducible rfl))
           try simp only [Act.put, List.setIfInBounds_toArray, List.set_cons_succ, List.set_cons_zero]
           refine tkA (i := 17) (v := ?v155) rfl hHeld ?hy155 (some 92) rfl ?rest155
           case hy155 => (intro W hSw; obtain ⟨⟨y0, y1, y2, y3, y4⟩, x1, HbW, HLo, HHi⟩ := hSw; go_simp; (try with_reducible rfl))
           try simp only [Act.put, List.setIfInBounds_toArray, List.set_cons_succ, List.set_cons_zero]
           refine tkA (i := 18) (v := ?v156) rfl hHeld ?hy156 (some 93) rfl ?rest156
           case hy156 => (intro W hSw; obtain ⟨⟨y0, y1, y2, y3, y4⟩, x1, HbW, HLo, HHi⟩ := hSw; go_simp; (try with_reducible rfl))
           try simp only [Act.put, List.setIfInBounds_toArray, List.set_cons_succ, List.set_cons_zero]
           refine tkA (i := 19) (v := ?v157) rfl hHeld ?hy157 (some 94) rfl ?rest157
           case hy157 => (intro W hSw; obtain ⟨⟨y0, y1, y2, y3, y4⟩, x1, HbW, HLo, HHi⟩ := hSw; go_simp; (try with_reducible rfl))
           try simp only [Act.put, List.setIfInBounds_toArray, List.set_cons_succ, List.set_cons_zero]
           refine tkA (i := 20) (v := ?v158) rfl hHeld ?hy158 (some 95) rfl ?rest158
           case hy158 => (intro W hSw; obtain ⟨⟨y0, y1, y2, y3, y4⟩, x1, HbW, HLo, HHi⟩ := hSw; go_simp; (try with_reducible rfl))
           try simp only [Act.put, List.setIfInBounds_toArray, List.set_cons_succ, List.set_cons_zero]
           refine tkA (i := 21) (v := ?v159) rfl hHeld ?hy159 (some 96) rfl ?rest159
           case hy159 => (intro W hSw; obtain ⟨⟨y0, y1, y2, y3, y4⟩, x1, HbW, HLo, HHi⟩ := hSw; go_simp; (try with_reducible rfl))
           try simp only [Act.put, List.setIfInBounds_toArray, List.set_cons_succ, List.set_cons_zero]
           refine tkA (i := 22) (v := ?v160) rfl hHeld ?hy160 (some 97) rfl ?rest160
           case hy160 => (intro W hSw; obtain ⟨⟨y0, y1, y2, y3, y4⟩, x1, HbW, HLo, HHi⟩ := hSw; go_simp; (try with_reducible rfl))
           try simp only [Act.put, List.setIfInBounds_toArray, List.set_cons_succ, List.set_cons_zero]
           refine tkA (i := 23) (v := ?v161) rfl hHeld ?hy161 (some 98) rfl ?rest161
           case hy161 => (intro W hSw; obtain ⟨⟨y0, y1, y2, y3, y4⟩, x1, HbW, HLo, HHi⟩ := hSw; go_simp; (try with_reducible rfl))
           try simp only [Act.put, List.setIfInBounds_toArray, List.set_cons_succ, List.set_cons_zero]
           refine tkA (i := 24) (v := ?v162) rfl hHeld ?hy162 (some 99) rfl ?rest162
           case hy162 => (intro W hSw; obtain ⟨⟨y0, y1, y2, y3, y4⟩, x1, HbW, HLo, HHi⟩ := hSw; go_simp; (try with_reducible rfl))
           try simp only [Act.put, List.setIfInBounds_toArray, List.set_cons_succ, List.set_cons_zero]
           refine tkA (i := 25) (v := ?v163) rfl hHeld ?hy163 (some 100) rfl ?rest163
           case hy163 => (intro W hSw; obtain ⟨⟨y0, y1, y2, y3, y4⟩, x1, HbW, HLo, HHi⟩ := hSw; go_simp; (try with_reducible rfl))
           try simp only [Act.put, List.setIfInBounds_toArray, List.set_cons_succ, List.set_cons_zero]
           refine tkA (i := 26) (v := ?v164) rfl hHeld ?hy164 (some 101) rfl ?rest164
           case hy164 => (intro W hSw; obtain ⟨⟨y0, y1, y2, y3, y4⟩, x1, HbW, HLo, HHi⟩ := hSw; obtain ⟨q0, q1, q2, q3, q4⟩ := HLo.out; go_simp; (try with_reducible rfl))
           try simp only [Act.put, List.setIfInBounds_toArray, List.set_cons_succ, List.set_cons_zero]
           refine anyK_step (i := 27) (by kernel_rfl) rfl (fun KP hK => ?_)
           go_simp
           refine (spec_less e.K e.N e.F c1 e.id eL.K eL.N eL.F kL eL.id f1 fL (HR1.out.below (HKp.out _ BC.out).2.2.1.out (Nat.le_refl _)) (RXL.out.below (HKp.out _ BC.out).2.2.1.out (Nat.le_refl _)) m1 mL).mono ?_
           rintro e v3 ⟨rfl, b⟩
           replace BC := hid (BC.out.trans (b.mono BC.out.size))
           clear b
           obtain ⟨LL, hLL⟩ : ∃ LL, ltB (cmpI e.K e.N e.F e.Z.length e.Z eL.K eL.N eL.F eL.Z.length eL.Z) e.id eL.id = LL := ⟨_, rfl⟩
           rw [hLL]
           rw [show loB (some eL) e = !LL from congrArg Bool.not hLL] at HEq
           clear hLL
           go_wp2_with fail
           clear hHeld
           refine hK.out _ _ (HKp.out _ BC.out) (fun hHeld => ?_)
           clear hK KP
           try simp only [Act.put, List.setIfInBounds_toArray, List.set_cons_succ, List.set_cons_zero]
           cases LL with
           | true =>
            refine tkA (i := 28) (v := ?v165) rfl hHeld ?hy165 (some 103) rfl ?rest165
            case hy165 => (intro W hSw; obtain ⟨⟨y0, y1, y2, y3, y4⟩, x1, HbW, HLo, HHi⟩ := hSw; go_simp; (try with_reducible rfl))
            try simp only [Act.put, List.setIfInBounds_toArray, List.set_cons_succ, List.set_cons_zero]
            refine tkA (i := 29) (v := ?v166) rfl hHeld ?hy166 (some 104) rfl ?rest166
            case hy166 => (intro W hSw; obtain ⟨⟨y0, y1, y2, y3, y4⟩, x1, HbW, HLo, HHi⟩ := hSw; go_simp; (try with_reducible rfl))
            try simp only [Act.put, List.setIfInBounds_toArray, List.set_cons_succ, List.set_cons_zero]
            refine tkA (i := 30) (v := ?v167) rfl hHeld ?hy167 (some 105) rfl ?rest167
            case hy167 => (intro W hSw; obtain ⟨⟨y0, y1, y2, y3, y4⟩, x1, HbW, HLo, HHi⟩ := hSw; go_simp; (try with_reducible rfl))
            try simp only [Act.put, List.setIfInBounds_toArray, List.set_cons_succ, List.set_cons_zero]
            refine skA (i := 31) rfl hHeld (some 106) rfl ?_
            try simp only [Act.put, List.setIfInBounds_toArray, List.set_cons_succ, List.set_cons_zero]
            refine skA (i := 32) rfl hHeld (some 107) rfl ?_
            try simp only [Act.put, List.setIfInBounds_toArray, List.set_cons_succ, List.set_cons_zero]
            refine skA (i := 33) rfl hHeld (some 108) rfl ?_
            try simp only [Act.put, List.setIfInBounds_toArray, List.set_cons_succ, List.set_cons_zero]
            refine skA (i := 34) rfl hHeld (some 109) rfl ?_
            try simp only [Act.put, List.setIfInBounds_toArray, List.set_cons_succ, List.set_cons_zero]
            refine skA (i := 35) rfl hHeld (some 110) rfl ?_
            try simp only [Act.put, List.setIfInBounds_toArray, List.set_cons_succ, List.set_cons_zero]
            refine skA (i := 36) rfl hHeld (some 111) rfl ?_
            try simp only [Act.put, List.setIfInBounds_toArray, List.set_cons_succ, List.set_cons_zero]
            refine skA (i := 37) rfl hHeld (some 112) rfl ?_
            try simp only [Act.put, List.setIfInBounds_toArray, List.set_cons_succ, List.set_cons_zero]
            refine skA (i := 38) rfl hHeld (some 113) rfl ?_
            try simp only [Act.put, List.setIfInBounds_toArray, List.set_cons_succ, List.set_cons_zero]
            refine skA (i := 39) rfl hHeld (some 114) rfl ?_
            try simp only [Act.put, List.setIfInBounds_toArray, List.set_cons_succ, List.set_cons_zero]
            refine skA (i := 40) rfl hHeld (some 115) rfl ?_
            try simp only [Act.put, List.setIfInBounds_toArray, List.set_cons_succ, List.set_cons_zero]
            refine skA (i := 41) rfl hHeld (some 116) rfl ?_
            try simp only [Act.put, List.setIfInBounds_toArray, List.set_cons_succ, List.set_cons_zero]
            refine tkA (i := 42) (v := ?v168) rfl hHeld ?hy168 (some 117) rfl ?rest168
            case hy168 => (intro W hSw; obtain ⟨⟨y0, y1, y2, y3, y4⟩, x1, HbW, HLo, HHi⟩ := hSw; go_simp; (try with_reducible rfl))
            try simp only [Act.put, List.setIfInBounds_toArray, List.set_cons_succ, List.set_cons_zero]
            refine anyK_done (by kernel_rfl) ?_ _
            clear hHeld
            go_wp2_with fail
            go_meet
            case rel => exact ⟨by rw [HEq.out]; first | rfl | simp, BC⟩
           | false =>
            refine tkA (i := 28) (v := ?v169) rfl hHeld ?hy169 (some 103) rfl ?rest169
            case hy169 => (intro W hSw; obtain ⟨⟨y0, y1, y2, y3, y4⟩, x1, HbW, HLo, HHi⟩ := hSw; go_simp; (try with_reducible rfl))
            try simp only [Act.put, List.setIfInBounds_toArray, List.set_cons_succ, List.set_cons_zero]
            refine tkA (i := 29) (v := ?v170) rfl hHeld ?hy170 (some 104) rfl ?rest170
            case hy170 => (intro W hSw; obtain ⟨⟨y0, y1, y2, y3, y4⟩, x1, HbW, HLo, HHi⟩ := hSw; go_simp; (try with_reducible rfl))
            try simp only [Act.put, List.setIfInBounds_toArray, List.set_cons_succ, List.set_cons_zero]
            refine tkA (i := 30) (v := ?v171) rfl hHeld ?hy171 (some 105) rfl ?rest171
            case hy171 => (intro W hSw; obtain ⟨⟨y0, y1, y2, y3, y4⟩, x1, HbW, HLo, HHi⟩ := hSw; go_simp; (try with_reducible rfl))
            try simp only [Act.put, List.setIfInBounds_toArray, List.set_cons_succ, List.set_cons_zero]
            refine tkA (i := 31) (v := ?v172) rfl hHeld ?hy172 (some 106) rfl ?rest172
            case hy172 => (intro W hSw; obtain ⟨⟨y0, y1, y2, y3, y4⟩, x1, HbW, HLo, HHi⟩ := hSw; go_simp; (try with_reducible rfl))
            try simp only [Act.put, List.setIfInBounds_toArray, List.set_cons_succ, List.set_cons_zero]
            refine tkA (i := 32) (v := ?v173) rfl hHeld ?hy173 (some 107) rfl ?rest173
            case hy173 => (intro W hSw; obtain ⟨⟨y0, y1, y2, y3, y4⟩, x1, HbW, HLo, HHi⟩ := hSw; go_simp; (try with_reducible rfl))
            try simp only [Act.put, List.setIfInBounds_toArray, List.set_cons_succ, List.set_cons_zero]
            refine tkA (i := 33) (v := ?v174) rfl hHeld ?hy174 (some 108) rfl ?rest174
            case hy174 => (intro W hSw; obtain ⟨⟨y0, y1, y2, y3, y4⟩, x1, HbW, HLo, HHi⟩ := hSw; go_simp; (try with_reducible rfl))
            try simp only [Act.put, List.setIfInBounds_toArray, List.set_cons_succ, List.set_cons_zero]
            refine tkA (i := 34) (v := ?v175) rfl hHeld ?hy175 (some 109) rfl ?rest175
            case hy175 => (intro W hSw; obtain ⟨⟨y0, y1, y2, y3, y4⟩, x1, HbW, HLo, HHi⟩ := hSw; go_simp; (try with_reducible rfl))
            try simp only [Act.put, List.setIfInBounds_toArray, List.set_cons_succ, List.set_cons_zero]
            refine skA (i := 35) rfl hHeld (some 110) rfl ?_
            try simp only [Act.put, List.setIfInBounds_toArray, List.set_cons_succ, List.set_cons_zero]
            refine skA (i := 36) rfl hHeld (some 111) rfl ?_
            try simp only [Act.put, List.setIfInBounds_toArray, List.set_cons_succ, List.set_cons_zero]
            refine skA (i := 37) rfl hHeld (some 112) rfl ?_
            try simp only [Act.put, List.setIfInBounds_toArray, List.set_cons_succ, List.set_cons_zero]
            refine skA (i := 38) rfl hHeld (some 113) rfl ?_
            try simp only [Act.put, List.setIfInBounds_toArray, List.set_cons_succ, List.set_cons_zero]
            refine skA (i := 39) rfl hHeld (some 114) rfl ?_
            try simp only [Act.put, List.setIfInBounds_toArray, List.set_cons_succ, List.set_cons_zero]
            refine skA (i := 40) rfl hHeld (some 115) rfl ?_
            try simp only [Act.put, List.setIfInBounds_toArray, List.set_cons_succ, List.set_cons_zero]
            refine tkA (i := 41) (v := ?v176) rfl hHeld ?hy176 (some 116) rfl ?rest176
            case hy176 => (intro W hSw; obtain ⟨⟨y0, y1, y2, y3, y4⟩, x1, HbW, HLo, HHi⟩ := hSw; go_simp; (try with_reducible rfl))
            try simp only [Act.put, List.setIfInBounds_toArray, List.set_cons_succ, List.set_cons_zero]
            refine tkA (i := 42) (v := ?v177) rfl hHeld ?hy177 (some 117) rfl ?rest177
            case hy177 => (intro W hSw; obtain ⟨⟨y0, y1, y2, y3, y4⟩, x1, HbW, HLo, HHi⟩ := hSw; go_simp; (try with_reducible rfl))
            try simp only [Act.put, List.setIfInBounds_toArray, List.set_cons_succ, List.set_cons_zero]
            refine anyK_done (by kernel_rfl) ?_ _
            clear hHeld
            go_wp2_with fail
            go_meet
            case rel => exact ⟨by rw [HEq.out]; first | rfl | simp, BC⟩
          ·
           have hk2 : (0 : Int) < (kk : Int) := by omega
           have hk3 : 0 < kk := by omega
           have h1' : (kk : Int) - 1 < (n : Int) := by omega
           have h2' : (0 : Int) ≤ (kk : Int) - 1 := by omega
           have h3' : ((kk : Int) - 1).toNat = kk - 1 := by omega
           have hwr : IntKind.i64.wrap ((kk : Int) - 1) = ((kk - 1 : Nat) : Int) := by rw [IntKind.wrap_i64]; omega
           have h1n : ((kk - 1 : Nat) : Int) < (n : Int) := by omega
           obtain ⟨be', oe', a0, c0, e0', bxp, rp, _, _, f0⟩ := HRe.out.at (k := kk - 1) (by rw [HNn.out]; omega)
           obtain ⟨rfl, rfl⟩ : be = be' ∧ oe = oe' := by simpa using e0'
           have m0 := HMd.out (kk - 1)
           rw [decide_eq_false hk1, Bool.false_or] at HEq
           obtain ⟨x, hx⟩ : ∃ x, d.es.getD (kk - 1) en0 = x := ⟨_, rfl⟩
           rw [hx] at bxp rp f0 m0 HEq
           have BXP := hid bxp
           have RXP := hid rp
           clear bxp rp e0' hx hk1
           refine tkA (i := 5) (v := ?v178) rfl hHeld ?hy178 (some 80) rfl ?rest178
           case hy178 => (intro W hSw; obtain ⟨⟨y0, y1, y2, y3, y4⟩, x1, HbW, HLo, HHi⟩ := hSw; go_simp; (try with_reducible rfl))
           try simp only [Act.put, List.setIfInBounds_toArray, List.set_cons_succ, List.set_cons_zero]
           refine tkA (i := 6) (v := ?v179) rfl hHeld ?hy179 (some 81) rfl ?rest179
           case hy179 => (intro W hSw; obtain ⟨⟨y0, y1, y2, y3, y4⟩, x1, HbW, HLo, HHi⟩ := hSw; go_simp; (try with_reducible rfl))
           try simp only [Act.put, List.setIfInBounds_toArray, List.set_cons_succ, List.set_cons_zero]
           refine tkA (i := 7) (v := ?v180) rfl hHeld ?hy180 (some 82) rfl ?rest180
           case hy180 => (intro W hSw; obtain ⟨⟨y0, y1, y2, y3, y4⟩, x1, HbW, HLo, HHi⟩ := hSw; go_simp; (try with_reducible rfl))
           try simp only [Act.put, List.setIfInBounds_toArray, List.set_cons_succ, List.set_cons_zero]
           refine tkA (i := 8) (v := ?v181) rfl hHeld ?hy181 (some 83) rfl ?rest181
           case hy181 => (intro W hSw; obtain ⟨⟨y0, y1, y2, y3, y4⟩, x1, HbW, HLo, HHi⟩ := hSw; go_simp; (try with_reducible rfl))
           try simp only [Act.put, List.setIfInBounds_toArray, List.set_cons_succ, List.set_cons_zero]
           refine tkA (i := 9) (v := ?v182) rfl hHeld ?hy182 (some 84) rfl ?rest182
           case hy182 => (intro W hSw; obtain ⟨⟨y0, y1, y2, y3, y4⟩, x1, HbW, HLo, HHi⟩ := hSw; go_simp; (try with_reducible rfl))
           try simp only [Act.put, List.setIfInBounds_toArray, List.set_cons_succ, List.set_cons_zero]
           refine tkA (i := 10) (v := ?v183) rfl hHeld ?hy183 (some 85) rfl ?rest183
           case hy183 => (intro W hSw; obtain ⟨⟨y0, y1, y2, y3, y4⟩, x1, HbW, HLo, HHi⟩ := hSw; go_simp; (try with_reducible rfl))
           try simp only [Act.put, List.setIfInBounds_toArray, List.set_cons_succ, List.set_cons_zero]
           refine tkA (i := 11) (v := ?v184) rfl hHeld ?hy184 (some 86) rfl ?rest184
           case hy184 => (intro W hSw; obtain ⟨⟨y0, y1, y2, y3, y4⟩, x1, HbW, HLo, HHi⟩ := hSw; go_simp; (try with_reducible rfl))
           try simp only [Act.put, List.setIfInBounds_toArray, List.set_cons_succ, List.set_cons_zero]
           refine tkA (i := 12) (v := ?v185) rfl hHeld ?hy185 (some 87) rfl ?rest185
           case hy185 => (intro W hSw; obtain ⟨⟨y0, y1, y2, y3, y4⟩, x1, HbW, HLo, HHi⟩ := hSw; obtain ⟨q0, q1, q2, q3, q4⟩ := BXP.out.below HbW.out (Nat.le_refl _); go_simp; (try with_reducible rfl))
           try simp only [Act.put, List.setIfInBounds_toArray, List.set_cons_succ, List.set_cons_zero]
           refine tkA (i := 13) (v := ?v186) rfl hHeld ?hy186 (some 88) rfl ?rest186
           case hy186 => (intro W hSw; obtain ⟨⟨y0, y1, y2, y3, y4⟩, x1, HbW, HLo, HHi⟩ := hSw; go_simp; (try with_reducible rfl))
           try simp only [Act.put, List.setIfInBounds_toArray, List.set_cons_succ, List.set_cons_zero]
           refine anyK_step (i := 14) (by kernel_rfl) rfl (fun KP hK => ?_)
           go_simp
           refine (spec_less x.K x.N x.F c0 x.id e.K e.N e.F c1 e.id f0 f1 (RXP.out.below (HKp.out _ BC.out).2.2.1.out (Nat.le_refl _)) (HR1.out.below (HKp.out _ BC.out).2.2.1.out (Nat.le_refl _)) m0 m1).mono ?_
           rintro e v2 ⟨rfl, b⟩
           replace BC := hid (BC.out.trans (b.mono BC.out.size))
           clear b
           obtain ⟨LT, hLT⟩ : ∃ LT, ltB (cmpI x.K x.N x.F x.Z.length x.Z e.K e.N e.F e.Z.length e.Z) x.id e.id = LT := ⟨_, rfl⟩
           rw [hLT]
           rw [show ltE x e = LT from hLT] at HEq
           clear hLT
           go_wp2_with fail
           clear hHeld
           refine hK.out _ _ (HKp.out _ BC.out) (fun hHeld => ?_)
           clear hK KP
           try simp only [Act.put, List.setIfInBounds_toArray, List.set_cons_succ, List.set_cons_zero]
           cases LT with
           | false =>
            refine tkA (i := 15) (v := ?v187) rfl hHeld ?hy187 (some 90) rfl ?rest187
            case hy187 => (intro W hSw; obtain ⟨⟨y0, y1, y2, y3, y4⟩, x1, HbW, HLo, HHi⟩ := hSw; go_simp; (try with_reducible rfl))
            try simp only [Act.put, List.setIfInBounds_toArray, List.set_cons_succ, List.set_cons_zero]
            refine tkA (i := 16) (v := ?v188) rfl hHeld ?hy188 (some 91) rfl ?rest188
            case hy188 => (intro W hSw; obtain ⟨⟨y0, y1, y2, y3, y4⟩, x1, HbW, HLo, HHi⟩ := hSw; go_simp; (try with_reducible rfl))
            try simp only [Act.put, List.setIfInBounds_toArray, List.set_cons_succ, List.set_cons_zero]
            refine tkA (i := 17) (v := ?v189) rfl hHeld ?hy189 (some 92) rfl ?rest189
            case hy189 => (intro W hSw; obtain ⟨⟨y0, y1, y2, y3, y4⟩, x1, HbW, HLo, HHi⟩ := hSw; go_simp; (try with_reducible rfl))
            try simp only [Act.put, List.setIfInBounds_toArray, List.set_cons_succ, List.set_cons_zero]
            refine tkA (i := 18) (v := ?v190) rfl hHeld ?hy190 (some 93) rfl ?rest190
            case hy190 => (intro W hSw; obtain ⟨⟨y0, y1, y2, y3, y4⟩, x1, HbW, HLo, HHi⟩ := hSw; go_simp; (try with_reducible rfl))
            try simp only [Act.put, List.setIfInBounds_toArray, List.set_cons_succ, List.set_cons_zero]
            refine skA (i := 19) rfl hHeld (some 94) rfl ?_
            try simp only [Act.put, List.setIfInBounds_toArray, List.set_cons_succ, List.set_cons_zero]
            refine skA (i := 20) rfl hHeld (some 95) rfl ?_
            try simp only [Act.put, List.setIfInBounds_toArray, List.set_cons_succ, List.set_cons_zero]
            refine skA (i := 21) rfl hHeld (some 96) rfl ?_
            try simp only [Act.put, List.setIfInBounds_toArray, List.set_cons_succ, List.set_cons_zero]
            refine skA (i := 22) rfl hHeld (some 97) rfl ?_
            try simp only [Act.put, List.setIfInBounds_toArray, List.set_cons_succ, List.set_cons_zero]
            refine skA (i := 23) rfl hHeld (some 98) rfl ?_
            try simp only [Act.put, List.setIfInBounds_toArray, List.set_cons_succ, List.set_cons_zero]
            refine skA (i := 24) rfl hHeld (some 99) rfl ?_
            try simp only [Act.put, List.setIfInBounds_toArray, List.set_cons_succ, List.set_cons_zero]
            refine skA (i := 25) rfl hHeld (some 100) rfl ?_
            try simp only [Act.put, List.setIfInBounds_toArray, List.set_cons_succ, List.set_cons_zero]
            refine skA (i := 26) rfl hHeld (some 101) rfl ?_
            try simp only [Act.put, List.setIfInBounds_toArray, List.set_cons_succ, List.set_cons_zero]
            refine skA (i := 27) rfl hHeld (some 102) rfl ?_
            try simp only [Act.put, List.setIfInBounds_toArray, List.set_cons_succ, List.set_cons_zero]
            refine skA (i := 28) rfl hHeld (some 103) rfl ?_
            try simp only [Act.put, List.setIfInBounds_toArray, List.set_cons_succ, List.set_cons_zero]
            refine tkA (i := 29) (v := ?v191) rfl hHeld ?hy191 (some 104) rfl ?rest191
            case hy191 => (intro W hSw; obtain ⟨⟨y0, y1, y2, y3, y4⟩, x1, HbW, HLo, HHi⟩ := hSw; go_simp; (try with_reducible rfl))
            try simp only [Act.put, List.setIfInBounds_toArray, List.set_cons_succ, List.set_cons_zero]
            refine tkA (i := 30) (v := ?v192) rfl hHeld ?hy192 (some 105) rfl ?rest192
            case hy192 => (intro W hSw; obtain ⟨⟨y0, y1, y2, y3, y4⟩, x1, HbW, HLo, HHi⟩ := hSw; go_simp; (try with_reducible rfl))
            try simp only [Act.put, List.setIfInBounds_toArray, List.set_cons_succ, List.set_cons_zero]
            refine skA (i := 31) rfl hHeld (some 106) rfl ?_
            try simp only [Act.put, List.setIfInBounds_toArray, List.set_cons_succ, List.set_cons_zero]
            refine skA (i := 32) rfl hHeld (some 107) rfl ?_
            try simp only [Act.put, List.setIfInBounds_toArray, List.set_cons_succ, List.set_cons_zero]
            refine skA (i := 33) rfl hHeld (some 108) rfl ?_
            try simp only [Act.put, List.setIfInBounds_toArray, List.set_cons_succ, List.set_cons_zero]
            refine skA (i := 34) rfl hHeld (some 109) rfl ?_
            try simp only [Act.put, List.setIfInBounds_toArray, List.set_cons_succ, List.set_cons_zero]
            refine skA (i := 35) rfl hHeld (some 110) rfl ?_
            try simp only [Act.put, List.setIfInBounds_toArray, List.set_cons_succ, List.set_cons_zero]
            refine skA (i := 36) rfl hHeld (some 111) rfl ?_
            try simp only [Act.put, List.setIfInBounds_toArray, List.set_cons_succ, List.set_cons_zero]
            refine skA (i := 37) rfl hHeld (some 112) rfl ?_
            try simp only [Act.put, List.setIfInBounds_toArray, List.set_cons_succ, List.set_cons_zero]
            refine skA (i := 38) rfl hHeld (some 113) rfl ?_
            try simp only [Act.put, List.setIfInBounds_toArray, List.set_cons_succ, List.set_cons_zero]
            refine skA (i := 39) rfl hHeld (some 114) rfl ?_
            try simp only [Act.put, List.setIfInBounds_toArray, List.set_cons_succ, List.set_cons_zero]
            refine skA (i := 40) rfl hHeld (some 115) rfl ?_
            try simp only [Act.put, List.setIfInBounds_toArray, List.set_cons_succ, List.set_cons_zero]
            refine skA (i := 41) rfl hHeld (some 116) rfl ?_
            try simp only [Act.put, List.setIfInBounds_toArray, List.set_cons_succ, List.set_cons_zero]
            refine tkA (i := 42) (v := ?v193) rfl hHeld ?hy193 (some 117) rfl ?rest193
            case hy193 => (intro W hSw; obtain ⟨⟨y0, y1, y2, y3, y4⟩, x1, HbW, HLo, HHi⟩ := hSw; go_simp; (try with_reducible rfl))
            try simp only [Act.put, List.setIfInBounds_toArray, List.set_cons_succ, List.set_cons_zero]
            refine anyK_done (by kernel_rfl) ?_ _
            clear hHeld
            go_wp2_with fail
            go_meet
            case rel => exact ⟨by rw [HEq.out]; first | rfl | simp, BC⟩
           | true =>
            refine tkA (i := 15) (v := ?v194) rfl hHeld ?hy194 (some 90) rfl ?rest194
            case hy194 => (intro W hSw; obtain ⟨⟨y0, y1, y2, y3, y4⟩, x1, HbW, HLo, HHi⟩ := hSw; go_simp; (try with_reducible rfl))
            try simp only [Act.put, List.setIfInBounds_toArray, List.set_cons_succ, List.set_cons_zero]
            refine tkA (i := 16) (v := ?v195) rfl hHeld ?hy195 (some 91) rfl ?rest195
            case hy195 => (intro W hSw; obtain ⟨⟨y0, y1, y2, y3, y4⟩, x1, HbW, HLo, HHi⟩ := hSw; go_simp; (try with_reducible rfl))
            try simp only [Act.put, List.setIfInBounds_toArray, List.set_cons_succ, List.set_cons_zero]
            refine tkA (i := 17) (v := ?v196) rfl hHeld ?hy196 (some 92) rfl ?rest196
            case hy196 => (intro W hSw; obtain ⟨⟨y0, y1, y2, y3, y4⟩, x1, HbW, HLo, HHi⟩ := hSw; go_simp; (try with_reducible rfl))
            try simp only [Act.put, List.setIfInBounds_toArray, List.set_cons_succ, List.set_cons_zero]
            refine tkA (i := 18) (v := ?v197) rfl hHeld ?hy197 (some 93) rfl ?rest197
            case hy197 => (intro W hSw; obtain ⟨⟨y0, y1, y2, y3, y4⟩, x1, HbW, HLo, HHi⟩ := hSw; go_simp; (try with_reducible rfl))
            try simp only [Act.put, List.setIfInBounds_toArray, List.set_cons_succ, List.set_cons_zero]
            refine tkA (i := 19) (v := ?v198) rfl hHeld ?hy198 (some 94) rfl ?rest198
            case hy198 => (intro W hSw; obtain ⟨⟨y0, y1, y2, y3, y4⟩, x1, HbW, HLo, HHi⟩ := hSw; go_simp; (try with_reducible rfl))
            try simp only [Act.put, List.setIfInBounds_toArray, List.set_cons_succ, List.set_cons_zero]
            refine tkA (i := 20) (v := ?v199) rfl hHeld ?hy199 (some 95) rfl ?rest199
            case hy199 => (intro W hSw; obtain ⟨⟨y0, y1, y2, y3, y4⟩, x1, HbW, HLo, HHi⟩ := hSw; go_simp; (try with_reducible rfl))
            try simp only [Act.put, List.setIfInBounds_toArray, List.set_cons_succ, List.set_cons_zero]
            refine tkA (i := 21) (v := ?v200) rfl hHeld ?hy200 (some 96) rfl ?rest200
            case hy200 => (intro W hSw; obtain ⟨⟨y0, y1, y2, y3, y4⟩, x1, HbW, HLo, HHi⟩ := hSw; go_simp; (try with_reducible rfl))
            try simp only [Act.put, List.setIfInBounds_toArray, List.set_cons_succ, List.set_cons_zero]
            refine tkA (i := 22) (v := ?v201) rfl hHeld ?hy201 (some 97) rfl ?rest201
            case hy201 => (intro W hSw; obtain ⟨⟨y0, y1, y2, y3, y4⟩, x1, HbW, HLo, HHi⟩ := hSw; go_simp; (try with_reducible rfl))
            try simp only [Act.put, List.setIfInBounds_toArray, List.set_cons_succ, List.set_cons_zero]
            refine tkA (i := 23) (v := ?v202) rfl hHeld ?hy202 (some 98) rfl ?rest202
            case hy202 => (intro W hSw; obtain ⟨⟨y0, y1, y2, y3, y4⟩, x1, HbW, HLo, HHi⟩ := hSw; go_simp; (try with_reducible rfl))
            try simp only [Act.put, List.setIfInBounds_toArray, List.set_cons_succ, List.set_cons_zero]
            refine tkA (i := 24) (v := ?v203) rfl hHeld ?hy203 (some 99) rfl ?rest203
            case hy203 => (intro W hSw; obtain ⟨⟨y0, y1, y2, y3, y4⟩, x1, HbW, HLo, HHi⟩ := hSw; go_simp; (try with_reducible rfl))
            try simp only [Act.put, List.setIfInBounds_toArray, List.set_cons_succ, List.set_cons_zero]
            refine tkA (i := 25) (v := ?v204) rfl hHeld ?hy204 (some 100) rfl ?rest204
            case hy204 => (intro W hSw; obtain ⟨⟨y0, y1, y2, y3, y4⟩, x1, HbW, HLo, HHi⟩ := hSw; go_simp; (try with_reducible rfl))
            try simp only [Act.put, List.setIfInBounds_toArray, List.set_cons_succ, List.set_cons_zero]
            refine tkA (i := 26) (v := ?v205) rfl hHeld ?hy205 (some 101) rfl ?rest205
            case hy205 => (intro W hSw; obtain ⟨⟨y0, y1, y2, y3, y4⟩, x1, HbW, HLo, HHi⟩ := hSw; obtain ⟨q0, q1, q2, q3, q4⟩ := HLo.out; go_simp; (try with_reducible rfl))
            try simp only [Act.put, List.setIfInBounds_toArray, List.set_cons_succ, List.set_cons_zero]
            refine anyK_step (i := 27) (by kernel_rfl) rfl (fun KP hK => ?_)
            go_simp
            refine (spec_less e.K e.N e.F c1 e.id eL.K eL.N eL.F kL eL.id f1 fL (HR1.out.below (HKp.out _ BC.out).2.2.1.out (Nat.le_refl _)) (RXL.out.below (HKp.out _ BC.out).2.2.1.out (Nat.le_refl _)) m1 mL).mono ?_
            rintro e v3 ⟨rfl, b⟩
            replace BC := hid (BC.out.trans (b.mono BC.out.size))
            clear b
            obtain ⟨LL, hLL⟩ : ∃ LL, ltB (cmpI e.K e.N e.F e.Z.length e.Z eL.K eL.N eL.F eL.Z.length eL.Z) e.id eL.id = LL := ⟨_, rfl⟩
            rw [hLL]
            rw [show loB (some eL) e = !LL from congrArg Bool.not hLL] at HEq
            clear hLL
            go_wp2_with fail
            clear hHeld
            refine hK.out _ _ (HKp.out _ BC.out) (fun hHeld => ?_)
            clear hK KP
            try simp only [Act.put, List.setIfInBounds_toArray, List.set_cons_succ, List.set_cons_zero]
            cases LL with
            | true =>
             refine tkA (i := 28) (v := ?v206) rfl hHeld ?hy206 (some 103) rfl ?rest206
             case hy206 => (intro W hSw; obtain ⟨⟨y0, y1, y2, y3, y4⟩, x1, HbW, HLo, HHi⟩ := hSw; go_simp; (try with_reducible rfl))
             try simp only [Act.put, List.setIfInBounds_toArray, List.set_cons_succ, List.set_cons_zero]
             refine tkA (i := 29) (v := ?v207) rfl hHeld ?hy207 (some 104) rfl ?rest207
             case hy207 => (intro W hSw; obtain ⟨⟨y0, y1, y2, y3, y4⟩, x1, HbW, HLo, HHi⟩ := hSw; go_simp; (try with_reducible rfl))
             try simp only [Act.put, List.setIfInBounds_toArray, List.set_cons_succ, List.set_cons_zero]
             refine tkA (i := 30) (v := ?v208) rfl hHeld ?hy208 (some 105) rfl ?rest208
             case hy208 => (intro W hSw; obtain ⟨⟨y0, y1, y2, y3, y4⟩, x1, HbW, HLo, HHi⟩ := hSw; go_simp; (try with_reducible rfl))
             try simp only [Act.put, List.setIfInBounds_toArray, List.set_cons_succ, List.set_cons_zero]
             refine skA (i := 31) rfl hHeld (some 106) rfl ?_
             try simp only [Act.put, List.setIfInBounds_toArray, List.set_cons_succ, List.set_cons_zero]
             refine skA (i := 32) rfl hHeld (some 107) rfl ?_
             try simp only [Act.put, List.setIfInBounds_toArray, List.set_cons_succ, List.set_cons_zero]
             refine skA (i := 33) rfl hHeld (some 108) rfl ?_
             try simp only [Act.put, List.setIfInBounds_toArray, List.set_cons_succ, List.set_cons_zero]
             refine skA (i := 34) rfl hHeld (some 109) rfl ?_
             try simp only [Act.put, List.setIfInBounds_toArray, List.set_cons_succ, List.set_cons_zero]
             refine skA (i := 35) rfl hHeld (some 110) rfl ?_
             try simp only [Act.put, List.setIfInBounds_toArray, List.set_cons_succ, List.set_cons_zero]
             refine skA (i := 36) rfl hHeld (some 111) rfl ?_
             try simp only [Act.put, List.setIfInBounds_toArray, List.set_cons_succ, List.set_cons_zero]
             refine skA (i := 37) rfl hHeld (some 112) rfl ?_
             try simp only [Act.put, List.setIfInBounds_toArray, List.set_cons_succ, List.set_cons_zero]
             refine skA (i := 38) rfl hHeld (some 113) rfl ?_
             try simp only [Act.put, List.setIfInBounds_toArray, List.set_cons_succ, List.set_cons_zero]
             refine skA (i := 39) rfl hHeld (some 114) rfl ?_
             try simp only [Act.put, List.setIfInBounds_toArray, List.set_cons_succ, List.set_cons_zero]
             refine skA (i := 40) rfl hHeld (some 115) rfl ?_
             try simp only [Act.put, List.setIfInBounds_toArray, List.set_cons_succ, List.set_cons_zero]
             refine skA (i := 41) rfl hHeld (some 116) rfl ?_
             try simp only [Act.put, List.setIfInBounds_toArray, List.set_cons_succ, List.set_cons_zero]
             refine tkA (i := 42) (v := ?v209) rfl hHeld ?hy209 (some 117) rfl ?rest209
             case hy209 => (intro W hSw; obtain ⟨⟨y0, y1, y2, y3, y4⟩, x1, HbW, HLo, HHi⟩ := hSw; go_simp; (try with_reducible rfl))
             try simp only [Act.put, List.setIfInBounds_toArray, List.set_cons_succ, List.set_cons_zero]
             refine anyK_done (by kernel_rfl) ?_ _
             clear hHeld
             go_wp2_with fail
             go_meet
             case rel => exact ⟨by rw [HEq.out]; first | rfl | simp, BC⟩
            | false =>
             refine tkA (i := 28) (v := ?v210) rfl hHeld ?hy210 (some 103) rfl ?rest210
             case hy210 => (intro W hSw; obtain ⟨⟨y0, y1, y2, y3, y4⟩, x1, HbW, HLo, HHi⟩ := hSw; go_simp; (try with_reducible rfl))
             try simp only [Act.put, List.setIfInBounds_toArray, List.set_cons_succ, List.set_cons_zero]
             refine tkA (i := 29) (v := ?v211) rfl hHeld ?hy211 (some 104) rfl ?rest211
             case hy211 => (intro W hSw; obtain ⟨⟨y0, y1, y2, y3, y4⟩, x1, HbW, HLo, HHi⟩ := hSw; go_simp; (try with_reducible rfl))
             try simp only [Act.put, List.setIfInBounds_toArray, List.set_cons_succ, List.set_cons_zero]
             refine tkA (i := 30) (v := ?v212) rfl hHeld ?hy212 (some 105) rfl ?rest212
             case hy212 => (intro W hSw; obtain ⟨⟨y0, y1, y2, y3, y4⟩, x1, HbW, HLo, HHi⟩ := hSw; go_simp; (try with_reducible rfl))
             try simp only [Act.put, List.setIfInBounds_toArray, List.set_cons_succ, List.set_cons_zero]
             refine tkA (i := 31) (v := ?v213) rfl hHeld ?hy213 (some 106) rfl ?rest213
             case hy213 => (intro W hSw; obtain ⟨⟨y0, y1, y2, y3, y4⟩, x1, HbW, HLo, HHi⟩ := hSw; go_simp; (try with_reducible rfl))
             try simp only [Act.put, List.setIfInBounds_toArray, List.set_cons_succ, List.set_cons_zero]
             refine tkA (i := 32) (v := ?v214) rfl hHeld ?hy214 (some 107) rfl ?rest214
             case hy214 => (intro W hSw; obtain ⟨⟨y0, y1, y2, y3, y4⟩, x1, HbW, HLo, HHi⟩ := hSw; go_simp; (try with_reducible rfl))
             try simp only [Act.put, List.setIfInBounds_toArray, List.set_cons_succ, List.set_cons_zero]
             refine tkA (i := 33) (v := ?v215) rfl hHeld ?hy215 (some 108) rfl ?rest215
             case hy215 => (intro W hSw; obtain ⟨⟨y0, y1, y2, y3, y4⟩, x1, HbW, HLo, HHi⟩ := hSw; go_simp; (try with_reducible rfl))
             try simp only [Act.put, List.setIfInBounds_toArray, List.set_cons_succ, List.set_cons_zero]
             refine tkA (i := 34) (v := ?v216) rfl hHeld ?hy216 (some 109) rfl ?rest216
             case hy216 => (intro W hSw; obtain ⟨⟨y0, y1, y2, y3, y4⟩, x1, HbW, HLo, HHi⟩ := hSw; go_simp; (try with_reducible rfl))
             try simp only [Act.put, List.setIfInBounds_toArray, List.set_cons_succ, List.set_cons_zero]
             refine skA (i := 35) rfl hHeld (some 110) rfl ?_
             try simp only [Act.put, List.setIfInBounds_toArray, List.set_cons_succ, List.set_cons_zero]
             refine skA (i := 36) rfl hHeld (some 111) rfl ?_
             try simp only [Act.put, List.setIfInBounds_toArray, List.set_cons_succ, List.set_cons_zero]
             refine skA (i := 37) rfl hHeld (some 112) rfl ?_
             try simp only [Act.put, List.setIfInBounds_toArray, List.set_cons_succ, List.set_cons_zero]
             refine skA (i := 38) rfl hHeld (some 113) rfl ?_
             try simp only [Act.put, List.setIfInBounds_toArray, List.set_cons_succ, List.set_cons_zero]
             refine skA (i := 39) rfl hHeld (some 114) rfl ?_
             try simp only [Act.put, List.setIfInBounds_toArray, List.set_cons_succ, List.set_cons_zero]
             refine skA (i := 40) rfl hHeld (some 115) rfl ?_
             try simp only [Act.put, List.setIfInBounds_toArray, List.set_cons_succ, List.set_cons_zero]
             refine tkA (i := 41) (v := ?v217) rfl hHeld ?hy217 (some 116) rfl ?rest217
             case hy217 => (intro W hSw; obtain ⟨⟨y0, y1, y2, y3, y4⟩, x1, HbW, HLo, HHi⟩ := hSw; go_simp; (try with_reducible rfl))
             try simp only [Act.put, List.setIfInBounds_toArray, List.set_cons_succ, List.set_cons_zero]
             refine tkA (i := 42) (v := ?v218) rfl hHeld ?hy218 (some 117) rfl ?rest218
             case hy218 => (intro W hSw; obtain ⟨⟨y0, y1, y2, y3, y4⟩, x1, HbW, HLo, HHi⟩ := hSw; go_simp; (try with_reducible rfl))
             try simp only [Act.put, List.setIfInBounds_toArray, List.set_cons_succ, List.set_cons_zero]
             refine anyK_done (by kernel_rfl) ?_ _
             clear hHeld
             go_wp2_with fail
             go_meet
             case rel => exact ⟨by rw [HEq.out]; first | rfl | simp, BC⟩
       | some eH =>
        obtain ⟨bH, cH, aH, kH, rfl, bxH, rH, fH, mH⟩ := HSH1.out
        have BXH := hid bxH
        have RXH := hid rH
        clear bxH rH
        as_aux_lemma =>
         have HKp := hid (show ∀ W', Below V2.heap.size V2 W' → (W'.cell? ⟨p14, 0, none⟩ = some (.int .i64 e.K) ∧ W'.cell? ⟨p14, 1, none⟩ = some (.int .i64 e.N) ∧ W'.cell? ⟨p14, 2, none⟩ = some (.float .f64 e.F) ∧ W'.cell? ⟨p14, 3, none⟩ = some (.slice a1 e.Z.length c1) ∧ W'.cell? ⟨p14, 4, none⟩ = some (.int .i64 e.id)) ∧ W'.cell? ⟨p12, 1, none⟩ = some (.slice (some ⟨be, oe, none⟩) n ce) ∧ Hid (Below w0.heap.size w0 W') ∧ Hid (Box5 W' bL 0 eL.K eL.N eL.F (.slice aL eL.Z.length kL) eL.id) ∧ Hid (Box5 W' bH 0 eH.K eH.N eH.F (.slice aH eH.Z.length kH) eH.id) from fun W' b => by
          have r14 := (b.block p14 HP14.out.1).trans HR14.out
          have b1 := HB2.out.trans (b.mono HB2.out.size)
          have r12 := (b1.block p12 HP12.out.2.1).trans H12.out
          exact ⟨⟨by rw [cell_of_row _ _ _ _ _ _ r14]; rfl, by rw [cell_of_row _ _ _ _ _ _ r14]; rfl, by rw [cell_of_row _ _ _ _ _ _ r14]; rfl, by rw [cell_of_row _ _ _ _ _ _ r14]; rfl, by rw [cell_of_row _ _ _ _ _ _ r14]; rfl⟩, by rw [cell_of_row _ _ _ _ _ _ r12]; rfl, hid (HBW1.out.trans (b1.mono HBW1.out.size)), hid (BXL.out.below b1 (Nat.le_refl _)), hid (BXH.out.below b1 (Nat.le_refl _))⟩)
         have BC := hid ((Still.drew V2).below V2.heap.size)
         refine region_K 99 (fun W => (W.cell? ⟨p14, 0, none⟩ = some (.int .i64 e.K) ∧ W.cell? ⟨p14, 1, none⟩ = some (.int .i64 e.N) ∧ W.cell? ⟨p14, 2, none⟩ = some (.float .f64 e.F) ∧ W.cell? ⟨p14, 3, none⟩ = some (.slice a1 e.Z.length c1) ∧ W.cell? ⟨p14, 4, none⟩ = some (.int .i64 e.id)) ∧ W.cell? ⟨p12, 1, none⟩ = some (.slice (some ⟨be, oe, none⟩) n ce) ∧ Hid (Below w0.heap.size w0 W) ∧ Hid (Box5 W bL 0 eL.K eL.N eL.F (.slice aL eL.Z.length kL) eL.id) ∧ Hid (Box5 W bH 0 eH.K eH.N eH.F (.slice aH eH.Z.length kH) eH.id)) (by kernel_rfl) ?_ (fun hHeld => ?_)
         · exact HKp.out _ BC.out
         generalize V2.drew = vd at *
         refine tkA (i := 0) (v := ?v219) rfl hHeld ?hy219 (some 75) rfl ?rest219
         case hy219 => (intro W hSw; obtain ⟨⟨y0, y1, y2, y3, y4⟩, x1, HbW, HLo, HHi⟩ := hSw; go_simp; (try with_reducible rfl))
         try simp only [Act.put, List.setIfInBounds_toArray, List.set_cons_succ, List.set_cons_zero]
         refine anyK_step (i := 1) (by kernel_rfl) rfl (fun KP hK => ?_)
         go_simp
         refine (spec_entry e.K e.N e.F a1 e.Z.length c1 e.id f1 m1 _).mono ?_
         rintro e v1 ⟨rfl, b⟩
         replace BC := hid (BC.out.trans (b.mono BC.out.size))
         clear b
         obtain ⟨EO, hEO⟩ : ∃ EO, entB e.K e.N e.F e.Z.length e.id = EO := ⟨_, rfl⟩
         rw [hEO]
         rw [show entOk e = EO from hEO] at HEq
         clear hEO
         go_wp2_with fail
         clear hHeld
         refine hK.out _ _ (HKp.out _ BC.out) (fun hHeld => ?_)
         clear hK KP
         try simp only [Act.put, List.setIfInBounds_toArray, List.set_cons_succ, List.set_cons_zero]
         cases EO with
         | false =>
          refine tkA (i := 2) (v := ?v220) rfl hHeld ?hy220 (some 77) rfl ?rest220
          case hy220 => (intro W hSw; obtain ⟨⟨y0, y1, y2, y3, y4⟩, x1, HbW, HLo, HHi⟩ := hSw; go_simp; (try with_reducible rfl))
          try simp only [Act.put, List.setIfInBounds_toArray, List.set_cons_succ, List.set_cons_zero]
          refine tkA (i := 3) (v := ?v221) rfl hHeld ?hy221 (some 78) rfl ?rest221
          case hy221 => (intro W hSw; obtain ⟨⟨y0, y1, y2, y3, y4⟩, x1, HbW, HLo, HHi⟩ := hSw; go_simp; (try with_reducible rfl))
          try simp only [Act.put, List.setIfInBounds_toArray, List.set_cons_succ, List.set_cons_zero]
          refine skA (i := 4) rfl hHeld (some 79) rfl ?_
          try simp only [Act.put, List.setIfInBounds_toArray, List.set_cons_succ, List.set_cons_zero]
          refine skA (i := 5) rfl hHeld (some 80) rfl ?_
          try simp only [Act.put, List.setIfInBounds_toArray, List.set_cons_succ, List.set_cons_zero]
          refine skA (i := 6) rfl hHeld (some 81) rfl ?_
          try simp only [Act.put, List.setIfInBounds_toArray, List.set_cons_succ, List.set_cons_zero]
          refine skA (i := 7) rfl hHeld (some 82) rfl ?_
          try simp only [Act.put, List.setIfInBounds_toArray, List.set_cons_succ, List.set_cons_zero]
          refine skA (i := 8) rfl hHeld (some 83) rfl ?_
          try simp only [Act.put, List.setIfInBounds_toArray, List.set_cons_succ, List.set_cons_zero]
          refine skA (i := 9) rfl hHeld (some 84) rfl ?_
          try simp only [Act.put, List.setIfInBounds_toArray, List.set_cons_succ, List.set_cons_zero]
          refine skA (i := 10) rfl hHeld (some 85) rfl ?_
          try simp only [Act.put, List.setIfInBounds_toArray, List.set_cons_succ, List.set_cons_zero]
          refine skA (i := 11) rfl hHeld (some 86) rfl ?_
          try simp only [Act.put, List.setIfInBounds_toArray, List.set_cons_succ, List.set_cons_zero]
          refine skA (i := 12) rfl hHeld (some 87) rfl ?_
          try simp only [Act.put, List.setIfInBounds_toArray, List.set_cons_succ, List.set_cons_zero]
          refine skA (i := 13) rfl hHeld (some 88) rfl ?_
          try simp only [Act.put, List.setIfInBounds_toArray, List.set_cons_succ, List.set_cons_zero]
          refine skA (i := 14) rfl hHeld (some 89) rfl ?_
          try simp only [Act.put, List.setIfInBounds_toArray, List.set_cons_succ, List.set_cons_zero]
          refine skA (i := 15) rfl hHeld (some 90) rfl ?_
          try simp only [Act.put, List.setIfInBounds_toArray, List.set_cons_succ, List.set_cons_zero]
          refine skA (i := 16) rfl hHeld (some 91) rfl ?_
          try simp only [Act.put, List.setIfInBounds_toArray, List.set_cons_succ, List.set_cons_zero]
          refine tkA (i := 17) (v := ?v222) rfl hHeld ?hy222 (some 92) rfl ?rest222
          case hy222 => (intro W hSw; obtain ⟨⟨y0, y1, y2, y3, y4⟩, x1, HbW, HLo, HHi⟩ := hSw; go_simp; (try with_reducible rfl))
          try simp only [Act.put, List.setIfInBounds_toArray, List.set_cons_succ, List.set_cons_zero]
          refine tkA (i := 18) (v := ?v223) rfl hHeld ?hy223 (some 93) rfl ?rest223
          case hy223 => (intro W hSw; obtain ⟨⟨y0, y1, y2, y3, y4⟩, x1, HbW, HLo, HHi⟩ := hSw; go_simp; (try with_reducible rfl))
          try simp only [Act.put, List.setIfInBounds_toArray, List.set_cons_succ, List.set_cons_zero]
          refine skA (i := 19) rfl hHeld (some 94) rfl ?_
          try simp only [Act.put, List.setIfInBounds_toArray, List.set_cons_succ, List.set_cons_zero]
          refine skA (i := 20) rfl hHeld (some 95) rfl ?_
          try simp only [Act.put, List.setIfInBounds_toArray, List.set_cons_succ, List.set_cons_zero]
          refine skA (i := 21) rfl hHeld (some 96) rfl ?_
          try simp only [Act.put, List.setIfInBounds_toArray, List.set_cons_succ, List.set_cons_zero]
          refine skA (i := 22) rfl hHeld (some 97) rfl ?_
          try simp only [Act.put, List.setIfInBounds_toArray, List.set_cons_succ, List.set_cons_zero]
          refine skA (i := 23) rfl hHeld (some 98) rfl ?_
          try simp only [Act.put, List.setIfInBounds_toArray, List.set_cons_succ, List.set_cons_zero]
          refine skA (i := 24) rfl hHeld (some 99) rfl ?_
          try simp only [Act.put, List.setIfInBounds_toArray, List.set_cons_succ, List.set_cons_zero]
          refine skA (i := 25) rfl hHeld (some 100) rfl ?_
          try simp only [Act.put, List.setIfInBounds_toArray, List.set_cons_succ, List.set_cons_zero]
          refine skA (i := 26) rfl hHeld (some 101) rfl ?_
          try simp only [Act.put, List.setIfInBounds_toArray, List.set_cons_succ, List.set_cons_zero]
          refine skA (i := 27) rfl hHeld (some 102) rfl ?_
          try simp only [Act.put, List.setIfInBounds_toArray, List.set_cons_succ, List.set_cons_zero]
          refine skA (i := 28) rfl hHeld (some 103) rfl ?_
          try simp only [Act.put, List.setIfInBounds_toArray, List.set_cons_succ, List.set_cons_zero]
          refine tkA (i := 29) (v := ?v224) rfl hHeld ?hy224 (some 104) rfl ?rest224
          case hy224 => (intro W hSw; obtain ⟨⟨y0, y1, y2, y3, y4⟩, x1, HbW, HLo, HHi⟩ := hSw; go_simp; (try with_reducible rfl))
          try simp only [Act.put, List.setIfInBounds_toArray, List.set_cons_succ, List.set_cons_zero]
          refine tkA (i := 30) (v := ?v225) rfl hHeld ?hy225 (some 105) rfl ?rest225
          case hy225 => (intro W hSw; obtain ⟨⟨y0, y1, y2, y3, y4⟩, x1, HbW, HLo, HHi⟩ := hSw; go_simp; (try with_reducible rfl))
          try simp only [Act.put, List.setIfInBounds_toArray, List.set_cons_succ, List.set_cons_zero]
          refine skA (i := 31) rfl hHeld (some 106) rfl ?_
          try simp only [Act.put, List.setIfInBounds_toArray, List.set_cons_succ, List.set_cons_zero]
          refine skA (i := 32) rfl hHeld (some 107) rfl ?_
          try simp only [Act.put, List.setIfInBounds_toArray, List.set_cons_succ, List.set_cons_zero]
          refine skA (i := 33) rfl hHeld (some 108) rfl ?_
          try simp only [Act.put, List.setIfInBounds_toArray, List.set_cons_succ, List.set_cons_zero]
          refine skA (i := 34) rfl hHeld (some 109) rfl ?_
          try simp only [Act.put, List.setIfInBounds_toArray, List.set_cons_succ, List.set_cons_zero]
          refine skA (i := 35) rfl hHeld (some 110) rfl ?_
          try simp only [Act.put, List.setIfInBounds_toArray, List.set_cons_succ, List.set_cons_zero]
          refine skA (i := 36) rfl hHeld (some 111) rfl ?_
          try simp only [Act.put, List.setIfInBounds_toArray, List.set_cons_succ, List.set_cons_zero]
          refine skA (i := 37) rfl hHeld (some 112) rfl ?_
          try simp only [Act.put, List.setIfInBounds_toArray, List.set_cons_succ, List.set_cons_zero]
          refine skA (i := 38) rfl hHeld (some 113) rfl ?_
          try simp only [Act.put, List.setIfInBounds_toArray, List.set_cons_succ, List.set_cons_zero]
          refine skA (i := 39) rfl hHeld (some 114) rfl ?_
          try simp only [Act.put, List.setIfInBounds_toArray, List.set_cons_succ, List.set_cons_zero]
          refine skA (i := 40) rfl hHeld (some 115) rfl ?_
          try simp only [Act.put, List.setIfInBounds_toArray, List.set_cons_succ, List.set_cons_zero]
          refine skA (i := 41) rfl hHeld (some 116) rfl ?_
          try simp only [Act.put, List.setIfInBounds_toArray, List.set_cons_succ, List.set_cons_zero]
          refine tkA (i := 42) (v := ?v226) rfl hHeld ?hy226 (some 117) rfl ?rest226
          case hy226 => (intro W hSw; obtain ⟨⟨y0, y1, y2, y3, y4⟩, x1, HbW, HLo, HHi⟩ := hSw; go_simp; (try with_reducible rfl))
          try simp only [Act.put, List.setIfInBounds_toArray, List.set_cons_succ, List.set_cons_zero]
          refine anyK_done (by kernel_rfl) ?_ _
          clear hHeld
          go_wp2_with fail
          go_meet
          case rel => exact ⟨by rw [HEq.out]; first | rfl | simp, BC⟩
         | true =>
          refine tkA (i := 2) (v := ?v227) rfl hHeld ?hy227 (some 77) rfl ?rest227
          case hy227 => (intro W hSw; obtain ⟨⟨y0, y1, y2, y3, y4⟩, x1, HbW, HLo, HHi⟩ := hSw; go_simp; (try with_reducible rfl))
          try simp only [Act.put, List.setIfInBounds_toArray, List.set_cons_succ, List.set_cons_zero]
          refine tkA (i := 3) (v := ?v228) rfl hHeld ?hy228 (some 78) rfl ?rest228
          case hy228 => (intro W hSw; obtain ⟨⟨y0, y1, y2, y3, y4⟩, x1, HbW, HLo, HHi⟩ := hSw; go_simp; (try with_reducible rfl))
          try simp only [Act.put, List.setIfInBounds_toArray, List.set_cons_succ, List.set_cons_zero]
          refine tkA (i := 4) (v := ?v229) rfl hHeld ?hy229 (some 79) rfl ?rest229
          case hy229 => (intro W hSw; obtain ⟨⟨y0, y1, y2, y3, y4⟩, x1, HbW, HLo, HHi⟩ := hSw; go_simp; (try with_reducible rfl))
          try simp only [Act.put, List.setIfInBounds_toArray, List.set_cons_succ, List.set_cons_zero]
          by_cases hk1 : kk = 0
          ·
           subst hk1
           refine tkA (i := 5) (v := ?v230) rfl hHeld ?hy230 (some 80) rfl ?rest230
           case hy230 => (intro W hSw; obtain ⟨⟨y0, y1, y2, y3, y4⟩, x1, HbW, HLo, HHi⟩ := hSw; go_simp; (try with_reducible rfl))
           try simp only [Act.put, List.setIfInBounds_toArray, List.set_cons_succ, List.set_cons_zero]
           refine tkA (i := 6) (v := ?v231) rfl hHeld ?hy231 (some 81) rfl ?rest231
           case hy231 => (intro W hSw; obtain ⟨⟨y0, y1, y2, y3, y4⟩, x1, HbW, HLo, HHi⟩ := hSw; go_simp; (try with_reducible rfl))
           try simp only [Act.put, List.setIfInBounds_toArray, List.set_cons_succ, List.set_cons_zero]
           refine skA (i := 7) rfl hHeld (some 82) rfl ?_
           try simp only [Act.put, List.setIfInBounds_toArray, List.set_cons_succ, List.set_cons_zero]
           refine skA (i := 8) rfl hHeld (some 83) rfl ?_
           try simp only [Act.put, List.setIfInBounds_toArray, List.set_cons_succ, List.set_cons_zero]
           refine skA (i := 9) rfl hHeld (some 84) rfl ?_
           try simp only [Act.put, List.setIfInBounds_toArray, List.set_cons_succ, List.set_cons_zero]
           refine skA (i := 10) rfl hHeld (some 85) rfl ?_
           try simp only [Act.put, List.setIfInBounds_toArray, List.set_cons_succ, List.set_cons_zero]
           refine skA (i := 11) rfl hHeld (some 86) rfl ?_
           try simp only [Act.put, List.setIfInBounds_toArray, List.set_cons_succ, List.set_cons_zero]
           refine skA (i := 12) rfl hHeld (some 87) rfl ?_
           try simp only [Act.put, List.setIfInBounds_toArray, List.set_cons_succ, List.set_cons_zero]
           refine skA (i := 13) rfl hHeld (some 88) rfl ?_
           try simp only [Act.put, List.setIfInBounds_toArray, List.set_cons_succ, List.set_cons_zero]
           refine skA (i := 14) rfl hHeld (some 89) rfl ?_
           try simp only [Act.put, List.setIfInBounds_toArray, List.set_cons_succ, List.set_cons_zero]
           refine skA (i := 15) rfl hHeld (some 90) rfl ?_
           try simp only [Act.put, List.setIfInBounds_toArray, List.set_cons_succ, List.set_cons_zero]
           refine tkA (i := 16) (v := ?v232) rfl hHeld ?hy232 (some 91) rfl ?rest232
           case hy232 => (intro W hSw; obtain ⟨⟨y0, y1, y2, y3, y4⟩, x1, HbW, HLo, HHi⟩ := hSw; go_simp; (try with_reducible rfl))
           try simp only [Act.put, List.setIfInBounds_toArray, List.set_cons_succ, List.set_cons_zero]
           refine tkA (i := 17) (v := ?v233) rfl hHeld ?hy233 (some 92) rfl ?rest233
           case hy233 => (intro W hSw; obtain ⟨⟨y0, y1, y2, y3, y4⟩, x1, HbW, HLo, HHi⟩ := hSw; go_simp; (try with_reducible rfl))
           try simp only [Act.put, List.setIfInBounds_toArray, List.set_cons_succ, List.set_cons_zero]
           refine tkA (i := 18) (v := ?v234) rfl hHeld ?hy234 (some 93) rfl ?rest234
           case hy234 => (intro W hSw; obtain ⟨⟨y0, y1, y2, y3, y4⟩, x1, HbW, HLo, HHi⟩ := hSw; go_simp; (try with_reducible rfl))
           try simp only [Act.put, List.setIfInBounds_toArray, List.set_cons_succ, List.set_cons_zero]
           refine tkA (i := 19) (v := ?v235) rfl hHeld ?hy235 (some 94) rfl ?rest235
           case hy235 => (intro W hSw; obtain ⟨⟨y0, y1, y2, y3, y4⟩, x1, HbW, HLo, HHi⟩ := hSw; go_simp; (try with_reducible rfl))
           try simp only [Act.put, List.setIfInBounds_toArray, List.set_cons_succ, List.set_cons_zero]
           refine tkA (i := 20) (v := ?v236) rfl hHeld ?hy236 (some 95) rfl ?rest236
           case hy236 => (intro W hSw; obtain ⟨⟨y0, y1, y2, y3, y4⟩, x1, HbW, HLo, HHi⟩ := hSw; go_simp; (try with_reducible rfl))
           try simp only [Act.put, List.setIfInBounds_toArray, List.set_cons_succ, List.set_cons_zero]
           refine tkA (i := 21) (v := ?v237) rfl hHeld ?hy237 (some 96) rfl ?rest237
           case hy237 => (intro W hSw; obtain ⟨⟨y0, y1, y2, y3, y4⟩, x1, HbW, HLo, HHi⟩ := hSw; go_simp; (try with_reducible rfl))
           try simp only [Act.put, List.setIfInBounds_toArray, List.set_cons_succ, List.set_cons_zero]
           refine tkA (i := 22) (v := ?v238) rfl hHeld ?hy238 (some 97) rfl ?rest238
           case hy238 => (intro W hSw; obtain ⟨⟨y0, y1, y2, y3, y4⟩, x1, HbW, HLo, HHi⟩ := hSw; go_simp; (try with_reducible rfl))
           try simp only [Act.put, List.setIfInBounds_toArray, List.set_cons_succ, List.set_cons_zero]
           refine tkA (i := 23) (v := ?v239) rfl hHeld ?hy239 (some 98) rfl ?rest239
           case hy239 => (intro W hSw; obtain ⟨⟨y0, y1, y2, y3, y4⟩, x1, HbW, HLo, HHi⟩ := hSw; go_simp; (try with_reducible rfl))
           try simp only [Act.put, List.setIfInBounds_toArray, List.set_cons_succ, List.set_cons_zero]
           refine tkA (i := 24) (v := ?v240) rfl hHeld ?hy240 (some 99) rfl ?rest240
           case hy240 => (intro W hSw; obtain ⟨⟨y0, y1, y2, y3, y4⟩, x1, HbW, HLo, HHi⟩ := hSw; go_simp; (try with_reducible rfl))
           try simp only [Act.put, List.setIfInBounds_toArray, List.set_cons_succ, List.set_cons_zero]
           refine tkA (i := 25) (v := ?v241) rfl hHeld ?hy241 (some 100) rfl ?rest241
           case hy241 => (intro W hSw; obtain ⟨⟨y0, y1, y2, y3, y4⟩, x1, HbW, HLo, HHi⟩ := hSw; go_simp; (try with_reducible rfl))
           try simp only [Act.put, List.setIfInBounds_toArray, List.set_cons_succ, List.set_cons_zero]
           refine tkA (i := 26) (v := ?v242) rfl hHeld ?hy242 (some 101) rfl ?rest242
           case hy242 => (intro W hSw; obtain ⟨⟨y0, y1, y2, y3, y4⟩, x1, HbW, HLo, HHi⟩ := hSw; obtain ⟨q0, q1, q2, q3, q4⟩ := HLo.out; go_simp; (try with_reducible rfl))
           try simp only [Act.put, List.setIfInBounds_toArray, List.set_cons_succ, List.set_cons_zero]
           refine anyK_step (i := 27) (by kernel_rfl) rfl (fun KP hK => ?_)
           go_simp
           refine (spec_less e.K e.N e.F c1 e.id eL.K eL.N eL.F kL eL.id f1 fL (HR1.out.below (HKp.out _ BC.out).2.2.1.out (Nat.le_refl _)) (RXL.out.below (HKp.out _ BC.out).2.2.1.out (Nat.le_refl _)) m1 mL).mono ?_
           rintro e v3 ⟨rfl, b⟩
           replace BC := hid (BC.out.trans (b.mono BC.out.size))
           clear b
           obtain ⟨LL, hLL⟩ : ∃ LL, ltB (cmpI e.K e.N e.F e.Z.length e.Z eL.K eL.N eL.F eL.Z.length eL.Z) e.id eL.id = LL := ⟨_, rfl⟩
           rw [hLL]
           rw [show loB (some eL) e = !LL from congrArg Bool.not hLL] at HEq
           clear hLL
           go_wp2_with fail
           clear hHeld
           refine hK.out _ _ (HKp.out _ BC.out) (fun hHeld => ?_)
           clear hK KP
           try simp only [Act.put, List.setIfInBounds_toArray, List.set_cons_succ, List.set_cons_zero]
           cases LL with
           | true =>
            refine tkA (i := 28) (v := ?v243) rfl hHeld ?hy243 (some 103) rfl ?rest243
            case hy243 => (intro W hSw; obtain ⟨⟨y0, y1, y2, y3, y4⟩, x1, HbW, HLo, HHi⟩ := hSw; go_simp; (try with_reducible rfl))
            try simp only [Act.put, List.setIfInBounds_toArray, List.set_cons_succ, List.set_cons_zero]
            refine tkA (i := 29) (v := ?v244) rfl hHeld ?hy244 (some 104) rfl ?rest244
            case hy244 => (intro W hSw; obtain ⟨⟨y0, y1, y2, y3, y4⟩, x1, HbW, HLo, HHi⟩ := hSw; go_simp; (try with_reducible rfl))
            try simp only [Act.put, List.setIfInBounds_toArray, List.set_cons_succ, List.set_cons_zero]
            refine tkA (i := 30) (v := ?v245) rfl hHeld ?hy245 (some 105) rfl ?rest245
            case hy245 => (intro W hSw; obtain ⟨⟨y0, y1, y2, y3, y4⟩, x1, HbW, HLo, HHi⟩ := hSw; go_simp; (try with_reducible rfl))
            try simp only [Act.put, List.setIfInBounds_toArray, List.set_cons_succ, List.set_cons_zero]
            refine skA (i := 31) rfl hHeld (some 106) rfl ?_
            try simp only [Act.put, List.setIfInBounds_toArray, List.set_cons_succ, List.set_cons_zero]
            refine skA (i := 32) rfl hHeld (some 107) rfl ?_
            try simp only [Act.put, List.setIfInBounds_toArray, List.set_cons_succ, List.set_cons_zero]
            refine skA (i := 33) rfl hHeld (some 108) rfl ?_
            try simp only [Act.put, List.setIfInBounds_toArray, List.set_cons_succ, List.set_cons_zero]
            refine skA (i := 34) rfl hHeld (some 109) rfl ?_
            try simp only [Act.put, List.setIfInBounds_toArray, List.set_cons_succ, List.set_cons_zero]
            refine skA (i := 35) rfl hHeld (some 110) rfl ?_
            try simp only [Act.put, List.setIfInBounds_toArray, List.set_cons_succ, List.set_cons_zero]
            refine skA (i := 36) rfl hHeld (some 111) rfl ?_
            try simp only [Act.put, List.setIfInBounds_toArray, List.set_cons_succ, List.set_cons_zero]
            refine skA (i := 37) rfl hHeld (some 112) rfl ?_
            try simp only [Act.put, List.setIfInBounds_toArray, List.set_cons_succ, List.set_cons_zero]
            refine skA (i := 38) rfl hHeld (some 113) rfl ?_
            try simp only [Act.put, List.setIfInBounds_toArray, List.set_cons_succ, List.set_cons_zero]
            refine skA (i := 39) rfl hHeld (some 114) rfl ?_
            try simp only [Act.put, List.setIfInBounds_toArray, List.set_cons_succ, List.set_cons_zero]
            refine skA (i := 40) rfl hHeld (some 115) rfl ?_
            try simp only [Act.put, List.setIfInBounds_toArray, List.set_cons_succ, List.set_cons_zero]
            refine skA (i := 41) rfl hHeld (some 116) rfl ?_
            try simp only [Act.put, List.setIfInBounds_toArray, List.set_cons_succ, List.set_cons_zero]
            refine tkA (i := 42) (v := ?v246) rfl hHeld ?hy246 (some 117) rfl ?rest246
            case hy246 => (intro W hSw; obtain ⟨⟨y0, y1, y2, y3, y4⟩, x1, HbW, HLo, HHi⟩ := hSw; go_simp; (try with_reducible rfl))
            try simp only [Act.put, List.setIfInBounds_toArray, List.set_cons_succ, List.set_cons_zero]
            refine anyK_done (by kernel_rfl) ?_ _
            clear hHeld
            go_wp2_with fail
            go_meet
            case rel => exact ⟨by rw [HEq.out]; first | rfl | simp, BC⟩
           | false =>
            refine tkA (i := 28) (v := ?v247) rfl hHeld ?hy247 (some 103) rfl ?rest247
            case hy247 => (intro W hSw; obtain ⟨⟨y0, y1, y2, y3, y4⟩, x1, HbW, HLo, HHi⟩ := hSw; go_simp; (try with_reducible rfl))
            try simp only [Act.put, List.setIfInBounds_toArray, List.set_cons_succ, List.set_cons_zero]
            refine tkA (i := 29) (v := ?v248) rfl hHeld ?hy248 (some 104) rfl ?rest248
            case hy248 => (intro W hSw; obtain ⟨⟨y0, y1, y2, y3, y4⟩, x1, HbW, HLo, HHi⟩ := hSw; go_simp; (try with_reducible rfl))
            try simp only [Act.put, List.setIfInBounds_toArray, List.set_cons_succ, List.set_cons_zero]
            refine tkA (i := 30) (v := ?v249) rfl hHeld ?hy249 (some 105) rfl ?rest249
            case hy249 => (intro W hSw; obtain ⟨⟨y0, y1, y2, y3, y4⟩, x1, HbW, HLo, HHi⟩ := hSw; go_simp; (try with_reducible rfl))
            try simp only [Act.put, List.setIfInBounds_toArray, List.set_cons_succ, List.set_cons_zero]
            refine tkA (i := 31) (v := ?v250) rfl hHeld ?hy250 (some 106) rfl ?rest250
            case hy250 => (intro W hSw; obtain ⟨⟨y0, y1, y2, y3, y4⟩, x1, HbW, HLo, HHi⟩ := hSw; go_simp; (try with_reducible rfl))
            try simp only [Act.put, List.setIfInBounds_toArray, List.set_cons_succ, List.set_cons_zero]
            refine tkA (i := 32) (v := ?v251) rfl hHeld ?hy251 (some 107) rfl ?rest251
            case hy251 => (intro W hSw; obtain ⟨⟨y0, y1, y2, y3, y4⟩, x1, HbW, HLo, HHi⟩ := hSw; go_simp; (try with_reducible rfl))
            try simp only [Act.put, List.setIfInBounds_toArray, List.set_cons_succ, List.set_cons_zero]
            refine tkA (i := 33) (v := ?v252) rfl hHeld ?hy252 (some 108) rfl ?rest252
            case hy252 => (intro W hSw; obtain ⟨⟨y0, y1, y2, y3, y4⟩, x1, HbW, HLo, HHi⟩ := hSw; go_simp; (try with_reducible rfl))
            try simp only [Act.put, List.setIfInBounds_toArray, List.set_cons_succ, List.set_cons_zero]
            refine tkA (i := 34) (v := ?v253) rfl hHeld ?hy253 (some 109) rfl ?rest253
            case hy253 => (intro W hSw; obtain ⟨⟨y0, y1, y2, y3, y4⟩, x1, HbW, HLo, HHi⟩ := hSw; go_simp; (try with_reducible rfl))
            try simp only [Act.put, List.setIfInBounds_toArray, List.set_cons_succ, List.set_cons_zero]
            refine tkA (i := 35) (v := ?v254) rfl hHeld ?hy254 (some 110) rfl ?rest254
            case hy254 => (intro W hSw; obtain ⟨⟨y0, y1, y2, y3, y4⟩, x1, HbW, HLo, HHi⟩ := hSw; go_simp; (try with_reducible rfl))
            try simp only [Act.put, List.setIfInBounds_toArray, List.set_cons_succ, List.set_cons_zero]
            refine tkA (i := 36) (v := ?v255) rfl hHeld ?hy255 (some 111) rfl ?rest255
            case hy255 => (intro W hSw; obtain ⟨⟨y0, y1, y2, y3, y4⟩, x1, HbW, HLo, HHi⟩ := hSw; go_simp; (try with_reducible rfl))
            try simp only [Act.put, List.setIfInBounds_toArray, List.set_cons_succ, List.set_cons_zero]
            refine tkA (i := 37) (v := ?v256) rfl hHeld ?hy256 (some 112) rfl ?rest256
            case hy256 => (intro W hSw; obtain ⟨⟨y0, y1, y2, y3, y4⟩, x1, HbW, HLo, HHi⟩ := hSw; go_simp; (try with_reducible rfl))
            try simp only [Act.put, List.setIfInBounds_toArray, List.set_cons_succ, List.set_cons_zero]
            refine tkA (i := 38) (v := ?v257) rfl hHeld ?hy257 (some 113) rfl ?rest257
            case hy257 => (intro W hSw; obtain ⟨⟨y0, y1, y2, y3, y4⟩, x1, HbW, HLo, HHi⟩ := hSw; obtain ⟨q0, q1, q2, q3, q4⟩ := HHi.out; go_simp; (try with_reducible rfl))
            try simp only [Act.put, List.setIfInBounds_toArray, List.set_cons_succ, List.set_cons_zero]
            refine anyK_step (i := 39) (by kernel_rfl) rfl (fun KP hK => ?_)
            go_simp
            refine (spec_less e.K e.N e.F c1 e.id eH.K eH.N eH.F kH eH.id f1 fH (HR1.out.below (HKp.out _ BC.out).2.2.1.out (Nat.le_refl _)) (RXH.out.below (HKp.out _ BC.out).2.2.1.out (Nat.le_refl _)) m1 mH).mono ?_
            rintro e v4 ⟨rfl, b⟩
            replace BC := hid (BC.out.trans (b.mono BC.out.size))
            clear b
            obtain ⟨HT, hHT⟩ : ∃ HT, ltB (cmpI e.K e.N e.F e.Z.length e.Z eH.K eH.N eH.F eH.Z.length eH.Z) e.id eH.id = HT := ⟨_, rfl⟩
            rw [hHT]
            rw [show hiB (some eH) e = HT from hHT] at HEq
            clear hHT
            go_wp2_with fail
            clear hHeld
            refine hK.out _ _ (HKp.out _ BC.out) (fun hHeld => ?_)
            clear hK KP
            try simp only [Act.put, List.setIfInBounds_toArray, List.set_cons_succ, List.set_cons_zero]
            cases HT with
            | false =>
             refine tkA (i := 40) (v := ?v258) rfl hHeld ?hy258 (some 115) rfl ?rest258
             case hy258 => (intro W hSw; obtain ⟨⟨y0, y1, y2, y3, y4⟩, x1, HbW, HLo, HHi⟩ := hSw; go_simp; (try with_reducible rfl))
             try simp only [Act.put, List.setIfInBounds_toArray, List.set_cons_succ, List.set_cons_zero]
             refine tkA (i := 41) (v := ?v259) rfl hHeld ?hy259 (some 116) rfl ?rest259
             case hy259 => (intro W hSw; obtain ⟨⟨y0, y1, y2, y3, y4⟩, x1, HbW, HLo, HHi⟩ := hSw; go_simp; (try with_reducible rfl))
             try simp only [Act.put, List.setIfInBounds_toArray, List.set_cons_succ, List.set_cons_zero]
             refine tkA (i := 42) (v := ?v260) rfl hHeld ?hy260 (some 117) rfl ?rest260
             case hy260 => (intro W hSw; obtain ⟨⟨y0, y1, y2, y3, y4⟩, x1, HbW, HLo, HHi⟩ := hSw; go_simp; (try with_reducible rfl))
             try simp only [Act.put, List.setIfInBounds_toArray, List.set_cons_succ, List.set_cons_zero]
             refine anyK_done (by kernel_rfl) ?_ _
             clear hHeld
             go_wp2_with fail
             go_meet
             case rel => exact ⟨by rw [HEq.out]; first | rfl | simp, BC⟩
            | true =>
             refine tkA (i := 40) (v := ?v261) rfl hHeld ?hy261 (some 115) rfl ?rest261
             case hy261 => (intro W hSw; obtain ⟨⟨y0, y1, y2, y3, y4⟩, x1, HbW, HLo, HHi⟩ := hSw; go_simp; (try with_reducible rfl))
             try simp only [Act.put, List.setIfInBounds_toArray, List.set_cons_succ, List.set_cons_zero]
             refine tkA (i := 41) (v := ?v262) rfl hHeld ?hy262 (some 116) rfl ?rest262
             case hy262 => (intro W hSw; obtain ⟨⟨y0, y1, y2, y3, y4⟩, x1, HbW, HLo, HHi⟩ := hSw; go_simp; (try with_reducible rfl))
             try simp only [Act.put, List.setIfInBounds_toArray, List.set_cons_succ, List.set_cons_zero]
             refine tkA (i := 42) (v := ?v263) rfl hHeld ?hy263 (some 117) rfl ?rest263
             case hy263 => (intro W hSw; obtain ⟨⟨y0, y1, y2, y3, y4⟩, x1, HbW, HLo, HHi⟩ := hSw; go_simp; (try with_reducible rfl))
             try simp only [Act.put, List.setIfInBounds_toArray, List.set_cons_succ, List.set_cons_zero]
             refine anyK_done (by kernel_rfl) ?_ _
             clear hHeld
             go_wp2_with fail
             go_meet
             case rel => exact ⟨by rw [HEq.out]; first | rfl | simp, BC⟩
          ·
           have hk2 : (0 : Int) < (kk : Int) := by omega
           have hk3 : 0 < kk := by omega
           have h1' : (kk : Int) - 1 < (n : Int) := by omega
           have h2' : (0 : Int) ≤ (kk : Int) - 1 := by omega
           have h3' : ((kk : Int) - 1).toNat = kk - 1 := by omega
           have hwr : IntKind.i64.wrap ((kk : Int) - 1) = ((kk - 1 : Nat) : Int) := by rw [IntKind.wrap_i64]; omega
           have h1n : ((kk - 1 : Nat) : Int) < (n : Int) := by omega
           obtain ⟨be', oe', a0, c0, e0', bxp, rp, _, _, f0⟩ := HRe.out.at (k := kk - 1) (by rw [HNn.out]; omega)
           obtain ⟨rfl, rfl⟩ : be = be' ∧ oe = oe' := by simpa using e0'
           have m0 := HMd.out (kk - 1)
           rw [decide_eq_false hk1, Bool.false_or] at HEq
           obtain ⟨x, hx⟩ : ∃ x, d.es.getD (kk - 1) en0 = x := ⟨_, rfl⟩
           rw [hx] at bxp rp f0 m0 HEq
           have BXP := hid bxp
           have RXP := hid rp
           clear bxp rp e0' hx hk1
           refine tkA (i := 5) (v := ?v264) rfl hHeld ?hy264 (some 80) rfl ?rest264
           case hy264 => (intro W hSw; obtain ⟨⟨y0, y1, y2, y3, y4⟩, x1, HbW, HLo, HHi⟩ := hSw; go_simp; (try with_reducible rfl))
           try simp only [Act.put, List.setIfInBounds_toArray, List.set_cons_succ, List.set_cons_zero]
           refine tkA (i := 6) (v := ?v265) rfl hHeld ?hy265 (some 81) rfl ?rest265
           case hy265 => (intro W hSw; obtain ⟨⟨y0, y1, y2, y3, y4⟩, x1, HbW, HLo, HHi⟩ := hSw; go_simp; (try with_reducible rfl))
           try simp only [Act.put, List.setIfInBounds_toArray, List.set_cons_succ, List.set_cons_zero]
           refine tkA (i := 7) (v := ?v266) rfl hHeld ?hy266 (some 82) rfl ?rest266
           case hy266 => (intro W hSw; obtain ⟨⟨y0, y1, y2, y3, y4⟩, x1, HbW, HLo, HHi⟩ := hSw; go_simp; (try with_reducible rfl))
           try simp only [Act.put, List.setIfInBounds_toArray, List.set_cons_succ, List.set_cons_zero]
           refine tkA (i := 8) (v := ?v267) rfl hHeld ?hy267 (some 83) rfl ?rest267
           case hy267 => (intro W hSw; obtain ⟨⟨y0, y1, y2, y3, y4⟩, x1, HbW, HLo, HHi⟩ := hSw; go_simp; (try with_reducible rfl))
           try simp only [Act.put, List.setIfInBounds_toArray, List.set_cons_succ, List.set_cons_zero]
           refine tkA (i := 9) (v := ?v268) rfl hHeld ?hy268 (some 84) rfl ?rest268
           case hy268 => (intro W hSw; obtain ⟨⟨y0, y1, y2, y3, y4⟩, x1, HbW, HLo, HHi⟩ := hSw; go_simp; (try with_reducible rfl))
           try simp only [Act.put, List.setIfInBounds_toArray, List.set_cons_succ, List.set_cons_zero]
           refine tkA (i := 10) (v := ?v269) rfl hHeld ?hy269 (some 85) rfl ?rest269
           case hy269 => (intro W hSw; obtain ⟨⟨y0, y1, y2, y3, y4⟩, x1, HbW, HLo, HHi⟩ := hSw; go_simp; (try with_reducible rfl))
           try simp only [Act.put, List.setIfInBounds_toArray, List.set_cons_succ, List.set_cons_zero]
           refine tkA (i := 11) (v := ?v270) rfl hHeld ?hy270 (some 86) rfl ?rest270
           case hy270 => (intro W hSw; obtain ⟨⟨y0, y1, y2, y3, y4⟩, x1, HbW, HLo, HHi⟩ := hSw; go_simp; (try with_reducible rfl))
           try simp only [Act.put, List.setIfInBounds_toArray, List.set_cons_succ, List.set_cons_zero]
           refine tkA (i := 12) (v := ?v271) rfl hHeld ?hy271 (some 87) rfl ?rest271
           case hy271 => (intro W hSw; obtain ⟨⟨y0, y1, y2, y3, y4⟩, x1, HbW, HLo, HHi⟩ := hSw; obtain ⟨q0, q1, q2, q3, q4⟩ := BXP.out.below HbW.out (Nat.le_refl _); go_simp; (try with_reducible rfl))
           try simp only [Act.put, List.setIfInBounds_toArray, List.set_cons_succ, List.set_cons_zero]
           refine tkA (i := 13) (v := ?v272) rfl hHeld ?hy272 (some 88) rfl ?rest272
           case hy272 => (intro W hSw; obtain ⟨⟨y0, y1, y2, y3, y4⟩, x1, HbW, HLo, HHi⟩ := hSw; go_simp; (try with_reducible rfl))
           try simp only [Act.put, List.setIfInBounds_toArray, List.set_cons_succ, List.set_cons_zero]
           refine anyK_step (i := 14) (by kernel_rfl) rfl (fun KP hK => ?_)
           go_simp
           refine (spec_less x.K x.N x.F c0 x.id e.K e.N e.F c1 e.id f0 f1 (RXP.out.below (HKp.out _ BC.out).2.2.1.out (Nat.le_refl _)) (HR1.out.below (HKp.out _ BC.out).2.2.1.out (Nat.le_refl _)) m0 m1).mono ?_
           rintro e v2 ⟨rfl, b⟩
           replace BC := hid (BC.out.trans (b.mono BC.out.size))
           clear b
           obtain ⟨LT, hLT⟩ : ∃ LT, ltB (cmpI x.K x.N x.F x.Z.length x.Z e.K e.N e.F e.Z.length e.Z) x.id e.id = LT := ⟨_, rfl⟩
           rw [hLT]
           rw [show ltE x e = LT from hLT] at HEq
           clear hLT
           go_wp2_with fail
           clear hHeld
           refine hK.out _ _ (HKp.out _ BC.out) (fun hHeld => ?_)
           clear hK KP
           try simp only [Act.put, List.setIfInBounds_toArray, List.set_cons_succ, List.set_cons_zero]
           cases LT with
           | false =>
            refine tkA (i := 15) (v := ?v273) rfl hHeld ?hy273 (some 90) rfl ?rest273
            case hy273 => (intro W hSw; obtain ⟨⟨y0, y1, y2, y3, y4⟩, x1, HbW, HLo, HHi⟩ := hSw; go_simp; (try with_reducible rfl))
            try simp only [Act.put, List.setIfInBounds_toArray, List.set_cons_succ, List.set_cons_zero]
            refine tkA (i := 16) (v := ?v274) rfl hHeld ?hy274 (some 91) rfl ?rest274
            case hy274 => (intro W hSw; obtain ⟨⟨y0, y1, y2, y3, y4⟩, x1, HbW, HLo, HHi⟩ := hSw; go_simp; (try with_reducible rfl))
            try simp only [Act.put, List.setIfInBounds_toArray, List.set_cons_succ, List.set_cons_zero]
            refine tkA (i := 17) (v := ?v275) rfl hHeld ?hy275 (some 92) rfl ?rest275
            case hy275 => (intro W hSw; obtain ⟨⟨y0, y1, y2, y3, y4⟩, x1, HbW, HLo, HHi⟩ := hSw; go_simp; (try with_reducible rfl))
            try simp only [Act.put, List.setIfInBounds_toArray, List.set_cons_succ, List.set_cons_zero]
            refine tkA (i := 18) (v := ?v276) rfl hHeld ?hy276 (some 93) rfl ?rest276
            case hy276 => (intro W hSw; obtain ⟨⟨y0, y1, y2, y3, y4⟩, x1, HbW, HLo, HHi⟩ := hSw; go_simp; (try with_reducible rfl))
            try simp only [Act.put, List.setIfInBounds_toArray, List.set_cons_succ, List.set_cons_zero]
            refine skA (i := 19) rfl hHeld (some 94) rfl ?_
            try simp only [Act.put, List.setIfInBounds_toArray, List.set_cons_succ, List.set_cons_zero]
            refine skA (i := 20) rfl hHeld (some 95) rfl ?_
            try simp only [Act.put, List.setIfInBounds_toArray, List.set_cons_succ, List.set_cons_zero]
            refine skA (i := 21) rfl hHeld (some 96) rfl ?_
            try simp only [Act.put, List.setIfInBounds_toArray, List.set_cons_succ, List.set_cons_zero]
            refine skA (i := 22) rfl hHeld (some 97) rfl ?_
            try simp only [Act.put, List.setIfInBounds_toArray, List.set_cons_succ, List.set_cons_zero]
            refine skA (i := 23) rfl hHeld (some 98) rfl ?_
            try simp only [Act.put, List.setIfInBounds_toArray, List.set_cons_succ, List.set_cons_zero]
            refine skA (i := 24) rfl hHeld (some 99) rfl ?_
            try simp only [Act.put, List.setIfInBounds_toArray, List.set_cons_succ, List.set_cons_zero]
            refine skA (i := 25) rfl hHeld (some 100) rfl ?_
            try simp only [Act.put, List.setIfInBounds_toArray, List.set_cons_succ, List.set_cons_zero]
            refine skA (i := 26) rfl hHeld (some 101) rfl ?_
            try simp only [Act.put, List.setIfInBounds_toArray, List.set_cons_succ, List.set_cons_zero]
            refine skA (i := 27) rfl hHeld (some 102) rfl ?_
            try simp only [Act.put, List.setIfInBounds_toArray, List.set_cons_succ, List.set_cons_zero]
            refine skA (i := 28) rfl hHeld (some 103) rfl ?_
            try simp only [Act.put, List.setIfInBounds_toArray, List.set_cons_succ, List.set_cons_zero]
            refine tkA (i := 29) (v := ?v277) rfl hHeld ?hy277 (some 104) rfl ?rest277
            case hy277 => (intro W hSw; obtain ⟨⟨y0, y1, y2, y3, y4⟩, x1, HbW, HLo, HHi⟩ := hSw; go_simp; (try with_reducible rfl))
            try simp only [Act.put, List.setIfInBounds_toArray, List.set_cons_succ, List.set_cons_zero]
            refine tkA (i := 30) (v := ?v278) rfl hHeld ?hy278 (some 105) rfl ?rest278
            case hy278 => (intro W hSw; obtain ⟨⟨y0, y1, y2, y3, y4⟩, x1, HbW, HLo, HHi⟩ := hSw; go_simp; (try with_reducible rfl))
            try simp only [Act.put, List.setIfInBounds_toArray, List.set_cons_succ, List.set_cons_zero]
            refine skA (i := 31) rfl hHeld (some 106) rfl ?_
            try simp only [Act.put, List.setIfInBounds_toArray, List.set_cons_succ, List.set_cons_zero]
            refine skA (i := 32) rfl hHeld (some 107) rfl ?_
            try simp only [Act.put, List.setIfInBounds_toArray, List.set_cons_succ, List.set_cons_zero]
            refine skA (i := 33) rfl hHeld (some 108) rfl ?_
            try simp only [Act.put, List.setIfInBounds_toArray, List.set_cons_succ, List.set_cons_zero]
            refine skA (i := 34) rfl hHeld (some 109) rfl ?_
            try simp only [Act.put, List.setIfInBounds_toArray, List.set_cons_succ, List.set_cons_zero]
            refine skA (i := 35) rfl hHeld (some 110) rfl ?_
            try simp only [Act.put, List.setIfInBounds_toArray, List.set_cons_succ, List.set_cons_zero]
            refine skA (i := 36) rfl hHeld (some 111) rfl ?_
            try simp only [Act.put, List.setIfInBounds_toArray, List.set_cons_succ, List.set_cons_zero]
            refine skA (i := 37) rfl hHeld (some 112) rfl ?_
            try simp only [Act.put, List.setIfInBounds_toArray, List.set_cons_succ, List.set_cons_zero]
            refine skA (i := 38) rfl hHeld (some 113) rfl ?_
            try simp only [Act.put, List.setIfInBounds_toArray, List.set_cons_succ, List.set_cons_zero]
            refine skA (i := 39) rfl hHeld (some 114) rfl ?_
            try simp only [Act.put, List.setIfInBounds_toArray, List.set_cons_succ, List.set_cons_zero]
            refine skA (i := 40) rfl hHeld (some 115) rfl ?_
            try simp only [Act.put, List.setIfInBounds_toArray, List.set_cons_succ, List.set_cons_zero]
            refine skA (i := 41) rfl hHeld (some 116) rfl ?_
            try simp only [Act.put, List.setIfInBounds_toArray, List.set_cons_succ, List.set_cons_zero]
            refine tkA (i := 42) (v := ?v279) rfl hHeld ?hy279 (some 117) rfl ?rest279
            case hy279 => (intro W hSw; obtain ⟨⟨y0, y1, y2, y3, y4⟩, x1, HbW, HLo, HHi⟩ := hSw; go_simp; (try with_reducible rfl))
            try simp only [Act.put, List.setIfInBounds_toArray, List.set_cons_succ, List.set_cons_zero]
            refine anyK_done (by kernel_rfl) ?_ _
            clear hHeld
            go_wp2_with fail
            go_meet
            case rel => exact ⟨by rw [HEq.out]; first | rfl | simp, BC⟩
           | true =>
            refine tkA (i := 15) (v := ?v280) rfl hHeld ?hy280 (some 90) rfl ?rest280
            case hy280 => (intro W hSw; obtain ⟨⟨y0, y1, y2, y3, y4⟩, x1, HbW, HLo, HHi⟩ := hSw; go_simp; (try with_reducible rfl))
            try simp only [Act.put, List.setIfInBounds_toArray, List.set_cons_succ, List.set_cons_zero]
            refine tkA (i := 16) (v := ?v281) rfl hHeld ?hy281 (some 91) rfl ?rest281
            case hy281 => (intro W hSw; obtain ⟨⟨y0, y1, y2, y3, y4⟩, x1, HbW, HLo, HHi⟩ := hSw; go_simp; (try with_reducible rfl))
            try simp only [Act.put, List.setIfInBounds_toArray, List.set_cons_succ, List.set_cons_zero]
            refine tkA (i := 17) (v := ?v282) rfl hHeld ?hy282 (some 92) rfl ?rest282
            case hy282 => (intro W hSw; obtain ⟨⟨y0, y1, y2, y3, y4⟩, x1, HbW, HLo, HHi⟩ := hSw; go_simp; (try with_reducible rfl))
            try simp only [Act.put, List.setIfInBounds_toArray, List.set_cons_succ, List.set_cons_zero]
            refine tkA (i := 18) (v := ?v283) rfl hHeld ?hy283 (some 93) rfl ?rest283
            case hy283 => (intro W hSw; obtain ⟨⟨y0, y1, y2, y3, y4⟩, x1, HbW, HLo, HHi⟩ := hSw; go_simp; (try with_reducible rfl))
            try simp only [Act.put, List.setIfInBounds_toArray, List.set_cons_succ, List.set_cons_zero]
            refine tkA (i := 19) (v := ?v284) rfl hHeld ?hy284 (some 94) rfl ?rest284
            case hy284 => (intro W hSw; obtain ⟨⟨y0, y1, y2, y3, y4⟩, x1, HbW, HLo, HHi⟩ := hSw; go_simp; (try with_reducible rfl))
            try simp only [Act.put, List.setIfInBounds_toArray, List.set_cons_succ, List.set_cons_zero]
            refine tkA (i := 20) (v := ?v285) rfl hHeld ?hy285 (some 95) rfl ?rest285
            case hy285 => (intro W hSw; obtain ⟨⟨y0, y1, y2, y3, y4⟩, x1, HbW, HLo, HHi⟩ := hSw; go_simp; (try with_reducible rfl))
            try simp only [Act.put, List.setIfInBounds_toArray, List.set_cons_succ, List.set_cons_zero]
            refine tkA (i := 21) (v := ?v286) rfl hHeld ?hy286 (some 96) rfl ?rest286
            case hy286 => (intro W hSw; obtain ⟨⟨y0, y1, y2, y3, y4⟩, x1, HbW, HLo, HHi⟩ := hSw; go_simp; (try with_reducible rfl))
            try simp only [Act.put, List.setIfInBounds_toArray, List.set_cons_succ, List.set_cons_zero]
            refine tkA (i := 22) (v := ?v287) rfl hHeld ?hy287 (some 97) rfl ?rest287
            case hy287 => (intro W hSw; obtain ⟨⟨y0, y1, y2, y3, y4⟩, x1, HbW, HLo, HHi⟩ := hSw; go_simp; (try with_reducible rfl))
            try simp only [Act.put, List.setIfInBounds_toArray, List.set_cons_succ, List.set_cons_zero]
            refine tkA (i := 23) (v := ?v288) rfl hHeld ?hy288 (some 98) rfl ?rest288
            case hy288 => (intro W hSw; obtain ⟨⟨y0, y1, y2, y3, y4⟩, x1, HbW, HLo, HHi⟩ := hSw; go_simp; (try with_reducible rfl))
            try simp only [Act.put, List.setIfInBounds_toArray, List.set_cons_succ, List.set_cons_zero]
            refine tkA (i := 24) (v := ?v289) rfl hHeld ?hy289 (some 99) rfl ?rest289
            case hy289 => (intro W hSw; obtain ⟨⟨y0, y1, y2, y3, y4⟩, x1, HbW, HLo, HHi⟩ := hSw; go_simp; (try with_reducible rfl))
            try simp only [Act.put, List.setIfInBounds_toArray, List.set_cons_succ, List.set_cons_zero]
            refine tkA (i := 25) (v := ?v290) rfl hHeld ?hy290 (some 100) rfl ?rest290
            case hy290 => (intro W hSw; obtain ⟨⟨y0, y1, y2, y3, y4⟩, x1, HbW, HLo, HHi⟩ := hSw; go_simp; (try with_reducible rfl))
            try simp only [Act.put, List.setIfInBounds_toArray, List.set_cons_succ, List.set_cons_zero]
            refine tkA (i := 26) (v := ?v291) rfl hHeld ?hy291 (some 101) rfl ?rest291
            case hy291 => (intro W hSw; obtain ⟨⟨y0, y1, y2, y3, y4⟩, x1, HbW, HLo, HHi⟩ := hSw; obtain ⟨q0, q1, q2, q3, q4⟩ := HLo.out; go_simp; (try with_reducible rfl))
            try simp only [Act.put, List.setIfInBounds_toArray, List.set_cons_succ, List.set_cons_zero]
            refine anyK_step (i := 27) (by kernel_rfl) rfl (fun KP hK => ?_)
            go_simp
            refine (spec_less e.K e.N e.F c1 e.id eL.K eL.N eL.F kL eL.id f1 fL (HR1.out.below (HKp.out _ BC.out).2.2.1.out (Nat.le_refl _)) (RXL.out.below (HKp.out _ BC.out).2.2.1.out (Nat.le_refl _)) m1 mL).mono ?_
            rintro e v3 ⟨rfl, b⟩
            replace BC := hid (BC.out.trans (b.mono BC.out.size))
            clear b
            obtain ⟨LL, hLL⟩ : ∃ LL, ltB (cmpI e.K e.N e.F e.Z.length e.Z eL.K eL.N eL.F eL.Z.length eL.Z) e.id eL.id = LL := ⟨_, rfl⟩
            rw [hLL]
            rw [show loB (some eL) e = !LL from congrArg Bool.not hLL] at HEq
            clear hLL
            go_wp2_with fail
            clear hHeld
            refine hK.out _ _ (HKp.out _ BC.out) (fun hHeld => ?_)
            clear hK KP
            try simp only [Act.put, List.setIfInBounds_toArray, List.set_cons_succ, List.set_cons_zero]
            cases LL with
            | true =>
             refine tkA (i := 28) (v := ?v292) rfl hHeld ?hy292 (some 103) rfl ?rest292
             case hy292 => (intro W hSw; obtain ⟨⟨y0, y1, y2, y3, y4⟩, x1, HbW, HLo, HHi⟩ := hSw; go_simp; (try with_reducible rfl))
             try simp only [Act.put, List.setIfInBounds_toArray, List.set_cons_succ, List.set_cons_zero]
             refine tkA (i := 29) (v := ?v293) rfl hHeld ?hy293 (some 104) rfl ?rest293
             case hy293 => (intro W hSw; obtain ⟨⟨y0, y1, y2, y3, y4⟩, x1, HbW, HLo, HHi⟩ := hSw; go_simp; (try with_reducible rfl))
             try simp only [Act.put, List.setIfInBounds_toArray, List.set_cons_succ, List.set_cons_zero]
             refine tkA (i := 30) (v := ?v294) rfl hHeld ?hy294 (some 105) rfl ?rest294
             case hy294 => (intro W hSw; obtain ⟨⟨y0, y1, y2, y3, y4⟩, x1, HbW, HLo, HHi⟩ := hSw; go_simp; (try with_reducible rfl))
             try simp only [Act.put, List.setIfInBounds_toArray, List.set_cons_succ, List.set_cons_zero]
             refine skA (i := 31) rfl hHeld (some 106) rfl ?_
             try simp only [Act.put, List.setIfInBounds_toArray, List.set_cons_succ, List.set_cons_zero]
             refine skA (i := 32) rfl hHeld (some 107) rfl ?_
             try simp only [Act.put, List.setIfInBounds_toArray, List.set_cons_succ, List.set_cons_zero]
             refine skA (i := 33) rfl hHeld (some 108) rfl ?_
             try simp only [Act.put, List.setIfInBounds_toArray, List.set_cons_succ, List.set_cons_zero]
             refine skA (i := 34) rfl hHeld (some 109) rfl ?_
             try simp only [Act.put, List.setIfInBounds_toArray, List.set_cons_succ, List.set_cons_zero]
             refine skA (i := 35) rfl hHeld (some 110) rfl ?_
             try simp only [Act.put, List.setIfInBounds_toArray, List.set_cons_succ, List.set_cons_zero]
             refine skA (i := 36) rfl hHeld (some 111) rfl ?_
             try simp only [Act.put, List.setIfInBounds_toArray, List.set_cons_succ, List.set_cons_zero]
             refine skA (i := 37) rfl hHeld (some 112) rfl ?_
             try simp only [Act.put, List.setIfInBounds_toArray, List.set_cons_succ, List.set_cons_zero]
             refine skA (i := 38) rfl hHeld (some 113) rfl ?_
             try simp only [Act.put, List.setIfInBounds_toArray, List.set_cons_succ, List.set_cons_zero]
             refine skA (i := 39) rfl hHeld (some 114) rfl ?_
             try simp only [Act.put, List.setIfInBounds_toArray, List.set_cons_succ, List.set_cons_zero]
             refine skA (i := 40) rfl hHeld (some 115) rfl ?_
             try simp only [Act.put, List.setIfInBounds_toArray, List.set_cons_succ, List.set_cons_zero]
             refine skA (i := 41) rfl hHeld (some 116) rfl ?_
             try simp only [Act.put, List.setIfInBounds_toArray, List.set_cons_succ, List.set_cons_zero]
             refine tkA (i := 42) (v := ?v295) rfl hHeld ?hy295 (some 117) rfl ?rest295
             case hy295 => (intro W hSw; obtain ⟨⟨y0, y1, y2, y3, y4⟩, x1, HbW, HLo, HHi⟩ := hSw; go_simp; (try with_reducible rfl))
             try simp only [Act.put, List.setIfInBounds_toArray, List.set_cons_succ, List.set_cons_zero]
             refine anyK_done (by kernel_rfl) ?_ _
             clear hHeld
             go_wp2_with fail
             go_meet
             case rel => exact ⟨by rw [HEq.out]; first | rfl | simp, BC⟩
            | false =>
             refine tkA (i := 28) (v := ?v296) rfl hHeld ?hy296 (some 103) rfl ?rest296
             case hy296 => (intro W hSw; obtain ⟨⟨y0, y1, y2, y3, y4⟩, x1, HbW, HLo, HHi⟩ := hSw; go_simp; (try with_reducible rfl))
             try simp only [Act.put, List.setIfInBounds_toArray, List.set_cons_succ, List.set_cons_zero]
             refine tkA (i := 29) (v := ?v297) rfl hHeld ?hy297 (some 104) rfl ?rest297
             case hy297 => (intro W hSw; obtain ⟨⟨y0, y1, y2, y3, y4⟩, x1, HbW, HLo, HHi⟩ := hSw; go_simp; (try with_reducible rfl))
             try simp only [Act.put, List.setIfInBounds_toArray, List.set_cons_succ, List.set_cons_zero]
             refine tkA (i := 30) (v := ?v298) rfl hHeld ?hy298 (some 105) rfl ?rest298
             case hy298 => (intro W hSw; obtain ⟨⟨y0, y1, y2, y3, y4⟩, x1, HbW, HLo, HHi⟩ := hSw; go_simp; (try with_reducible rfl))
             try simp only [Act.put, List.setIfInBounds_toArray, List.set_cons_succ, List.set_cons_zero]
             refine tkA (i := 31) (v := ?v299) rfl hHeld ?hy299 (some 106) rfl ?rest299
             case hy299 => (intro W hSw; obtain ⟨⟨y0, y1, y2, y3, y4⟩, x1, HbW, HLo, HHi⟩ := hSw; go_simp; (try with_reducible rfl))
             try simp only [Act.put, List.setIfInBounds_toArray, List.set_cons_succ, List.set_cons_zero]
             refine tkA (i := 32) (v := ?v300) rfl hHeld ?hy300 (some 107) rfl ?rest300
             case hy300 => (intro W hSw; obtain ⟨⟨y0, y1, y2, y3, y4⟩, x1, HbW, HLo, HHi⟩ := hSw; go_simp; (try with_reducible rfl))
             try simp only [Act.put, List.setIfInBounds_toArray, List.set_cons_succ, List.set_cons_zero]
             refine tkA (i := 33) (v := ?v301) rfl hHeld ?hy301 (some 108) rfl ?rest301
             case hy301 => (intro W hSw; obtain ⟨⟨y0, y1, y2, y3, y4⟩, x1, HbW, HLo, HHi⟩ := hSw; go_simp; (try with_reducible rfl))
             try simp only [Act.put, List.setIfInBounds_toArray, List.set_cons_succ, List.set_cons_zero]
             refine tkA (i := 34) (v := ?v302) rfl hHeld ?hy302 (some 109) rfl ?rest302
             case hy302 => (intro W hSw; obtain ⟨⟨y0, y1, y2, y3, y4⟩, x1, HbW, HLo, HHi⟩ := hSw; go_simp; (try with_reducible rfl))
             try simp only [Act.put, List.setIfInBounds_toArray, List.set_cons_succ, List.set_cons_zero]
             refine tkA (i := 35) (v := ?v303) rfl hHeld ?hy303 (some 110) rfl ?rest303
             case hy303 => (intro W hSw; obtain ⟨⟨y0, y1, y2, y3, y4⟩, x1, HbW, HLo, HHi⟩ := hSw; go_simp; (try with_reducible rfl))
             try simp only [Act.put, List.setIfInBounds_toArray, List.set_cons_succ, List.set_cons_zero]
             refine tkA (i := 36) (v := ?v304) rfl hHeld ?hy304 (some 111) rfl ?rest304
             case hy304 => (intro W hSw; obtain ⟨⟨y0, y1, y2, y3, y4⟩, x1, HbW, HLo, HHi⟩ := hSw; go_simp; (try with_reducible rfl))
             try simp only [Act.put, List.setIfInBounds_toArray, List.set_cons_succ, List.set_cons_zero]
             refine tkA (i := 37) (v := ?v305) rfl hHeld ?hy305 (some 112) rfl ?rest305
             case hy305 => (intro W hSw; obtain ⟨⟨y0, y1, y2, y3, y4⟩, x1, HbW, HLo, HHi⟩ := hSw; go_simp; (try with_reducible rfl))
             try simp only [Act.put, List.setIfInBounds_toArray, List.set_cons_succ, List.set_cons_zero]
             refine tkA (i := 38) (v := ?v306) rfl hHeld ?hy306 (some 113) rfl ?rest306
             case hy306 => (intro W hSw; obtain ⟨⟨y0, y1, y2, y3, y4⟩, x1, HbW, HLo, HHi⟩ := hSw; obtain ⟨q0, q1, q2, q3, q4⟩ := HHi.out; go_simp; (try with_reducible rfl))
             try simp only [Act.put, List.setIfInBounds_toArray, List.set_cons_succ, List.set_cons_zero]
             refine anyK_step (i := 39) (by kernel_rfl) rfl (fun KP hK => ?_)
             go_simp
             refine (spec_less e.K e.N e.F c1 e.id eH.K eH.N eH.F kH eH.id f1 fH (HR1.out.below (HKp.out _ BC.out).2.2.1.out (Nat.le_refl _)) (RXH.out.below (HKp.out _ BC.out).2.2.1.out (Nat.le_refl _)) m1 mH).mono ?_
             rintro e v4 ⟨rfl, b⟩
             replace BC := hid (BC.out.trans (b.mono BC.out.size))
             clear b
             obtain ⟨HT, hHT⟩ : ∃ HT, ltB (cmpI e.K e.N e.F e.Z.length e.Z eH.K eH.N eH.F eH.Z.length eH.Z) e.id eH.id = HT := ⟨_, rfl⟩
             rw [hHT]
             rw [show hiB (some eH) e = HT from hHT] at HEq
             clear hHT
             go_wp2_with fail
             clear hHeld
             refine hK.out _ _ (HKp.out _ BC.out) (fun hHeld => ?_)
             clear hK KP
             try simp only [Act.put, List.setIfInBounds_toArray, List.set_cons_succ, List.set_cons_zero]
             cases HT with
             | false =>
              refine tkA (i := 40) (v := ?v307) rfl hHeld ?hy307 (some 115) rfl ?rest307
              case hy307 => (intro W hSw; obtain ⟨⟨y0, y1, y2, y3, y4⟩, x1, HbW, HLo, HHi⟩ := hSw; go_simp; (try with_reducible rfl))
              try simp only [Act.put, List.setIfInBounds_toArray, List.set_cons_succ, List.set_cons_zero]
              refine tkA (i := 41) (v := ?v308) rfl hHeld ?hy308 (some 116) rfl ?rest308
              case hy308 => (intro W hSw; obtain ⟨⟨y0, y1, y2, y3, y4⟩, x1, HbW, HLo, HHi⟩ := hSw; go_simp; (try with_reducible rfl))
              try simp only [Act.put, List.setIfInBounds_toArray, List.set_cons_succ, List.set_cons_zero]
              refine tkA (i := 42) (v := ?v309) rfl hHeld ?hy309 (some 117) rfl ?rest309
              case hy309 => (intro W hSw; obtain ⟨⟨y0, y1, y2, y3, y4⟩, x1, HbW, HLo, HHi⟩ := hSw; go_simp; (try with_reducible rfl))
              try simp only [Act.put, List.setIfInBounds_toArray, List.set_cons_succ, List.set_cons_zero]
              refine anyK_done (by kernel_rfl) ?_ _
              clear hHeld
              go_wp2_with fail
              go_meet
              case rel => exact ⟨by rw [HEq.out]; first | rfl | simp, BC⟩
             | true =>
              refine tkA (i := 40) (v := ?v310) rfl hHeld ?hy310 (some 115) rfl ?rest310
              case hy310 => (intro W hSw; obtain ⟨⟨y0, y1, y2, y3, y4⟩, x1, HbW, HLo, HHi⟩ := hSw; go_simp; (try with_reducible rfl))
              try simp only [Act.put, List.setIfInBounds_toArray, List.set_cons_succ, List.set_cons_zero]
              refine tkA (i := 41) (v := ?v311) rfl hHeld ?hy311 (some 116) rfl ?rest311
              case hy311 => (intro W hSw; obtain ⟨⟨y0, y1, y2, y3, y4⟩, x1, HbW, HLo, HHi⟩ := hSw; go_simp; (try with_reducible rfl))
              try simp only [Act.put, List.setIfInBounds_toArray, List.set_cons_succ, List.set_cons_zero]
              refine tkA (i := 42) (v := ?v312) rfl hHeld ?hy312 (some 117) rfl ?rest312
              case hy312 => (intro W hSw; obtain ⟨⟨y0, y1, y2, y3, y4⟩, x1, HbW, HLo, HHi⟩ := hSw; go_simp; (try with_reducible rfl))
              try simp only [Act.put, List.setIfInBounds_toArray, List.set_cons_succ, List.set_cons_zero]
              refine anyK_done (by kernel_rfl) ?_ _
              clear hHeld
              go_wp2_with fail
              go_meet
              case rel => exact ⟨by rw [HEq.out]; first | rfl | simp, BC⟩
     case rest =>
      obtain ⟨rfl, HBc⟩ := hcut
      have HBC := hid (show Below W1.heap.size W1 wc from HB2.out.trans (HBc.out.mono HB2.out.size))
      obtain ⟨OKB, hOKB⟩ : ∃ OKB, okAt lo hi d.es kk = OKB := ⟨_, rfl⟩
      rw [hOKB]
      have HO := hid hOKB
      clear hOKB HEq HR1 HB2 HBc HR14 HP14 HZ14 HBX
      cases OKB with
      | false =>
       have HWc := hid (HW1.out.below HBC.out)
       have HB1 := hid HWc.out.bad
       have HB2 := hid ((HST1.out.trans (Step.of_below p r av HBC.out)).trans (Step.set_p p r wc av 2 (.bool true)))
       have e2 : wc.cell? ⟨p, 2, none⟩ = some (.bool false) := by rw [cell_of_row _ _ _ _ _ _ HWc.out.box]; rfl
       have f2 : wc.frozen? ⟨p, 2, none⟩ = false := frozen_of_row _ _ _ _ _ HWc.out.box
       have HNo := hid (show nodeOk lo hi d.es = false from List.all_eq_false.2 ⟨kk, List.mem_range.2 (by rw [HNn.out]; exact hlt), by rw [HO.out]; simp⟩)
       have HE2 := hid (HE.out.trans (if_pos (by rw [HNo.out]; rfl)))
       go_wp2_with fail
       exact ⟨rfl, _, results_none Try.results103 _ _ _, ⟨rfl, av, by rw [HE2.out]; exact HB1.out, HB2.out⟩⟩
      | true =>
       go_wp2_with fail
       go_roundw
       case rel => exact ⟨kk + 1, by omega, by go_num, hid (fun j hj => by by_cases q : j = kk; exact q ▸ HO.out; exact HOK.out j (by omega)), HBC⟩
       case measure => simp [intOf]; omega
    ·
     obtain rfl : kk = n := by omega
     have hlt' : ¬ (kk : Int) < (kk : Int) := by omega
     have HNo := hid (show nodeOk lo hi d.es = true from List.all_eq_true.2 (fun j hj => HOK.out j (by have := List.mem_range.1 hj; rw [HNn.out] at this; exact this)))
     replace HE := hid (HE.out.trans (if_neg (by rw [HNo.out]; simp)))
     obtain ⟨wq, rfl⟩ : ∃ wq, wq = wr := ⟨_, rfl⟩
     have HWq := hid (HW1.out.below HB.out)
     have HSq := hid (HST1.out.trans (Step.of_below p r av HB.out))
     have HS1q := hid (show Step p r W1 av wq av from Step.of_below p r av HB.out)
     have H12q := hid ((HB.out.block p12 HP12.out.2.1).trans H12.out)
     have H6q := hid ((HB.out.block p6 (by have := HP12.out; omega)).trans H61.out)
     have HBq := hid (HBW1.out.trans (HB.out.mono HBW1.out.size))
     have HZq := hid (show p12 < wq.heap.size ∧ W1.heap.size ≤ wq.heap.size from ⟨Nat.lt_of_lt_of_le HP12.out.2.1 HB.out.size, HB.out.size⟩)
     have HAv := hid (show ∀ q, w.heap.size ≤ q → av.ownBlock ≠ some q from fun q hq e => by have := (HZ.out.2.2.2.2.2 q e).2; omega)
     have c120 : wq.cell? ⟨p12, 0, none⟩ = some (.bool d.leaf) := by rw [cell_of_row _ _ _ _ _ _ H12q.out]; rfl
     have c122 : wq.cell? ⟨p12, 2, none⟩ = some (.slice ak m ck) := by rw [cell_of_row _ _ _ _ _ _ H12q.out]; rfl
     clear HOK HNo HB H12 H61
     cases hlf : d.leaf with
     | true =>
      rw [hlf] at c120
      replace HE := hid (HE.out.trans (if_pos hlf))
      as_aux_lemma =>
       obtain ⟨DP, hDP⟩ : ∃ DP, (if dp = 0 then deep else dp) = DP := ⟨_, rfl⟩
       rw [hDP] at HE
       have HDP := hid hDP
       clear hDP hlf
       have cp1 : wq.cell? ⟨p, 1, none⟩ = some (.int .i64 dp) := by rw [cell_of_row _ _ _ _ _ _ HWq.out.box]; rfl
       have fp1 : wq.frozen? ⟨p, 1, none⟩ = false := frozen_of_row _ _ _ _ _ HWq.out.box
       go_upto_if 127 with fail
       go_cut [] (fun wx => Hid (WK w0 wx p r N lo0 ⟨sn.set k true, DP, false, al⟩ av) ∧ Hid (Step p r wq av wx av))
       case first =>
        by_cases hdp : dp = 0
        ·
         have hE0 : (dp == 0) = true := by simp [hdp]
         have HX := hid (show deep = DP by rw [← HDP.out, if_pos hdp])
         have HWd := hid (HWq.out.deeper deep)
         rw [HX.out] at HWd
         have HSd := hid (Step.set_p p r wq av 1 (.int .i64 deep))
         clear hdp
         go_wp2_with fail
         go_meet
         case rel => exact ⟨by rw [HX.out]; exact HWd, HSd⟩
        ·
         have hE0 : (dp == 0) = false := by simp [hdp]
         have HX := hid (show dp = DP by rw [← HDP.out, if_neg hdp])
         have HWd := hid (show WK w0 wq p r N lo0 ⟨sn.set k true, DP, false, al⟩ av from HX.out ▸ HWq.out)
         clear hdp
         go_wp2_with fail
         go_meet
         case rel => exact ⟨HWd, hid (Step.refl p r wq av)⟩
       case rest =>
        obtain ⟨HWd, HSd⟩ := hcut
        have H12d := hid ((HSd.out.block HZq.out.1 (by have := HP12.out; omega) (by have := HP12.out; omega) (HAv.out p12 (by have := HP12.out; omega))).trans H12q.out)
        have HBd := hid (HBq.out.trans (HSd.out.below HBq.out.size hp0 hr0 (fun b hb => Nat.le_trans hlo0 (HZ.out.2.2.2.2.2 b hb).1)))
        have HSw := hid (HSq.out.trans HSd.out)
        have cp1 : wc.cell? ⟨p, 1, none⟩ = some (.int .i64 DP) := by rw [cell_of_row _ _ _ _ _ _ HWd.out.box]; rfl
        have cp2 : wc.cell? ⟨p, 2, none⟩ = some (.bool false) := by rw [cell_of_row _ _ _ _ _ _ HWd.out.box]; rfl
        have fp2 : wc.frozen? ⟨p, 2, none⟩ = false := frozen_of_row _ _ _ _ _ HWd.out.box
        have e122 : wc.cell? ⟨p12, 2, none⟩ = some (.slice ak m ck) := by rw [cell_of_row _ _ _ _ _ _ H12d.out]; rfl
        clear c120 c122 H12q H6q HSd HWq HSq HS1q
        obtain ⟨WR, hWR⟩ : ∃ WR, (decide (DP ≠ deep) || decide (0 < m)) = WR := ⟨_, rfl⟩
        rw [hWR] at HE
        have HWR := hid hWR
        clear hWR
        by_cases hdd : DP = deep
        ·
         have hE1 : (DP != deep) = false := by simp [hdd]
         by_cases hm0 : 0 < m
         ·
          have hm1 : (0 : Int) < (m : Int) := by omega
          have HX := hid (show WR = true by rw [← HWR.out, decide_eq_true hm0, Bool.or_true])
          rw [HX.out] at HE
          have HWu := hid (show WK w0 _ p r N lo0 ⟨sn.set k true, DP, true, al⟩ av from HWd.out.bad)
          have HSu := hid (HSw.out.trans (Step.set_p p r wc av 2 (.bool true)))
          have H12u := hid ((heap_set_ne wc p 2 p12 (.bool true) (by have := HP12.out; omega)).trans H12d.out)
          have HBu := hid (HBd.out.trans ((Step.set_p p r wc av 2 (.bool true)).below HBd.out.size hp0 hr0 (fun b hb => Nat.le_trans hlo0 (HZ.out.2.2.2.2.2 b hb).1)))
          clear hdd hm0 HWd HSw HBd H12d
          go_upto_region 18 with fail
          generalize wc.setCell ⟨p, 2, none⟩ (.bool true) = U at *
          clear cp1 cp2 fp2 e122
          have cu3 : U.cell? ⟨p, 3, none⟩ = some av := by rw [cell_of_row _ _ _ _ _ _ HWu.out.box]; rfl
          have cu1 : U.cell? ⟨p12, 1, none⟩ = some (.slice ae kk ce) := by rw [cell_of_row _ _ _ _ _ _ H12u.out]; rfl
          obtain ⟨aA, cA, rfl⟩ := HWu.out.all.slice
          simp only at cu3
          have hdr := (Still.drew U).below U.heap.size
          replace HWu := hid (HWu.out.below hdr)
          replace HSu := hid (HSu.out.trans (Step.of_below p r _ hdr))
          replace H12u := hid ((hdr.block p12 (blk_lt H12u.out)).trans H12u.out)
          replace HBu := hid (HBu.out.trans (hdr.mono HBu.out.size))
          clear hdr
          refine region_K 10 (fun W => W.cell? ⟨p, 3, none⟩ = some (.slice aA al.length cA) ∧ W.cell? ⟨p12, 1, none⟩ = some (.slice ae kk ce)) (by kernel_rfl) ?_ (fun hHeld => ?_)
          · exact ⟨((Still.drew U).cell _).trans cu3, ((Still.drew U).cell _).trans cu1⟩
          clear cu3 cu1
          generalize U.drew = u0 at *
          refine anyK_take (i := 0) (v := ?v313) rfl (by kernel_rfl) (by kernel_rfl) (by kernel_rfl) (by kernel_rfl) (fun _ _ _ h => h) (by rfl) hHeld ?hy313 (some 147) (by rfl) ?rest313
          case hy313 => (intro W hSw; obtain ⟨x3, x1⟩ := hSw; go_simp; (try with_reducible rfl))
          try simp only [Act.put, List.setIfInBounds_toArray, List.set_cons_succ, List.set_cons_zero]
          refine anyK_take (i := 1) (v := ?v314) rfl (by kernel_rfl) (by kernel_rfl) (by kernel_rfl) (by kernel_rfl) (fun _ _ _ h => h) (by rfl) hHeld ?hy314 (some 148) (by rfl) ?rest314
          case hy314 => (intro W hSw; obtain ⟨x3, x1⟩ := hSw; go_simp; (try with_reducible rfl))
          try simp only [Act.put, List.setIfInBounds_toArray, List.set_cons_succ, List.set_cons_zero]
          refine anyK_take (i := 2) (v := ?v315) rfl (by kernel_rfl) (by kernel_rfl) (by kernel_rfl) (by kernel_rfl) (fun _ _ _ h => h) (by rfl) hHeld ?hy315 (some 149) (by rfl) ?rest315
          case hy315 => (intro W hSw; obtain ⟨x3, x1⟩ := hSw; go_simp; (try with_reducible rfl))
          try simp only [Act.put, List.setIfInBounds_toArray, List.set_cons_succ, List.set_cons_zero]
          refine anyK_take (i := 3) (v := ?v316) rfl (by kernel_rfl) (by kernel_rfl) (by kernel_rfl) (by kernel_rfl) (fun _ _ _ h => h) (by rfl) hHeld ?hy316 (some 150) (by rfl) ?rest316
          case hy316 => (intro W hSw; obtain ⟨x3, x1⟩ := hSw; go_simp; (try with_reducible rfl))
          try simp only [Act.put, List.setIfInBounds_toArray, List.set_cons_succ, List.set_cons_zero]
          refine anyK_take (i := 4) (v := ?v317) rfl (by kernel_rfl) (by kernel_rfl) (by kernel_rfl) (by kernel_rfl) (fun _ _ _ h => h) (by rfl) hHeld ?hy317 (some 151) (by rfl) ?rest317
          case hy317 => (intro W hSw; obtain ⟨x3, x1⟩ := hSw; go_simp; (try with_reducible rfl))
          try simp only [Act.put, List.setIfInBounds_toArray, List.set_cons_succ, List.set_cons_zero]
          refine anyK_take (i := 5) (v := ?v318) rfl (by kernel_rfl) (by kernel_rfl) (by kernel_rfl) (by kernel_rfl) (fun _ _ _ h => h) (by rfl) hHeld ?hy318 (some 152) (by rfl) ?rest318
          case hy318 => (intro W hSw; obtain ⟨x3, x1⟩ := hSw; go_simp; (try with_reducible rfl))
          try simp only [Act.put, List.setIfInBounds_toArray, List.set_cons_succ, List.set_cons_zero]
          refine anyK_take (i := 6) (v := ?v319) rfl (by kernel_rfl) (by kernel_rfl) (by kernel_rfl) (by kernel_rfl) (fun _ _ _ h => h) (by rfl) hHeld ?hy319 (some 153) (by rfl) ?rest319
          case hy319 => (intro W hSw; obtain ⟨x3, x1⟩ := hSw; go_simp; (try with_reducible rfl))
          try simp only [Act.put, List.setIfInBounds_toArray, List.set_cons_succ, List.set_cons_zero]
          refine anyK_step (i := 7) (by kernel_rfl) rfl (fun KP hK => ?_)
          refine step_append_X (lo := lo0) (es := al) (fs := d.es) rfl _ _ 28 rfl Try.underlying28 HWu.out.all rfl ce rfl HNn.out (ReadsX.of HRe.out HBu.out) (by rw [HNn.out]; have := HAL.out; omega) (Nat.le_trans HZ.out.2.2.2.1 HSu.out.kept.size) ?_
          intro a' n' cap' u1 hn' oX gX hX
          have bp := (gX.block p (blk_lt HWu.out.box) (fun e => (HWu.out.ne p e.symm).1 rfl)).trans HWu.out.box
          have b12 := (gX.block p12 (blk_lt H12u.out) (fun e => HAv.out p12 (by have := HP12.out; omega) e.symm)).trans H12u.out
          have hS1 : u1.cell? ⟨p, 3, none⟩ = some (.slice aA al.length cA) ∧ u1.cell? ⟨p12, 1, none⟩ = some (.slice ae kk ce) := ⟨by rw [cell_of_row _ _ _ _ _ _ bp]; rfl, by rw [cell_of_row _ _ _ _ _ _ b12]; rfl⟩
          have fz : u1.frozen? ⟨p, 3, none⟩ = false := frozen_of_row _ _ _ _ _ bp
          have HWf := hid (HWu.out.push gX oX hX)
          have HSf := hid ((HSu.out.trans (Step.grown p r gX hX)).trans (Step.set_p p r u1 _ 3 (.slice a' n' cap')))
          clear bp b12 oX gX hX hn'
          refine hK.out _ _ hS1 (fun hH2 => ?_)
          clear hK KP hHeld hH2
          try simp only [Act.put]
          try simp only [List.setIfInBounds_toArray]
          try simp only [List.set_cons_succ, List.set_cons_zero]
          refine anyK_step (i := 8) (by kernel_rfl) rfl (fun KP hK => ?_)
          go_simp
          refine hK.out _ _ hS1 (fun hH2 => ?_)
          clear hK KP hH2
          try simp only [Act.put, List.setIfInBounds_toArray, List.set_cons_succ, List.set_cons_zero]
          refine anyK_step (i := 9) (by kernel_rfl) rfl (fun KP hK => ?_)
          go_simp
          refine hK.out _ _ hS1 (fun hH2 => ?_)
          clear hK KP hH2
          try simp only [Act.put, List.setIfInBounds_toArray, List.set_cons_succ, List.set_cons_zero]
          obtain ⟨x3, x1⟩ := hS1
          refine anyK_last (by kernel_rfl) rfl (fun KP hK => ?_)
          go_simp
          refine hK.out _ _ ?_
          clear hK KP
          refine anyK_done (by kernel_rfl) ?_ _
          go_wp2_with fail
          exact ⟨rfl, _, results_none Try.results103 _ _ _, ⟨rfl, _, by rw [HE.out]; exact HWf.out, HSf.out⟩⟩
         ·
          have hm1 : ¬ (0 : Int) < (m : Int) := by omega
          have HX := hid (show WR = false by rw [← HWR.out, decide_eq_false hm0, decide_eq_false (fun q => q hdd)]; rfl)
          rw [HX.out] at HE
          have HWu := HWd
          have HSu := HSw
          have H12u := H12d
          have HBu := HBd
          clear hdd hm0 HWd HSw HBd H12d
          go_upto_region 18 with fail
          clear cp1 cp2 fp2 e122
          have cu3 : wc.cell? ⟨p, 3, none⟩ = some av := by rw [cell_of_row _ _ _ _ _ _ HWu.out.box]; rfl
          have cu1 : wc.cell? ⟨p12, 1, none⟩ = some (.slice ae kk ce) := by rw [cell_of_row _ _ _ _ _ _ H12u.out]; rfl
          obtain ⟨aA, cA, rfl⟩ := HWu.out.all.slice
          simp only at cu3
          have hdr := (Still.drew wc).below wc.heap.size
          replace HWu := hid (HWu.out.below hdr)
          replace HSu := hid (HSu.out.trans (Step.of_below p r _ hdr))
          replace H12u := hid ((hdr.block p12 (blk_lt H12u.out)).trans H12u.out)
          replace HBu := hid (HBu.out.trans (hdr.mono HBu.out.size))
          clear hdr
          refine region_K 10 (fun W => W.cell? ⟨p, 3, none⟩ = some (.slice aA al.length cA) ∧ W.cell? ⟨p12, 1, none⟩ = some (.slice ae kk ce)) (by kernel_rfl) ?_ (fun hHeld => ?_)
          · exact ⟨((Still.drew wc).cell _).trans cu3, ((Still.drew wc).cell _).trans cu1⟩
          clear cu3 cu1
          generalize wc.drew = u0 at *
          refine anyK_take (i := 0) (v := ?v320) rfl (by kernel_rfl) (by kernel_rfl) (by kernel_rfl) (by kernel_rfl) (fun _ _ _ h => h) (by rfl) hHeld ?hy320 (some 147) (by rfl) ?rest320
          case hy320 => (intro W hSw; obtain ⟨x3, x1⟩ := hSw; go_simp; (try with_reducible rfl))
          try simp only [Act.put, List.setIfInBounds_toArray, List.set_cons_succ, List.set_cons_zero]
          refine anyK_take (i := 1) (v := ?v321) rfl (by kernel_rfl) (by kernel_rfl) (by kernel_rfl) (by kernel_rfl) (fun _ _ _ h => h) (by rfl) hHeld ?hy321 (some 148) (by rfl) ?rest321
          case hy321 => (intro W hSw; obtain ⟨x3, x1⟩ := hSw; go_simp; (try with_reducible rfl))
          try simp only [Act.put, List.setIfInBounds_toArray, List.set_cons_succ, List.set_cons_zero]
          refine anyK_take (i := 2) (v := ?v322) rfl (by kernel_rfl) (by kernel_rfl) (by kernel_rfl) (by kernel_rfl) (fun _ _ _ h => h) (by rfl) hHeld ?hy322 (some 149) (by rfl) ?rest322
          case hy322 => (intro W hSw; obtain ⟨x3, x1⟩ := hSw; go_simp; (try with_reducible rfl))
          try simp only [Act.put, List.setIfInBounds_toArray, List.set_cons_succ, List.set_cons_zero]
          refine anyK_take (i := 3) (v := ?v323) rfl (by kernel_rfl) (by kernel_rfl) (by kernel_rfl) (by kernel_rfl) (fun _ _ _ h => h) (by rfl) hHeld ?hy323 (some 150) (by rfl) ?rest323
          case hy323 => (intro W hSw; obtain ⟨x3, x1⟩ := hSw; go_simp; (try with_reducible rfl))
          try simp only [Act.put, List.setIfInBounds_toArray, List.set_cons_succ, List.set_cons_zero]
          refine anyK_take (i := 4) (v := ?v324) rfl (by kernel_rfl) (by kernel_rfl) (by kernel_rfl) (by kernel_rfl) (fun _ _ _ h => h) (by rfl) hHeld ?hy324 (some 151) (by rfl) ?rest324
          case hy324 => (intro W hSw; obtain ⟨x3, x1⟩ := hSw; go_simp; (try with_reducible rfl))
          try simp only [Act.put, List.setIfInBounds_toArray, List.set_cons_succ, List.set_cons_zero]
          refine anyK_take (i := 5) (v := ?v325) rfl (by kernel_rfl) (by kernel_rfl) (by kernel_rfl) (by kernel_rfl) (fun _ _ _ h => h) (by rfl) hHeld ?hy325 (some 152) (by rfl) ?rest325
          case hy325 => (intro W hSw; obtain ⟨x3, x1⟩ := hSw; go_simp; (try with_reducible rfl))
          try simp only [Act.put, List.setIfInBounds_toArray, List.set_cons_succ, List.set_cons_zero]
          refine anyK_take (i := 6) (v := ?v326) rfl (by kernel_rfl) (by kernel_rfl) (by kernel_rfl) (by kernel_rfl) (fun _ _ _ h => h) (by rfl) hHeld ?hy326 (some 153) (by rfl) ?rest326
          case hy326 => (intro W hSw; obtain ⟨x3, x1⟩ := hSw; go_simp; (try with_reducible rfl))
          try simp only [Act.put, List.setIfInBounds_toArray, List.set_cons_succ, List.set_cons_zero]
          refine anyK_step (i := 7) (by kernel_rfl) rfl (fun KP hK => ?_)
          refine step_append_X (lo := lo0) (es := al) (fs := d.es) rfl _ _ 28 rfl Try.underlying28 HWu.out.all rfl ce rfl HNn.out (ReadsX.of HRe.out HBu.out) (by rw [HNn.out]; have := HAL.out; omega) (Nat.le_trans HZ.out.2.2.2.1 HSu.out.kept.size) ?_
          intro a' n' cap' u1 hn' oX gX hX
          have bp := (gX.block p (blk_lt HWu.out.box) (fun e => (HWu.out.ne p e.symm).1 rfl)).trans HWu.out.box
          have b12 := (gX.block p12 (blk_lt H12u.out) (fun e => HAv.out p12 (by have := HP12.out; omega) e.symm)).trans H12u.out
          have hS1 : u1.cell? ⟨p, 3, none⟩ = some (.slice aA al.length cA) ∧ u1.cell? ⟨p12, 1, none⟩ = some (.slice ae kk ce) := ⟨by rw [cell_of_row _ _ _ _ _ _ bp]; rfl, by rw [cell_of_row _ _ _ _ _ _ b12]; rfl⟩
          have fz : u1.frozen? ⟨p, 3, none⟩ = false := frozen_of_row _ _ _ _ _ bp
          have HWf := hid (HWu.out.push gX oX hX)
          have HSf := hid ((HSu.out.trans (Step.grown p r gX hX)).trans (Step.set_p p r u1 _ 3 (.slice a' n' cap')))
          clear bp b12 oX gX hX hn'
          refine hK.out _ _ hS1 (fun hH2 => ?_)
          clear hK KP hHeld hH2
          try simp only [Act.put]
          try simp only [List.setIfInBounds_toArray]
          try simp only [List.set_cons_succ, List.set_cons_zero]
          refine anyK_step (i := 8) (by kernel_rfl) rfl (fun KP hK => ?_)
          go_simp
          refine hK.out _ _ hS1 (fun hH2 => ?_)
          clear hK KP hH2
          try simp only [Act.put, List.setIfInBounds_toArray, List.set_cons_succ, List.set_cons_zero]
          refine anyK_step (i := 9) (by kernel_rfl) rfl (fun KP hK => ?_)
          go_simp
          refine hK.out _ _ hS1 (fun hH2 => ?_)
          clear hK KP hH2
          try simp only [Act.put, List.setIfInBounds_toArray, List.set_cons_succ, List.set_cons_zero]
          obtain ⟨x3, x1⟩ := hS1
          refine anyK_last (by kernel_rfl) rfl (fun KP hK => ?_)
          go_simp
          refine hK.out _ _ ?_
          clear hK KP
          refine anyK_done (by kernel_rfl) ?_ _
          go_wp2_with fail
          exact ⟨rfl, _, results_none Try.results103 _ _ _, ⟨rfl, _, by rw [HE.out]; exact HWf.out, HSf.out⟩⟩
        ·
         have hE1 : (DP != deep) = true := by simp [hdd]
         have HX := hid (show WR = true by rw [← HWR.out, decide_eq_true hdd, Bool.true_or])
         rw [HX.out] at HE
         have HWu := hid (show WK w0 _ p r N lo0 ⟨sn.set k true, DP, true, al⟩ av from HWd.out.bad)
         have HSu := hid (HSw.out.trans (Step.set_p p r wc av 2 (.bool true)))
         have H12u := hid ((heap_set_ne wc p 2 p12 (.bool true) (by have := HP12.out; omega)).trans H12d.out)
         have HBu := hid (HBd.out.trans ((Step.set_p p r wc av 2 (.bool true)).below HBd.out.size hp0 hr0 (fun b hb => Nat.le_trans hlo0 (HZ.out.2.2.2.2.2 b hb).1)))
         clear hdd HWd HSw HBd H12d
         go_upto_region 18 with fail
         generalize wc.setCell ⟨p, 2, none⟩ (.bool true) = U at *
         clear cp1 cp2 fp2 e122
         have cu3 : U.cell? ⟨p, 3, none⟩ = some av := by rw [cell_of_row _ _ _ _ _ _ HWu.out.box]; rfl
         have cu1 : U.cell? ⟨p12, 1, none⟩ = some (.slice ae kk ce) := by rw [cell_of_row _ _ _ _ _ _ H12u.out]; rfl
         obtain ⟨aA, cA, rfl⟩ := HWu.out.all.slice
         simp only at cu3
         have hdr := (Still.drew U).below U.heap.size
         replace HWu := hid (HWu.out.below hdr)
         replace HSu := hid (HSu.out.trans (Step.of_below p r _ hdr))
         replace H12u := hid ((hdr.block p12 (blk_lt H12u.out)).trans H12u.out)
         replace HBu := hid (HBu.out.trans (hdr.mono HBu.out.size))
         clear hdr
         refine region_K 10 (fun W => W.cell? ⟨p, 3, none⟩ = some (.slice aA al.length cA) ∧ W.cell? ⟨p12, 1, none⟩ = some (.slice ae kk ce)) (by kernel_rfl) ?_ (fun hHeld => ?_)
         · exact ⟨((Still.drew U).cell _).trans cu3, ((Still.drew U).cell _).trans cu1⟩
         clear cu3 cu1
         generalize U.drew = u0 at *
         refine anyK_take (i := 0) (v := ?v327) rfl (by kernel_rfl) (by kernel_rfl) (by kernel_rfl) (by kernel_rfl) (fun _ _ _ h => h) (by rfl) hHeld ?hy327 (some 147) (by rfl) ?rest327
         case hy327 => (intro W hSw; obtain ⟨x3, x1⟩ := hSw; go_simp; (try with_reducible rfl))
         try simp only [Act.put, List.setIfInBounds_toArray, List.set_cons_succ, List.set_cons_zero]
         refine anyK_take (i := 1) (v := ?v328) rfl (by kernel_rfl) (by kernel_rfl) (by kernel_rfl) (by kernel_rfl) (fun _ _ _ h => h) (by rfl) hHeld ?hy328 (some 148) (by rfl) ?rest328
         case hy328 => (intro W hSw; obtain ⟨x3, x1⟩ := hSw; go_simp; (try with_reducible rfl))
         try simp only [Act.put, List.setIfInBounds_toArray, List.set_cons_succ, List.set_cons_zero]
         refine anyK_take (i := 2) (v := ?v329) rfl (by kernel_rfl) (by kernel_rfl) (by kernel_rfl) (by kernel_rfl) (fun _ _ _ h => h) (by rfl) hHeld ?hy329 (some 149) (by rfl) ?rest329
         case hy329 => (intro W hSw; obtain ⟨x3, x1⟩ := hSw; go_simp; (try with_reducible rfl))
         try simp only [Act.put, List.setIfInBounds_toArray, List.set_cons_succ, List.set_cons_zero]
         refine anyK_take (i := 3) (v := ?v330) rfl (by kernel_rfl) (by kernel_rfl) (by kernel_rfl) (by kernel_rfl) (fun _ _ _ h => h) (by rfl) hHeld ?hy330 (some 150) (by rfl) ?rest330
         case hy330 => (intro W hSw; obtain ⟨x3, x1⟩ := hSw; go_simp; (try with_reducible rfl))
         try simp only [Act.put, List.setIfInBounds_toArray, List.set_cons_succ, List.set_cons_zero]
         refine anyK_take (i := 4) (v := ?v331) rfl (by kernel_rfl) (by kernel_rfl) (by kernel_rfl) (by kernel_rfl) (fun _ _ _ h => h) (by rfl) hHeld ?hy331 (some 151) (by rfl) ?rest331
         case hy331 => (intro W hSw; obtain ⟨x3, x1⟩ := hSw; go_simp; (try with_reducible rfl))
         try simp only [Act.put, List.setIfInBounds_toArray, List.set_cons_succ, List.set_cons_zero]
         refine anyK_take (i := 5) (v := ?v332) rfl (by kernel_rfl) (by kernel_rfl) (by kernel_rfl) (by kernel_rfl) (fun _ _ _ h => h) (by rfl) hHeld ?hy332 (some 152) (by rfl) ?rest332
         case hy332 => (intro W hSw; obtain ⟨x3, x1⟩ := hSw; go_simp; (try with_reducible rfl))
         try simp only [Act.put, List.setIfInBounds_toArray, List.set_cons_succ, List.set_cons_zero]
         refine anyK_take (i := 6) (v := ?v333) rfl (by kernel_rfl) (by kernel_rfl) (by kernel_rfl) (by kernel_rfl) (fun _ _ _ h => h) (by rfl) hHeld ?hy333 (some 153) (by rfl) ?rest333
         case hy333 => (intro W hSw; obtain ⟨x3, x1⟩ := hSw; go_simp; (try with_reducible rfl))
         try simp only [Act.put, List.setIfInBounds_toArray, List.set_cons_succ, List.set_cons_zero]
         refine anyK_step (i := 7) (by kernel_rfl) rfl (fun KP hK => ?_)
         refine step_append_X (lo := lo0) (es := al) (fs := d.es) rfl _ _ 28 rfl Try.underlying28 HWu.out.all rfl ce rfl HNn.out (ReadsX.of HRe.out HBu.out) (by rw [HNn.out]; have := HAL.out; omega) (Nat.le_trans HZ.out.2.2.2.1 HSu.out.kept.size) ?_
         intro a' n' cap' u1 hn' oX gX hX
         have bp := (gX.block p (blk_lt HWu.out.box) (fun e => (HWu.out.ne p e.symm).1 rfl)).trans HWu.out.box
         have b12 := (gX.block p12 (blk_lt H12u.out) (fun e => HAv.out p12 (by have := HP12.out; omega) e.symm)).trans H12u.out
         have hS1 : u1.cell? ⟨p, 3, none⟩ = some (.slice aA al.length cA) ∧ u1.cell? ⟨p12, 1, none⟩ = some (.slice ae kk ce) := ⟨by rw [cell_of_row _ _ _ _ _ _ bp]; rfl, by rw [cell_of_row _ _ _ _ _ _ b12]; rfl⟩
         have fz : u1.frozen? ⟨p, 3, none⟩ = false := frozen_of_row _ _ _ _ _ bp
         have HWf := hid (HWu.out.push gX oX hX)
         have HSf := hid ((HSu.out.trans (Step.grown p r gX hX)).trans (Step.set_p p r u1 _ 3 (.slice a' n' cap')))
         clear bp b12 oX gX hX hn'
         refine hK.out _ _ hS1 (fun hH2 => ?_)
         clear hK KP hHeld hH2
         try simp only [Act.put]
         try simp only [List.setIfInBounds_toArray]
         try simp only [List.set_cons_succ, List.set_cons_zero]
         refine anyK_step (i := 8) (by kernel_rfl) rfl (fun KP hK => ?_)
         go_simp
         refine hK.out _ _ hS1 (fun hH2 => ?_)
         clear hK KP hH2
         try simp only [Act.put, List.setIfInBounds_toArray, List.set_cons_succ, List.set_cons_zero]
         refine anyK_step (i := 9) (by kernel_rfl) rfl (fun KP hK => ?_)
         go_simp
         refine hK.out _ _ hS1 (fun hH2 => ?_)
         clear hK KP hH2
         try simp only [Act.put, List.setIfInBounds_toArray, List.set_cons_succ, List.set_cons_zero]
         obtain ⟨x3, x1⟩ := hS1
         refine anyK_last (by kernel_rfl) rfl (fun KP hK => ?_)
         go_simp
         refine hK.out _ _ ?_
         clear hK KP
         refine anyK_done (by kernel_rfl) ?_ _
         go_wp2_with fail
         exact ⟨rfl, _, results_none Try.results103 _ _ _, ⟨rfl, _, by rw [HE.out]; exact HWf.out, HSf.out⟩⟩
     | false =>
      rw [hlf] at c120
      replace HE := hid (HE.out.trans (if_neg (by rw [hlf]; simp)))
      have HKid := hid (show goS ns (f + 1) ⟨sn, dp, false, al⟩ (k : Int) deep lo hi = _ from HE.out)
      have c121 : wq.cell? ⟨p12, 1, none⟩ = some (.slice ae kk ce) := by rw [cell_of_row _ _ _ _ _ _ H12q.out]; rfl
      clear HE hlf
      by_cases hb1 : kk < 1 ∨ m ≠ kk + 1
      ·
       have HE2 := hid (HKid.out.trans (if_pos (by rcases hb1 with q | q; rw [decide_eq_true q, Bool.true_or]; rw [decide_eq_true q, Bool.or_true])))
       have HB1 := hid HWq.out.bad
       have HB2 := hid (HSq.out.trans (Step.set_p p r wq av 2 (.bool true)))
       have e2 : wq.cell? ⟨p, 2, none⟩ = some (.bool false) := by rw [cell_of_row _ _ _ _ _ _ HWq.out.box]; rfl
       have f2 : wq.frozen? ⟨p, 2, none⟩ = false := frozen_of_row _ _ _ _ _ HWq.out.box
       by_cases hb2 : kk < 1
       ·
        have hb3 : (kk : Int) < 1 := by omega
        clear hb1 HKid
        go_wp2_with fail
        exact ⟨rfl, _, results_none Try.results103 _ _ _, ⟨rfl, av, by rw [HE2.out]; exact HB1.out, HB2.out⟩⟩
       ·
        have hb3 : ¬ (kk : Int) < 1 := by omega
        have hb4 : ((m : Int) != (kk : Int) + 1) = true := by simp; omega
        clear hb1 HKid
        go_wp2_with fail
        exact ⟨rfl, _, results_none Try.results103 _ _ _, ⟨rfl, av, by rw [HE2.out]; exact HB1.out, HB2.out⟩⟩
      have hkk1 : 1 ≤ kk := by omega
      have hmk1 : m = kk + 1 := by omega
      have hb3 : ¬ (kk : Int) < 1 := by omega
      have hb4 : ((m : Int) != (kk : Int) + 1) = false := by simp; omega
      replace HKid := hid (HKid.out.trans (if_neg (by rw [decide_eq_false (by omega), decide_eq_false (by omega)]; simp)))
      have HMk := hid hmk1
      clear hb1 hmk1
      go_wp2_with fail
      clear c120 c121 c122 hb3 hb4 hlt'
      go_loopw [15] (fun i wr => ∃ (j : Nat) (av2 : Value), j ≤ m ∧ i = .int .i64 j ∧ Hid (WK w0 wr p r N lo0 (kidS ns f d deep lo hi ⟨sn.set k true, dp, false, al⟩ j) av2) ∧ Hid (Step p r wq av wr av2)) (fun i _ => m - (intOf i).toNat)
      case atStart => exact ⟨0, av, Nat.zero_le _, rfl, HWq, hid (Step.refl p r wq av)⟩
      case round =>
       obtain ⟨j, av2, hj, rfl, HWr, HSr⟩ := hrel
       have HKb := hid (show ∀ W' av', Step p r wq av W' av' → W'.heap[p12]? = some (.cells #[.bool d.leaf, .slice ae kk ce, .slice ak m ck] 67) ∧ W'.heap[p6]? = some (.cells #[.slice (some ⟨b, off, none⟩) N cap, .int .i64 root] 26) ∧ Below w0.heap.size w0 W' from fun W' av' s => by
        have h1 := HP12.out
        have h2 := HZq.out
        exact ⟨(s.block h2.1 (by omega) (by omega) (HAv.out p12 (by omega))).trans H12q.out, (s.block (by omega) (by omega) (by omega) (HAv.out p6 (by omega))).trans H6q.out, HBq.out.trans (s.below HBq.out.size hp0 hr0 (fun b hb => Nat.le_trans hlo0 (HZ.out.2.2.2.2.2 b hb).1))⟩)
       have c122 : wr.cell? ⟨p12, 2, none⟩ = some (.slice ak m ck) := by rw [cell_of_row _ _ _ _ _ _ (HKb.out _ _ HSr.out).1]; rfl
       by_cases hlt : j < m
       ·
        have hlt' : (j : Int) < (m : Int) := by omega
        have hj0 : (0 : Int) ≤ (j : Int) := by omega
        have hjn : j ≤ kk := by have := HMk.out; omega
        have c121 : wr.cell? ⟨p12, 1, none⟩ = some (.slice ae kk ce) := by rw [cell_of_row _ _ _ _ _ _ (HKb.out _ _ HSr.out).1]; rfl
        have HS1r := hid (HS1q.out.trans HSr.out)
        have HSLr := hid (HSL1.out.step HDL.out HS1r.out)
        have HSHr := hid (HSH1.out.step HDH.out HS1r.out)
        have HDLr := hid (HDL.out.step HS1r.out (HSL1.out.lt))
        have HDHr := hid (HDH.out.step HS1r.out (HSH1.out.lt))
        have HBr := hid (HKb.out _ _ HSr.out).2.2
        have HZr := hid (show p < wr.heap.size ∧ r < wr.heap.size ∧ ∀ q, av2.ownBlock = some q → q < wr.heap.size from ⟨blk_lt HWr.out.box, blk_lt HWr.out.row, fun q hq => (HWr.out.all.lt q hq).2⟩)
        go_upto_if 184 with fail
        go_cut [16] (fun s wx => Hid (SlE w0 wx (lowAt d.es lo j) s) ∧ Hid (Side p r av2 s) ∧ Hid (Below wr.heap.size wr wx))
        case first =>
         by_cases hj1 : j = 0
         ·
          subst hj1
          go_wp2_with fail
          go_meet
          case rel => exact ⟨HSLr, HDLr, hid (Below.refl _ _)⟩
         ·
          have hk2 : (0 : Int) < (j : Int) := by omega
          have hk3 : 0 < j := by omega
          have h1' : (j : Int) - 1 < (kk : Int) := by omega
          have h2' : (0 : Int) ≤ (j : Int) - 1 := by omega
          have h3' : ((j : Int) - 1).toNat = j - 1 := by omega
          have hwr : IntKind.i64.wrap ((j : Int) - 1) = ((j - 1 : Nat) : Int) := by rw [IntKind.wrap_i64]; omega
          have h1n : ((j - 1 : Nat) : Int) < (kk : Int) := by omega
          obtain ⟨be, oe, a1, c1, rfl, bxp, rp, _, _, f0⟩ := HRe.out.at (k := j - 1) (by rw [HNn.out]; omega)
          have m0 := HMd.out (j - 1)
          have HLo := hid (show lowAt d.es lo j = some (d.es.getD (j - 1) en0) from if_neg hj1)
          obtain ⟨x, hx⟩ : ∃ x, d.es.getD (j - 1) en0 = x := ⟨_, rfl⟩
          rw [hx] at bxp rp f0 m0 HLo
          have RXP := hid rp
          obtain ⟨q0, q1, q2, q3, q4⟩ := bxp.below HBr.out (Nat.le_refl _)
          have hst := fun w a m => run_store Try.prog w a (.float .f64 x.F) m rfl
          clear bxp rp hx hj1
          have HR := hid (heap_alloc_new wr (.cells #[.int .i64 x.K, .int .i64 x.N, .float .f64 x.F, .slice a1 x.Z.length c1, .int .i64 x.id] 35))
          go_wp2_with fail
          go_meet
          case rel =>
           have HSZ := hid (Nat.le_refl wr.heap.size)
           exact ⟨hid (by rw [HLo.out]; exact ⟨wr.heap.size, 1, a1, c1, rfl, ⟨by rw [cell_of_row _ _ _ _ _ _ HR.out]; rfl, by rw [cell_of_row _ _ _ _ _ _ HR.out]; rfl, by rw [cell_of_row _ _ _ _ _ _ HR.out]; rfl, by rw [cell_of_row _ _ _ _ _ _ HR.out]; rfl, by rw [cell_of_row _ _ _ _ _ _ HR.out]; rfl⟩, RXP.out, f0, m0⟩), hid (fun q hq => by have e9 := Option.some.inj hq; have := HZr.out; have := HSZ.out; exact ⟨by simp only at e9; omega, by simp only at e9; omega, fun e8 => by have := HZr.out.2.2 q e8; simp only at e9; omega⟩), hid (Below.alloc1 _ _)⟩
        case rest =>
         obtain ⟨HLv, HLs, HLb⟩ := hcut
         obtain ⟨W2, rfl⟩ : ∃ W2, W2 = wc := ⟨_, rfl⟩
         have HBr2 := hid (HBr.out.trans (HLb.out.mono HBr.out.size))
         have HSr2 := hid (HSr.out.trans (Step.of_below p r av2 HLb.out))
         have c121 : W2.cell? ⟨p12, 1, none⟩ = some (.slice ae kk ce) := by rw [cell_of_row _ _ _ _ _ _ (HKb.out _ _ HSr2.out).1]; rfl
         go_upto_if 196 with fail
         go_cut [17] (fun s wx => Hid (SlE w0 wx (highAt d.es hi j) s) ∧ Hid (Side p r av2 s) ∧ Hid (Below W2.heap.size W2 wx))
         case first =>
          by_cases hj1 : j < kk
          ·
           have hk2 : (j : Int) < (kk : Int) := by omega
           obtain ⟨be, oe, a1, c1, rfl, bxp, rp, _, _, f0⟩ := HRe.out.at (k := j) (by rw [HNn.out]; omega)
           have m0 := HMd.out j
           have HLo := hid (show highAt d.es hi j = some (d.es.getD j en0) from if_pos (by rw [HNn.out]; exact hj1))
           obtain ⟨x, hx⟩ : ∃ x, d.es.getD j en0 = x := ⟨_, rfl⟩
           rw [hx] at bxp rp f0 m0 HLo
           have RXP := hid rp
           obtain ⟨q0, q1, q2, q3, q4⟩ := bxp.below HBr2.out (Nat.le_refl _)
           have hst := fun w a m => run_store Try.prog w a (.float .f64 x.F) m rfl
           clear bxp rp hx hj1
           have HR := hid (heap_alloc_new W2 (.cells #[.int .i64 x.K, .int .i64 x.N, .float .f64 x.F, .slice a1 x.Z.length c1, .int .i64 x.id] 35))
           go_wp2_with fail
           go_meet
           case rel =>
            have HSZ := hid HLb.out.size
            exact ⟨hid (by rw [HLo.out]; exact ⟨W2.heap.size, 1, a1, c1, rfl, ⟨by rw [cell_of_row _ _ _ _ _ _ HR.out]; rfl, by rw [cell_of_row _ _ _ _ _ _ HR.out]; rfl, by rw [cell_of_row _ _ _ _ _ _ HR.out]; rfl, by rw [cell_of_row _ _ _ _ _ _ HR.out]; rfl, by rw [cell_of_row _ _ _ _ _ _ HR.out]; rfl⟩, RXP.out, f0, m0⟩), hid (fun q hq => by have e9 := Option.some.inj hq; have := HZr.out; have := HSZ.out; exact ⟨by simp only at e9; omega, by simp only at e9; omega, fun e8 => by have := HZr.out.2.2 q e8; simp only at e9; omega⟩), hid (Below.alloc1 _ _)⟩
          ·
           have hk2 : ¬ (j : Int) < (kk : Int) := by omega
           have HLo := hid (show highAt d.es hi j = hi from if_neg (by rw [HNn.out]; exact hj1))
           go_wp2_with fail
           go_meet
           case rel => exact ⟨hid (by rw [HLo.out]; exact HSHr.out.keep (fun q hq => HLb.out.block q (HSHr.out.lt q hq))), HDHr, hid (Below.refl _ _)⟩
         case rest =>
          obtain ⟨HHv, HHs, HHb⟩ := hcut
          obtain ⟨W3, rfl⟩ : ∃ W3, W3 = wc := ⟨_, rfl⟩
          have hdr := (Still.drew W3).below W3.heap.size
          have HBd := hid (show Below wr.heap.size wr W3.drew from HLb.out.trans ((HHb.out.trans (hdr.mono HHb.out.size)).mono HLb.out.size))
          have HSd := hid (HSr.out.trans (Step.of_below p r av2 HBd.out))
          have HWd := hid (HWr.out.below HBd.out)
          replace HLv := hid (HLv.out.keep (w' := W3.drew) (fun q hq => (HHb.out.trans (hdr.mono HHb.out.size)).block q (HLv.out.lt q hq)))
          replace HHv := hid (HHv.out.keep (w' := W3.drew) (fun q hq => hdr.block q (HHv.out.lt q hq)))
          obtain ⟨bk, ok, rfl⟩ := HRi.out.pos (by omega)
          obtain ⟨xk, hxk⟩ : ∃ xk, d.ks.getD j 0 = xk := ⟨_, rfl⟩
          have HXK := hid hxk
          have HKp := hid (show ∀ W' av', Step p r wq av W' av' → (W'.cell? ⟨p6, 0, none⟩ = some (.slice (some ⟨b, off, none⟩) N cap) ∧ W'.cell? ⟨p6, 1, none⟩ = some (.int .i64 root)) ∧ W'.cell? ⟨p12, 2, none⟩ = some (.slice (some ⟨bk, ok, none⟩) m ck) ∧ W'.cell? ⟨bk, ok + j, none⟩ = some (.int .i64 xk) from fun W' av' s => by
           obtain ⟨h1, h2, h3⟩ := HKb.out W' av' s
           refine ⟨⟨by rw [cell_of_row _ _ _ _ _ _ h2]; rfl, by rw [cell_of_row _ _ _ _ _ _ h2]; rfl⟩, by rw [cell_of_row _ _ _ _ _ _ h1]; rfl, ?_⟩
           rcases (HRi.out.below h3 (Nat.le_refl _)).cells with h0 | ⟨b', o', e', hc⟩
           · omega
           · obtain ⟨rfl, rfl⟩ : bk = b' ∧ ok = o' := by simpa using e'
             rw [← hxk]; exact hc j hlt)
          have hdw : IntKind.i64.wrap (deep + 1) = deep + 1 := by rw [IntKind.wrap_i64]; omega
          clear hxk hdr HBr2 HSr2 HLb HHb c121 c122
          go_upto_region 30 with fail
          refine region_K 99 (fun W => (W.cell? ⟨p6, 0, none⟩ = some (.slice (some ⟨b, off, none⟩) N cap) ∧ W.cell? ⟨p6, 1, none⟩ = some (.int .i64 root)) ∧ W.cell? ⟨p12, 2, none⟩ = some (.slice (some ⟨bk, ok, none⟩) m ck) ∧ W.cell? ⟨bk, ok + j, none⟩ = some (.int .i64 xk)) (by kernel_rfl) ?_ (fun hHeld => ?_)
          · exact HKp.out _ _ HSd.out
          generalize W3.drew = vd at *
          refine tkA (i := 0) (v := ?v334) rfl hHeld ?hy334 (some 203) rfl ?rest334
          case hy334 => (intro W hSw; obtain ⟨⟨y0, y1⟩, y2, y3⟩ := hSw; go_simp; (try with_reducible rfl))
          try simp only [Act.put, List.setIfInBounds_toArray, List.set_cons_succ, List.set_cons_zero]
          refine tkA (i := 1) (v := ?v335) rfl hHeld ?hy335 (some 204) rfl ?rest335
          case hy335 => (intro W hSw; obtain ⟨⟨y0, y1⟩, y2, y3⟩ := hSw; go_simp; (try with_reducible rfl))
          try simp only [Act.put, List.setIfInBounds_toArray, List.set_cons_succ, List.set_cons_zero]
          refine tkA (i := 2) (v := ?v336) rfl hHeld ?hy336 (some 205) rfl ?rest336
          case hy336 => (intro W hSw; obtain ⟨⟨y0, y1⟩, y2, y3⟩ := hSw; go_simp; (try with_reducible rfl))
          try simp only [Act.put, List.setIfInBounds_toArray, List.set_cons_succ, List.set_cons_zero]
          refine tkA (i := 3) (v := ?v337) rfl hHeld ?hy337 (some 206) rfl ?rest337
          case hy337 => (intro W hSw; obtain ⟨⟨y0, y1⟩, y2, y3⟩ := hSw; go_simp; (try with_reducible rfl))
          try simp only [Act.put, List.setIfInBounds_toArray, List.set_cons_succ, List.set_cons_zero]
          refine tkA (i := 4) (v := ?v338) rfl hHeld ?hy338 (some 207) rfl ?rest338
          case hy338 => (intro W hSw; obtain ⟨⟨y0, y1⟩, y2, y3⟩ := hSw; go_simp; (try with_reducible rfl))
          try simp only [Act.put, List.setIfInBounds_toArray, List.set_cons_succ, List.set_cons_zero]
          refine tkA (i := 5) (v := ?v339) rfl hHeld ?hy339 (some 208) rfl ?rest339
          case hy339 => (intro W hSw; obtain ⟨⟨y0, y1⟩, y2, y3⟩ := hSw; go_simp; (try with_reducible rfl))
          try simp only [Act.put, List.setIfInBounds_toArray, List.set_cons_succ, List.set_cons_zero]
          refine tkA (i := 6) (v := ?v340) rfl hHeld ?hy340 (some 209) rfl ?rest340
          case hy340 => (intro W hSw; obtain ⟨⟨y0, y1⟩, y2, y3⟩ := hSw; go_simp; (try with_reducible rfl))
          try simp only [Act.put, List.setIfInBounds_toArray, List.set_cons_succ, List.set_cons_zero]
          refine tkA (i := 7) (v := ?v341) rfl hHeld ?hy341 (some 210) rfl ?rest341
          case hy341 => (intro W hSw; obtain ⟨⟨y0, y1⟩, y2, y3⟩ := hSw; go_simp; (try with_reducible rfl))
          try simp only [Act.put, List.setIfInBounds_toArray, List.set_cons_succ, List.set_cons_zero]
          refine tkA (i := 8) (v := ?v342) rfl hHeld ?hy342 (some 211) rfl ?rest342
          case hy342 => (intro W hSw; obtain ⟨⟨y0, y1⟩, y2, y3⟩ := hSw; go_simp; (try with_reducible rfl))
          try simp only [Act.put, List.setIfInBounds_toArray, List.set_cons_succ, List.set_cons_zero]
          refine tkA (i := 9) (v := ?v343) rfl hHeld ?hy343 (some 212) rfl ?rest343
          case hy343 => (intro W hSw; obtain ⟨⟨y0, y1⟩, y2, y3⟩ := hSw; go_simp; (try with_reducible rfl))
          try simp only [Act.put, List.setIfInBounds_toArray, List.set_cons_succ, List.set_cons_zero]
          refine tkA (i := 10) (v := ?v344) rfl hHeld ?hy344 (some 213) rfl ?rest344
          case hy344 => (intro W hSw; obtain ⟨⟨y0, y1⟩, y2, y3⟩ := hSw; go_simp; (try with_reducible rfl))
          try simp only [Act.put, List.setIfInBounds_toArray, List.set_cons_succ, List.set_cons_zero]
          refine anyK_step (i := 11) (by kernel_rfl) rfl (fun KP hK => ?_)
          go_simp
          have HMo := hid (kidS_more ns f d deep lo hi ⟨sn.set k true, dp, false, al⟩ j)
          have HUk := hid (show unseen (kidS ns f d deep lo hi ⟨sn.set k true, dp, false, al⟩ j).seen < f ∧ (kidS ns f d deep lo hi ⟨sn.set k true, dp, false, al⟩ j).all.length + 4 * unseen (kidS ns f d deep lo hi ⟨sn.set k true, dp, false, al⟩ j).seen ≤ 1200 by have h1 := HMo.out.uns; have h2 := HMo.out.all; simp only at h1 h2; have := HUn.out; have := HU.out; have := HAL.out; omega)
          refine (IH.out (kidS ns f d deep lo hi ⟨sn.set k true, dp, false, al⟩ j) xk (deep + 1) (lowAt d.es lo j) (highAt d.es hi j) _ _ av2 vd HUk.out.1 (by omega) (by omega) HUk.out.2 (Nat.le_trans HZ.out.2.2.2.1 (HSq.out.trans HSd.out).kept.size) (HKb.out _ _ HSd.out).2.2 HWd.out HLv.out HHv.out HLs.out HHs.out).mono ?_
          rintro e v1 ⟨rfl, av3, hw3, hs3⟩
          have HW3 := hid (show WK w0 v1 p r N lo0 (kidS ns f d deep lo hi ⟨sn.set k true, dp, false, al⟩ (j + 1)) av3 from by rw [kidS_succ, HXK.out]; exact hw3)
          have HS3 := hid (HSd.out.trans hs3)
          clear hw3 hs3
          go_wp2_with fail
          clear hHeld
          refine hK.out _ _ (HKp.out _ _ HS3.out) (fun hHeld => ?_)
          clear hK KP
          try simp only [Act.put, List.setIfInBounds_toArray, List.set_cons_succ, List.set_cons_zero]
          refine anyK_done (by kernel_rfl) ?_ _
          clear hHeld
          go_wp2_with fail
          go_roundw
          case rel => exact ⟨j + 1, av3, by omega, by go_num, HW3, HS3⟩
          case measure => simp [intOf]; omega
       ·
        obtain rfl : j = m := by omega
        have hlt' : ¬ (j : Int) < (j : Int) := by omega
        go_wp2_with fail
        exact ⟨rfl, _, results_none Try.results103 _ _ _, ⟨rfl, av2, by rw [HKid.out]; exact HWr.out, HSq.out.trans HSr.out⟩⟩
theorem spec_go {w0 : World} {ns : List Nd} {ad : Option Addr} {N : Nat} (cap : Nat) (root : Int) (hns : ns.length = N) (hR : ReadsD w0 ad ns) (hm : ∀ i j, ((ns.getD i nd0).es.getD j en0).Z.length ≤ 2097152) (hN : N ≤ 300) (p r lo0 : Nat) (hp0 : w0.heap.size ≤ p) (hr0 : w0.heap.size ≤ r) (hlo0 : w0.heap.size ≤ lo0) : ∀ f, GoH w0 ns ad N cap root p r lo0 f
 | 0 => fun _ _ _ _ _ _ _ _ _ h => absurd h (by omega)
 | f + 1 => spec_go_step cap root hns hR hm hN p r lo0 hp0 hr0 hlo0 f (spec_go cap root hns hR hm hN p r lo0 hp0 hr0 hlo0 f)
end Go.Proofs.Ytphmlndkjgldkaa
