/- The specification's walk below a node of a tree. Conditions: at most 300 nodes, texts of at most 2^21 bytes. -/
import Derived.Test.YtlkoghdajpbffaaGreatMgl
import Derived.Deep.DeepCutAuto
namespace Go.Proofs.YtlkoghdajpbffaaGreat
open Go.RowKit
set_option maxRecDepth 100000
section
variable {P : Program} {ops : Array Oper} {Q : Exit → Act → World → Prop} {md : Region.Mode} {S : World → Prop} {L : Nat}
theorem tkA {i : Nat} {oi : Oper} {v : Value} {n : Nat} {listed : Array Bool} {a : Act} {w : World} (hi : ops[i]? = some oi) (hS : S w) (hy : ∀ w, S w → (execOp a.eval oi).run P w = .ok (.value v) w) (d : Option Tmp) (hd : oi.dst = d)
 (h : anyK P md ops Q S L n (listed.setIfInBounds i true) (a.put d v) w) (hs : Region.noSelect ops = true := by as_aux_lemma => kernel_rfl) (hf : Region.free md ops listed i = true := by as_aux_lemma => kernel_rfl) (hr : (Region.ready md ops listed).contains i = true := by as_aux_lemma => kernel_rfl) (hL : ops[L]? = none := by rfl)
 (hQ : ∀ c a w, Q (.panic c) (a.put oi.dst v) w → Q (.panic c) a w := by exact fun _ _ _ h => h) (hw : Region.wanted oi (yielded ops a.tmps) = true := by rfl) : anyK P md ops Q S L (n + 1) listed a w :=
 anyK_take2 hi hs hf hr hL hQ hw hS hy d hd h
theorem skA {i : Nat} {oi : Oper} {n : Nat} {listed : Array Bool} {a : Act} {w : World} (hi : ops[i]? = some oi) (hS : S w) (d : Option Tmp) (hd : oi.dst = d)
 (h : anyK P md ops Q S L n (listed.setIfInBounds i true) (a.put d undef) w) (hs : Region.noSelect ops = true := by as_aux_lemma => kernel_rfl) (hf : Region.free md ops listed i = true := by as_aux_lemma => kernel_rfl) (hr : (Region.ready md ops listed).contains i = true := by as_aux_lemma => kernel_rfl) (hL : ops[L]? = none := by as_aux_lemma => kernel_rfl)
 (hQ : ∀ c a w, Q (.panic c) (a.put oi.dst undef) w → Q (.panic c) a w := by exact fun _ _ _ h => h) (hw : Region.wanted oi (yielded ops a.tmps) = false := by rfl) : anyK P md ops Q S L (n + 1) listed a w :=
 anyK_skip hi hs hf hr hL hQ hw hS d hd h
end
section
variable {P : Program} {ops : Array Oper} {Q : Exit → Act → World → Prop} {md : Region.Mode} {S : World → Prop} {L : Nat}
theorem qX (i : Nat) {oi : Oper} {v : Value} {n : Nat} {listed : Array Bool} {a a' : Act} {w : World} (hi : ops[i]? = some oi) (hS : S w) (d : Nat) (hd : oi.dst = some d)
 (h : anyK P md ops Q S L n (listed.setIfInBounds i true) a' w) (hy : ∀ w, S w → (execOp a.eval oi).run P w = .ok (.value v) w := by intro W x; go_simp; try with_reducible rfl) (ha : a.put (some d) v = a' := by simp only [qP]; try rfl) (hs : Region.noSelect ops = true := by as_aux_lemma => kernel_rfl) (hf : Region.free md ops listed i = true := by as_aux_lemma => kernel_rfl) (hr : (Region.ready md ops listed).contains i = true := by as_aux_lemma => kernel_rfl) (hL : ops[L]? = none := by rfl)
 (hQ : ∀ c a w, Q (.panic c) (a.put oi.dst v) w → Q (.panic c) a w := by exact fun _ _ _ h => h) (hw : Region.wanted oi (yielded ops a.tmps) = true := by rfl) : anyK P md ops Q S L (n + 1) listed a w := anyK_take2 hi hs hf hr hL hQ hw hS hy (some d) hd (ha ▸ h)
theorem qY (i : Nat) {oi : Oper} {n : Nat} {listed : Array Bool} {a a' : Act} {w : World} (hi : ops[i]? = some oi) (hS : S w) (d : Nat) (hd : oi.dst = some d)
 (h : anyK P md ops Q S L n (listed.setIfInBounds i true) a' w) (ha : a.put (some d) undef = a' := by simp only [qP]; try rfl) (hs : Region.noSelect ops = true := by as_aux_lemma => kernel_rfl) (hf : Region.free md ops listed i = true := by as_aux_lemma => kernel_rfl) (hr : (Region.ready md ops listed).contains i = true := by as_aux_lemma => kernel_rfl) (hL : ops[L]? = none := by as_aux_lemma => kernel_rfl)
 (hQ : ∀ c a w, Q (.panic c) (a.put oi.dst undef) w → Q (.panic c) a w := by exact fun _ _ _ h => h) (hw : Region.wanted oi (yielded ops a.tmps) = false := by rfl) : anyK P md ops Q S L (n + 1) listed a w := anyK_skip hi hs hf hr hL hQ hw hS (some d) hd (ha ▸ h)
end
def GoP (w0 w w' : World) (p r N lo : Nat) (av : Value) (st : St) (e : Ending) : Prop := e = .returned (.tuple #[]) ∧ ∃ av', WK w0 w' p r N lo st av' ∧ Step p r w av w' av'
theorem okAt_of (lo hi : Option En) (es : List En) (i : Nat) : okAt lo hi es i = ((entOk (es.getD i en0) && (loB lo (es.getD i en0) && hiB hi (es.getD i en0))) && (decide (i = 0) || ltE (es.getD (i - 1) en0) (es.getD i en0))) := rfl
def GoH (w0 : World) (ns : List Nd) (ad : Option Addr) (N cap : Nat) (root : Int) (p r lo0 f : Nat) : Prop :=
 ∀ (st : St) (x deep : Int) (lo hi : Option En) (vl vh av : Value) (w : World), unseen st.seen < f → 0 < deep → deep + f ≤ 1000 → st.all.length + 4 * unseen st.seen ≤ 1200 → lo0 ≤ w.heap.size → Below w0.heap.size w0 w → WK w0 w p r N lo0 st av → SlE w0 w lo vl → SlE w0 w hi vh → Side p r av vl → Side p r av vh →
 Calls Tryz.prog 69 #[.agg #[.slice ad N cap, .int .i64 root], .pointer (some ⟨p, 0, none⟩), .int .i64 x, .int .i64 deep, vl, vh] w fun e w' => GoP w0 w w' p r N lo0 av (goS ns f st x deep lo hi) e
set_option maxHeartbeats 25600000 in
theorem spec_go_step {w0 : World} {ns : List Nd} {ad : Option Addr} {N : Nat} (cap : Nat) (root : Int) (hns : ns.length = N) (hR : ReadsD w0 ad ns) (hm : ∀ i j, ((ns.getD i nd0).es.getD j en0).Z.length ≤ 2097152) (hN : N ≤ 300) (p r lo0 : Nat) (hp0 : w0.heap.size ≤ p) (hr0 : w0.heap.size ≤ r) (hlo0 : w0.heap.size ≤ lo0) (f : Nat) (hIH : GoH w0 ns ad N cap root p r lo0 f) : GoH w0 ns ad N cap root p r lo0 (f + 1) := by
 rintro ⟨sn, dp, wr, al⟩ x deep lo hi vl vh av w hu hd0 hd1 hal hlw hw hk hl hh hsl hsh
 have IH := hid hIH
 clear hIH
 have HGB := hid (fun h => goS_wrongB ns f ⟨sn, dp, wr, al⟩ x deep lo hi h)
 have HGR := hid (fun d hd h => goS_right ns f ⟨sn, dp, wr, al⟩ x deep lo hi d hd h)
 simp only at hu hal
 have hB := Below.alloc1 w (.cells #[.slice ad N cap, .int .i64 root] 33)
 have HR6 := hid (heap_alloc_new w (.cells #[.slice ad N cap, .int .i64 root] 33))
 have hz := alloc_size w (.cells #[.slice ad N cap, .int .i64 root] 33)
 have hpl := blk_lt hk.box
 have hrl := blk_lt hk.row
 have HWK := hid (hk.below hB)
 have HST := hid (Step.of_below p r av hB)
 have HW := hid (hw.trans (hB.mono hw.size))
 have HSL := hid (hl.step hsl HST.out)
 have HSH := hid (hh.step hsh HST.out)
 have HDL := hid hsl
 have HDH := hid hsh
 have HU := hid hu
 have HAL := hid hal
 have HZ := hid (show p < w.heap.size ∧ r < w.heap.size ∧ (w.alloc (.cells #[.slice ad N cap, .int .i64 root] 33)).heap.size = w.heap.size + 1 ∧ lo0 ≤ w.heap.size ∧ w0.heap.size ≤ w.heap.size ∧ (∀ b, av.ownBlock = some b → lo0 ≤ b ∧ b < w.heap.size) from ⟨hpl, hrl, hz, hlw, hw.size, hk.all.lt⟩)
 have HM := hid hm
 have HRD := hid hR
 have hp6 : p ≠ w.heap.size := by omega
 have hr6 : r ≠ w.heap.size := by omega
 have hpr := hk.pr
 clear hB hz hpl hrl hw hk hl hh hsl hsh hu hal hlw hm
 go_enter Tryz.func69, Tryz.ntmps69
 go_upto_region 1 with fail
 generalize w.alloc (.cells #[.slice ad N cap, .int .i64 root] 33) = V at *
 obtain ⟨p6, hp6'⟩ : ∃ p6, w.heap.size = p6 := ⟨_, rfl⟩
 have HP6 := hid hp6'
 rw [hp6'] at HR6 hp6 hr6
 try simp only [hp6']
 clear hp6'
 have c60 : V.cell? ⟨p6, 0, none⟩ = some (.slice ad N cap) := qC HR6.out
 have cp0 : V.cell? ⟨p, 0, none⟩ = some (.slice (some ⟨r, 0, none⟩) N N) := qC HWK.out.box
 have cp2 : V.cell? ⟨p, 2, none⟩ = some (.bool wr) := qC HWK.out.box
 have fp2 : V.frozen? ⟨p, 2, none⟩ = false := frozen_of_row _ _ _ _ _ HWK.out.box
 have HBD := hid HWK.out.bad
 have HSB := hid (HST.out.trans (Step.set_p p r V av 2 (.bool true)))
 cases wr with
 | true =>
  have HE := hid (show goS ns (f + 1) _ _ deep lo hi = _ from HGB.out (by rfl))
  clear HGB HGR
  go_wp2_with fail
  exact ⟨rfl, _, results_none Tryz.results69 _ _ _, ⟨rfl, av, by rw [HE.out]; exact HBD.out, HSB.out⟩⟩
 | false =>
  by_cases hx0 : x < 0
  ·
   have HE := hid (show goS ns (f + 1) _ _ deep lo hi = _ from HGB.out (by simp [outB, hx0]))
   clear HGB HGR
   go_wp2_with fail
   exact ⟨rfl, _, results_none Tryz.results69 _ _ _, ⟨rfl, av, by rw [HE.out]; exact HBD.out, HSB.out⟩⟩
  by_cases hxN : (N : Int) ≤ x
  ·
   have HE := hid (show goS ns (f + 1) _ _ deep lo hi = _ from HGB.out (by simp only [Bool.false_or]; unfold outB; rw [decide_eq_true (Or.inr (by rw [hns]; exact hxN)), Bool.true_or]))
   clear HGB HGR
   go_wp2_with fail
   exact ⟨rfl, _, results_none Tryz.results69 _ _ _, ⟨rfl, av, by rw [HE.out]; exact HBD.out, HSB.out⟩⟩
  obtain ⟨k, rfl⟩ : ∃ k : Nat, x = (k : Int) := ⟨x.toNat, by omega⟩
  have hkN : k < N := by omega
  have hkN' : (k : Int) < (N : Int) := by omega
  have hkN3 : ¬ (N : Int) ≤ (k : Int) := by omega
  have hk0 : (0 : Int) ≤ (k : Int) := by omega
  have cr := HWK.out.seen_at hkN
  simp only at cr
  clear hx0 hxN
  cases hsk : sn.getD k true with
  | true =>
   rw [hsk] at cr
   have HSK := hid hsk
   clear hsk
   have HE := hid (show goS ns (f + 1) _ _ deep lo hi = _ from HGB.out (by simp only [Bool.false_or]; unfold outB; rw [Int.toNat_natCast, HSK.out, Bool.or_true]))
   clear HGB HGR
   go_wp2_with fail
   exact ⟨rfl, _, results_none Tryz.results69 _ _ _, ⟨rfl, av, by rw [HE.out]; exact HBD.out, HSB.out⟩⟩
  | false =>
   rw [hsk] at cr
   have HSK := hid hsk
   clear hsk
   have HOut := hid (show (false || outB ns sn (k : Int)) = false by rw [Bool.false_or]; unfold outB; rw [Int.toNat_natCast, HSK.out, decide_eq_false (by rw [hns]; omega)]; rfl)
   obtain ⟨b, off, ae, ce, ak, ck, rfl, n0, n1, n2, re, hml, ri, hmk⟩ := HRD.out.at (k := k) (by omega)
   have bl := World.block_lt_of_cell? w0 _ n0
   simp only at bl
   have N0 := (HW.out.cell (p := ⟨b, off + k * 3, none⟩) bl).trans n0
   have N1 := (HW.out.cell (p := ⟨b, off + k * 3 + 1, none⟩) bl).trans n1
   have N2 := (HW.out.cell (p := ⟨b, off + k * 3 + 2, none⟩) bl).trans n2
   have HRe := hid re
   have HRi := hid ri
   have hbr : b ≠ r := by omega
   have hrb : r ≠ b := by omega
   have h6r : p6 ≠ r := fun e => hr6 e.symm
   obtain ⟨d, hdd⟩ : ∃ d, ns.getD k nd0 = d := ⟨_, rfl⟩
   rw [hdd] at N0 N1 N2 HRe HRi hml hmk
   have HMd := hid (show ∀ j, (d.es.getD j en0).Z.length ≤ 2097152 from fun j => hdd ▸ HM.out k j)
   have HE := hid (HGR.out d (by rw [Int.toNat_natCast]; exact hdd) HOut.out)
   simp only [Int.toNat_natCast] at HE
   obtain ⟨n, hn⟩ : ∃ n, d.es.length = n := ⟨_, rfl⟩
   obtain ⟨m, hm⟩ : ∃ m, d.ks.length = m := ⟨_, rfl⟩
   rw [hn] at N1 hml HE
   rw [hm] at N2 HRi hmk HE
   have HNn := hid hn
   have HMm := hid hm
   have fr : V.frozen? ⟨r, k, none⟩ = false := frozen_of_row _ _ _ _ _ HWK.out.row
   have HUn := hid (unseen_set sn k HSK.out)
   have hzs : (V.setCell ⟨r, k, none⟩ (.bool true)).heap.size = V.heap.size := set_size _ _ _
   have hB1 := Below.alloc1 (V.setCell ⟨r, k, none⟩ (.bool true)) (.cells #[.bool d.leaf, .slice ae n ce, .slice ak m ck] 61)
   have HW1 := hid (show WK w0 ((V.setCell ⟨r, k, none⟩ (.bool true)).alloc (.cells #[.bool d.leaf, .slice ae n ce, .slice ak m ck] 61)) p r N lo0 ⟨sn.set k true, dp, false, al⟩ av from (HWK.out.see k).below hB1)
   have HS1 := hid (show Step p r V av ((V.setCell ⟨r, k, none⟩ (.bool true)).alloc (.cells #[.bool d.leaf, .slice ae n ce, .slice ak m ck] 61)) av from (Step.set_r p r V av k (.bool true)).trans (Step.of_below p r av hB1))
   have H12 := hid (heap_alloc_new (V.setCell ⟨r, k, none⟩ (.bool true)) (.cells #[.bool d.leaf, .slice ae n ce, .slice ak m ck] 61))
   have hz1 := alloc_size (V.setCell ⟨r, k, none⟩ (.bool true)) (.cells #[.bool d.leaf, .slice ae n ce, .slice ak m ck] 61)
   rw [hzs] at H12 hz1
   have H61 := hid (show ((V.setCell ⟨r, k, none⟩ (.bool true)).alloc (.cells #[.bool d.leaf, .slice ae n ce, .slice ak m ck] 61)).heap[p6]? = some (.cells #[.slice (some ⟨b, off, none⟩) N cap, .int .i64 root] 33) from (hB1.block p6 (by rw [hzs]; have := HP6.out; have := HZ.out; omega)).trans ((heap_set_ne _ r k p6 _ h6r).trans HR6.out))
   have HZ1 := hid (show ((V.setCell ⟨r, k, none⟩ (.bool true)).alloc (.cells #[.bool d.leaf, .slice ae n ce, .slice ak m ck] 61)).heap.size = V.heap.size + 1 from hz1)
   have h12r : V.heap.size ≠ r := by have := HZ.out; omega
   have h12r' : r ≠ V.heap.size := by have := HZ.out; omega
   have h12p : p ≠ V.heap.size := by have := HZ.out; omega
   have h12b : b ≠ V.heap.size := by have := HZ.out; omega
   clear hB1 hz1 n0 n1 n2 re ri bl hdd HGB HGR HBD HSB hn hm
   by_cases h4 : 4 < n
   ·
    have h4' : (4 : Int) < (n : Int) := by omega
    have HE2 := hid (show goS ns (f + 1) ⟨sn, dp, false, al⟩ (k : Int) deep lo hi = _ from HE.out.trans (if_pos (decide_eq_true h4)))
    have HB1 := hid HW1.out.bad
    have HB2 := hid ((HST.out.trans HS1.out).trans (Step.set_p p r ((V.setCell ⟨r, k, none⟩ (.bool true)).alloc (.cells #[.bool d.leaf, .slice ae n ce, .slice ak m ck] 61)) av 2 (.bool true)))
    have e2 : ((V.setCell ⟨r, k, none⟩ (.bool true)).alloc (.cells #[.bool d.leaf, .slice ae n ce, .slice ak m ck] 61)).cell? ⟨p, 2, none⟩ = some (.bool false) := qC HW1.out.box
    have f2 : ((V.setCell ⟨r, k, none⟩ (.bool true)).alloc (.cells #[.bool d.leaf, .slice ae n ce, .slice ak m ck] 61)).frozen? ⟨p, 2, none⟩ = false := frozen_of_row _ _ _ _ _ HW1.out.box
    clear h4 hzs
    go_upto_region 6 with fail
    generalize ((V.setCell ⟨r, k, none⟩ (.bool true)).alloc (.cells #[.bool d.leaf, .slice ae n ce, .slice ak m ck] 61)) = W1 at *
    go_wp2_with fail
    exact ⟨rfl, _, results_none Tryz.results69 _ _ _, ⟨rfl, av, by rw [HE2.out]; exact HB1.out, HB2.out⟩⟩
   have hn4 : n ≤ 4 := by omega
   have hn4' : ¬ (4 : Int) < (n : Int) := by omega
   replace HE := hid (show goS ns (f + 1) ⟨sn, dp, false, al⟩ (k : Int) deep lo hi = _ from HE.out.trans (if_neg (by simpa using h4)))
   clear h4 hzs
   go_upto_region 7 with fail
   generalize ((V.setCell ⟨r, k, none⟩ (.bool true)).alloc (.cells #[.bool d.leaf, .slice ae n ce, .slice ak m ck] 61)) = W1 at *
   obtain ⟨p12, hp12⟩ : ∃ p12, V.heap.size = p12 := ⟨_, rfl⟩
   have HP12 := hid (show w.heap.size < p12 ∧ p12 < W1.heap.size ∧ p6 < p12 ∧ p < p12 ∧ r < p12 ∧ W1.heap.size = p12 + 1 ∧ p6 = w.heap.size by have := HZ.out; have := HZ1.out; have := HP6.out; omega)
   rw [hp12] at H12 h12r h12r' h12p h12b
   try simp only [hp12]
   clear hp12
   have HST1 := hid (HST.out.trans HS1.out)
   have HSL1 := hid (HSL.out.step HDL.out HS1.out)
   have HSH1 := hid (HSH.out.step HDH.out HS1.out)
   have HBW1 := hid (show Below w0.heap.size w0 W1 from HW.out.trans (HS1.out.below HW.out.size hp0 hr0 (fun b hb => Nat.le_trans hlo0 (HZ.out.2.2.2.2.2 b hb).1)))
   clear HWK HS1 HST HSL HSH HR6 c60 cp0 cp2 fp2 cr fr N0 N1 N2 hrb hbr h6r HW
   go_wp2_with fail
   go_loopw [13] (fun i wr => ∃ kk : Nat, kk ≤ n ∧ i = .int .i64 kk ∧ Hid (∀ j, j < kk → okAt lo hi d.es j = true) ∧ Hid (Below W1.heap.size W1 wr)) (fun i _ => n - (intOf i).toNat)
   case atStart => exact ⟨0, Nat.zero_le _, rfl, hid (fun j hj => absurd hj (Nat.not_lt_zero _)), hid (Below.refl _ _)⟩
   case round =>
    obtain ⟨kk, hkk, rfl, HOK, HB⟩ := hrel
    have c121 : wr.cell? ⟨p12, 1, none⟩ = some (.slice ae n ce) := by rw [cell_of_row _ _ _ _ _ _ ((HB.out.block p12 HP12.out.2.1).trans H12.out)]; rfl
    by_cases hlt : kk < n
    ·
     have hlt' : (kk : Int) < (n : Int) := by omega
     have hkk0 : (0 : Int) ≤ (kk : Int) := by omega
     obtain ⟨be, oe, a1, c1, rfl, bx0, r1, _, _, f1⟩ := HRe.out.at (k := kk) (by rw [HNn.out]; exact hlt)
     have HBW := hid (HBW1.out.trans (HB.out.mono HBW1.out.size))
     have HEq := hid (okAt_of lo hi d.es kk)
     have m1 := HMd.out kk
     obtain ⟨e, he⟩ : ∃ e, d.es.getD kk en0 = e := ⟨_, rfl⟩
     rw [he] at bx0 r1 f1 HEq m1
     have HR1 := hid r1
     obtain ⟨z0, z1, z2, z3, z4⟩ := bx0.below HBW.out qN
     have hst := fun w a m => run_store Tryz.prog w a (.float .f64 e.F) m rfl
     have HBX := hid (Below.alloc1 wr (.cells #[.int .i64 e.K, .int .i64 e.N, .float .f64 e.F, .slice a1 e.Z.length c1, .int .i64 e.id] 48))
     have HR14 := hid (heap_alloc_new wr (.cells #[.int .i64 e.K, .int .i64 e.N, .float .f64 e.F, .slice a1 e.Z.length c1, .int .i64 e.id] 48))
     have HZ14 := hid (alloc_size wr (.cells #[.int .i64 e.K, .int .i64 e.N, .float .f64 e.F, .slice a1 e.Z.length c1, .int .i64 e.id] 48))
     clear bx0 r1 he
     go_upto_region 11 with fail
     clear z0 z1 z2 z3 z4 c121
     generalize wr.alloc (.cells #[.int .i64 e.K, .int .i64 e.N, .float .f64 e.F, .slice a1 e.Z.length c1, .int .i64 e.id] 48) = V2 at *
     obtain ⟨p14, hp14⟩ : ∃ p14, wr.heap.size = p14 := ⟨_, rfl⟩
     have HP14 := hid (show p14 < V2.heap.size ∧ W1.heap.size ≤ p14 ∧ p14 = wr.heap.size by have := HZ14.out; have := HB.out.size; omega)
     rw [hp14] at HR14
     try simp only [hp14]
     clear hp14
     have HB2 := hid (show Below W1.heap.size W1 V2 from HB.out.trans (HBX.out.mono HB.out.size))
     go_cut [117] (fun s wx => s = .bool (!okAt lo hi d.es kk) ∧ Hid (Below V2.heap.size V2 wx))
     case first =>
      try clear IH
      try clear HE
      try clear HU
      try clear HAL
      try clear HRi
      try clear HUn
      try clear HOK
      try clear HST1
      try clear HZ
      try clear HZ1
      try clear HRD
      try clear HMm
      try clear HW1
      try clear HSK
      try clear HOut
      try clear HM
      try clear HDL
      try clear HDH
      try clear HP6
      try clear hp6
      try clear hr6
      try clear hpr
      try clear h12r
      try clear h12r'
      try clear h12p
      try clear h12b
      try clear hp0
      try clear hr0
      try clear hlo0
      try clear hd0
      try clear hd1
      try clear hns
      try clear hN
      try clear hkN
      try clear hkN'
      try clear hkN3
      try clear hk0
      try clear hml
      try clear hmk
      try clear hn4'
      try clear hlt'
      try clear hB
      try clear hR
      try clear hm
      try clear H61
      cases lo with
      | none =>
       obtain rfl : vl = Value.slice none 0 0 := HSL1.out
       cases hi with
       | none =>
        obtain rfl : vh = Value.slice none 0 0 := HSH1.out
        as_aux_lemma =>
         have HKp := hid (show ∀ W', Below V2.heap.size V2 W' → (W'.cell? ⟨p14, 0, none⟩ = some (.int .i64 e.K) ∧ W'.cell? ⟨p14, 1, none⟩ = some (.int .i64 e.N) ∧ W'.cell? ⟨p14, 2, none⟩ = some (.float .f64 e.F) ∧ W'.cell? ⟨p14, 3, none⟩ = some (.slice a1 e.Z.length c1) ∧ W'.cell? ⟨p14, 4, none⟩ = some (.int .i64 e.id)) ∧ W'.cell? ⟨p12, 1, none⟩ = some (.slice (some ⟨be, oe, none⟩) n ce) ∧ Hid (Below w0.heap.size w0 W') ∧ True ∧ True from fun W' b => by
          have r14 := (b.block p14 HP14.out.1).trans HR14.out
          have b1 := HB2.out.trans (b.mono HB2.out.size)
          have r12 := (b1.block p12 HP12.out.2.1).trans H12.out
          exact ⟨⟨qC r14, qC r14, qC r14, qC r14, qC r14⟩, qC r12, hid (HBW1.out.trans (b1.mono HBW1.out.size)), trivial, trivial⟩)
         have BC := hid ((Still.drew V2).below V2.heap.size)
         refine region_K 99 (fun W => (W.cell? ⟨p14, 0, none⟩ = some (.int .i64 e.K) ∧ W.cell? ⟨p14, 1, none⟩ = some (.int .i64 e.N) ∧ W.cell? ⟨p14, 2, none⟩ = some (.float .f64 e.F) ∧ W.cell? ⟨p14, 3, none⟩ = some (.slice a1 e.Z.length c1) ∧ W.cell? ⟨p14, 4, none⟩ = some (.int .i64 e.id)) ∧ W.cell? ⟨p12, 1, none⟩ = some (.slice (some ⟨be, oe, none⟩) n ce) ∧ Hid (Below w0.heap.size w0 W) ∧ True ∧ True) (by kernel_rfl) ?_ (fun hHeld => ?_)
         · exact HKp.out _ BC.out
         generalize V2.drew = vd at *
         refine qX 0 rfl hHeld 75 rfl ?_
         refine qS 1 rfl fun KP hK => ?_
         go_simp
         refine (spec_entry e.K e.N e.F a1 e.Z.length c1 e.id f1 m1 _).mono ?_
         rintro e v1 ⟨rfl, b⟩
         replace BC := hid (BC.out.trans (b.mono BC.out.size))
         clear b
         obtain ⟨EO, hEO⟩ : ∃ EO, entB e.K e.N e.F e.Z.length e.id = EO := ⟨_, rfl⟩
         rw [hEO]
         rw [show entOk e = EO from hEO] at HEq
         clear hEO
         go_wp2_with fail
         clear hHeld
         refine hK.out _ _ (HKp.out _ BC.out) (fun hHeld => ?_)
         clear hK KP
         try simp only [qP]
         cases EO with
         | false =>
          refine qX 2 rfl hHeld 77 rfl ?_
          refine qX 3 rfl hHeld 78 rfl ?_
          refine qY 4 rfl hHeld 79 rfl ?_
          refine qY 5 rfl hHeld 80 rfl ?_
          refine qY 6 rfl hHeld 81 rfl ?_
          refine qY 7 rfl hHeld 82 rfl ?_
          refine qY 8 rfl hHeld 83 rfl ?_
          refine qY 9 rfl hHeld 84 rfl ?_
          refine qY 10 rfl hHeld 85 rfl ?_
          refine qY 11 rfl hHeld 86 rfl ?_
          refine qY 12 rfl hHeld 87 rfl ?_
          refine qY 13 rfl hHeld 88 rfl ?_
          refine qY 14 rfl hHeld 89 rfl ?_
          refine qY 15 rfl hHeld 90 rfl ?_
          refine qY 16 rfl hHeld 91 rfl ?_
          refine qX 17 rfl hHeld 92 rfl ?_
          refine qX 18 rfl hHeld 93 rfl ?_
          refine qY 19 rfl hHeld 94 rfl ?_
          refine qY 20 rfl hHeld 95 rfl ?_
          refine qY 21 rfl hHeld 96 rfl ?_
          refine qY 22 rfl hHeld 97 rfl ?_
          refine qY 23 rfl hHeld 98 rfl ?_
          refine qY 24 rfl hHeld 99 rfl ?_
          refine qY 25 rfl hHeld 100 rfl ?_
          refine qY 26 rfl hHeld 101 rfl ?_
          refine qY 27 rfl hHeld 102 rfl ?_
          refine qY 28 rfl hHeld 103 rfl ?_
          refine qX 29 rfl hHeld 104 rfl ?_
          refine qX 30 rfl hHeld 105 rfl ?_
          refine qY 31 rfl hHeld 106 rfl ?_
          refine qY 32 rfl hHeld 107 rfl ?_
          refine qY 33 rfl hHeld 108 rfl ?_
          refine qY 34 rfl hHeld 109 rfl ?_
          refine qY 35 rfl hHeld 110 rfl ?_
          refine qY 36 rfl hHeld 111 rfl ?_
          refine qY 37 rfl hHeld 112 rfl ?_
          refine qY 38 rfl hHeld 113 rfl ?_
          refine qY 39 rfl hHeld 114 rfl ?_
          refine qY 40 rfl hHeld 115 rfl ?_
          refine qY 41 rfl hHeld 116 rfl ?_
          refine qX 42 rfl hHeld 117 rfl ?_
          refine anyK_done (by kernel_rfl) ?_ _
          clear hHeld
          go_wp2_with fail
          go_meet
          case rel => exact ⟨by rw [HEq.out]; first | rfl | simp, BC⟩
         | true =>
          refine qX 2 rfl hHeld 77 rfl ?_
          refine qX 3 rfl hHeld 78 rfl ?_
          refine qX 4 rfl hHeld 79 rfl ?_
          by_cases hk1 : kk = 0
          ·
           subst hk1
           refine qX 5 rfl hHeld 80 rfl ?_
           refine qX 6 rfl hHeld 81 rfl ?_
           refine qY 7 rfl hHeld 82 rfl ?_
           refine qY 8 rfl hHeld 83 rfl ?_
           refine qY 9 rfl hHeld 84 rfl ?_
           refine qY 10 rfl hHeld 85 rfl ?_
           refine qY 11 rfl hHeld 86 rfl ?_
           refine qY 12 rfl hHeld 87 rfl ?_
           refine qY 13 rfl hHeld 88 rfl ?_
           refine qY 14 rfl hHeld 89 rfl ?_
           refine qY 15 rfl hHeld 90 rfl ?_
           refine qX 16 rfl hHeld 91 rfl ?_
           refine qX 17 rfl hHeld 92 rfl ?_
           refine qX 18 rfl hHeld 93 rfl ?_
           refine qX 19 rfl hHeld 94 rfl ?_
           refine qX 20 rfl hHeld 95 rfl ?_
           refine qX 21 rfl hHeld 96 rfl ?_
           refine qX 22 rfl hHeld 97 rfl ?_
           refine qY 23 rfl hHeld 98 rfl ?_
           refine qY 24 rfl hHeld 99 rfl ?_
           refine qY 25 rfl hHeld 100 rfl ?_
           refine qY 26 rfl hHeld 101 rfl ?_
           refine qY 27 rfl hHeld 102 rfl ?_
           refine qX 28 rfl hHeld 103 rfl ?_
           refine qX 29 rfl hHeld 104 rfl ?_
           refine qX 30 rfl hHeld 105 rfl ?_
           refine qX 31 rfl hHeld 106 rfl ?_
           refine qX 32 rfl hHeld 107 rfl ?_
           refine qX 33 rfl hHeld 108 rfl ?_
           refine qX 34 rfl hHeld 109 rfl ?_
           refine qY 35 rfl hHeld 110 rfl ?_
           refine qY 36 rfl hHeld 111 rfl ?_
           refine qY 37 rfl hHeld 112 rfl ?_
           refine qY 38 rfl hHeld 113 rfl ?_
           refine qY 39 rfl hHeld 114 rfl ?_
           refine qY 40 rfl hHeld 115 rfl ?_
           refine qX 41 rfl hHeld 116 rfl ?_
           refine qX 42 rfl hHeld 117 rfl ?_
           refine anyK_done (by kernel_rfl) ?_ _
           clear hHeld
           go_wp2_with fail
           go_meet
           case rel => exact ⟨by rw [HEq.out]; first | rfl | simp, BC⟩
          ·
           have hk2 : (0 : Int) < (kk : Int) := by omega
           have hk3 : 0 < kk := by omega
           have h1' : (kk : Int) - 1 < (n : Int) := by omega
           have h2' : (0 : Int) ≤ (kk : Int) - 1 := by omega
           have h3' : ((kk : Int) - 1).toNat = kk - 1 := by omega
           have hwr : IntKind.i64.wrap ((kk : Int) - 1) = ((kk - 1 : Nat) : Int) := by rw [IntKind.wrap_i64]; omega
           have h1n : ((kk - 1 : Nat) : Int) < (n : Int) := by omega
           obtain ⟨be', oe', a0, c0, e0', bxp, rp, _, _, f0⟩ := HRe.out.at (k := kk - 1) (by rw [HNn.out]; omega)
           obtain ⟨rfl, rfl⟩ : be = be' ∧ oe = oe' := by simpa using e0'
           have m0 := HMd.out (kk - 1)
           rw [decide_eq_false hk1, Bool.false_or] at HEq
           obtain ⟨x, hx⟩ : ∃ x, d.es.getD (kk - 1) en0 = x := ⟨_, rfl⟩
           rw [hx] at bxp rp f0 m0 HEq
           have BXP := hid bxp
           have RXP := hid rp
           clear bxp rp e0' hx hk1
           refine qX 5 rfl hHeld 80 rfl ?_
           refine qX 6 rfl hHeld 81 rfl ?_
           refine qX 7 rfl hHeld 82 rfl ?_
           refine qX 8 rfl hHeld 83 rfl ?_
           refine qX 9 rfl hHeld 84 rfl ?_
           refine qX 10 rfl hHeld 85 rfl ?_
           refine qX 11 rfl hHeld 86 rfl ?_
           refine tkA (i := 12) (v := ?v37) rfl hHeld ?hy37 (some 87) rfl ?rest37
           case hy37 => (intro W hSw; obtain ⟨⟨y0, y1, y2, y3, y4⟩, x1, HbW, HLo, HHi⟩ := hSw; obtain ⟨q0, q1, q2, q3, q4⟩ := BXP.out.below HbW.out qN; go_simp; (try with_reducible rfl))
           try simp only [qP]
           refine qX 13 rfl hHeld 88 rfl ?_
           refine qS 14 rfl fun KP hK => ?_
           go_simp
           refine (spec_less x.K x.N x.F c0 x.id e.K e.N e.F c1 e.id f0 f1 (RXP.out.below (HKp.out _ BC.out).2.2.1.out qN) (HR1.out.below (HKp.out _ BC.out).2.2.1.out qN) m0 m1).mono ?_
           rintro e v2 ⟨rfl, b⟩
           replace BC := hid (BC.out.trans (b.mono BC.out.size))
           clear b
           obtain ⟨LT, hLT⟩ : ∃ LT, ltB (cmpI x.K x.N x.F x.Z.length x.Z e.K e.N e.F e.Z.length e.Z) x.id e.id = LT := ⟨_, rfl⟩
           rw [hLT]
           rw [show ltE x e = LT from hLT] at HEq
           clear hLT
           go_wp2_with fail
           clear hHeld
           refine hK.out _ _ (HKp.out _ BC.out) (fun hHeld => ?_)
           clear hK KP
           try simp only [qP]
           cases LT with
           | false =>
            refine qX 15 rfl hHeld 90 rfl ?_
            refine qX 16 rfl hHeld 91 rfl ?_
            refine qX 17 rfl hHeld 92 rfl ?_
            refine qX 18 rfl hHeld 93 rfl ?_
            refine qY 19 rfl hHeld 94 rfl ?_
            refine qY 20 rfl hHeld 95 rfl ?_
            refine qY 21 rfl hHeld 96 rfl ?_
            refine qY 22 rfl hHeld 97 rfl ?_
            refine qY 23 rfl hHeld 98 rfl ?_
            refine qY 24 rfl hHeld 99 rfl ?_
            refine qY 25 rfl hHeld 100 rfl ?_
            refine qY 26 rfl hHeld 101 rfl ?_
            refine qY 27 rfl hHeld 102 rfl ?_
            refine qY 28 rfl hHeld 103 rfl ?_
            refine qX 29 rfl hHeld 104 rfl ?_
            refine qX 30 rfl hHeld 105 rfl ?_
            refine qY 31 rfl hHeld 106 rfl ?_
            refine qY 32 rfl hHeld 107 rfl ?_
            refine qY 33 rfl hHeld 108 rfl ?_
            refine qY 34 rfl hHeld 109 rfl ?_
            refine qY 35 rfl hHeld 110 rfl ?_
            refine qY 36 rfl hHeld 111 rfl ?_
            refine qY 37 rfl hHeld 112 rfl ?_
            refine qY 38 rfl hHeld 113 rfl ?_
            refine qY 39 rfl hHeld 114 rfl ?_
            refine qY 40 rfl hHeld 115 rfl ?_
            refine qY 41 rfl hHeld 116 rfl ?_
            refine qX 42 rfl hHeld 117 rfl ?_
            refine anyK_done (by kernel_rfl) ?_ _
            clear hHeld
            go_wp2_with fail
            go_meet
            case rel => exact ⟨by rw [HEq.out]; first | rfl | simp, BC⟩
           | true =>
            refine qX 15 rfl hHeld 90 rfl ?_
            refine qX 16 rfl hHeld 91 rfl ?_
            refine qX 17 rfl hHeld 92 rfl ?_
            refine qX 18 rfl hHeld 93 rfl ?_
            refine qX 19 rfl hHeld 94 rfl ?_
            refine qX 20 rfl hHeld 95 rfl ?_
            refine qX 21 rfl hHeld 96 rfl ?_
            refine qX 22 rfl hHeld 97 rfl ?_
            refine qY 23 rfl hHeld 98 rfl ?_
            refine qY 24 rfl hHeld 99 rfl ?_
            refine qY 25 rfl hHeld 100 rfl ?_
            refine qY 26 rfl hHeld 101 rfl ?_
            refine qY 27 rfl hHeld 102 rfl ?_
            refine qX 28 rfl hHeld 103 rfl ?_
            refine qX 29 rfl hHeld 104 rfl ?_
            refine qX 30 rfl hHeld 105 rfl ?_
            refine qX 31 rfl hHeld 106 rfl ?_
            refine qX 32 rfl hHeld 107 rfl ?_
            refine qX 33 rfl hHeld 108 rfl ?_
            refine qX 34 rfl hHeld 109 rfl ?_
            refine qY 35 rfl hHeld 110 rfl ?_
            refine qY 36 rfl hHeld 111 rfl ?_
            refine qY 37 rfl hHeld 112 rfl ?_
            refine qY 38 rfl hHeld 113 rfl ?_
            refine qY 39 rfl hHeld 114 rfl ?_
            refine qY 40 rfl hHeld 115 rfl ?_
            refine qX 41 rfl hHeld 116 rfl ?_
            refine qX 42 rfl hHeld 117 rfl ?_
            refine anyK_done (by kernel_rfl) ?_ _
            clear hHeld
            go_wp2_with fail
            go_meet
            case rel => exact ⟨by rw [HEq.out]; first | rfl | simp, BC⟩
       | some eH =>
        obtain ⟨bH, cH, aH, kH, rfl, bxH, rH, fH, mH⟩ := HSH1.out
        have BXH := hid bxH
        have RXH := hid rH
        clear bxH rH
        as_aux_lemma =>
         have HKp := hid (show ∀ W', Below V2.heap.size V2 W' → (W'.cell? ⟨p14, 0, none⟩ = some (.int .i64 e.K) ∧ W'.cell? ⟨p14, 1, none⟩ = some (.int .i64 e.N) ∧ W'.cell? ⟨p14, 2, none⟩ = some (.float .f64 e.F) ∧ W'.cell? ⟨p14, 3, none⟩ = some (.slice a1 e.Z.length c1) ∧ W'.cell? ⟨p14, 4, none⟩ = some (.int .i64 e.id)) ∧ W'.cell? ⟨p12, 1, none⟩ = some (.slice (some ⟨be, oe, none⟩) n ce) ∧ Hid (Below w0.heap.size w0 W') ∧ True ∧ Hid (Box5 W' bH 0 eH.K eH.N eH.F (.slice aH eH.Z.length kH) eH.id) from fun W' b => by
          have r14 := (b.block p14 HP14.out.1).trans HR14.out
          have b1 := HB2.out.trans (b.mono HB2.out.size)
          have r12 := (b1.block p12 HP12.out.2.1).trans H12.out
          exact ⟨⟨qC r14, qC r14, qC r14, qC r14, qC r14⟩, qC r12, hid (HBW1.out.trans (b1.mono HBW1.out.size)), trivial, hid (BXH.out.below b1 qN)⟩)
         have BC := hid ((Still.drew V2).below V2.heap.size)
         refine region_K 99 (fun W => (W.cell? ⟨p14, 0, none⟩ = some (.int .i64 e.K) ∧ W.cell? ⟨p14, 1, none⟩ = some (.int .i64 e.N) ∧ W.cell? ⟨p14, 2, none⟩ = some (.float .f64 e.F) ∧ W.cell? ⟨p14, 3, none⟩ = some (.slice a1 e.Z.length c1) ∧ W.cell? ⟨p14, 4, none⟩ = some (.int .i64 e.id)) ∧ W.cell? ⟨p12, 1, none⟩ = some (.slice (some ⟨be, oe, none⟩) n ce) ∧ Hid (Below w0.heap.size w0 W) ∧ True ∧ Hid (Box5 W bH 0 eH.K eH.N eH.F (.slice aH eH.Z.length kH) eH.id)) (by kernel_rfl) ?_ (fun hHeld => ?_)
         · exact HKp.out _ BC.out
         generalize V2.drew = vd at *
         refine qX 0 rfl hHeld 75 rfl ?_
         refine qS 1 rfl fun KP hK => ?_
         go_simp
         refine (spec_entry e.K e.N e.F a1 e.Z.length c1 e.id f1 m1 _).mono ?_
         rintro e v1 ⟨rfl, b⟩
         replace BC := hid (BC.out.trans (b.mono BC.out.size))
         clear b
         obtain ⟨EO, hEO⟩ : ∃ EO, entB e.K e.N e.F e.Z.length e.id = EO := ⟨_, rfl⟩
         rw [hEO]
         rw [show entOk e = EO from hEO] at HEq
         clear hEO
         go_wp2_with fail
         clear hHeld
         refine hK.out _ _ (HKp.out _ BC.out) (fun hHeld => ?_)
         clear hK KP
         try simp only [qP]
         cases EO with
         | false =>
          refine qX 2 rfl hHeld 77 rfl ?_
          refine qX 3 rfl hHeld 78 rfl ?_
          refine qY 4 rfl hHeld 79 rfl ?_
          refine qY 5 rfl hHeld 80 rfl ?_
          refine qY 6 rfl hHeld 81 rfl ?_
          refine qY 7 rfl hHeld 82 rfl ?_
          refine qY 8 rfl hHeld 83 rfl ?_
          refine qY 9 rfl hHeld 84 rfl ?_
          refine qY 10 rfl hHeld 85 rfl ?_
          refine qY 11 rfl hHeld 86 rfl ?_
          refine qY 12 rfl hHeld 87 rfl ?_
          refine qY 13 rfl hHeld 88 rfl ?_
          refine qY 14 rfl hHeld 89 rfl ?_
          refine qY 15 rfl hHeld 90 rfl ?_
          refine qY 16 rfl hHeld 91 rfl ?_
          refine qX 17 rfl hHeld 92 rfl ?_
          refine qX 18 rfl hHeld 93 rfl ?_
          refine qY 19 rfl hHeld 94 rfl ?_
          refine qY 20 rfl hHeld 95 rfl ?_
          refine qY 21 rfl hHeld 96 rfl ?_
          refine qY 22 rfl hHeld 97 rfl ?_
          refine qY 23 rfl hHeld 98 rfl ?_
          refine qY 24 rfl hHeld 99 rfl ?_
          refine qY 25 rfl hHeld 100 rfl ?_
          refine qY 26 rfl hHeld 101 rfl ?_
          refine qY 27 rfl hHeld 102 rfl ?_
          refine qY 28 rfl hHeld 103 rfl ?_
          refine qX 29 rfl hHeld 104 rfl ?_
          refine qX 30 rfl hHeld 105 rfl ?_
          refine qY 31 rfl hHeld 106 rfl ?_
          refine qY 32 rfl hHeld 107 rfl ?_
          refine qY 33 rfl hHeld 108 rfl ?_
          refine qY 34 rfl hHeld 109 rfl ?_
          refine qY 35 rfl hHeld 110 rfl ?_
          refine qY 36 rfl hHeld 111 rfl ?_
          refine qY 37 rfl hHeld 112 rfl ?_
          refine qY 38 rfl hHeld 113 rfl ?_
          refine qY 39 rfl hHeld 114 rfl ?_
          refine qY 40 rfl hHeld 115 rfl ?_
          refine qY 41 rfl hHeld 116 rfl ?_
          refine qX 42 rfl hHeld 117 rfl ?_
          refine anyK_done (by kernel_rfl) ?_ _
          clear hHeld
          go_wp2_with fail
          go_meet
          case rel => exact ⟨by rw [HEq.out]; first | rfl | simp, BC⟩
         | true =>
          refine qX 2 rfl hHeld 77 rfl ?_
          refine qX 3 rfl hHeld 78 rfl ?_
          refine qX 4 rfl hHeld 79 rfl ?_
          by_cases hk1 : kk = 0
          ·
           subst hk1
           refine qX 5 rfl hHeld 80 rfl ?_
           refine qX 6 rfl hHeld 81 rfl ?_
           refine qY 7 rfl hHeld 82 rfl ?_
           refine qY 8 rfl hHeld 83 rfl ?_
           refine qY 9 rfl hHeld 84 rfl ?_
           refine qY 10 rfl hHeld 85 rfl ?_
           refine qY 11 rfl hHeld 86 rfl ?_
           refine qY 12 rfl hHeld 87 rfl ?_
           refine qY 13 rfl hHeld 88 rfl ?_
           refine qY 14 rfl hHeld 89 rfl ?_
           refine qY 15 rfl hHeld 90 rfl ?_
           refine qX 16 rfl hHeld 91 rfl ?_
           refine qX 17 rfl hHeld 92 rfl ?_
           refine qX 18 rfl hHeld 93 rfl ?_
           refine qX 19 rfl hHeld 94 rfl ?_
           refine qX 20 rfl hHeld 95 rfl ?_
           refine qX 21 rfl hHeld 96 rfl ?_
           refine qX 22 rfl hHeld 97 rfl ?_
           refine qY 23 rfl hHeld 98 rfl ?_
           refine qY 24 rfl hHeld 99 rfl ?_
           refine qY 25 rfl hHeld 100 rfl ?_
           refine qY 26 rfl hHeld 101 rfl ?_
           refine qY 27 rfl hHeld 102 rfl ?_
           refine qX 28 rfl hHeld 103 rfl ?_
           refine qX 29 rfl hHeld 104 rfl ?_
           refine qX 30 rfl hHeld 105 rfl ?_
           refine qX 31 rfl hHeld 106 rfl ?_
           refine qX 32 rfl hHeld 107 rfl ?_
           refine qX 33 rfl hHeld 108 rfl ?_
           refine qX 34 rfl hHeld 109 rfl ?_
           refine qX 35 rfl hHeld 110 rfl ?_
           refine qX 36 rfl hHeld 111 rfl ?_
           refine qX 37 rfl hHeld 112 rfl ?_
           refine tkA (i := 38) (v := ?v93) rfl hHeld ?hy93 (some 113) rfl ?rest93
           case hy93 => (intro W hSw; obtain ⟨⟨y0, y1, y2, y3, y4⟩, x1, HbW, HLo, HHi⟩ := hSw; obtain ⟨q0, q1, q2, q3, q4⟩ := HHi.out; go_simp; (try with_reducible rfl))
           try simp only [qP]
           refine qS 39 rfl fun KP hK => ?_
           go_simp
           refine (spec_less e.K e.N e.F c1 e.id eH.K eH.N eH.F kH eH.id f1 fH (HR1.out.below (HKp.out _ BC.out).2.2.1.out qN) (RXH.out.below (HKp.out _ BC.out).2.2.1.out qN) m1 mH).mono ?_
           rintro e v4 ⟨rfl, b⟩
           replace BC := hid (BC.out.trans (b.mono BC.out.size))
           clear b
           obtain ⟨HT, hHT⟩ : ∃ HT, ltB (cmpI e.K e.N e.F e.Z.length e.Z eH.K eH.N eH.F eH.Z.length eH.Z) e.id eH.id = HT := ⟨_, rfl⟩
           rw [hHT]
           rw [show hiB (some eH) e = HT from hHT] at HEq
           clear hHT
           go_wp2_with fail
           clear hHeld
           refine hK.out _ _ (HKp.out _ BC.out) (fun hHeld => ?_)
           clear hK KP
           try simp only [qP]
           cases HT with
           | false =>
            refine qX 40 rfl hHeld 115 rfl ?_
            refine qX 41 rfl hHeld 116 rfl ?_
            refine qX 42 rfl hHeld 117 rfl ?_
            refine anyK_done (by kernel_rfl) ?_ _
            clear hHeld
            go_wp2_with fail
            go_meet
            case rel => exact ⟨by rw [HEq.out]; first | rfl | simp, BC⟩
           | true =>
            refine qX 40 rfl hHeld 115 rfl ?_
            refine qX 41 rfl hHeld 116 rfl ?_
            refine qX 42 rfl hHeld 117 rfl ?_
            refine anyK_done (by kernel_rfl) ?_ _
            clear hHeld
            go_wp2_with fail
            go_meet
            case rel => exact ⟨by rw [HEq.out]; first | rfl | simp, BC⟩
          ·
           have hk2 : (0 : Int) < (kk : Int) := by omega
           have hk3 : 0 < kk := by omega
           have h1' : (kk : Int) - 1 < (n : Int) := by omega
           have h2' : (0 : Int) ≤ (kk : Int) - 1 := by omega
           have h3' : ((kk : Int) - 1).toNat = kk - 1 := by omega
           have hwr : IntKind.i64.wrap ((kk : Int) - 1) = ((kk - 1 : Nat) : Int) := by rw [IntKind.wrap_i64]; omega
           have h1n : ((kk - 1 : Nat) : Int) < (n : Int) := by omega
           obtain ⟨be', oe', a0, c0, e0', bxp, rp, _, _, f0⟩ := HRe.out.at (k := kk - 1) (by rw [HNn.out]; omega)
           obtain ⟨rfl, rfl⟩ : be = be' ∧ oe = oe' := by simpa using e0'
           have m0 := HMd.out (kk - 1)
           rw [decide_eq_false hk1, Bool.false_or] at HEq
           obtain ⟨x, hx⟩ : ∃ x, d.es.getD (kk - 1) en0 = x := ⟨_, rfl⟩
           rw [hx] at bxp rp f0 m0 HEq
           have BXP := hid bxp
           have RXP := hid rp
           clear bxp rp e0' hx hk1
           refine qX 5 rfl hHeld 80 rfl ?_
           refine qX 6 rfl hHeld 81 rfl ?_
           refine qX 7 rfl hHeld 82 rfl ?_
           refine qX 8 rfl hHeld 83 rfl ?_
           refine qX 9 rfl hHeld 84 rfl ?_
           refine qX 10 rfl hHeld 85 rfl ?_
           refine qX 11 rfl hHeld 86 rfl ?_
           refine tkA (i := 12) (v := ?v107) rfl hHeld ?hy107 (some 87) rfl ?rest107
           case hy107 => (intro W hSw; obtain ⟨⟨y0, y1, y2, y3, y4⟩, x1, HbW, HLo, HHi⟩ := hSw; obtain ⟨q0, q1, q2, q3, q4⟩ := BXP.out.below HbW.out qN; go_simp; (try with_reducible rfl))
           try simp only [qP]
           refine qX 13 rfl hHeld 88 rfl ?_
           refine qS 14 rfl fun KP hK => ?_
           go_simp
           refine (spec_less x.K x.N x.F c0 x.id e.K e.N e.F c1 e.id f0 f1 (RXP.out.below (HKp.out _ BC.out).2.2.1.out qN) (HR1.out.below (HKp.out _ BC.out).2.2.1.out qN) m0 m1).mono ?_
           rintro e v2 ⟨rfl, b⟩
           replace BC := hid (BC.out.trans (b.mono BC.out.size))
           clear b
           obtain ⟨LT, hLT⟩ : ∃ LT, ltB (cmpI x.K x.N x.F x.Z.length x.Z e.K e.N e.F e.Z.length e.Z) x.id e.id = LT := ⟨_, rfl⟩
           rw [hLT]
           rw [show ltE x e = LT from hLT] at HEq
           clear hLT
           go_wp2_with fail
           clear hHeld
           refine hK.out _ _ (HKp.out _ BC.out) (fun hHeld => ?_)
           clear hK KP
           try simp only [qP]
           cases LT with
           | false =>
            refine qX 15 rfl hHeld 90 rfl ?_
            refine qX 16 rfl hHeld 91 rfl ?_
            refine qX 17 rfl hHeld 92 rfl ?_
            refine qX 18 rfl hHeld 93 rfl ?_
            refine qY 19 rfl hHeld 94 rfl ?_
            refine qY 20 rfl hHeld 95 rfl ?_
            refine qY 21 rfl hHeld 96 rfl ?_
            refine qY 22 rfl hHeld 97 rfl ?_
            refine qY 23 rfl hHeld 98 rfl ?_
            refine qY 24 rfl hHeld 99 rfl ?_
            refine qY 25 rfl hHeld 100 rfl ?_
            refine qY 26 rfl hHeld 101 rfl ?_
            refine qY 27 rfl hHeld 102 rfl ?_
            refine qY 28 rfl hHeld 103 rfl ?_
            refine qX 29 rfl hHeld 104 rfl ?_
            refine qX 30 rfl hHeld 105 rfl ?_
            refine qY 31 rfl hHeld 106 rfl ?_
            refine qY 32 rfl hHeld 107 rfl ?_
            refine qY 33 rfl hHeld 108 rfl ?_
            refine qY 34 rfl hHeld 109 rfl ?_
            refine qY 35 rfl hHeld 110 rfl ?_
            refine qY 36 rfl hHeld 111 rfl ?_
            refine qY 37 rfl hHeld 112 rfl ?_
            refine qY 38 rfl hHeld 113 rfl ?_
            refine qY 39 rfl hHeld 114 rfl ?_
            refine qY 40 rfl hHeld 115 rfl ?_
            refine qY 41 rfl hHeld 116 rfl ?_
            refine qX 42 rfl hHeld 117 rfl ?_
            refine anyK_done (by kernel_rfl) ?_ _
            clear hHeld
            go_wp2_with fail
            go_meet
            case rel => exact ⟨by rw [HEq.out]; first | rfl | simp, BC⟩
           | true =>
            refine qX 15 rfl hHeld 90 rfl ?_
            refine qX 16 rfl hHeld 91 rfl ?_
            refine qX 17 rfl hHeld 92 rfl ?_
            refine qX 18 rfl hHeld 93 rfl ?_
            refine qX 19 rfl hHeld 94 rfl ?_
            refine qX 20 rfl hHeld 95 rfl ?_
            refine qX 21 rfl hHeld 96 rfl ?_
            refine qX 22 rfl hHeld 97 rfl ?_
            refine qY 23 rfl hHeld 98 rfl ?_
            refine qY 24 rfl hHeld 99 rfl ?_
            refine qY 25 rfl hHeld 100 rfl ?_
            refine qY 26 rfl hHeld 101 rfl ?_
            refine qY 27 rfl hHeld 102 rfl ?_
            refine qX 28 rfl hHeld 103 rfl ?_
            refine qX 29 rfl hHeld 104 rfl ?_
            refine qX 30 rfl hHeld 105 rfl ?_
            refine qX 31 rfl hHeld 106 rfl ?_
            refine qX 32 rfl hHeld 107 rfl ?_
            refine qX 33 rfl hHeld 108 rfl ?_
            refine qX 34 rfl hHeld 109 rfl ?_
            refine qX 35 rfl hHeld 110 rfl ?_
            refine qX 36 rfl hHeld 111 rfl ?_
            refine qX 37 rfl hHeld 112 rfl ?_
            refine tkA (i := 38) (v := ?v134) rfl hHeld ?hy134 (some 113) rfl ?rest134
            case hy134 => (intro W hSw; obtain ⟨⟨y0, y1, y2, y3, y4⟩, x1, HbW, HLo, HHi⟩ := hSw; obtain ⟨q0, q1, q2, q3, q4⟩ := HHi.out; go_simp; (try with_reducible rfl))
            try simp only [qP]
            refine qS 39 rfl fun KP hK => ?_
            go_simp
            refine (spec_less e.K e.N e.F c1 e.id eH.K eH.N eH.F kH eH.id f1 fH (HR1.out.below (HKp.out _ BC.out).2.2.1.out qN) (RXH.out.below (HKp.out _ BC.out).2.2.1.out qN) m1 mH).mono ?_
            rintro e v4 ⟨rfl, b⟩
            replace BC := hid (BC.out.trans (b.mono BC.out.size))
            clear b
            obtain ⟨HT, hHT⟩ : ∃ HT, ltB (cmpI e.K e.N e.F e.Z.length e.Z eH.K eH.N eH.F eH.Z.length eH.Z) e.id eH.id = HT := ⟨_, rfl⟩
            rw [hHT]
            rw [show hiB (some eH) e = HT from hHT] at HEq
            clear hHT
            go_wp2_with fail
            clear hHeld
            refine hK.out _ _ (HKp.out _ BC.out) (fun hHeld => ?_)
            clear hK KP
            try simp only [qP]
            cases HT with
            | false =>
             refine qX 40 rfl hHeld 115 rfl ?_
             refine qX 41 rfl hHeld 116 rfl ?_
             refine qX 42 rfl hHeld 117 rfl ?_
             refine anyK_done (by kernel_rfl) ?_ _
             clear hHeld
             go_wp2_with fail
             go_meet
             case rel => exact ⟨by rw [HEq.out]; first | rfl | simp, BC⟩
            | true =>
             refine qX 40 rfl hHeld 115 rfl ?_
             refine qX 41 rfl hHeld 116 rfl ?_
             refine qX 42 rfl hHeld 117 rfl ?_
             refine anyK_done (by kernel_rfl) ?_ _
             clear hHeld
             go_wp2_with fail
             go_meet
             case rel => exact ⟨by rw [HEq.out]; first | rfl | simp, BC⟩
      | some eL =>
       obtain ⟨bL, cL, aL, kL, rfl, bxL, rL, fL, mL⟩ := HSL1.out
       have BXL := hid bxL
       have RXL := hid rL
       clear bxL rL
       cases hi with
       | none =>
        obtain rfl : vh = Value.slice none 0 0 := HSH1.out
        as_aux_lemma =>
         have HKp := hid (show ∀ W', Below V2.heap.size V2 W' → (W'.cell? ⟨p14, 0, none⟩ = some (.int .i64 e.K) ∧ W'.cell? ⟨p14, 1, none⟩ = some (.int .i64 e.N) ∧ W'.cell? ⟨p14, 2, none⟩ = some (.float .f64 e.F) ∧ W'.cell? ⟨p14, 3, none⟩ = some (.slice a1 e.Z.length c1) ∧ W'.cell? ⟨p14, 4, none⟩ = some (.int .i64 e.id)) ∧ W'.cell? ⟨p12, 1, none⟩ = some (.slice (some ⟨be, oe, none⟩) n ce) ∧ Hid (Below w0.heap.size w0 W') ∧ Hid (Box5 W' bL 0 eL.K eL.N eL.F (.slice aL eL.Z.length kL) eL.id) ∧ True from fun W' b => by
          have r14 := (b.block p14 HP14.out.1).trans HR14.out
          have b1 := HB2.out.trans (b.mono HB2.out.size)
          have r12 := (b1.block p12 HP12.out.2.1).trans H12.out
          exact ⟨⟨qC r14, qC r14, qC r14, qC r14, qC r14⟩, qC r12, hid (HBW1.out.trans (b1.mono HBW1.out.size)), hid (BXL.out.below b1 qN), trivial⟩)
         have BC := hid ((Still.drew V2).below V2.heap.size)
         refine region_K 99 (fun W => (W.cell? ⟨p14, 0, none⟩ = some (.int .i64 e.K) ∧ W.cell? ⟨p14, 1, none⟩ = some (.int .i64 e.N) ∧ W.cell? ⟨p14, 2, none⟩ = some (.float .f64 e.F) ∧ W.cell? ⟨p14, 3, none⟩ = some (.slice a1 e.Z.length c1) ∧ W.cell? ⟨p14, 4, none⟩ = some (.int .i64 e.id)) ∧ W.cell? ⟨p12, 1, none⟩ = some (.slice (some ⟨be, oe, none⟩) n ce) ∧ Hid (Below w0.heap.size w0 W) ∧ Hid (Box5 W bL 0 eL.K eL.N eL.F (.slice aL eL.Z.length kL) eL.id) ∧ True) (by kernel_rfl) ?_ (fun hHeld => ?_)
         · exact HKp.out _ BC.out
         generalize V2.drew = vd at *
         refine qX 0 rfl hHeld 75 rfl ?_
         refine qS 1 rfl fun KP hK => ?_
         go_simp
         refine (spec_entry e.K e.N e.F a1 e.Z.length c1 e.id f1 m1 _).mono ?_
         rintro e v1 ⟨rfl, b⟩
         replace BC := hid (BC.out.trans (b.mono BC.out.size))
         clear b
         obtain ⟨EO, hEO⟩ : ∃ EO, entB e.K e.N e.F e.Z.length e.id = EO := ⟨_, rfl⟩
         rw [hEO]
         rw [show entOk e = EO from hEO] at HEq
         clear hEO
         go_wp2_with fail
         clear hHeld
         refine hK.out _ _ (HKp.out _ BC.out) (fun hHeld => ?_)
         clear hK KP
         try simp only [qP]
         cases EO with
         | false =>
          refine qX 2 rfl hHeld 77 rfl ?_
          refine qX 3 rfl hHeld 78 rfl ?_
          refine qY 4 rfl hHeld 79 rfl ?_
          refine qY 5 rfl hHeld 80 rfl ?_
          refine qY 6 rfl hHeld 81 rfl ?_
          refine qY 7 rfl hHeld 82 rfl ?_
          refine qY 8 rfl hHeld 83 rfl ?_
          refine qY 9 rfl hHeld 84 rfl ?_
          refine qY 10 rfl hHeld 85 rfl ?_
          refine qY 11 rfl hHeld 86 rfl ?_
          refine qY 12 rfl hHeld 87 rfl ?_
          refine qY 13 rfl hHeld 88 rfl ?_
          refine qY 14 rfl hHeld 89 rfl ?_
          refine qY 15 rfl hHeld 90 rfl ?_
          refine qY 16 rfl hHeld 91 rfl ?_
          refine qX 17 rfl hHeld 92 rfl ?_
          refine qX 18 rfl hHeld 93 rfl ?_
          refine qY 19 rfl hHeld 94 rfl ?_
          refine qY 20 rfl hHeld 95 rfl ?_
          refine qY 21 rfl hHeld 96 rfl ?_
          refine qY 22 rfl hHeld 97 rfl ?_
          refine qY 23 rfl hHeld 98 rfl ?_
          refine qY 24 rfl hHeld 99 rfl ?_
          refine qY 25 rfl hHeld 100 rfl ?_
          refine qY 26 rfl hHeld 101 rfl ?_
          refine qY 27 rfl hHeld 102 rfl ?_
          refine qY 28 rfl hHeld 103 rfl ?_
          refine qX 29 rfl hHeld 104 rfl ?_
          refine qX 30 rfl hHeld 105 rfl ?_
          refine qY 31 rfl hHeld 106 rfl ?_
          refine qY 32 rfl hHeld 107 rfl ?_
          refine qY 33 rfl hHeld 108 rfl ?_
          refine qY 34 rfl hHeld 109 rfl ?_
          refine qY 35 rfl hHeld 110 rfl ?_
          refine qY 36 rfl hHeld 111 rfl ?_
          refine qY 37 rfl hHeld 112 rfl ?_
          refine qY 38 rfl hHeld 113 rfl ?_
          refine qY 39 rfl hHeld 114 rfl ?_
          refine qY 40 rfl hHeld 115 rfl ?_
          refine qY 41 rfl hHeld 116 rfl ?_
          refine qX 42 rfl hHeld 117 rfl ?_
          refine anyK_done (by kernel_rfl) ?_ _
          clear hHeld
          go_wp2_with fail
          go_meet
          case rel => exact ⟨by rw [HEq.out]; first | rfl | simp, BC⟩
         | true =>
          refine qX 2 rfl hHeld 77 rfl ?_
          refine qX 3 rfl hHeld 78 rfl ?_
          refine qX 4 rfl hHeld 79 rfl ?_
          by_cases hk1 : kk = 0
          ·
           subst hk1
           refine qX 5 rfl hHeld 80 rfl ?_
           refine qX 6 rfl hHeld 81 rfl ?_
           refine qY 7 rfl hHeld 82 rfl ?_
           refine qY 8 rfl hHeld 83 rfl ?_
           refine qY 9 rfl hHeld 84 rfl ?_
           refine qY 10 rfl hHeld 85 rfl ?_
           refine qY 11 rfl hHeld 86 rfl ?_
           refine qY 12 rfl hHeld 87 rfl ?_
           refine qY 13 rfl hHeld 88 rfl ?_
           refine qY 14 rfl hHeld 89 rfl ?_
           refine qY 15 rfl hHeld 90 rfl ?_
           refine qX 16 rfl hHeld 91 rfl ?_
           refine qX 17 rfl hHeld 92 rfl ?_
           refine qX 18 rfl hHeld 93 rfl ?_
           refine qX 19 rfl hHeld 94 rfl ?_
           refine qX 20 rfl hHeld 95 rfl ?_
           refine qX 21 rfl hHeld 96 rfl ?_
           refine qX 22 rfl hHeld 97 rfl ?_
           refine qX 23 rfl hHeld 98 rfl ?_
           refine qX 24 rfl hHeld 99 rfl ?_
           refine qX 25 rfl hHeld 100 rfl ?_
           refine tkA (i := 26) (v := ?v164) rfl hHeld ?hy164 (some 101) rfl ?rest164
           case hy164 => (intro W hSw; obtain ⟨⟨y0, y1, y2, y3, y4⟩, x1, HbW, HLo, HHi⟩ := hSw; obtain ⟨q0, q1, q2, q3, q4⟩ := HLo.out; go_simp; (try with_reducible rfl))
           try simp only [qP]
           refine qS 27 rfl fun KP hK => ?_
           go_simp
           refine (spec_less e.K e.N e.F c1 e.id eL.K eL.N eL.F kL eL.id f1 fL (HR1.out.below (HKp.out _ BC.out).2.2.1.out qN) (RXL.out.below (HKp.out _ BC.out).2.2.1.out qN) m1 mL).mono ?_
           rintro e v3 ⟨rfl, b⟩
           replace BC := hid (BC.out.trans (b.mono BC.out.size))
           clear b
           obtain ⟨LL, hLL⟩ : ∃ LL, ltB (cmpI e.K e.N e.F e.Z.length e.Z eL.K eL.N eL.F eL.Z.length eL.Z) e.id eL.id = LL := ⟨_, rfl⟩
           rw [hLL]
           rw [show loB (some eL) e = !LL from congrArg Bool.not hLL] at HEq
           clear hLL
           go_wp2_with fail
           clear hHeld
           refine hK.out _ _ (HKp.out _ BC.out) (fun hHeld => ?_)
           clear hK KP
           try simp only [qP]
           cases LL with
           | true =>
            refine qX 28 rfl hHeld 103 rfl ?_
            refine qX 29 rfl hHeld 104 rfl ?_
            refine qX 30 rfl hHeld 105 rfl ?_
            refine qY 31 rfl hHeld 106 rfl ?_
            refine qY 32 rfl hHeld 107 rfl ?_
            refine qY 33 rfl hHeld 108 rfl ?_
            refine qY 34 rfl hHeld 109 rfl ?_
            refine qY 35 rfl hHeld 110 rfl ?_
            refine qY 36 rfl hHeld 111 rfl ?_
            refine qY 37 rfl hHeld 112 rfl ?_
            refine qY 38 rfl hHeld 113 rfl ?_
            refine qY 39 rfl hHeld 114 rfl ?_
            refine qY 40 rfl hHeld 115 rfl ?_
            refine qY 41 rfl hHeld 116 rfl ?_
            refine qX 42 rfl hHeld 117 rfl ?_
            refine anyK_done (by kernel_rfl) ?_ _
            clear hHeld
            go_wp2_with fail
            go_meet
            case rel => exact ⟨by rw [HEq.out]; first | rfl | simp, BC⟩
           | false =>
            refine qX 28 rfl hHeld 103 rfl ?_
            refine qX 29 rfl hHeld 104 rfl ?_
            refine qX 30 rfl hHeld 105 rfl ?_
            refine qX 31 rfl hHeld 106 rfl ?_
            refine qX 32 rfl hHeld 107 rfl ?_
            refine qX 33 rfl hHeld 108 rfl ?_
            refine qX 34 rfl hHeld 109 rfl ?_
            refine qY 35 rfl hHeld 110 rfl ?_
            refine qY 36 rfl hHeld 111 rfl ?_
            refine qY 37 rfl hHeld 112 rfl ?_
            refine qY 38 rfl hHeld 113 rfl ?_
            refine qY 39 rfl hHeld 114 rfl ?_
            refine qY 40 rfl hHeld 115 rfl ?_
            refine qX 41 rfl hHeld 116 rfl ?_
            refine qX 42 rfl hHeld 117 rfl ?_
            refine anyK_done (by kernel_rfl) ?_ _
            clear hHeld
            go_wp2_with fail
            go_meet
            case rel => exact ⟨by rw [HEq.out]; first | rfl | simp, BC⟩
          ·
           have hk2 : (0 : Int) < (kk : Int) := by omega
           have hk3 : 0 < kk := by omega
           have h1' : (kk : Int) - 1 < (n : Int) := by omega
           have h2' : (0 : Int) ≤ (kk : Int) - 1 := by omega
           have h3' : ((kk : Int) - 1).toNat = kk - 1 := by omega
           have hwr : IntKind.i64.wrap ((kk : Int) - 1) = ((kk - 1 : Nat) : Int) := by rw [IntKind.wrap_i64]; omega
           have h1n : ((kk - 1 : Nat) : Int) < (n : Int) := by omega
           obtain ⟨be', oe', a0, c0, e0', bxp, rp, _, _, f0⟩ := HRe.out.at (k := kk - 1) (by rw [HNn.out]; omega)
           obtain ⟨rfl, rfl⟩ : be = be' ∧ oe = oe' := by simpa using e0'
           have m0 := HMd.out (kk - 1)
           rw [decide_eq_false hk1, Bool.false_or] at HEq
           obtain ⟨x, hx⟩ : ∃ x, d.es.getD (kk - 1) en0 = x := ⟨_, rfl⟩
           rw [hx] at bxp rp f0 m0 HEq
           have BXP := hid bxp
           have RXP := hid rp
           clear bxp rp e0' hx hk1
           refine qX 5 rfl hHeld 80 rfl ?_
           refine qX 6 rfl hHeld 81 rfl ?_
           refine qX 7 rfl hHeld 82 rfl ?_
           refine qX 8 rfl hHeld 83 rfl ?_
           refine qX 9 rfl hHeld 84 rfl ?_
           refine qX 10 rfl hHeld 85 rfl ?_
           refine qX 11 rfl hHeld 86 rfl ?_
           refine tkA (i := 12) (v := ?v185) rfl hHeld ?hy185 (some 87) rfl ?rest185
           case hy185 => (intro W hSw; obtain ⟨⟨y0, y1, y2, y3, y4⟩, x1, HbW, HLo, HHi⟩ := hSw; obtain ⟨q0, q1, q2, q3, q4⟩ := BXP.out.below HbW.out qN; go_simp; (try with_reducible rfl))
           try simp only [qP]
           refine qX 13 rfl hHeld 88 rfl ?_
           refine qS 14 rfl fun KP hK => ?_
           go_simp
           refine (spec_less x.K x.N x.F c0 x.id e.K e.N e.F c1 e.id f0 f1 (RXP.out.below (HKp.out _ BC.out).2.2.1.out qN) (HR1.out.below (HKp.out _ BC.out).2.2.1.out qN) m0 m1).mono ?_
           rintro e v2 ⟨rfl, b⟩
           replace BC := hid (BC.out.trans (b.mono BC.out.size))
           clear b
           obtain ⟨LT, hLT⟩ : ∃ LT, ltB (cmpI x.K x.N x.F x.Z.length x.Z e.K e.N e.F e.Z.length e.Z) x.id e.id = LT := ⟨_, rfl⟩
           rw [hLT]
           rw [show ltE x e = LT from hLT] at HEq
           clear hLT
           go_wp2_with fail
           clear hHeld
           refine hK.out _ _ (HKp.out _ BC.out) (fun hHeld => ?_)
           clear hK KP
           try simp only [qP]
           cases LT with
           | false =>
            refine qX 15 rfl hHeld 90 rfl ?_
            refine qX 16 rfl hHeld 91 rfl ?_
            refine qX 17 rfl hHeld 92 rfl ?_
            refine qX 18 rfl hHeld 93 rfl ?_
            refine qY 19 rfl hHeld 94 rfl ?_
            refine qY 20 rfl hHeld 95 rfl ?_
            refine qY 21 rfl hHeld 96 rfl ?_
            refine qY 22 rfl hHeld 97 rfl ?_
            refine qY 23 rfl hHeld 98 rfl ?_
            refine qY 24 rfl hHeld 99 rfl ?_
            refine qY 25 rfl hHeld 100 rfl ?_
            refine qY 26 rfl hHeld 101 rfl ?_
            refine qY 27 rfl hHeld 102 rfl ?_
            refine qY 28 rfl hHeld 103 rfl ?_
            refine qX 29 rfl hHeld 104 rfl ?_
            refine qX 30 rfl hHeld 105 rfl ?_
            refine qY 31 rfl hHeld 106 rfl ?_
            refine qY 32 rfl hHeld 107 rfl ?_
            refine qY 33 rfl hHeld 108 rfl ?_
            refine qY 34 rfl hHeld 109 rfl ?_
            refine qY 35 rfl hHeld 110 rfl ?_
            refine qY 36 rfl hHeld 111 rfl ?_
            refine qY 37 rfl hHeld 112 rfl ?_
            refine qY 38 rfl hHeld 113 rfl ?_
            refine qY 39 rfl hHeld 114 rfl ?_
            refine qY 40 rfl hHeld 115 rfl ?_
            refine qY 41 rfl hHeld 116 rfl ?_
            refine qX 42 rfl hHeld 117 rfl ?_
            refine anyK_done (by kernel_rfl) ?_ _
            clear hHeld
            go_wp2_with fail
            go_meet
            case rel => exact ⟨by rw [HEq.out]; first | rfl | simp, BC⟩
           | true =>
            refine qX 15 rfl hHeld 90 rfl ?_
            refine qX 16 rfl hHeld 91 rfl ?_
            refine qX 17 rfl hHeld 92 rfl ?_
            refine qX 18 rfl hHeld 93 rfl ?_
            refine qX 19 rfl hHeld 94 rfl ?_
            refine qX 20 rfl hHeld 95 rfl ?_
            refine qX 21 rfl hHeld 96 rfl ?_
            refine qX 22 rfl hHeld 97 rfl ?_
            refine qX 23 rfl hHeld 98 rfl ?_
            refine qX 24 rfl hHeld 99 rfl ?_
            refine qX 25 rfl hHeld 100 rfl ?_
            refine tkA (i := 26) (v := ?v205) rfl hHeld ?hy205 (some 101) rfl ?rest205
            case hy205 => (intro W hSw; obtain ⟨⟨y0, y1, y2, y3, y4⟩, x1, HbW, HLo, HHi⟩ := hSw; obtain ⟨q0, q1, q2, q3, q4⟩ := HLo.out; go_simp; (try with_reducible rfl))
            try simp only [qP]
            refine qS 27 rfl fun KP hK => ?_
            go_simp
            refine (spec_less e.K e.N e.F c1 e.id eL.K eL.N eL.F kL eL.id f1 fL (HR1.out.below (HKp.out _ BC.out).2.2.1.out qN) (RXL.out.below (HKp.out _ BC.out).2.2.1.out qN) m1 mL).mono ?_
            rintro e v3 ⟨rfl, b⟩
            replace BC := hid (BC.out.trans (b.mono BC.out.size))
            clear b
            obtain ⟨LL, hLL⟩ : ∃ LL, ltB (cmpI e.K e.N e.F e.Z.length e.Z eL.K eL.N eL.F eL.Z.length eL.Z) e.id eL.id = LL := ⟨_, rfl⟩
            rw [hLL]
            rw [show loB (some eL) e = !LL from congrArg Bool.not hLL] at HEq
            clear hLL
            go_wp2_with fail
            clear hHeld
            refine hK.out _ _ (HKp.out _ BC.out) (fun hHeld => ?_)
            clear hK KP
            try simp only [qP]
            cases LL with
            | true =>
             refine qX 28 rfl hHeld 103 rfl ?_
             refine qX 29 rfl hHeld 104 rfl ?_
             refine qX 30 rfl hHeld 105 rfl ?_
             refine qY 31 rfl hHeld 106 rfl ?_
             refine qY 32 rfl hHeld 107 rfl ?_
             refine qY 33 rfl hHeld 108 rfl ?_
             refine qY 34 rfl hHeld 109 rfl ?_
             refine qY 35 rfl hHeld 110 rfl ?_
             refine qY 36 rfl hHeld 111 rfl ?_
             refine qY 37 rfl hHeld 112 rfl ?_
             refine qY 38 rfl hHeld 113 rfl ?_
             refine qY 39 rfl hHeld 114 rfl ?_
             refine qY 40 rfl hHeld 115 rfl ?_
             refine qY 41 rfl hHeld 116 rfl ?_
             refine qX 42 rfl hHeld 117 rfl ?_
             refine anyK_done (by kernel_rfl) ?_ _
             clear hHeld
             go_wp2_with fail
             go_meet
             case rel => exact ⟨by rw [HEq.out]; first | rfl | simp, BC⟩
            | false =>
             refine qX 28 rfl hHeld 103 rfl ?_
             refine qX 29 rfl hHeld 104 rfl ?_
             refine qX 30 rfl hHeld 105 rfl ?_
             refine qX 31 rfl hHeld 106 rfl ?_
             refine qX 32 rfl hHeld 107 rfl ?_
             refine qX 33 rfl hHeld 108 rfl ?_
             refine qX 34 rfl hHeld 109 rfl ?_
             refine qY 35 rfl hHeld 110 rfl ?_
             refine qY 36 rfl hHeld 111 rfl ?_
             refine qY 37 rfl hHeld 112 rfl ?_
             refine qY 38 rfl hHeld 113 rfl ?_
             refine qY 39 rfl hHeld 114 rfl ?_
             refine qY 40 rfl hHeld 115 rfl ?_
             refine qX 41 rfl hHeld 116 rfl ?_
             refine qX 42 rfl hHeld 117 rfl ?_
             refine anyK_done (by kernel_rfl) ?_ _
             clear hHeld
             go_wp2_with fail
             go_meet
             case rel => exact ⟨by rw [HEq.out]; first | rfl | simp, BC⟩
       | some eH =>
        obtain ⟨bH, cH, aH, kH, rfl, bxH, rH, fH, mH⟩ := HSH1.out
        have BXH := hid bxH
        have RXH := hid rH
        clear bxH rH
        as_aux_lemma =>
         have HKp := hid (show ∀ W', Below V2.heap.size V2 W' → (W'.cell? ⟨p14, 0, none⟩ = some (.int .i64 e.K) ∧ W'.cell? ⟨p14, 1, none⟩ = some (.int .i64 e.N) ∧ W'.cell? ⟨p14, 2, none⟩ = some (.float .f64 e.F) ∧ W'.cell? ⟨p14, 3, none⟩ = some (.slice a1 e.Z.length c1) ∧ W'.cell? ⟨p14, 4, none⟩ = some (.int .i64 e.id)) ∧ W'.cell? ⟨p12, 1, none⟩ = some (.slice (some ⟨be, oe, none⟩) n ce) ∧ Hid (Below w0.heap.size w0 W') ∧ Hid (Box5 W' bL 0 eL.K eL.N eL.F (.slice aL eL.Z.length kL) eL.id) ∧ Hid (Box5 W' bH 0 eH.K eH.N eH.F (.slice aH eH.Z.length kH) eH.id) from fun W' b => by
          have r14 := (b.block p14 HP14.out.1).trans HR14.out
          have b1 := HB2.out.trans (b.mono HB2.out.size)
          have r12 := (b1.block p12 HP12.out.2.1).trans H12.out
          exact ⟨⟨qC r14, qC r14, qC r14, qC r14, qC r14⟩, qC r12, hid (HBW1.out.trans (b1.mono HBW1.out.size)), hid (BXL.out.below b1 qN), hid (BXH.out.below b1 qN)⟩)
         have BC := hid ((Still.drew V2).below V2.heap.size)
         refine region_K 99 (fun W => (W.cell? ⟨p14, 0, none⟩ = some (.int .i64 e.K) ∧ W.cell? ⟨p14, 1, none⟩ = some (.int .i64 e.N) ∧ W.cell? ⟨p14, 2, none⟩ = some (.float .f64 e.F) ∧ W.cell? ⟨p14, 3, none⟩ = some (.slice a1 e.Z.length c1) ∧ W.cell? ⟨p14, 4, none⟩ = some (.int .i64 e.id)) ∧ W.cell? ⟨p12, 1, none⟩ = some (.slice (some ⟨be, oe, none⟩) n ce) ∧ Hid (Below w0.heap.size w0 W) ∧ Hid (Box5 W bL 0 eL.K eL.N eL.F (.slice aL eL.Z.length kL) eL.id) ∧ Hid (Box5 W bH 0 eH.K eH.N eH.F (.slice aH eH.Z.length kH) eH.id)) (by kernel_rfl) ?_ (fun hHeld => ?_)
         · exact HKp.out _ BC.out
         generalize V2.drew = vd at *
         refine qX 0 rfl hHeld 75 rfl ?_
         refine qS 1 rfl fun KP hK => ?_
         go_simp
         refine (spec_entry e.K e.N e.F a1 e.Z.length c1 e.id f1 m1 _).mono ?_
         rintro e v1 ⟨rfl, b⟩
         replace BC := hid (BC.out.trans (b.mono BC.out.size))
         clear b
         obtain ⟨EO, hEO⟩ : ∃ EO, entB e.K e.N e.F e.Z.length e.id = EO := ⟨_, rfl⟩
         rw [hEO]
         rw [show entOk e = EO from hEO] at HEq
         clear hEO
         go_wp2_with fail
         clear hHeld
         refine hK.out _ _ (HKp.out _ BC.out) (fun hHeld => ?_)
         clear hK KP
         try simp only [qP]
         cases EO with
         | false =>
          refine qX 2 rfl hHeld 77 rfl ?_
          refine qX 3 rfl hHeld 78 rfl ?_
          refine qY 4 rfl hHeld 79 rfl ?_
          refine qY 5 rfl hHeld 80 rfl ?_
          refine qY 6 rfl hHeld 81 rfl ?_
          refine qY 7 rfl hHeld 82 rfl ?_
          refine qY 8 rfl hHeld 83 rfl ?_
          refine qY 9 rfl hHeld 84 rfl ?_
          refine qY 10 rfl hHeld 85 rfl ?_
          refine qY 11 rfl hHeld 86 rfl ?_
          refine qY 12 rfl hHeld 87 rfl ?_
          refine qY 13 rfl hHeld 88 rfl ?_
          refine qY 14 rfl hHeld 89 rfl ?_
          refine qY 15 rfl hHeld 90 rfl ?_
          refine qY 16 rfl hHeld 91 rfl ?_
          refine qX 17 rfl hHeld 92 rfl ?_
          refine qX 18 rfl hHeld 93 rfl ?_
          refine qY 19 rfl hHeld 94 rfl ?_
          refine qY 20 rfl hHeld 95 rfl ?_
          refine qY 21 rfl hHeld 96 rfl ?_
          refine qY 22 rfl hHeld 97 rfl ?_
          refine qY 23 rfl hHeld 98 rfl ?_
          refine qY 24 rfl hHeld 99 rfl ?_
          refine qY 25 rfl hHeld 100 rfl ?_
          refine qY 26 rfl hHeld 101 rfl ?_
          refine qY 27 rfl hHeld 102 rfl ?_
          refine qY 28 rfl hHeld 103 rfl ?_
          refine qX 29 rfl hHeld 104 rfl ?_
          refine qX 30 rfl hHeld 105 rfl ?_
          refine qY 31 rfl hHeld 106 rfl ?_
          refine qY 32 rfl hHeld 107 rfl ?_
          refine qY 33 rfl hHeld 108 rfl ?_
          refine qY 34 rfl hHeld 109 rfl ?_
          refine qY 35 rfl hHeld 110 rfl ?_
          refine qY 36 rfl hHeld 111 rfl ?_
          refine qY 37 rfl hHeld 112 rfl ?_
          refine qY 38 rfl hHeld 113 rfl ?_
          refine qY 39 rfl hHeld 114 rfl ?_
          refine qY 40 rfl hHeld 115 rfl ?_
          refine qY 41 rfl hHeld 116 rfl ?_
          refine qX 42 rfl hHeld 117 rfl ?_
          refine anyK_done (by kernel_rfl) ?_ _
          clear hHeld
          go_wp2_with fail
          go_meet
          case rel => exact ⟨by rw [HEq.out]; first | rfl | simp, BC⟩
         | true =>
          refine qX 2 rfl hHeld 77 rfl ?_
          refine qX 3 rfl hHeld 78 rfl ?_
          refine qX 4 rfl hHeld 79 rfl ?_
          by_cases hk1 : kk = 0
          ·
           subst hk1
           refine qX 5 rfl hHeld 80 rfl ?_
           refine qX 6 rfl hHeld 81 rfl ?_
           refine qY 7 rfl hHeld 82 rfl ?_
           refine qY 8 rfl hHeld 83 rfl ?_
           refine qY 9 rfl hHeld 84 rfl ?_
           refine qY 10 rfl hHeld 85 rfl ?_
           refine qY 11 rfl hHeld 86 rfl ?_
           refine qY 12 rfl hHeld 87 rfl ?_
           refine qY 13 rfl hHeld 88 rfl ?_
           refine qY 14 rfl hHeld 89 rfl ?_
           refine qY 15 rfl hHeld 90 rfl ?_
           refine qX 16 rfl hHeld 91 rfl ?_
           refine qX 17 rfl hHeld 92 rfl ?_
           refine qX 18 rfl hHeld 93 rfl ?_
           refine qX 19 rfl hHeld 94 rfl ?_
           refine qX 20 rfl hHeld 95 rfl ?_
           refine qX 21 rfl hHeld 96 rfl ?_
           refine qX 22 rfl hHeld 97 rfl ?_
           refine qX 23 rfl hHeld 98 rfl ?_
           refine qX 24 rfl hHeld 99 rfl ?_
           refine qX 25 rfl hHeld 100 rfl ?_
           refine tkA (i := 26) (v := ?v242) rfl hHeld ?hy242 (some 101) rfl ?rest242
           case hy242 => (intro W hSw; obtain ⟨⟨y0, y1, y2, y3, y4⟩, x1, HbW, HLo, HHi⟩ := hSw; obtain ⟨q0, q1, q2, q3, q4⟩ := HLo.out; go_simp; (try with_reducible rfl))
           try simp only [qP]
           refine qS 27 rfl fun KP hK => ?_
           go_simp
           refine (spec_less e.K e.N e.F c1 e.id eL.K eL.N eL.F kL eL.id f1 fL (HR1.out.below (HKp.out _ BC.out).2.2.1.out qN) (RXL.out.below (HKp.out _ BC.out).2.2.1.out qN) m1 mL).mono ?_
           rintro e v3 ⟨rfl, b⟩
           replace BC := hid (BC.out.trans (b.mono BC.out.size))
           clear b
           obtain ⟨LL, hLL⟩ : ∃ LL, ltB (cmpI e.K e.N e.F e.Z.length e.Z eL.K eL.N eL.F eL.Z.length eL.Z) e.id eL.id = LL := ⟨_, rfl⟩
           rw [hLL]
           rw [show loB (some eL) e = !LL from congrArg Bool.not hLL] at HEq
           clear hLL
           go_wp2_with fail
           clear hHeld
           refine hK.out _ _ (HKp.out _ BC.out) (fun hHeld => ?_)
           clear hK KP
           try simp only [qP]
           cases LL with
           | true =>
            refine qX 28 rfl hHeld 103 rfl ?_
            refine qX 29 rfl hHeld 104 rfl ?_
            refine qX 30 rfl hHeld 105 rfl ?_
            refine qY 31 rfl hHeld 106 rfl ?_
            refine qY 32 rfl hHeld 107 rfl ?_
            refine qY 33 rfl hHeld 108 rfl ?_
            refine qY 34 rfl hHeld 109 rfl ?_
            refine qY 35 rfl hHeld 110 rfl ?_
            refine qY 36 rfl hHeld 111 rfl ?_
            refine qY 37 rfl hHeld 112 rfl ?_
            refine qY 38 rfl hHeld 113 rfl ?_
            refine qY 39 rfl hHeld 114 rfl ?_
            refine qY 40 rfl hHeld 115 rfl ?_
            refine qY 41 rfl hHeld 116 rfl ?_
            refine qX 42 rfl hHeld 117 rfl ?_
            refine anyK_done (by kernel_rfl) ?_ _
            clear hHeld
            go_wp2_with fail
            go_meet
            case rel => exact ⟨by rw [HEq.out]; first | rfl | simp, BC⟩
           | false =>
            refine qX 28 rfl hHeld 103 rfl ?_
            refine qX 29 rfl hHeld 104 rfl ?_
            refine qX 30 rfl hHeld 105 rfl ?_
            refine qX 31 rfl hHeld 106 rfl ?_
            refine qX 32 rfl hHeld 107 rfl ?_
            refine qX 33 rfl hHeld 108 rfl ?_
            refine qX 34 rfl hHeld 109 rfl ?_
            refine qX 35 rfl hHeld 110 rfl ?_
            refine qX 36 rfl hHeld 111 rfl ?_
            refine qX 37 rfl hHeld 112 rfl ?_
            refine tkA (i := 38) (v := ?v257) rfl hHeld ?hy257 (some 113) rfl ?rest257
            case hy257 => (intro W hSw; obtain ⟨⟨y0, y1, y2, y3, y4⟩, x1, HbW, HLo, HHi⟩ := hSw; obtain ⟨q0, q1, q2, q3, q4⟩ := HHi.out; go_simp; (try with_reducible rfl))
            try simp only [qP]
            refine qS 39 rfl fun KP hK => ?_
            go_simp
            refine (spec_less e.K e.N e.F c1 e.id eH.K eH.N eH.F kH eH.id f1 fH (HR1.out.below (HKp.out _ BC.out).2.2.1.out qN) (RXH.out.below (HKp.out _ BC.out).2.2.1.out qN) m1 mH).mono ?_
            rintro e v4 ⟨rfl, b⟩
            replace BC := hid (BC.out.trans (b.mono BC.out.size))
            clear b
            obtain ⟨HT, hHT⟩ : ∃ HT, ltB (cmpI e.K e.N e.F e.Z.length e.Z eH.K eH.N eH.F eH.Z.length eH.Z) e.id eH.id = HT := ⟨_, rfl⟩
            rw [hHT]
            rw [show hiB (some eH) e = HT from hHT] at HEq
            clear hHT
            go_wp2_with fail
            clear hHeld
            refine hK.out _ _ (HKp.out _ BC.out) (fun hHeld => ?_)
            clear hK KP
            try simp only [qP]
            cases HT with
            | false =>
             refine qX 40 rfl hHeld 115 rfl ?_
             refine qX 41 rfl hHeld 116 rfl ?_
             refine qX 42 rfl hHeld 117 rfl ?_
             refine anyK_done (by kernel_rfl) ?_ _
             clear hHeld
             go_wp2_with fail
             go_meet
             case rel => exact ⟨by rw [HEq.out]; first | rfl | simp, BC⟩
            | true =>
             refine qX 40 rfl hHeld 115 rfl ?_
             refine qX 41 rfl hHeld 116 rfl ?_
             refine qX 42 rfl hHeld 117 rfl ?_
             refine anyK_done (by kernel_rfl) ?_ _
             clear hHeld
             go_wp2_with fail
             go_meet
             case rel => exact ⟨by rw [HEq.out]; first | rfl | simp, BC⟩
          ·
           have hk2 : (0 : Int) < (kk : Int) := by omega
           have hk3 : 0 < kk := by omega
           have h1' : (kk : Int) - 1 < (n : Int) := by omega
           have h2' : (0 : Int) ≤ (kk : Int) - 1 := by omega
           have h3' : ((kk : Int) - 1).toNat = kk - 1 := by omega
           have hwr : IntKind.i64.wrap ((kk : Int) - 1) = ((kk - 1 : Nat) : Int) := by rw [IntKind.wrap_i64]; omega
           have h1n : ((kk - 1 : Nat) : Int) < (n : Int) := by omega
           obtain ⟨be', oe', a0, c0, e0', bxp, rp, _, _, f0⟩ := HRe.out.at (k := kk - 1) (by rw [HNn.out]; omega)
           obtain ⟨rfl, rfl⟩ : be = be' ∧ oe = oe' := by simpa using e0'
           have m0 := HMd.out (kk - 1)
           rw [decide_eq_false hk1, Bool.false_or] at HEq
           obtain ⟨x, hx⟩ : ∃ x, d.es.getD (kk - 1) en0 = x := ⟨_, rfl⟩
           rw [hx] at bxp rp f0 m0 HEq
           have BXP := hid bxp
           have RXP := hid rp
           clear bxp rp e0' hx hk1
           refine qX 5 rfl hHeld 80 rfl ?_
           refine qX 6 rfl hHeld 81 rfl ?_
           refine qX 7 rfl hHeld 82 rfl ?_
           refine qX 8 rfl hHeld 83 rfl ?_
           refine qX 9 rfl hHeld 84 rfl ?_
           refine qX 10 rfl hHeld 85 rfl ?_
           refine qX 11 rfl hHeld 86 rfl ?_
           refine tkA (i := 12) (v := ?v271) rfl hHeld ?hy271 (some 87) rfl ?rest271
           case hy271 => (intro W hSw; obtain ⟨⟨y0, y1, y2, y3, y4⟩, x1, HbW, HLo, HHi⟩ := hSw; obtain ⟨q0, q1, q2, q3, q4⟩ := BXP.out.below HbW.out qN; go_simp; (try with_reducible rfl))
           try simp only [qP]
           refine qX 13 rfl hHeld 88 rfl ?_
           refine qS 14 rfl fun KP hK => ?_
           go_simp
           refine (spec_less x.K x.N x.F c0 x.id e.K e.N e.F c1 e.id f0 f1 (RXP.out.below (HKp.out _ BC.out).2.2.1.out qN) (HR1.out.below (HKp.out _ BC.out).2.2.1.out qN) m0 m1).mono ?_
           rintro e v2 ⟨rfl, b⟩
           replace BC := hid (BC.out.trans (b.mono BC.out.size))
           clear b
           obtain ⟨LT, hLT⟩ : ∃ LT, ltB (cmpI x.K x.N x.F x.Z.length x.Z e.K e.N e.F e.Z.length e.Z) x.id e.id = LT := ⟨_, rfl⟩
           rw [hLT]
           rw [show ltE x e = LT from hLT] at HEq
           clear hLT
           go_wp2_with fail
           clear hHeld
           refine hK.out _ _ (HKp.out _ BC.out) (fun hHeld => ?_)
           clear hK KP
           try simp only [qP]
           cases LT with
           | false =>
            refine qX 15 rfl hHeld 90 rfl ?_
            refine qX 16 rfl hHeld 91 rfl ?_
            refine qX 17 rfl hHeld 92 rfl ?_
            refine qX 18 rfl hHeld 93 rfl ?_
            refine qY 19 rfl hHeld 94 rfl ?_
            refine qY 20 rfl hHeld 95 rfl ?_
            refine qY 21 rfl hHeld 96 rfl ?_
            refine qY 22 rfl hHeld 97 rfl ?_
            refine qY 23 rfl hHeld 98 rfl ?_
            refine qY 24 rfl hHeld 99 rfl ?_
            refine qY 25 rfl hHeld 100 rfl ?_
            refine qY 26 rfl hHeld 101 rfl ?_
            refine qY 27 rfl hHeld 102 rfl ?_
            refine qY 28 rfl hHeld 103 rfl ?_
            refine qX 29 rfl hHeld 104 rfl ?_
            refine qX 30 rfl hHeld 105 rfl ?_
            refine qY 31 rfl hHeld 106 rfl ?_
            refine qY 32 rfl hHeld 107 rfl ?_
            refine qY 33 rfl hHeld 108 rfl ?_
            refine qY 34 rfl hHeld 109 rfl ?_
            refine qY 35 rfl hHeld 110 rfl ?_
            refine qY 36 rfl hHeld 111 rfl ?_
            refine qY 37 rfl hHeld 112 rfl ?_
            refine qY 38 rfl hHeld 113 rfl ?_
            refine qY 39 rfl hHeld 114 rfl ?_
            refine qY 40 rfl hHeld 115 rfl ?_
            refine qY 41 rfl hHeld 116 rfl ?_
            refine qX 42 rfl hHeld 117 rfl ?_
            refine anyK_done (by kernel_rfl) ?_ _
            clear hHeld
            go_wp2_with fail
            go_meet
            case rel => exact ⟨by rw [HEq.out]; first | rfl | simp, BC⟩
           | true =>
            refine qX 15 rfl hHeld 90 rfl ?_
            refine qX 16 rfl hHeld 91 rfl ?_
            refine qX 17 rfl hHeld 92 rfl ?_
            refine qX 18 rfl hHeld 93 rfl ?_
            refine qX 19 rfl hHeld 94 rfl ?_
            refine qX 20 rfl hHeld 95 rfl ?_
            refine qX 21 rfl hHeld 96 rfl ?_
            refine qX 22 rfl hHeld 97 rfl ?_
            refine qX 23 rfl hHeld 98 rfl ?_
            refine qX 24 rfl hHeld 99 rfl ?_
            refine qX 25 rfl hHeld 100 rfl ?_
            refine tkA (i := 26) (v := ?v291) rfl hHeld ?hy291 (some 101) rfl ?rest291
            case hy291 => (intro W hSw; obtain ⟨⟨y0, y1, y2, y3, y4⟩, x1, HbW, HLo, HHi⟩ := hSw; obtain ⟨q0, q1, q2, q3, q4⟩ := HLo.out; go_simp; (try with_reducible rfl))
            try simp only [qP]
            refine qS 27 rfl fun KP hK => ?_
            go_simp
            refine (spec_less e.K e.N e.F c1 e.id eL.K eL.N eL.F kL eL.id f1 fL (HR1.out.below (HKp.out _ BC.out).2.2.1.out qN) (RXL.out.below (HKp.out _ BC.out).2.2.1.out qN) m1 mL).mono ?_
            rintro e v3 ⟨rfl, b⟩
            replace BC := hid (BC.out.trans (b.mono BC.out.size))
            clear b
            obtain ⟨LL, hLL⟩ : ∃ LL, ltB (cmpI e.K e.N e.F e.Z.length e.Z eL.K eL.N eL.F eL.Z.length eL.Z) e.id eL.id = LL := ⟨_, rfl⟩
            rw [hLL]
            rw [show loB (some eL) e = !LL from congrArg Bool.not hLL] at HEq
            clear hLL
            go_wp2_with fail
            clear hHeld
            refine hK.out _ _ (HKp.out _ BC.out) (fun hHeld => ?_)
            clear hK KP
            try simp only [qP]
            cases LL with
            | true =>
             refine qX 28 rfl hHeld 103 rfl ?_
             refine qX 29 rfl hHeld 104 rfl ?_
             refine qX 30 rfl hHeld 105 rfl ?_
             refine qY 31 rfl hHeld 106 rfl ?_
             refine qY 32 rfl hHeld 107 rfl ?_
             refine qY 33 rfl hHeld 108 rfl ?_
             refine qY 34 rfl hHeld 109 rfl ?_
             refine qY 35 rfl hHeld 110 rfl ?_
             refine qY 36 rfl hHeld 111 rfl ?_
             refine qY 37 rfl hHeld 112 rfl ?_
             refine qY 38 rfl hHeld 113 rfl ?_
             refine qY 39 rfl hHeld 114 rfl ?_
             refine qY 40 rfl hHeld 115 rfl ?_
             refine qY 41 rfl hHeld 116 rfl ?_
             refine qX 42 rfl hHeld 117 rfl ?_
             refine anyK_done (by kernel_rfl) ?_ _
             clear hHeld
             go_wp2_with fail
             go_meet
             case rel => exact ⟨by rw [HEq.out]; first | rfl | simp, BC⟩
            | false =>
             refine qX 28 rfl hHeld 103 rfl ?_
             refine qX 29 rfl hHeld 104 rfl ?_
             refine qX 30 rfl hHeld 105 rfl ?_
             refine qX 31 rfl hHeld 106 rfl ?_
             refine qX 32 rfl hHeld 107 rfl ?_
             refine qX 33 rfl hHeld 108 rfl ?_
             refine qX 34 rfl hHeld 109 rfl ?_
             refine qX 35 rfl hHeld 110 rfl ?_
             refine qX 36 rfl hHeld 111 rfl ?_
             refine qX 37 rfl hHeld 112 rfl ?_
             refine tkA (i := 38) (v := ?v306) rfl hHeld ?hy306 (some 113) rfl ?rest306
             case hy306 => (intro W hSw; obtain ⟨⟨y0, y1, y2, y3, y4⟩, x1, HbW, HLo, HHi⟩ := hSw; obtain ⟨q0, q1, q2, q3, q4⟩ := HHi.out; go_simp; (try with_reducible rfl))
             try simp only [qP]
             refine qS 39 rfl fun KP hK => ?_
             go_simp
             refine (spec_less e.K e.N e.F c1 e.id eH.K eH.N eH.F kH eH.id f1 fH (HR1.out.below (HKp.out _ BC.out).2.2.1.out qN) (RXH.out.below (HKp.out _ BC.out).2.2.1.out qN) m1 mH).mono ?_
             rintro e v4 ⟨rfl, b⟩
             replace BC := hid (BC.out.trans (b.mono BC.out.size))
             clear b
             obtain ⟨HT, hHT⟩ : ∃ HT, ltB (cmpI e.K e.N e.F e.Z.length e.Z eH.K eH.N eH.F eH.Z.length eH.Z) e.id eH.id = HT := ⟨_, rfl⟩
             rw [hHT]
             rw [show hiB (some eH) e = HT from hHT] at HEq
             clear hHT
             go_wp2_with fail
             clear hHeld
             refine hK.out _ _ (HKp.out _ BC.out) (fun hHeld => ?_)
             clear hK KP
             try simp only [qP]
             cases HT with
             | false =>
              refine qX 40 rfl hHeld 115 rfl ?_
              refine qX 41 rfl hHeld 116 rfl ?_
              refine qX 42 rfl hHeld 117 rfl ?_
              refine anyK_done (by kernel_rfl) ?_ _
              clear hHeld
              go_wp2_with fail
              go_meet
              case rel => exact ⟨by rw [HEq.out]; first | rfl | simp, BC⟩
             | true =>
              refine qX 40 rfl hHeld 115 rfl ?_
              refine qX 41 rfl hHeld 116 rfl ?_
              refine qX 42 rfl hHeld 117 rfl ?_
              refine anyK_done (by kernel_rfl) ?_ _
              clear hHeld
              go_wp2_with fail
              go_meet
              case rel => exact ⟨by rw [HEq.out]; first | rfl | simp, BC⟩
     case rest =>
      obtain ⟨rfl, HBc⟩ := hcut
      have HBC := hid (show Below W1.heap.size W1 wc from HB2.out.trans (HBc.out.mono HB2.out.size))
      obtain ⟨OKB, hOKB⟩ : ∃ OKB, okAt lo hi d.es kk = OKB := ⟨_, rfl⟩
      rw [hOKB]
      have HO := hid hOKB
      clear hOKB HEq HR1 HB2 HBc HR14 HP14 HZ14 HBX
      cases OKB with
      | false =>
       have HWc := hid (HW1.out.below HBC.out)
       have HB1 := hid HWc.out.bad
       have HB2 := hid ((HST1.out.trans (Step.of_below p r av HBC.out)).trans (Step.set_p p r wc av 2 (.bool true)))
       have e2 : wc.cell? ⟨p, 2, none⟩ = some (.bool false) := qC HWc.out.box
       have f2 : wc.frozen? ⟨p, 2, none⟩ = false := frozen_of_row _ _ _ _ _ HWc.out.box
       have HNo := hid (show nodeOk lo hi d.es = false from List.all_eq_false.2 ⟨kk, List.mem_range.2 (by rw [HNn.out]; exact hlt), by rw [HO.out]; simp⟩)
       have HE2 := hid (HE.out.trans (if_pos (by rw [HNo.out]; rfl)))
       go_wp2_with fail
       exact ⟨rfl, _, results_none Tryz.results69 _ _ _, ⟨rfl, av, by rw [HE2.out]; exact HB1.out, HB2.out⟩⟩
      | true =>
       go_wp2_with fail
       go_roundw
       case rel => exact ⟨kk + 1, by omega, by go_num, hid (fun j hj => by by_cases q : j = kk; exact q ▸ HO.out; exact HOK.out j (by omega)), HBC⟩
       case measure => simp [intOf]; omega
    ·
     obtain rfl : kk = n := by omega
     have hlt' : ¬ (kk : Int) < (kk : Int) := by omega
     have HNo := hid (show nodeOk lo hi d.es = true from List.all_eq_true.2 (fun j hj => HOK.out j (by have := List.mem_range.1 hj; rw [HNn.out] at this; exact this)))
     replace HE := hid (HE.out.trans (if_neg (by rw [HNo.out]; simp)))
     obtain ⟨wq, rfl⟩ : ∃ wq, wq = wr := ⟨_, rfl⟩
     have HWq := hid (HW1.out.below HB.out)
     have HSq := hid (HST1.out.trans (Step.of_below p r av HB.out))
     have HS1q := hid (show Step p r W1 av wq av from Step.of_below p r av HB.out)
     have H12q := hid ((HB.out.block p12 HP12.out.2.1).trans H12.out)
     have H6q := hid ((HB.out.block p6 (by have := HP12.out; omega)).trans H61.out)
     have HBq := hid (HBW1.out.trans (HB.out.mono HBW1.out.size))
     have HZq := hid (show p12 < wq.heap.size ∧ W1.heap.size ≤ wq.heap.size from ⟨Nat.lt_of_lt_of_le HP12.out.2.1 HB.out.size, HB.out.size⟩)
     have HAv := hid (show ∀ q, w.heap.size ≤ q → av.ownBlock ≠ some q from fun q hq e => by have := (HZ.out.2.2.2.2.2 q e).2; omega)
     have c120 : wq.cell? ⟨p12, 0, none⟩ = some (.bool d.leaf) := qC H12q.out
     have c122 : wq.cell? ⟨p12, 2, none⟩ = some (.slice ak m ck) := qC H12q.out
     clear HOK HNo HB H12 H61
     cases hlf : d.leaf with
     | true =>
      rw [hlf] at c120
      replace HE := hid (HE.out.trans (if_pos hlf))
      as_aux_lemma =>
       obtain ⟨DP, hDP⟩ : ∃ DP, (if dp = 0 then deep else dp) = DP := ⟨_, rfl⟩
       rw [hDP] at HE
       have HDP := hid hDP
       clear hDP hlf
       have cp1 : wq.cell? ⟨p, 1, none⟩ = some (.int .i64 dp) := qC HWq.out.box
       have fp1 : wq.frozen? ⟨p, 1, none⟩ = false := frozen_of_row _ _ _ _ _ HWq.out.box
       go_upto_if 127 with fail
       go_cut [] (fun wx => Hid (WK w0 wx p r N lo0 ⟨sn.set k true, DP, false, al⟩ av) ∧ Hid (Step p r wq av wx av))
       case first =>
        by_cases hdp : dp = 0
        ·
         have hE0 : (dp == 0) = true := by simp [hdp]
         have HX := hid (show deep = DP by rw [← HDP.out, if_pos hdp])
         have HWd := hid (HWq.out.deeper deep)
         rw [HX.out] at HWd
         have HSd := hid (Step.set_p p r wq av 1 (.int .i64 deep))
         clear hdp
         go_wp2_with fail
         go_meet
         case rel => exact ⟨by rw [HX.out]; exact HWd, HSd⟩
        ·
         have hE0 : (dp == 0) = false := by simp [hdp]
         have HX := hid (show dp = DP by rw [← HDP.out, if_neg hdp])
         have HWd := hid (show WK w0 wq p r N lo0 ⟨sn.set k true, DP, false, al⟩ av from HX.out ▸ HWq.out)
         clear hdp
         go_wp2_with fail
         go_meet
         case rel => exact ⟨HWd, hid (Step.refl p r wq av)⟩
       case rest =>
        obtain ⟨HWd, HSd⟩ := hcut
        have H12d := hid ((HSd.out.block HZq.out.1 (by have := HP12.out; omega) (by have := HP12.out; omega) (HAv.out p12 (by have := HP12.out; omega))).trans H12q.out)
        have HBd := hid (HBq.out.trans (HSd.out.below HBq.out.size hp0 hr0 (fun b hb => Nat.le_trans hlo0 (HZ.out.2.2.2.2.2 b hb).1)))
        have HSw := hid (HSq.out.trans HSd.out)
        have cp1 : wc.cell? ⟨p, 1, none⟩ = some (.int .i64 DP) := qC HWd.out.box
        have cp2 : wc.cell? ⟨p, 2, none⟩ = some (.bool false) := qC HWd.out.box
        have fp2 : wc.frozen? ⟨p, 2, none⟩ = false := frozen_of_row _ _ _ _ _ HWd.out.box
        have e122 : wc.cell? ⟨p12, 2, none⟩ = some (.slice ak m ck) := qC H12d.out
        clear c120 c122 H12q H6q HSd HWq HSq HS1q
        obtain ⟨WR, hWR⟩ : ∃ WR, (decide (DP ≠ deep) || decide (0 < m)) = WR := ⟨_, rfl⟩
        rw [hWR] at HE
        have HWR := hid hWR
        clear hWR
        by_cases hdd : DP = deep
        ·
         have hE1 : (DP != deep) = false := by simp [hdd]
         by_cases hm0 : 0 < m
         ·
          have hm1 : (0 : Int) < (m : Int) := by omega
          have HX := hid (show WR = true by rw [← HWR.out, decide_eq_true hm0, Bool.or_true])
          rw [HX.out] at HE
          have HWu := hid (show WK w0 _ p r N lo0 ⟨sn.set k true, DP, true, al⟩ av from HWd.out.bad)
          have HSu := hid (HSw.out.trans (Step.set_p p r wc av 2 (.bool true)))
          have H12u := hid ((heap_set_ne wc p 2 p12 (.bool true) (by have := HP12.out; omega)).trans H12d.out)
          have HBu := hid (HBd.out.trans ((Step.set_p p r wc av 2 (.bool true)).below HBd.out.size hp0 hr0 (fun b hb => Nat.le_trans hlo0 (HZ.out.2.2.2.2.2 b hb).1)))
          clear hdd hm0 HWd HSw HBd H12d
          go_upto_region 18 with fail
          generalize wc.setCell ⟨p, 2, none⟩ (.bool true) = U at *
          clear cp1 cp2 fp2 e122
          have cu3 : U.cell? ⟨p, 3, none⟩ = some av := qC HWu.out.box
          have cu1 : U.cell? ⟨p12, 1, none⟩ = some (.slice ae kk ce) := qC H12u.out
          obtain ⟨aA, cA, rfl⟩ := HWu.out.all.slice
          simp only at cu3
          have hdr := (Still.drew U).below U.heap.size
          replace HWu := hid (HWu.out.below hdr)
          replace HSu := hid (HSu.out.trans (Step.of_below p r _ hdr))
          replace H12u := hid ((hdr.block p12 (blk_lt H12u.out)).trans H12u.out)
          replace HBu := hid (HBu.out.trans (hdr.mono HBu.out.size))
          clear hdr
          refine region_K 10 (fun W => W.cell? ⟨p, 3, none⟩ = some (.slice aA al.length cA) ∧ W.cell? ⟨p12, 1, none⟩ = some (.slice ae kk ce)) (by kernel_rfl) ?_ (fun hHeld => ?_)
          · exact ⟨((Still.drew U).cell _).trans cu3, ((Still.drew U).cell _).trans cu1⟩
          clear cu3 cu1
          generalize U.drew = u0 at *
          refine qA 0 rfl hHeld 147 rfl ?_
          refine qA 1 rfl hHeld 148 rfl ?_
          refine qA 2 rfl hHeld 149 rfl ?_
          refine qA 3 rfl hHeld 150 rfl ?_
          refine qA 4 rfl hHeld 151 rfl ?_
          refine qA 5 rfl hHeld 152 rfl ?_
          refine qA 6 rfl hHeld 153 rfl ?_
          refine qS 7 rfl fun KP hK => ?_
          refine step_append_X (lo := lo0) (es := al) (fs := d.es) rfl _ _ 52 rfl Tryz.underlying52 HWu.out.all rfl ce rfl HNn.out (ReadsX.of HRe.out HBu.out) (by rw [HNn.out]; have := HAL.out; omega) (Nat.le_trans HZ.out.2.2.2.1 HSu.out.kept.size) ?_
          intro a' n' cap' u1 hn' oX gX hX
          have bp := (gX.block p (blk_lt HWu.out.box) (fun e => (HWu.out.ne p e.symm).1 rfl)).trans HWu.out.box
          have b12 := (gX.block p12 (blk_lt H12u.out) (fun e => HAv.out p12 (by have := HP12.out; omega) e.symm)).trans H12u.out
          have hS1 : u1.cell? ⟨p, 3, none⟩ = some (.slice aA al.length cA) ∧ u1.cell? ⟨p12, 1, none⟩ = some (.slice ae kk ce) := ⟨qC bp, qC b12⟩
          have fz : u1.frozen? ⟨p, 3, none⟩ = false := frozen_of_row _ _ _ _ _ bp
          have HWf := hid (HWu.out.push gX oX hX)
          have HSf := hid ((HSu.out.trans (Step.grown p r gX hX)).trans (Step.set_p p r u1 _ 3 (.slice a' n' cap')))
          clear bp b12 oX gX hX hn'
          refine hK.out _ _ hS1 (fun hH2 => ?_)
          clear hK KP hHeld hH2
          try simp only [qP]
          refine qS 8 rfl fun KP hK => ?_
          go_simp
          refine hK.out _ _ hS1 (fun hH2 => ?_)
          clear hK KP hH2
          try simp only [qP]
          refine qS 9 rfl fun KP hK => ?_
          go_simp
          refine hK.out _ _ hS1 (fun hH2 => ?_)
          clear hK KP hH2
          try simp only [qP]
          obtain ⟨x3, x1⟩ := hS1
          refine anyK_last (by kernel_rfl) rfl (fun KP hK => ?_)
          go_simp
          refine hK.out _ _ ?_
          clear hK KP
          refine anyK_done (by kernel_rfl) ?_ _
          go_wp2_with fail
          exact ⟨rfl, _, results_none Tryz.results69 _ _ _, ⟨rfl, _, by rw [HE.out]; exact HWf.out, HSf.out⟩⟩
         ·
          have hm1 : ¬ (0 : Int) < (m : Int) := by omega
          have HX := hid (show WR = false by rw [← HWR.out, decide_eq_false hm0, decide_eq_false (fun q => q hdd)]; rfl)
          rw [HX.out] at HE
          have HWu := HWd
          have HSu := HSw
          have H12u := H12d
          have HBu := HBd
          clear hdd hm0 HWd HSw HBd H12d
          go_upto_region 18 with fail
          clear cp1 cp2 fp2 e122
          have cu3 : wc.cell? ⟨p, 3, none⟩ = some av := qC HWu.out.box
          have cu1 : wc.cell? ⟨p12, 1, none⟩ = some (.slice ae kk ce) := qC H12u.out
          obtain ⟨aA, cA, rfl⟩ := HWu.out.all.slice
          simp only at cu3
          have hdr := (Still.drew wc).below wc.heap.size
          replace HWu := hid (HWu.out.below hdr)
          replace HSu := hid (HSu.out.trans (Step.of_below p r _ hdr))
          replace H12u := hid ((hdr.block p12 (blk_lt H12u.out)).trans H12u.out)
          replace HBu := hid (HBu.out.trans (hdr.mono HBu.out.size))
          clear hdr
          refine region_K 10 (fun W => W.cell? ⟨p, 3, none⟩ = some (.slice aA al.length cA) ∧ W.cell? ⟨p12, 1, none⟩ = some (.slice ae kk ce)) (by kernel_rfl) ?_ (fun hHeld => ?_)
          · exact ⟨((Still.drew wc).cell _).trans cu3, ((Still.drew wc).cell _).trans cu1⟩
          clear cu3 cu1
          generalize wc.drew = u0 at *
          refine qA 0 rfl hHeld 147 rfl ?_
          refine qA 1 rfl hHeld 148 rfl ?_
          refine qA 2 rfl hHeld 149 rfl ?_
          refine qA 3 rfl hHeld 150 rfl ?_
          refine qA 4 rfl hHeld 151 rfl ?_
          refine qA 5 rfl hHeld 152 rfl ?_
          refine qA 6 rfl hHeld 153 rfl ?_
          refine qS 7 rfl fun KP hK => ?_
          refine step_append_X (lo := lo0) (es := al) (fs := d.es) rfl _ _ 52 rfl Tryz.underlying52 HWu.out.all rfl ce rfl HNn.out (ReadsX.of HRe.out HBu.out) (by rw [HNn.out]; have := HAL.out; omega) (Nat.le_trans HZ.out.2.2.2.1 HSu.out.kept.size) ?_
          intro a' n' cap' u1 hn' oX gX hX
          have bp := (gX.block p (blk_lt HWu.out.box) (fun e => (HWu.out.ne p e.symm).1 rfl)).trans HWu.out.box
          have b12 := (gX.block p12 (blk_lt H12u.out) (fun e => HAv.out p12 (by have := HP12.out; omega) e.symm)).trans H12u.out
          have hS1 : u1.cell? ⟨p, 3, none⟩ = some (.slice aA al.length cA) ∧ u1.cell? ⟨p12, 1, none⟩ = some (.slice ae kk ce) := ⟨qC bp, qC b12⟩
          have fz : u1.frozen? ⟨p, 3, none⟩ = false := frozen_of_row _ _ _ _ _ bp
          have HWf := hid (HWu.out.push gX oX hX)
          have HSf := hid ((HSu.out.trans (Step.grown p r gX hX)).trans (Step.set_p p r u1 _ 3 (.slice a' n' cap')))
          clear bp b12 oX gX hX hn'
          refine hK.out _ _ hS1 (fun hH2 => ?_)
          clear hK KP hHeld hH2
          try simp only [qP]
          refine qS 8 rfl fun KP hK => ?_
          go_simp
          refine hK.out _ _ hS1 (fun hH2 => ?_)
          clear hK KP hH2
          try simp only [qP]
          refine qS 9 rfl fun KP hK => ?_
          go_simp
          refine hK.out _ _ hS1 (fun hH2 => ?_)
          clear hK KP hH2
          try simp only [qP]
          obtain ⟨x3, x1⟩ := hS1
          refine anyK_last (by kernel_rfl) rfl (fun KP hK => ?_)
          go_simp
          refine hK.out _ _ ?_
          clear hK KP
          refine anyK_done (by kernel_rfl) ?_ _
          go_wp2_with fail
          exact ⟨rfl, _, results_none Tryz.results69 _ _ _, ⟨rfl, _, by rw [HE.out]; exact HWf.out, HSf.out⟩⟩
        ·
         have hE1 : (DP != deep) = true := by simp [hdd]
         have HX := hid (show WR = true by rw [← HWR.out, decide_eq_true hdd, Bool.true_or])
         rw [HX.out] at HE
         have HWu := hid (show WK w0 _ p r N lo0 ⟨sn.set k true, DP, true, al⟩ av from HWd.out.bad)
         have HSu := hid (HSw.out.trans (Step.set_p p r wc av 2 (.bool true)))
         have H12u := hid ((heap_set_ne wc p 2 p12 (.bool true) (by have := HP12.out; omega)).trans H12d.out)
         have HBu := hid (HBd.out.trans ((Step.set_p p r wc av 2 (.bool true)).below HBd.out.size hp0 hr0 (fun b hb => Nat.le_trans hlo0 (HZ.out.2.2.2.2.2 b hb).1)))
         clear hdd HWd HSw HBd H12d
         go_upto_region 18 with fail
         generalize wc.setCell ⟨p, 2, none⟩ (.bool true) = U at *
         clear cp1 cp2 fp2 e122
         have cu3 : U.cell? ⟨p, 3, none⟩ = some av := qC HWu.out.box
         have cu1 : U.cell? ⟨p12, 1, none⟩ = some (.slice ae kk ce) := qC H12u.out
         obtain ⟨aA, cA, rfl⟩ := HWu.out.all.slice
         simp only at cu3
         have hdr := (Still.drew U).below U.heap.size
         replace HWu := hid (HWu.out.below hdr)
         replace HSu := hid (HSu.out.trans (Step.of_below p r _ hdr))
         replace H12u := hid ((hdr.block p12 (blk_lt H12u.out)).trans H12u.out)
         replace HBu := hid (HBu.out.trans (hdr.mono HBu.out.size))
         clear hdr
         refine region_K 10 (fun W => W.cell? ⟨p, 3, none⟩ = some (.slice aA al.length cA) ∧ W.cell? ⟨p12, 1, none⟩ = some (.slice ae kk ce)) (by kernel_rfl) ?_ (fun hHeld => ?_)
         · exact ⟨((Still.drew U).cell _).trans cu3, ((Still.drew U).cell _).trans cu1⟩
         clear cu3 cu1
         generalize U.drew = u0 at *
         refine qA 0 rfl hHeld 147 rfl ?_
         refine qA 1 rfl hHeld 148 rfl ?_
         refine qA 2 rfl hHeld 149 rfl ?_
         refine qA 3 rfl hHeld 150 rfl ?_
         refine qA 4 rfl hHeld 151 rfl ?_
         refine qA 5 rfl hHeld 152 rfl ?_
         refine qA 6 rfl hHeld 153 rfl ?_
         refine qS 7 rfl fun KP hK => ?_
         refine step_append_X (lo := lo0) (es := al) (fs := d.es) rfl _ _ 52 rfl Tryz.underlying52 HWu.out.all rfl ce rfl HNn.out (ReadsX.of HRe.out HBu.out) (by rw [HNn.out]; have := HAL.out; omega) (Nat.le_trans HZ.out.2.2.2.1 HSu.out.kept.size) ?_
         intro a' n' cap' u1 hn' oX gX hX
         have bp := (gX.block p (blk_lt HWu.out.box) (fun e => (HWu.out.ne p e.symm).1 rfl)).trans HWu.out.box
         have b12 := (gX.block p12 (blk_lt H12u.out) (fun e => HAv.out p12 (by have := HP12.out; omega) e.symm)).trans H12u.out
         have hS1 : u1.cell? ⟨p, 3, none⟩ = some (.slice aA al.length cA) ∧ u1.cell? ⟨p12, 1, none⟩ = some (.slice ae kk ce) := ⟨qC bp, qC b12⟩
         have fz : u1.frozen? ⟨p, 3, none⟩ = false := frozen_of_row _ _ _ _ _ bp
         have HWf := hid (HWu.out.push gX oX hX)
         have HSf := hid ((HSu.out.trans (Step.grown p r gX hX)).trans (Step.set_p p r u1 _ 3 (.slice a' n' cap')))
         clear bp b12 oX gX hX hn'
         refine hK.out _ _ hS1 (fun hH2 => ?_)
         clear hK KP hHeld hH2
         try simp only [qP]
         refine qS 8 rfl fun KP hK => ?_
         go_simp
         refine hK.out _ _ hS1 (fun hH2 => ?_)
         clear hK KP hH2
         try simp only [qP]
         refine qS 9 rfl fun KP hK => ?_
         go_simp
         refine hK.out _ _ hS1 (fun hH2 => ?_)
         clear hK KP hH2
         try simp only [qP]
         obtain ⟨x3, x1⟩ := hS1
         refine anyK_last (by kernel_rfl) rfl (fun KP hK => ?_)
         go_simp
         refine hK.out _ _ ?_
         clear hK KP
         refine anyK_done (by kernel_rfl) ?_ _
         go_wp2_with fail
         exact ⟨rfl, _, results_none Tryz.results69 _ _ _, ⟨rfl, _, by rw [HE.out]; exact HWf.out, HSf.out⟩⟩
     | false =>
      rw [hlf] at c120
      replace HE := hid (HE.out.trans (if_neg (by rw [hlf]; simp)))
      have HKid := hid (show goS ns (f + 1) ⟨sn, dp, false, al⟩ (k : Int) deep lo hi = _ from HE.out)
      have c121 : wq.cell? ⟨p12, 1, none⟩ = some (.slice ae kk ce) := qC H12q.out
      clear HE hlf
      by_cases hb1 : kk < 1 ∨ m ≠ kk + 1
      ·
       have HE2 := hid (HKid.out.trans (if_pos (by rcases hb1 with q | q; rw [decide_eq_true q, Bool.true_or]; rw [decide_eq_true q, Bool.or_true])))
       have HB1 := hid HWq.out.bad
       have HB2 := hid (HSq.out.trans (Step.set_p p r wq av 2 (.bool true)))
       have e2 : wq.cell? ⟨p, 2, none⟩ = some (.bool false) := qC HWq.out.box
       have f2 : wq.frozen? ⟨p, 2, none⟩ = false := frozen_of_row _ _ _ _ _ HWq.out.box
       by_cases hb2 : kk < 1
       ·
        have hb3 : (kk : Int) < 1 := by omega
        clear hb1 HKid
        go_wp2_with fail
        exact ⟨rfl, _, results_none Tryz.results69 _ _ _, ⟨rfl, av, by rw [HE2.out]; exact HB1.out, HB2.out⟩⟩
       ·
        have hb3 : ¬ (kk : Int) < 1 := by omega
        have hb4 : ((m : Int) != (kk : Int) + 1) = true := by simp; omega
        clear hb1 HKid
        go_wp2_with fail
        exact ⟨rfl, _, results_none Tryz.results69 _ _ _, ⟨rfl, av, by rw [HE2.out]; exact HB1.out, HB2.out⟩⟩
      have hkk1 : 1 ≤ kk := by omega
      have hmk1 : m = kk + 1 := by omega
      have hb3 : ¬ (kk : Int) < 1 := by omega
      have hb4 : ((m : Int) != (kk : Int) + 1) = false := by simp; omega
      replace HKid := hid (HKid.out.trans (if_neg (by rw [decide_eq_false (by omega), decide_eq_false (by omega)]; simp)))
      have HMk := hid hmk1
      clear hb1 hmk1
      go_wp2_with fail
      clear c120 c121 c122 hb3 hb4 hlt'
      go_loopw [15] (fun i wr => ∃ (j : Nat) (av2 : Value), j ≤ m ∧ i = .int .i64 j ∧ Hid (WK w0 wr p r N lo0 (kidS ns f d deep lo hi ⟨sn.set k true, dp, false, al⟩ j) av2) ∧ Hid (Step p r wq av wr av2)) (fun i _ => m - (intOf i).toNat)
      case atStart => exact ⟨0, av, Nat.zero_le _, rfl, HWq, hid (Step.refl p r wq av)⟩
      case round =>
       obtain ⟨j, av2, hj, rfl, HWr, HSr⟩ := hrel
       have HKb := hid (show ∀ W' av', Step p r wq av W' av' → W'.heap[p12]? = some (.cells #[.bool d.leaf, .slice ae kk ce, .slice ak m ck] 61) ∧ W'.heap[p6]? = some (.cells #[.slice (some ⟨b, off, none⟩) N cap, .int .i64 root] 33) ∧ Below w0.heap.size w0 W' from fun W' av' s => by
        have h1 := HP12.out
        have h2 := HZq.out
        exact ⟨(s.block h2.1 (by omega) (by omega) (HAv.out p12 (by omega))).trans H12q.out, (s.block (by omega) (by omega) (by omega) (HAv.out p6 (by omega))).trans H6q.out, HBq.out.trans (s.below HBq.out.size hp0 hr0 (fun b hb => Nat.le_trans hlo0 (HZ.out.2.2.2.2.2 b hb).1))⟩)
       have c122 : wr.cell? ⟨p12, 2, none⟩ = some (.slice ak m ck) := by rw [cell_of_row _ _ _ _ _ _ (HKb.out _ _ HSr.out).1]; rfl
       by_cases hlt : j < m
       ·
        have hlt' : (j : Int) < (m : Int) := by omega
        have hj0 : (0 : Int) ≤ (j : Int) := by omega
        have hjn : j ≤ kk := by have := HMk.out; omega
        have c121 : wr.cell? ⟨p12, 1, none⟩ = some (.slice ae kk ce) := by rw [cell_of_row _ _ _ _ _ _ (HKb.out _ _ HSr.out).1]; rfl
        have HS1r := hid (HS1q.out.trans HSr.out)
        have HSLr := hid (HSL1.out.step HDL.out HS1r.out)
        have HSHr := hid (HSH1.out.step HDH.out HS1r.out)
        have HDLr := hid (HDL.out.step HS1r.out (HSL1.out.lt))
        have HDHr := hid (HDH.out.step HS1r.out (HSH1.out.lt))
        have HBr := hid (HKb.out _ _ HSr.out).2.2
        have HZr := hid (show p < wr.heap.size ∧ r < wr.heap.size ∧ ∀ q, av2.ownBlock = some q → q < wr.heap.size from ⟨blk_lt HWr.out.box, blk_lt HWr.out.row, fun q hq => (HWr.out.all.lt q hq).2⟩)
        go_upto_if 184 with fail
        go_cut [16] (fun s wx => Hid (SlE w0 wx (lowAt d.es lo j) s) ∧ Hid (Side p r av2 s) ∧ Hid (Below wr.heap.size wr wx))
        case first =>
         by_cases hj1 : j = 0
         ·
          subst hj1
          go_wp2_with fail
          go_meet
          case rel => exact ⟨HSLr, HDLr, hid (Below.refl _ _)⟩
         ·
          have hk2 : (0 : Int) < (j : Int) := by omega
          have hk3 : 0 < j := by omega
          have h1' : (j : Int) - 1 < (kk : Int) := by omega
          have h2' : (0 : Int) ≤ (j : Int) - 1 := by omega
          have h3' : ((j : Int) - 1).toNat = j - 1 := by omega
          have hwr : IntKind.i64.wrap ((j : Int) - 1) = ((j - 1 : Nat) : Int) := by rw [IntKind.wrap_i64]; omega
          have h1n : ((j - 1 : Nat) : Int) < (kk : Int) := by omega
          obtain ⟨be, oe, a1, c1, rfl, bxp, rp, _, _, f0⟩ := HRe.out.at (k := j - 1) (by rw [HNn.out]; omega)
          have m0 := HMd.out (j - 1)
          have HLo := hid (show lowAt d.es lo j = some (d.es.getD (j - 1) en0) from if_neg hj1)
          obtain ⟨x, hx⟩ : ∃ x, d.es.getD (j - 1) en0 = x := ⟨_, rfl⟩
          rw [hx] at bxp rp f0 m0 HLo
          have RXP := hid rp
          obtain ⟨q0, q1, q2, q3, q4⟩ := bxp.below HBr.out qN
          have hst := fun w a m => run_store Tryz.prog w a (.float .f64 x.F) m rfl
          clear bxp rp hx hj1
          have HR := hid (heap_alloc_new wr (.cells #[.int .i64 x.K, .int .i64 x.N, .float .f64 x.F, .slice a1 x.Z.length c1, .int .i64 x.id] 48))
          go_wp2_with fail
          go_meet
          case rel =>
           have HSZ := hid (Nat.le_refl wr.heap.size)
           exact ⟨hid (by rw [HLo.out]; exact ⟨wr.heap.size, 1, a1, c1, rfl, ⟨qC HR.out, qC HR.out, qC HR.out, qC HR.out, qC HR.out⟩, RXP.out, f0, m0⟩), hid (fun q hq => by have e9 := Option.some.inj hq; have := HZr.out; have := HSZ.out; exact ⟨by simp only at e9; omega, by simp only at e9; omega, fun e8 => by have := HZr.out.2.2 q e8; simp only at e9; omega⟩), hid (Below.alloc1 _ _)⟩
        case rest =>
         obtain ⟨HLv, HLs, HLb⟩ := hcut
         obtain ⟨W2, rfl⟩ : ∃ W2, W2 = wc := ⟨_, rfl⟩
         have HBr2 := hid (HBr.out.trans (HLb.out.mono HBr.out.size))
         have HSr2 := hid (HSr.out.trans (Step.of_below p r av2 HLb.out))
         have c121 : W2.cell? ⟨p12, 1, none⟩ = some (.slice ae kk ce) := by rw [cell_of_row _ _ _ _ _ _ (HKb.out _ _ HSr2.out).1]; rfl
         go_upto_if 196 with fail
         go_cut [17] (fun s wx => Hid (SlE w0 wx (highAt d.es hi j) s) ∧ Hid (Side p r av2 s) ∧ Hid (Below W2.heap.size W2 wx))
         case first =>
          by_cases hj1 : j < kk
          ·
           have hk2 : (j : Int) < (kk : Int) := by omega
           obtain ⟨be, oe, a1, c1, rfl, bxp, rp, _, _, f0⟩ := HRe.out.at (k := j) (by rw [HNn.out]; omega)
           have m0 := HMd.out j
           have HLo := hid (show highAt d.es hi j = some (d.es.getD j en0) from if_pos (by rw [HNn.out]; exact hj1))
           obtain ⟨x, hx⟩ : ∃ x, d.es.getD j en0 = x := ⟨_, rfl⟩
           rw [hx] at bxp rp f0 m0 HLo
           have RXP := hid rp
           obtain ⟨q0, q1, q2, q3, q4⟩ := bxp.below HBr2.out qN
           have hst := fun w a m => run_store Tryz.prog w a (.float .f64 x.F) m rfl
           clear bxp rp hx hj1
           have HR := hid (heap_alloc_new W2 (.cells #[.int .i64 x.K, .int .i64 x.N, .float .f64 x.F, .slice a1 x.Z.length c1, .int .i64 x.id] 48))
           go_wp2_with fail
           go_meet
           case rel =>
            have HSZ := hid HLb.out.size
            exact ⟨hid (by rw [HLo.out]; exact ⟨W2.heap.size, 1, a1, c1, rfl, ⟨qC HR.out, qC HR.out, qC HR.out, qC HR.out, qC HR.out⟩, RXP.out, f0, m0⟩), hid (fun q hq => by have e9 := Option.some.inj hq; have := HZr.out; have := HSZ.out; exact ⟨by simp only at e9; omega, by simp only at e9; omega, fun e8 => by have := HZr.out.2.2 q e8; simp only at e9; omega⟩), hid (Below.alloc1 _ _)⟩
          ·
           have hk2 : ¬ (j : Int) < (kk : Int) := by omega
           have HLo := hid (show highAt d.es hi j = hi from if_neg (by rw [HNn.out]; exact hj1))
           go_wp2_with fail
           go_meet
           case rel => exact ⟨hid (by rw [HLo.out]; exact HSHr.out.keep (fun q hq => HLb.out.block q (HSHr.out.lt q hq))), HDHr, hid (Below.refl _ _)⟩
         case rest =>
          obtain ⟨HHv, HHs, HHb⟩ := hcut
          obtain ⟨W3, rfl⟩ : ∃ W3, W3 = wc := ⟨_, rfl⟩
          have hdr := (Still.drew W3).below W3.heap.size
          have HBd := hid (show Below wr.heap.size wr W3.drew from HLb.out.trans ((HHb.out.trans (hdr.mono HHb.out.size)).mono HLb.out.size))
          have HSd := hid (HSr.out.trans (Step.of_below p r av2 HBd.out))
          have HWd := hid (HWr.out.below HBd.out)
          replace HLv := hid (HLv.out.keep (w' := W3.drew) (fun q hq => (HHb.out.trans (hdr.mono HHb.out.size)).block q (HLv.out.lt q hq)))
          replace HHv := hid (HHv.out.keep (w' := W3.drew) (fun q hq => hdr.block q (HHv.out.lt q hq)))
          obtain ⟨bk, ok, rfl⟩ := HRi.out.pos (by omega)
          obtain ⟨xk, hxk⟩ : ∃ xk, d.ks.getD j 0 = xk := ⟨_, rfl⟩
          have HXK := hid hxk
          have HKp := hid (show ∀ W' av', Step p r wq av W' av' → (W'.cell? ⟨p6, 0, none⟩ = some (.slice (some ⟨b, off, none⟩) N cap) ∧ W'.cell? ⟨p6, 1, none⟩ = some (.int .i64 root)) ∧ W'.cell? ⟨p12, 2, none⟩ = some (.slice (some ⟨bk, ok, none⟩) m ck) ∧ W'.cell? ⟨bk, ok + j, none⟩ = some (.int .i64 xk) from fun W' av' s => by
           obtain ⟨h1, h2, h3⟩ := HKb.out W' av' s
           refine ⟨⟨qC h2, qC h2⟩, qC h1, ?_⟩
           rcases (HRi.out.below h3 qN).cells with h0 | ⟨b', o', e', hc⟩
           · omega
           · obtain ⟨rfl, rfl⟩ : bk = b' ∧ ok = o' := by simpa using e'
             rw [← hxk]; exact hc j hlt)
          have hdw : IntKind.i64.wrap (deep + 1) = deep + 1 := by rw [IntKind.wrap_i64]; omega
          clear hxk hdr HBr2 HSr2 HLb HHb c121 c122
          go_upto_region 30 with fail
          refine region_K 99 (fun W => (W.cell? ⟨p6, 0, none⟩ = some (.slice (some ⟨b, off, none⟩) N cap) ∧ W.cell? ⟨p6, 1, none⟩ = some (.int .i64 root)) ∧ W.cell? ⟨p12, 2, none⟩ = some (.slice (some ⟨bk, ok, none⟩) m ck) ∧ W.cell? ⟨bk, ok + j, none⟩ = some (.int .i64 xk)) (by kernel_rfl) ?_ (fun hHeld => ?_)
          · exact HKp.out _ _ HSd.out
          generalize W3.drew = vd at *
          refine qX 0 rfl hHeld 203 rfl ?_
          refine qX 1 rfl hHeld 204 rfl ?_
          refine qX 2 rfl hHeld 205 rfl ?_
          refine qX 3 rfl hHeld 206 rfl ?_
          refine qX 4 rfl hHeld 207 rfl ?_
          refine qX 5 rfl hHeld 208 rfl ?_
          refine qX 6 rfl hHeld 209 rfl ?_
          refine qX 7 rfl hHeld 210 rfl ?_
          refine qX 8 rfl hHeld 211 rfl ?_
          refine qX 9 rfl hHeld 212 rfl ?_
          refine qX 10 rfl hHeld 213 rfl ?_
          refine qS 11 rfl fun KP hK => ?_
          go_simp
          have HMo := hid (kidS_more ns f d deep lo hi ⟨sn.set k true, dp, false, al⟩ j)
          have HUk := hid (show unseen (kidS ns f d deep lo hi ⟨sn.set k true, dp, false, al⟩ j).seen < f ∧ (kidS ns f d deep lo hi ⟨sn.set k true, dp, false, al⟩ j).all.length + 4 * unseen (kidS ns f d deep lo hi ⟨sn.set k true, dp, false, al⟩ j).seen ≤ 1200 by have h1 := HMo.out.uns; have h2 := HMo.out.all; simp only at h1 h2; have := HUn.out; have := HU.out; have := HAL.out; omega)
          refine (IH.out (kidS ns f d deep lo hi ⟨sn.set k true, dp, false, al⟩ j) xk (deep + 1) (lowAt d.es lo j) (highAt d.es hi j) _ _ av2 vd HUk.out.1 (by omega) (by omega) HUk.out.2 (Nat.le_trans HZ.out.2.2.2.1 (HSq.out.trans HSd.out).kept.size) (HKb.out _ _ HSd.out).2.2 HWd.out HLv.out HHv.out HLs.out HHs.out).mono ?_
          rintro e v1 ⟨rfl, av3, hw3, hs3⟩
          have HW3 := hid (show WK w0 v1 p r N lo0 (kidS ns f d deep lo hi ⟨sn.set k true, dp, false, al⟩ (j + 1)) av3 from by rw [kidS_succ, HXK.out]; exact hw3)
          have HS3 := hid (HSd.out.trans hs3)
          clear hw3 hs3
          go_wp2_with fail
          clear hHeld
          refine hK.out _ _ (HKp.out _ _ HS3.out) (fun hHeld => ?_)
          clear hK KP
          try simp only [qP]
          refine anyK_done (by kernel_rfl) ?_ _
          clear hHeld
          go_wp2_with fail
          go_roundw
          case rel => exact ⟨j + 1, av3, by omega, by go_num, HW3, HS3⟩
          case measure => simp [intOf]; omega
       ·
        obtain rfl : j = m := by omega
        have hlt' : ¬ (j : Int) < (j : Int) := by omega
        go_wp2_with fail
        exact ⟨rfl, _, results_none Tryz.results69 _ _ _, ⟨rfl, av2, by rw [HKid.out]; exact HWr.out, HSq.out.trans HSr.out⟩⟩
theorem spec_go {w0 : World} {ns : List Nd} {ad : Option Addr} {N : Nat} (cap : Nat) (root : Int) (hns : ns.length = N) (hR : ReadsD w0 ad ns) (hm : ∀ i j, ((ns.getD i nd0).es.getD j en0).Z.length ≤ 2097152) (hN : N ≤ 300) (p r lo0 : Nat) (hp0 : w0.heap.size ≤ p) (hr0 : w0.heap.size ≤ r) (hlo0 : w0.heap.size ≤ lo0) : ∀ f, GoH w0 ns ad N cap root p r lo0 f
 | 0 => fun _ _ _ _ _ _ _ _ _ h => absurd h (by omega)
 | f + 1 => spec_go_step cap root hns hR hm hN p r lo0 hp0 hr0 hlo0 f (spec_go cap root hns hR hm hN p r lo0 hp0 hr0 hlo0 f)
end Go.Proofs.YtlkoghdajpbffaaGreat
