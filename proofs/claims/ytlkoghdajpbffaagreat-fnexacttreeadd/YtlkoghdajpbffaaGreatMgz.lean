/- Texts of this proof in one: Ui11 Us11. -/
import Derived.Test.YtlkoghdajpbffaaGreatMgo
import Derived.Test.YtlkoghdajpbffaaGreatMgu
import Derived.Test.YtlkoghdajpbffaaGreatUr11
/- The way down to an entry, with all its steps. Conditions: texts of at most 2^21 bytes. -/


namespace Go.Proofs.YtlkoghdajpbffaaGreat
open Go.RowKit
set_option maxRecDepth 100000
def stepsV (tb : List (Option Addr)) : List (Int × Nat) → List Value
 | [] => []
 | (x, i) :: l => .pointer (tb.getD x.toNat none) :: .int .i64 (i : Int) :: stepsV tb l
theorem stepsV_nil (tb : List (Option Addr)) : stepsV tb [] = [] := rfl
theorem stepsV_cons (tb : List (Option Addr)) (x : Int) (i : Nat) (l : List (Int × Nat)) : stepsV tb ((x, i) :: l) = .pointer (tb.getD x.toNat none) :: .int .i64 (i : Int) :: stepsV tb l := rfl
structure WayA (tb : List (Option Addr)) (w0 w w' : World) (ns : List Nd) (lo hi : Nat) (y : Int) (q : En) (WV : List Value) (e : Ending) : Prop where
 ex : ∃ gg m c g f pre, e = .returned (.slice (some ⟨gg, 0, none⟩) (m + 1) c) ∧ w'.ownsRow w.heap.size 72 2 (.slice (some ⟨gg, 0, none⟩) (m + 1) c) (m + 1) (pre ++ [.pointer (some ⟨g, 0, none⟩), .int .i64 (upsB (ns.getD y.toNat nd0).es q : Nat)]) ∧ LkT tb w0 w' ns lo hi (f + 1) y g ∧ (ns.getD y.toNat nd0).leaf = true ∧ m ≤ 1000 ∧ pre ++ [.pointer (some ⟨g, 0, none⟩), .int .i64 (upsB (ns.getD y.toNat nd0).es q : Nat)] = WV
set_option maxHeartbeats 3200000 in
theorem impl_wayDownA {w0 : World} (KQ NQ : Int) (FQ : Nat) {aq : Option Addr} {zq : Nat} (cq : Nat) (iq : Int) {ZQ : List Int} (hq : Reads w0 aq zq ZQ) (hqq : ZQ.length = zq ∧ FQ < 18446744073709551616 ∧ zq ≤ 2097152) {tb : List (Option Addr)} {ns : List Nd} {lo hi : Nat} (hm : ∀ i j, ((ns.getD i nd0).es.getD j en0).Z.length ≤ 2097152) {f : Nat} {x : Int} {g : Nat} {w : World} (hf : f ≤ 1000) (hh : hi ≤ w.heap.size) (hw : Below w0.heap.size w0 w) (hk : LkT tb w0 w ns lo hi f x g) :
 Calls Tryz.prog 54 #[.pointer (some ⟨g, 0, none⟩), .func (.func 55) #[.agg #[.int .i64 KQ, .int .i64 NQ, .float .f64 FQ, .slice aq zq cq, .int .i64 iq]] #[]] w fun e w' => WayA tb w0 w w' ns lo hi (leafW ns f x ⟨KQ, NQ, FQ, ZQ, iq⟩) ⟨KQ, NQ, FQ, ZQ, iq⟩ (stepsV tb (wayW ns f x ⟨KQ, NQ, FQ, ZQ, iq⟩)) e ∧ Below w.heap.size w w' := by
 obtain ⟨i0, hi0, hz0, hz1, hz2⟩ := info_parts Tryz.infoStep
 have HH := hid hh
 have HW := hid hw
 have HK := hid hk
 have HM := hid hm
 obtain ⟨y, hy⟩ : ∃ y, leafW ns f x ⟨KQ, NQ, FQ, ZQ, iq⟩ = y := ⟨_, rfl⟩
 rw [hy]
 have HY := hid hy
 obtain ⟨WV, hWV⟩ : ∃ WV, stepsV tb (wayW ns f x ⟨KQ, NQ, FQ, ZQ, iq⟩) = WV := ⟨_, rfl⟩
 rw [hWV]
 have HWV := hid (show [] ++ stepsV tb (wayW ns f x ⟨KQ, NQ, FQ, ZQ, iq⟩) = WV from hWV)
 clear hWV
 clear hh hw hk hm hy
 go_enter Tryz.func54, Tryz.ntmps54
 go_wp2_with fail
 go_loopg [0, 5] f (fun r s0 s5 wr => ∃ (rr : Nat) (x : Int) (g : Nat) (va : Option Addr) (m vc : Nat) (pre : List Value), r = rr ∧ s0 = .pointer (some ⟨g, 0, none⟩) ∧ s5 = .slice va m vc ∧ m + rr ≤ 1000 ∧ Hid (leafW ns rr x ⟨KQ, NQ, FQ, ZQ, iq⟩ = y) ∧ Hid (LkT tb w0 wr ns lo hi rr x g) ∧ Hid (wr.ownsRow w.heap.size 72 2 (.slice va m vc) m pre) ∧ Hid (Below w.heap.size w wr) ∧ Hid (pre ++ stepsV tb (wayW ns rr x ⟨KQ, NQ, FQ, ZQ, iq⟩) = WV))
 case atStart => exact ⟨f, x, g, none, 0, 0, [], rfl, rfl, rfl, by omega, HY, HK, hid (World.ownsRow_nil _ _ _ _), hid (Below.refl _ _), HWV⟩
 case round =>
  clear HK HY HWV
  obtain ⟨rr, x, g, va, m, vc, pre, hrr, rfl, rfl, hmr, HY, HK, HO, HB, HWV⟩ := hrel
  cases rr with
  | zero => exact absurd HK.out (by simp [LkT])
  | succ r =>
  subst hrr
  have hk := HK.out
  obtain ⟨k0, k1, k2, k3, a, c, kv, gs, -, k4, k5, k6, k7, k8⟩ := hk
  have hv : leafW ns (r + 1) x ⟨KQ, NQ, FQ, ZQ, iq⟩ = if (ns.getD x.toNat nd0).leaf then x else leafW ns r ((ns.getD x.toNat nd0).ks.getD (upsB (ns.getD x.toNat nd0).es ⟨KQ, NQ, FQ, ZQ, iq⟩) 0) ⟨KQ, NQ, FQ, ZQ, iq⟩ := by rw [leafW]
  rw [HY.out] at hv
  have hwv := HWV.out
  rw [show wayW ns (r + 1) x ⟨KQ, NQ, FQ, ZQ, iq⟩ = (x, upsB (ns.getD x.toNat nd0).es ⟨KQ, NQ, FQ, ZQ, iq⟩) :: (if (ns.getD x.toNat nd0).leaf then [] else wayW ns r ((ns.getD x.toNat nd0).ks.getD (upsB (ns.getD x.toNat nd0).es ⟨KQ, NQ, FQ, ZQ, iq⟩) 0) ⟨KQ, NQ, FQ, ZQ, iq⟩) by rw [wayW], stepsV_cons, k0] at hwv
  have HMx := hid (HM.out x.toNat)
  have hle := upsB_le (ns.getD x.toNat nd0).es ⟨KQ, NQ, FQ, ZQ, iq⟩
  obtain ⟨d, hd⟩ : ∃ d, ns.getD x.toNat nd0 = d := ⟨_, rfl⟩
  rw [hd] at k3 k4 k5 k6 k8 hv HMx hle hwv
  have HD := hid hd
  obtain ⟨n, hn⟩ : ∃ n, d.es.length = n := ⟨_, rfl⟩
  rw [hn] at k4 hle
  have hn4 : n ≤ 4 := by
   cases hl : d.leaf with
   | true => have := form_leaf k3 hl; omega
   | false => have := form_kids k3 hl; omega
  obtain ⟨up, hup⟩ : ∃ up, upsB d.es ⟨KQ, NQ, FQ, ZQ, iq⟩ = up := ⟨_, rfl⟩
  rw [hup] at hle hv hwv
  have HWv := hid hwv
  have HN := hid hn
  have HUp := hid hup
  have HG := hid k4
  have HE := hid k5
  have HKs := hid k6
  have HR := hid k7
  have H8 := hid k8
  have HF3 := hid k3
  have HV := hid hv
  have hgl : g < w.heap.size := by have := HH.out; omega
  have HGl := hid hgl
  clear k0 k1 k2 k3 k4 k5 k6 k7 k8 hd hn hup hv hgl hwv HWV
  go_wp2_with fail
  refine (impl_placeIn KQ NQ FQ cq iq hq hqq HE.out HN.out hn4 HMx.out (HW.out.trans (HB.out.mono HW.out.size)) HG.out).mono ?_
  rintro e w1 ⟨rfl, b1⟩
  rw [HUp.out]
  have hsz := HB.out.size
  have HO1 := hid (owns_below b1 qN HO.out)
  replace H8 := hid (fun i hi => LkT.agree (Agree.below b1 (by have := HH.out; omega)) _ _ _ (H8.out i hi))
  replace HK := hid (LkT.agree (Agree.below b1 (by have := HH.out; omega)) _ _ _ HK.out)
  replace HR := hid (HR.out.agree (Agree.below b1 (by have := HH.out; omega)))
  replace HG := hid ((b1.block g (by have := HGl.out; omega)).trans HG.out)
  replace HB := hid (HB.out.trans (b1.mono HB.out.size))
  clear b1 HO hsz
  have HNw := hid (heap_alloc_new w1 (.cells #[.pointer (some ⟨g, 0, none⟩), .int .i64 (up : Int)] 72))
  have HA1 := hid (Below.alloc1 w1 (.cells #[.pointer (some ⟨g, 0, none⟩), .int .i64 (up : Int)] 72))
  have HO2 := hid (owns_below HA1.out qN HO1.out)
  have hsz := HB.out.size
  have hsz2 := HA1.out.size
  go_wp2_with (at_builtin; refine wpList_append_lies _ rfl _ _ 68 rfl w.heap.size 72 i0 (.agg #[.pointer none, .int .i64 0]) 2 16 Tryz.underlying68 hi0 hz0 hz1 hz2 rfl (by omega) (.slice va m vc) m pre rfl HO2.out ⟨w1.heap.size, 0, none⟩ 1 1 [.pointer (some ⟨g, 0, none⟩), .int .i64 (up : Int)] rfl rfl (World.news_of_block HNw.out) (by simp [Value.oneCell']) (by omega) (by unfold maxLen; omega) (by omega) (by omega) _ rfl ?_)
  intro gg cc w9 o9 g9 _ _
  have HO9 := hid o9
  have HB9 := hid ((HB.out.trans (HA1.out.mono HB.out.size)).grown g9 (Nat.le_trans hsz hsz2) (fun b hb => (HO2.out.lt b hb).1))
  have hag : Agree lo hi w1 w9 := fun k _ k2 => (g9.block k (by have := HH.out; omega) (fun e => by have := (HO2.out.lt k e.symm).1; have := HH.out; omega)).trans (HA1.out.block k (by have := HH.out; omega))
  replace HK := hid (LkT.agree hag _ _ _ HK.out)
  replace HR := hid (HR.out.agree hag)
  replace H8 := hid (fun i hi => LkT.agree hag _ _ _ (H8.out i hi))
  have HG9 := hid (show w9.heap[g]? = some (.cells #[.int .i64 x, .bool d.leaf, .slice a n c, kv] 112) from (g9.block g (by have := HGl.out; omega) (fun e => by have := (HO2.out.lt g e.symm).1; have := HGl.out; omega)).trans ((HA1.out.block g (by have := HGl.out; omega)).trans HG.out))
  have c1 : w9.cell? ⟨g, 1, none⟩ = some (.bool d.leaf) := qC HG9.out
  have c3 : w9.cell? ⟨g, 3, none⟩ = some kv := qC HG9.out
  clear o9 g9 HO1 HO2 HNw HA1 HB hag hsz hsz2 HG
  cases hl : d.leaf with
  | true =>
   rw [hl] at c1
   have HV2 := hid (show y = x by rw [HV.out, hl, if_pos rfl])
   have HLf := hid hl
   have HWe := HWv.out
   rw [hl, if_pos rfl, stepsV_nil] at HWe
   have HWf := hid HWe
   clear HWe
   clear hl c3
   go_wp2_with fail
   go_ret
   refine ⟨⟨gg, m, cc, g, r, pre, rfl, ?_, by rw [HV2.out]; exact HK.out, by rw [HV2.out, HD.out]; exact HLf.out, by omega, ?_⟩, HB9.out⟩
   · rw [HV2.out, HD.out, HUp.out]
     exact HO9.out
   · rw [HV2.out, HD.out, HUp.out]
     exact HWf.out
  | false =>
   rw [hl] at c1
   have hkf := form_kids HF3.out hl
   have HV2 := hid (show leafW ns r (d.ks.getD up 0) ⟨KQ, NQ, FQ, ZQ, iq⟩ = y by rw [HV.out, hl, if_neg (by simp)])
   have hug : up < gs.length := by have := HKs.out; have := HN.out; omega
   obtain ⟨kb, kc, rfl, _, _, hc⟩ := HR.out.at (by omega)
   have c5 := hc up hug
   have hug0 := hug
   obtain ⟨gl, hgl⟩ : ∃ gl, gs.length = gl := ⟨_, rfl⟩
   rw [hgl] at hug c3
   have hug' : (up : Int) < (gl : Int) := by omega
   have hu0 : (0 : Int) ≤ (up : Int) := by omega
   have HKk := hid (H8.out up hug0)
   have HWe := HWv.out
   rw [hl, if_neg (by simp)] at HWe
   have HWf := hid (show (pre ++ [.pointer (some ⟨g, 0, none⟩), .int .i64 (up : Int)]) ++ stepsV tb (wayW ns r (d.ks.getD up 0) ⟨KQ, NQ, FQ, ZQ, iq⟩) = WV by rw [List.append_assoc]; exact HWe)
   clear HWe
   clear hl hc hgl hug0
   go_wp2_with fail
   go_roundg r
   case measure => omega
   case rel => exact ⟨r, _, _, _, m + 1, _, _, rfl, rfl, rfl, by omega, HV2, HKk, HO9, HB9, HWf⟩
set_option maxHeartbeats 1600000 in
theorem impl_wayToA {w0 : World} (KQ NQ : Int) (FQ : Nat) {aq : Option Addr} {zq : Nat} (cq : Nat) (iq : Int) {ZQ : List Int} (hq : Reads w0 aq zq ZQ) (hqq : ZQ.length = zq ∧ FQ < 18446744073709551616 ∧ zq ≤ 2097152) {tb : List (Option Addr)} {ns : List Nd} {lo hi : Nat} (hm : ∀ i j, ((ns.getD i nd0).es.getD j en0).Z.length ≤ 2097152) {f : Nat} {x : Int} {g q : Nat} {v : Value} {w : World} (hf : f ≤ 1000) (hh : hi ≤ w.heap.size) (hw : Below w0.heap.size w0 w) (hk : LkT tb w0 w ns lo hi f x g) (hg : w.heap[q]? = some (.cells #[v, .pointer (some ⟨g, 0, none⟩)] 77)) :
 Calls Tryz.prog 29 #[.pointer (some ⟨q, 0, none⟩), .agg #[.int .i64 KQ, .int .i64 NQ, .float .f64 FQ, .slice aq zq cq, .int .i64 iq]] w fun e w' => WayA tb w0 w w' ns lo hi (leafW ns f x ⟨KQ, NQ, FQ, ZQ, iq⟩) ⟨KQ, NQ, FQ, ZQ, iq⟩ (stepsV tb (wayW ns f x ⟨KQ, NQ, FQ, ZQ, iq⟩)) e ∧ Below w.heap.size w w' := by
 have HH := hid hh
 have HK := hid hk
 have HM := hid hm
 clear hh hk hm
 have hst := fun w a m => run_store Tryz.prog w a (.float .f64 FQ) m rfl
 have HB := hid (Below.alloc1 w (.cells #[.int .i64 KQ, .int .i64 NQ, .float .f64 FQ, .slice aq zq cq, .int .i64 iq] 48))
 have HR0 := hid (heap_alloc_new w (.cells #[.int .i64 KQ, .int .i64 NQ, .float .f64 FQ, .slice aq zq cq, .int .i64 iq] 48))
 have HW := hid hw
 have HG := hid hg
 have hgl : q < w.heap.size := (qL hg)
 have HGl := hid (show q < w.heap.size ∧ w.heap.size < (w.alloc (.cells #[.int .i64 KQ, .int .i64 NQ, .float .f64 FQ, .slice aq zq cq, .int .i64 iq] 48)).heap.size by rw [alloc_size]; omega)
 clear hw hg hgl
 go_enter Tryz.func29, Tryz.ntmps29
 go_wp2_with fail
 generalize w.alloc (.cells #[.int .i64 KQ, .int .i64 NQ, .float .f64 FQ, .slice aq zq cq, .int .i64 iq] 48) = V at *
 obtain ⟨p0, hp0⟩ : ∃ p0, w.heap.size = p0 := ⟨_, rfl⟩
 have HP0 := hid hp0
 rw [hp0] at HR0
 try simp only [hp0]
 clear hp0
 have HKp := hid (show ∀ W, Below V.heap.size V W → (fun W => W.cell? ⟨p0, 0, none⟩ = some (.int .i64 KQ) ∧ W.cell? ⟨p0, 1, none⟩ = some (.int .i64 NQ) ∧ W.cell? ⟨p0, 2, none⟩ = some (.float .f64 FQ) ∧ W.cell? ⟨p0, 3, none⟩ = some (.slice aq zq cq) ∧ W.cell? ⟨p0, 4, none⟩ = some (.int .i64 iq) ∧ W.cell? ⟨q, 1, none⟩ = some (.pointer (some ⟨g, 0, none⟩))) W from fun W b => by
  have z1 := HGl.out
  have z2 := HP0.out
  have r1 : W.heap[p0]? = _ := (b.block p0 (by omega)).trans HR0.out
  have r2 : W.heap[q]? = _ := ((HB.out.trans (b.mono HB.out.size)).block q (by omega)).trans HG.out
  exact ⟨qC r1, qC r1, qC r1, qC r1, qC r1, qC r2⟩)
 have BC := hid ((Still.drew V).below V.heap.size)
 refine region_K 99 (fun W => W.cell? ⟨p0, 0, none⟩ = some (.int .i64 KQ) ∧ W.cell? ⟨p0, 1, none⟩ = some (.int .i64 NQ) ∧ W.cell? ⟨p0, 2, none⟩ = some (.float .f64 FQ) ∧ W.cell? ⟨p0, 3, none⟩ = some (.slice aq zq cq) ∧ W.cell? ⟨p0, 4, none⟩ = some (.int .i64 iq) ∧ W.cell? ⟨q, 1, none⟩ = some (.pointer (some ⟨g, 0, none⟩))) (by kernel_rfl) ?_ (fun hHeld => ?_)
 · exact HKp.out _ BC.out
 generalize V.drew = vd at *
 refine qT 0 rfl hHeld 5 rfl ?_
 refine qT 1 rfl hHeld 6 rfl ?_
 refine qT 2 rfl hHeld 7 rfl ?_
 refine qT 3 rfl hHeld 8 rfl ?_
 refine qT 4 rfl hHeld 9 rfl ?_
 refine qT 5 rfl hHeld 10 rfl ?_
 refine qS 6 rfl fun KP hK => ?_
 go_simp
 refine (impl_wayDownA KQ NQ FQ cq iq hq hqq HM.out hf (by have := HH.out; have := HB.out.size; have := BC.out.size; omega) (HW.out.trans ((HB.out.trans (BC.out.mono HB.out.size)).mono HW.out.size)) (LkT.agree (Agree.below (HB.out.trans (BC.out.mono HB.out.size)) HH.out) _ _ _ HK.out)).mono ?_
 rintro e v1 ⟨⟨gg, m, cc, g9, f9, pre, rfl, ho, hl, hlf, hm9, hst9⟩, b⟩
 have HF := hid (show WayA tb w0 w v1 ns lo hi (leafW ns f x ⟨KQ, NQ, FQ, ZQ, iq⟩) ⟨KQ, NQ, FQ, ZQ, iq⟩ (stepsV tb (wayW ns f x ⟨KQ, NQ, FQ, ZQ, iq⟩)) (.returned (.slice (some ⟨gg, 0, none⟩) (m + 1) cc)) from ⟨gg, m, cc, g9, f9, pre, rfl, owns_lower ho (by have := HB.out.size; have := BC.out.size; omega), hl, hlf, hm9, hst9⟩)
 replace BC := hid (BC.out.trans (b.mono BC.out.size))
 clear b ho hl hlf hst9
 clear hHeld
 refine hK.out _ _ (HKp.out _ BC.out) (fun hHeld => ?_)
 clear hK KP
 try simp only [qP]
 refine qT 7 rfl hHeld 4 rfl ?_
 refine anyK_done (by kernel_rfl) ?_ _
 clear hHeld
 go_wp2_with fail
 go_ret
 exact ⟨HF.out, HB.out.trans (BC.out.mono HB.out.size)⟩
end Go.Proofs.YtlkoghdajpbffaaGreat
/- The way that add goes, and what it leaves, as TreeAdd needs them. No conditions. -/



namespace Go.Proofs.YtlkoghdajpbffaaGreat
open Go.RowKit
set_option maxRecDepth 100000
theorem stepsV_len (tb : List (Option Addr)) : ∀ l : List (Int × Nat), (stepsV tb l).length = l.length * 2
 | [] => rfl
 | (x, i) :: l => by rw [stepsV_cons, List.length_cons, List.length_cons, stepsV_len tb l, List.length_cons]; omega
theorem stepsV_at (tb : List (Option Addr)) : ∀ (l : List (Int × Nat)) (i : Nat), i < l.length → (stepsV tb l)[i * 2]? = some (.pointer (tb.getD (l.getD i (0, 0)).1.toNat none)) ∧ (stepsV tb l)[i * 2 + 1]? = some (.int .i64 ((l.getD i (0, 0)).2 : Int))
 | [], i, h => absurd h (by simp)
 | (x, k) :: l, 0, _ => ⟨rfl, rfl⟩
 | (x, k) :: l, i + 1, h => by
  have := stepsV_at tb l i (by simpa using h)
  rw [stepsV_cons, show (i + 1) * 2 = i * 2 + 1 + 1 by omega]
  exact this
theorem wayW_len (ns : List Nd) (e : En) : ∀ (f : Nat) (x : Int), (wayW ns f x e).length ≤ f
 | 0, _ => Nat.le_refl _
 | f + 1, x => by
  rw [wayW, List.length_cons]
  split
  · simp
  · have := wayW_len ns e f ((ns.getD x.toNat nd0).ks.getD (upsB (ns.getD x.toNat nd0).es e) 0); omega
structure WayR (ns : List Nd) (R : List (Int × Nat)) : Prop where
 pos : 0 < R.length
 len : R.length ≤ ns.length + 1
 st : ∀ j, j < R.length → (0 ≤ (R.getD j (0, 0)).1 ∧ (R.getD j (0, 0)).1 < ns.length) ∧ (R.getD j (0, 0)).2 ≤ (ns.getD (R.getD j (0, 0)).1.toNat nd0).es.length ∧ ((ns.getD (R.getD j (0, 0)).1.toNat nd0).leaf = false → 0 < j) ∧ ∀ t, t < j → (R.getD t (0, 0)).1.toNat ≠ (R.getD j (0, 0)).1.toNat
theorem getD_mem12 {l : List (Int × Nat)} {j : Nat} (h : j < l.length) : l.getD j (0, 0) ∈ l := by
 rw [List.getD_eq_getElem?_getD, List.getElem?_eq_getElem h]; exact List.getElem_mem h
theorem way_rev {ns : List Nd} {root : Int} (e : En) (ht : treeIs ns root = true) : WayR ns (wayW ns (ns.length + 1) root e).reverse := by
 have hg := (treeIs_parts ht).1
 obtain ⟨sd, sd', hk⟩ := treeIs_lnk ht
 have hp := way_apart (ns := ns) e _ _ _ _ hk
 obtain ⟨h1, pre, y, h2, h3, h4⟩ := way_steps (ns := ns) e _ _ hg
 have hl := wayW_len ns e (ns.length + 1) root
 generalize wayW ns (ns.length + 1) root e = W at *
 have hr : W.reverse.Pairwise (fun a b => b.1.toNat ≠ a.1.toNat) := List.pairwise_reverse.2 hp
 refine ⟨by rw [h2]; simp, by rw [List.length_reverse]; exact hl, fun j hj => ?_⟩
 have hm := List.mem_reverse.1 (getD_mem12 hj)
 obtain ⟨a1, a2, a3⟩ := h1 _ hm
 refine ⟨a1, by rw [a3]; exact upsB_le _ _, fun hf => ?_, fun t ht => ?_⟩
 · rcases Nat.eq_zero_or_pos j with rfl | h
   · rw [h2, List.reverse_append] at hf
     simp only [List.reverse_cons, List.reverse_nil, List.nil_append, List.cons_append, List.getD_cons_zero] at hf
     rw [h3] at hf
     cases hf
   · exact h
 · have := List.pairwise_iff_getElem.1 hr t j (by omega) hj ht
   rw [List.getD_eq_getElem?_getD, List.getD_eq_getElem?_getD, List.getElem?_eq_getElem (show t < W.reverse.length by omega), List.getElem?_eq_getElem hj]
   exact fun e => this e.symm
theorem rev_at (W : List (Int × Nat)) (i : Nat) (h : i < W.length) : W.reverse.getD (W.length - 1 - i) (0, 0) = W.getD i (0, 0) := by
 rw [List.getD_eq_getElem?_getD, List.getD_eq_getElem?_getD, List.getElem?_reverse (by omega), show W.length - 1 - (W.length - 1 - i) = i by omega]
theorem way_where {tb : List (Option Addr)} {w0 w : World} {ns : List Nd} {lo hi g : Nat} {root : Int} (e : En) (ht : treeIs ns root = true) (hk : LkT tb w0 w ns lo hi (ns.length + 1) root g) : ∀ p ∈ wayW ns (ns.length + 1) root e, tb.getD p.1.toNat none = some ⟨(gsT tb ns.length).getD p.1.toNat 0, 0, none⟩ := fun p hp => by
 have hg := (treeIs_parts ht).1
 obtain ⟨f, gi, h⟩ := LkT.pos _ _ _ hk _ (way_pos (ns := ns) e _ _ hg p hp)
 have h1 := ((way_steps (ns := ns) e _ _ hg).1 p hp).1
 rw [gsT_at (N := ns.length) (by omega) h.told.1]
 exact h.told.1
structure WayT (w : World) (gg M : Nat) (gs : List Nat) (ws : List (Int × Nat)) : Prop where
 len : ws.length = M
 ty : ∃ cs fz, w.heap[gg]? = some (.cells cs 72 fz)
 at' : ∀ i, i < M → w.cell? ⟨gg, i * 2, none⟩ = some (.pointer (some ⟨gs.getD (ws.getD i (0, 0)).1.toNat 0, 0, none⟩)) ∧ w.cell? ⟨gg, i * 2 + 1, none⟩ = some (.int .i64 ((ws.getD i (0, 0)).2 : Int))
theorem way_told {tb : List (Option Addr)} {w0 wk w : World} {ns : List Nd} {lo hi g0 gg m c B N : Nat} {root : Int} {e : En} {xs : List Value} (ht : treeIs ns root = true) (hl : ns.length = N) (hk : LkT tb w0 wk ns lo hi (N + 1) root g0) (ho : w.ownsRow B 72 2 (.slice (some ⟨gg, 0, none⟩) (m + 1) c) (m + 1) xs) (hst : xs = stepsV tb (wayW ns (N + 1) root e)) : WayT w gg (m + 1) (gsT tb N) (wayW ns (ns.length + 1) root e) := by
 subst hl
 have hw := way_where e ht hk
 have h1 := ho.1
 subst hst
 rw [stepsV_len] at h1
 have hlen : (wayW ns (ns.length + 1) root e).length = m + 1 := by omega
 refine ⟨hlen, ?_, fun i hi => ?_⟩
 · rcases ho.2 with ⟨q, _⟩ | ⟨g, cap, cur, e1, _, e2, _⟩
   · cases q
   · cases e1; exact ⟨_, _, e2⟩
 · obtain ⟨s1, s2⟩ := stepsV_at tb (wayW ns (ns.length + 1) root e) i (by rw [hlen]; exact hi)
   rw [hw _ (getD_mem12 (by rw [hlen]; exact hi))] at s1
   exact ⟨(ho.cellAt (i * 2) (by omega)).trans s1, (ho.cellAt (i * 2 + 1) (by omega)).trans s2⟩
theorem WayT.below {w w' : World} {gg M : Nat} {gs : List Nat} {ws : List (Int × Nat)} (h : WayT w gg M gs ws) (b : Below w.heap.size w w') : WayT w' gg M gs ws := by
 obtain ⟨cs, fz, e⟩ := h.ty
 have hb := (b.block gg (qL e))
 exact ⟨h.len, ⟨cs, fz, hb.trans e⟩, fun i hi => ⟨(World.cell?_of_block (w := w) (a := ⟨gg, i * 2, none⟩) hb).trans (h.at' i hi).1, (World.cell?_of_block (w := w) (a := ⟨gg, i * 2 + 1, none⟩) hb).trans (h.at' i hi).2⟩⟩
theorem WayT.rev {w : World} {gg M : Nat} {gs : List Nat} {ws : List (Int × Nat)} (h : WayT w gg M gs ws) : ∀ i, i < M → w.cell? ⟨gg, i * 2, none⟩ = some (.pointer (some ⟨gs.getD (ws.reverse.getD (M - 1 - i) (0, 0)).1.toNat 0, 0, none⟩)) ∧ w.cell? ⟨gg, i * 2 + 1, none⟩ = some (.int .i64 ((ws.reverse.getD (M - 1 - i) (0, 0)).2 : Int)) := fun i hi => by
 have e := rev_at ws i (by rw [h.len]; exact hi)
 rw [h.len] at e
 rw [e]
 exact h.at' i hi
theorem added_end {W0 WB W : World} {q g0 : Nat} {gs : List Nat} {ns : List Nd} {e : En} {root : Int} (ht : treeIs ns root = true) (he : entOk e = true) (hn : isAt ns root e = false) (h : Added W0 WB W q g0 gs ns e (wayW ns (ns.length + 1) root e).reverse root) : ∃ A gF gsF nsF rootF, Tab A W0 W q (.pointer (some ⟨gF, 0, none⟩)) gsF nsF ∧ gsF.getD rootF.toNat 0 = gF ∧ (0 ≤ rootF ∧ rootF.toNat < nsF.length) ∧ (∀ i, i < nsF.length → formOk (nsF.getD i nd0) = true) ∧ addT ns root e = if 300 < nsF.length then ([], 0, false) else (nsF, rootF, true) := by
 have hg := (treeIs_parts ht).1
 have hd := down_up (ns.length + 1) ns root e 0 hg
 unfold addT
 rw [if_pos (by rw [ht, he, hn]; rfl), hd]
 rcases hu : upS (wayW ns (ns.length + 1) root e).reverse ns e 0 with ⟨ns1, _ | ⟨up, k⟩⟩
 · obtain ⟨A, gs1, t, g, f, l⟩ := h.no ns1 hu
   have := hg.2.1
   have := hg.2.2.1
   exact ⟨A, g0, gs1, ns1, root, t, g, ⟨by omega, by omega⟩, f, rfl⟩
 · obtain ⟨A, gs1, gn, t, g, f, l⟩ := h.yes ns1 up k hu
   refine ⟨A, gn, gs1, _, (ns1.length : Int), t, by rw [Int.toNat_natCast]; exact g, ⟨by omega, by simp⟩, fun i hi => ?_, ?_⟩
   · rw [getD_snoc11]
     rw [List.length_append, List.length_singleton] at hi
     split
     · exact f i (by assumption)
     · rw [if_pos (by omega)]; rfl
   · simp only [List.length_append, List.length_singleton]
theorem addT_no {ns : List Nd} {root : Int} {q : En} (h : (treeIs ns root && (entOk q && !isAt ns root q)) = false) : addT ns root q = ([], 0, false) := by unfold addT; rw [if_neg (by rw [h]; simp)]
theorem tree_forms {ns : List Nd} {root : Int} (h : treeIs ns root = true) (i : Nat) (hi : i < ns.length) : formOk (ns.getD i nd0) = true := by
 obtain ⟨hg, -, hp⟩ := treeIs_parts h
 obtain ⟨f', hg'⟩ := good_at _ _ _ hg (hp i hi)
 have := hg'.1
 rwa [Int.toNat_natCast] at this
theorem form_small' {d : Nd} (h : formOk d = true) : d.es.length ≤ 4 ∧ d.ks.length ≤ 5 := by
 cases hl : d.leaf with
 | true => have := form_leaf h hl; omega
 | false => have := form_kids h hl; omega
theorem all_small {ns : List Nd} (h : ∀ i, i < ns.length → formOk (ns.getD i nd0) = true) (i : Nat) : (ns.getD i nd0).es.length ≤ 4 ∧ (ns.getD i nd0).ks.length ≤ 5 := by
 by_cases hi : i < ns.length
 · exact form_small' (h i hi)
 · rw [show ns.getD i nd0 = nd0 by simp [List.getD, List.getElem?_eq_none (Nat.le_of_not_lt hi)]]
   exact ⟨by simp [nd0], by simp [nd0]⟩
end Go.Proofs.YtlkoghdajpbffaaGreat
