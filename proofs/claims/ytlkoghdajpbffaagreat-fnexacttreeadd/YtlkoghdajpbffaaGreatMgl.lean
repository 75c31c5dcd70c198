/- Texts of this proof in one: Ks11 Kt11 Kx11. -/
import Derived.Test.YtlkoghdajpbffaaGreatMgk
import Derived.Maps.AppendAt
import Derived.Test.YtlkoghdajpbffaaGreatMgj
import Derived.Laws.OwnMore
import Derived.Deep.Slices
/- The program's tests of order: entries that ascend, a node and all below it in its stretch. Conditions: texts of at most 2^21 bytes. -/

namespace Go.Proofs.YtlkoghdajpbffaaGreat
open Go.RowKit
set_option maxRecDepth 100000
set_option maxHeartbeats 3200000 in
theorem impl_isAscending {w0 : World} {es : List En} {a : Option Addr} {n : Nat} (c : Nat) {w : World} (hr : ReadsE w0 a es) (hn : es.length = n) (hn4 : n ≤ 4) (hm : ∀ j, (es.getD j en0).Z.length ≤ 2097152) (hw : Below w0.heap.size w0 w) :
 Calls Tryz.prog 79 #[.slice a n c] w fun e w' => e = .returned (.bool (ascB es)) ∧ Below w.heap.size w w' := by
 have HW := hid hw
 have HN := hid hn
 have HRE := hid hr
 have HM := hid hm
 clear hw hn hr hm
 go_enter Tryz.func79, Tryz.ntmps79
 go_wp2_with fail
 go_loopw [3] (fun i wr => ∃ k : Nat, 1 ≤ k ∧ k ≤ n + 1 ∧ i = .int .i64 k ∧ Hid (∀ j, j < k → ascAt es j = true) ∧ Hid (Below w.heap.size w wr)) (fun i _ => n + 1 - (intOf i).toNat)
 case atStart => exact ⟨1, Nat.le_refl _, by omega, rfl, hid (fun j hj => by obtain rfl : j = 0 := (by omega); rfl), hid (Below.refl _ _)⟩
 case round =>
  obtain ⟨k, hk1, hk, rfl, HA, HB⟩ := hrel
  by_cases hlt : k < n
  · have hlt' : (k : Int) < (n : Int) := by omega
    have hk0 : (0 : Int) ≤ (k : Int) := by omega
    have h1' : (k : Int) - 1 < (n : Int) := by omega
    have h2' : (0 : Int) ≤ (k : Int) - 1 := by omega
    have h3' : ((k : Int) - 1).toNat = k - 1 := by omega
    have hwr : IntKind.i64.wrap ((k : Int) - 1) = ((k - 1 : Nat) : Int) := by rw [IntKind.wrap_i64]; omega
    have h1n : ((k - 1 : Nat) : Int) < (n : Int) := by omega
    have HAt := hid (show ascAt es k = ltE (es.getD (k - 1) en0) (es.getD k en0) by unfold ascAt; rw [decide_eq_false (by omega), Bool.false_or])
    obtain ⟨b, off, a1, c1, rfl, bx1, r1, _, _, f1⟩ := HRE.out.at (k := k - 1) (by rw [HN.out]; omega)
    obtain ⟨b', off', a2, c2, e2, bx2, r2, _, _, f2⟩ := HRE.out.at (k := k) (by rw [HN.out]; exact hlt)
    obtain ⟨rfl, rfl⟩ : b = b' ∧ off = off' := by simpa using e2
    have m1 := HM.out (k - 1)
    have m2 := HM.out k
    have HBW := hid (HW.out.trans (HB.out.mono HW.out.size))
    generalize es.getD (k - 1) en0 = x at *
    generalize es.getD k en0 = y at *
    have hst := fun w a m => run_store Tryz.prog w a (.float .f64 x.F) m rfl
    have hst' := fun w a m => run_store Tryz.prog w a (.float .f64 y.F) m rfl
    have BX1 := hid bx1
    have BX2 := hid bx2
    have RX1 := hid r1
    have RX2 := hid r2
    clear bx1 bx2 r1 r2 e2
    go_wp2_with fail
    have HKp := hid (show ∀ W', Below wr.heap.size wr W' → Hid (Below w0.heap.size w0 W') from fun W' b => hid (HBW.out.trans (b.mono HBW.out.size)))
    have BC := hid ((Still.drew wr).below wr.heap.size)
    refine region_K 99 (fun W => Hid (Below w0.heap.size w0 W)) (by kernel_rfl) ?_ (fun hHeld => ?_)
    · exact HKp.out _ BC.out
    generalize wr.drew = vd at *
    refine anyK_take2 (i := 0) (v := ?v1) rfl (by kernel_rfl) (by kernel_rfl) (by kernel_rfl) (by rfl) (fun _ _ _ h => h) (by rfl) hHeld ?hy1 (some 10) (by rfl) ?rest1
    case hy1 => (intro W hSw; have HbW : Hid (Below w0.heap.size w0 W) := hSw; go_simp; (try with_reducible rfl))
    try simp only [qP]
    refine anyK_take2 (i := 1) (v := ?v2) rfl (by kernel_rfl) (by kernel_rfl) (by kernel_rfl) (by rfl) (fun _ _ _ h => h) (by rfl) hHeld ?hy2 (some 11) (by rfl) ?rest2
    case hy2 => (intro W hSw; have HbW : Hid (Below w0.heap.size w0 W) := hSw; go_simp; (try with_reducible rfl))
    try simp only [qP]
    refine anyK_take2 (i := 2) (v := ?v3) rfl (by kernel_rfl) (by kernel_rfl) (by kernel_rfl) (by rfl) (fun _ _ _ h => h) (by rfl) hHeld ?hy3 (some 12) (by rfl) ?rest3
    case hy3 => (intro W hSw; have HbW : Hid (Below w0.heap.size w0 W) := hSw; go_simp; (try with_reducible rfl))
    try simp only [qP]
    refine anyK_take2 (i := 3) (v := ?v4) rfl (by kernel_rfl) (by kernel_rfl) (by kernel_rfl) (by rfl) (fun _ _ _ h => h) (by rfl) hHeld ?hy4 (some 13) (by rfl) ?rest4
    case hy4 => (intro W hSw; have HbW : Hid (Below w0.heap.size w0 W) := hSw; go_simp; (try with_reducible rfl))
    try simp only [qP]
    refine anyK_take2 (i := 4) (v := ?v5) rfl (by kernel_rfl) (by kernel_rfl) (by kernel_rfl) (by rfl) (fun _ _ _ h => h) (by rfl) hHeld ?hy5 (some 14) (by rfl) ?rest5
    case hy5 => (intro W hSw; have HbW : Hid (Below w0.heap.size w0 W) := hSw; obtain ⟨z0, z1, z2, z3, z4⟩ := BX1.out.below HbW.out qN; go_simp; (try with_reducible rfl))
    try simp only [qP]
    refine anyK_take2 (i := 5) (v := ?v6) rfl (by kernel_rfl) (by kernel_rfl) (by kernel_rfl) (by rfl) (fun _ _ _ h => h) (by rfl) hHeld ?hy6 (some 15) (by rfl) ?rest6
    case hy6 => (intro W hSw; have HbW : Hid (Below w0.heap.size w0 W) := hSw; go_simp; (try with_reducible rfl))
    try simp only [qP]
    refine anyK_take2 (i := 6) (v := ?v7) rfl (by kernel_rfl) (by kernel_rfl) (by kernel_rfl) (by rfl) (fun _ _ _ h => h) (by rfl) hHeld ?hy7 (some 16) (by rfl) ?rest7
    case hy7 => (intro W hSw; have HbW : Hid (Below w0.heap.size w0 W) := hSw; go_simp; (try with_reducible rfl))
    try simp only [qP]
    refine anyK_take2 (i := 7) (v := ?v8) rfl (by kernel_rfl) (by kernel_rfl) (by kernel_rfl) (by rfl) (fun _ _ _ h => h) (by rfl) hHeld ?hy8 (some 17) (by rfl) ?rest8
    case hy8 => (intro W hSw; have HbW : Hid (Below w0.heap.size w0 W) := hSw; go_simp; (try with_reducible rfl))
    try simp only [qP]
    refine anyK_take2 (i := 8) (v := ?v9) rfl (by kernel_rfl) (by kernel_rfl) (by kernel_rfl) (by rfl) (fun _ _ _ h => h) (by rfl) hHeld ?hy9 (some 18) (by rfl) ?rest9
    case hy9 => (intro W hSw; have HbW : Hid (Below w0.heap.size w0 W) := hSw; obtain ⟨z0, z1, z2, z3, z4⟩ := BX2.out.below HbW.out qN; go_simp; (try with_reducible rfl))
    try simp only [qP]
    refine qS 9 rfl fun KP hK => ?_
    go_simp
    refine (impl_notBelow x.K x.N x.F c1 x.id y.K y.N y.F c2 y.id f1 f2 (RX1.out.below (HKp.out _ BC.out).out qN) (RX2.out.below (HKp.out _ BC.out).out qN) m1 m2).mono ?_
    rintro e v1 ⟨rfl, b⟩
    replace BC := hid (BC.out.trans (b.mono BC.out.size))
    clear b
    replace HAt := hid (show ascAt es k = ltB (cmpI x.K x.N x.F x.Z.length x.Z y.K y.N y.F y.Z.length y.Z) x.id y.id from HAt.out)
    obtain ⟨LT, hLT⟩ : ∃ LT, ltB (cmpI x.K x.N x.F x.Z.length x.Z y.K y.N y.F y.Z.length y.Z) x.id y.id = LT := ⟨_, rfl⟩
    rw [hLT]
    rw [hLT] at HAt
    clear hLT
    go_wp2_with fail
    clear hHeld
    refine hK.out _ _ (HKp.out _ BC.out) (fun hHeld => ?_)
    clear hK KP
    try simp only [qP]
    refine anyK_done (by kernel_rfl) ?_ _
    clear hHeld
    replace HB := hid (HB.out.trans (BC.out.mono HB.out.size))
    cases LT with
    | false =>
     go_wp2_with fail
     go_ret
     refine ⟨?_, HB.out⟩
     have e0 : ascB es = false := List.all_eq_false.2 ⟨k, List.mem_range.2 (by rw [HN.out]; exact hlt), by rw [HAt.out]; simp⟩
     rw [e0]
     rfl
    | true =>
     go_wp2_with fail
     go_roundw
     case rel => exact ⟨k + 1, by omega, by omega, by go_num, hid (fun j hj => by by_cases e : j = k; exact e ▸ HAt.out; exact HA.out j (by omega)), HB⟩
     case measure => simp [intOf]; omega
  · have hlt' : ¬ (k : Int) < (n : Int) := by omega
    go_wp2_with fail
    go_ret
    refine ⟨?_, HB.out⟩
    have e0 : ascB es = true := List.all_eq_true.2 (fun j hj => HA.out j (by have := List.mem_range.1 hj; rw [HN.out] at this; omega))
    rw [e0]
    rfl
set_option maxHeartbeats 6400000 in
theorem impl_isInOrder {w0 : World} {ns : List Nd} (hm : ∀ i j, ((ns.getD i nd0).es.getD j en0).Z.length ≤ 2097152) : ∀ (f : Nat) (x : Int) (g : Nat) (lo hi : Option En) (vl vh : Value) (w : World) (l h : Nat), h ≤ w.heap.size → Below w0.heap.size w0 w → Lk w0 w ns l h f x g → PtrE w0 lo vl → PtrE w0 hi vh →
 Calls Tryz.prog 52 #[.pointer (some ⟨g, 0, none⟩), .agg #[vl, vh]] w fun e w' => e = .returned (.bool (ino ns f x lo hi)) ∧ Below w.heap.size w w'
 | 0, _, _, _, _, _, _, _, _, _, _, _, hk, _, _ => absurd hk (by simp [Lk])
 | f + 1, x, g, lo, hi, vl, vh, w, l, h, hh, hw, hk, hpl, hph => by
  have IH := hid (fun x g lo hi vl vh w a b c d e => impl_isInOrder (w0 := w0) (ns := ns) hm f x g lo hi vl vh w l h a b c d e)
  obtain ⟨h1, h2, h3, a, c, kv, gs, h4, h5, h6, h7, h8⟩ := hk
  have hv : ino ns (f + 1) x lo hi = (nodeOk lo hi (ns.getD x.toNat nd0).es && (List.range (ns.getD x.toNat nd0).ks.length).all (fun i => ino ns f ((ns.getD x.toNat nd0).ks.getD i 0) (lowAt (ns.getD x.toNat nd0).es lo i) (highAt (ns.getD x.toNat nd0).es hi i))) := by rw [ino]
  have HM := hid (hm x.toNat)
  generalize ns.getD x.toNat nd0 = d at *
  rw [nodeOk_of] at hv
  have HV := hid hv
  obtain ⟨ql, rfl⟩ := hpl.shape
  obtain ⟨qh, rfl⟩ := hph.shape
  have hB := Below.alloc1 w (.cells #[.pointer ql, .pointer qh] 107)
  have HR0 := hid (heap_alloc_new w (.cells #[.pointer ql, .pointer qh] 107))
  have hz := alloc_size w (.cells #[.pointer ql, .pointer qh] 107)
  obtain ⟨ka, kc, rfl⟩ := own_sl h7.own
  obtain ⟨n, hn⟩ : ∃ n, d.es.length = n := ⟨_, rfl⟩
  obtain ⟨q, hq⟩ : ∃ q, gs.length = q := ⟨_, rfl⟩
  rw [hn, hq] at h4
  have hn4 : n ≤ 4 := by
   cases hl : d.leaf with
   | true => have := form_leaf h3 hl; omega
   | false => have := form_kids h3 hl; omega
  have hqn : ∀ k, k < q → k ≤ n := fun k hk => by
   cases hl : d.leaf with
   | true => have := form_leaf h3 hl; omega
   | false => have := form_kids h3 hl; omega
  have hq5 : q ≤ 5 := by
   cases hl : d.leaf with
   | true => have := form_leaf h3 hl; omega
   | false => have := form_kids h3 hl; omega
  have HQN := hid hqn
  have HN := hid hn
  have HQ := hid hq
  have HQK := hid h6
  have HG := hid h4
  have HRE := hid h5
  have HK7 := hid h7
  have H8 := hid h8
  have HL := hid hpl
  have HH := hid hph
  have HW := hid hw
  have HB := hid hB
  have HGz := hid (show g < w.heap.size ∧ w.heap.size < (w.alloc (.cells #[.pointer ql, .pointer qh] 107)).heap.size ∧ h ≤ w.heap.size by omega)
  clear h1 h2 h3 h4 h5 h6 h7 h8 hv hpl hph hw hB hz hn hq hqn hh
  go_enter Tryz.func52, Tryz.ntmps52
  go_wp2_with fail
  generalize w.alloc (.cells #[.pointer ql, .pointer qh] 107) = V at *
  obtain ⟨p0, hp0⟩ : ∃ p0, w.heap.size = p0 := ⟨_, rfl⟩
  have HP0 := hid hp0
  rw [hp0] at HR0
  try simp only [hp0]
  clear hp0
  have HKq := hid (show ∀ W', Below V.heap.size V W' → W'.heap[p0]? = some (.cells #[.pointer ql, .pointer qh] 107) ∧ W'.heap[g]? = some (.cells #[.int .i64 x, .bool d.leaf, .slice a n c, .slice ka q kc] 112) ∧ Below w0.heap.size w0 W' ∧ Below w.heap.size w W' from fun W' b => by
   have z1 := HGz.out
   have z2 := HP0.out
   have bw := HB.out.trans (b.mono HB.out.size)
   exact ⟨(b.block p0 (by omega)).trans HR0.out, (bw.block g (by omega)).trans HG.out, HW.out.trans (bw.mono HW.out.size), bw⟩)
  have HKp := hid (show ∀ W', Below V.heap.size V W' → (W'.cell? ⟨p0, 0, none⟩ = some (.pointer ql) ∧ W'.cell? ⟨p0, 1, none⟩ = some (.pointer qh)) ∧ W'.cell? ⟨g, 2, none⟩ = some (.slice a n c) from fun W' b => by
   obtain ⟨r1, r2, _⟩ := HKq.out W' b
   exact ⟨⟨qC r1, qC r1⟩, qC r2⟩)
  have BC := hid ((Still.drew V).below V.heap.size)
  refine region_K 99 (fun W => (W.cell? ⟨p0, 0, none⟩ = some (.pointer ql) ∧ W.cell? ⟨p0, 1, none⟩ = some (.pointer qh)) ∧ W.cell? ⟨g, 2, none⟩ = some (.slice a n c)) (by kernel_rfl) ?_ (fun hHeld => ?_)
  · exact HKp.out _ BC.out
  generalize V.drew = vd at *
  refine qT 0 rfl hHeld 7 rfl ?_
  refine qT 1 rfl hHeld 8 rfl ?_
  refine qT 2 rfl hHeld 9 rfl ?_
  refine qT 3 rfl hHeld 10 rfl ?_
  refine qT 4 rfl hHeld 11 rfl ?_
  refine qT 5 rfl hHeld 12 rfl ?_
  refine qT 7 rfl hHeld 14 rfl ?_
  refine qT 8 rfl hHeld 15 rfl ?_
  refine qT 9 rfl hHeld 16 rfl ?_
  refine qT 10 rfl hHeld 17 rfl ?_
  refine qT 11 rfl hHeld 18 rfl ?_
  refine qS 6 rfl fun KP hK => ?_
  go_simp
  refine (impl_count HL.out HH.out c HRE.out HN.out hn4 HM.out (HKq.out _ BC.out).2.2.1).mono ?_
  rintro e v1 ⟨rfl, b⟩
  replace BC := hid (BC.out.trans (b.mono BC.out.size))
  clear b
  have hle : d.es.countP (hasB lo hi) ≤ n := by rw [← HN.out]; exact List.countP_le_length
  rw [HN.out] at HV
  obtain ⟨m, hmm⟩ : ∃ m, d.es.countP (hasB lo hi) = m := ⟨_, rfl⟩
  rw [hmm]
  rw [hmm] at HV hle
  clear hmm
  go_wp2_with fail
  clear hHeld
  refine hK.out _ _ (HKp.out _ BC.out) (fun hHeld => ?_)
  clear hK KP
  try simp only [qP]
  by_cases hmn : m = n
  · subst hmn
    rw [decide_eq_true rfl, Bool.true_and] at HV
    refine qT 12 rfl hHeld 19 rfl ?_
    refine qT 13 rfl hHeld 20 rfl ?_
    refine qT 14 rfl hHeld 21 rfl ?_
    refine qT 15 rfl hHeld 22 rfl ?_
    refine qT 16 rfl hHeld 23 rfl ?_
    refine qT 17 rfl hHeld 24 rfl ?_
    refine qS 18 rfl fun KP hK => ?_
    go_simp
    refine (impl_isAscending c HRE.out HN.out hn4 HM.out (HKq.out _ BC.out).2.2.1).mono ?_
    rintro e v2 ⟨rfl, b⟩
    replace BC := hid (BC.out.trans (b.mono BC.out.size))
    clear b
    generalize ascB d.es = AB at *
    go_wp2_with fail
    clear hHeld
    refine hK.out _ _ (HKp.out _ BC.out) (fun hHeld => ?_)
    clear hK KP
    try simp only [qP]
    cases AB with
    | false =>
     refine qT 19 rfl hHeld 26 rfl ?_
     refine qT 20 rfl hHeld 27 rfl ?_
     refine anyK_done (by kernel_rfl) ?_ _
     clear hHeld
     rw [Bool.false_and] at HV
     have HBE := hid (HKq.out _ BC.out).2.2.2
     go_wp2_with fail
     go_ret
     exact ⟨by rw [HV.out]; rfl, HBE.out⟩
    | true =>
     refine qT 19 rfl hHeld 26 rfl ?_
     refine qT 20 rfl hHeld 27 rfl ?_
     refine anyK_done (by kernel_rfl) ?_ _
     clear hHeld
     rw [Bool.true_and] at HV
     have k3 : v2.cell? ⟨g, 3, none⟩ = some (.slice ka q kc) := by rw [cell_of_row _ _ _ _ _ _ (HKq.out _ BC.out).2.1]; rfl
     go_wp2_with fail
     go_loopw [33] (fun i wr => ∃ k : Nat, k ≤ q ∧ i = .int .i64 k ∧ Hid (∀ j, j < k → ino ns f (d.ks.getD j 0) (lowAt d.es lo j) (highAt d.es hi j) = true) ∧ Hid (Below V.heap.size V wr)) (fun i _ => q - (intOf i).toNat)
     case atStart => exact ⟨0, Nat.zero_le _, rfl, hid (fun j hj => by omega), BC⟩
     case round =>
      obtain ⟨k, hk, rfl, HA, HS⟩ := hrel
      by_cases hlt : k < q
      · have hlt' : (k : Int) < (q : Int) := by omega
        have hk0 : (0 : Int) ≤ (k : Int) := by omega
        obtain ⟨⟨x0, x1⟩, x2⟩ := HKp.out _ HS.out
        have HX2 := hid x2
        obtain ⟨kb, kc', e7, kb1, kb2, hc⟩ := HK7.out.at (by rw [HQ.out]; omega)
        obtain ⟨rfl, _, rfl⟩ := Value.slice.inj e7
        have HBw := hid (HKq.out _ HS.out).2.2.2
        have k5 := (HBw.out.cell (p := ⟨kb, k, none⟩) (by have := HGz.out; simp only; omega)).trans (hc k (by rw [HQ.out]; exact hlt))
        have HKid := hid (H8.out k (by rw [HQ.out]; exact hlt))
        clear hc e7
        go_wp2_with fail
        refine (impl_ofKid HL.out HH.out HRE.out HN.out hn4 HM.out HX2.out k (by omega) (HQN.out k hlt)).mono ?_
        rintro e w1 ⟨ul, uh, rfl, pl, ph, b⟩
        replace HBw := hid (HBw.out.trans (b.mono HBw.out.size))
        replace HS := hid (HS.out.trans (b.mono HS.out.size))
        have HPL := hid pl
        have HPH := hid ph
        clear b pl ph x0 x1 x2 k5
        go_wp2_with fail
        refine (IH.out _ _ _ _ _ _ _ (Nat.le_trans HGz.out.2.2 HBw.out.size) (HKq.out _ HS.out).2.2.1 (Lk.agree (Agree.below HBw.out HGz.out.2.2) f _ _ HKid.out) HPL.out HPH.out).mono ?_
        rintro e w2 ⟨rfl, b⟩
        replace HS := hid (HS.out.trans (b.mono HS.out.size))
        clear b
        have HIn := hid (show ∀ b, ino ns f (d.ks.getD k 0) (lowAt d.es lo k) (highAt d.es hi k) = b → ino ns f (d.ks.getD k 0) (lowAt d.es lo k) (highAt d.es hi k) = b from fun _ e => e)
        obtain ⟨X, hX⟩ : ∃ X, ino ns f (d.ks.getD k 0) (lowAt d.es lo k) (highAt d.es hi k) = X := ⟨_, rfl⟩
        rw [hX]
        have HX := hid hX
        clear hX HIn
        cases X with
        | false =>
         have HBE := hid (HKq.out _ HS.out).2.2.2
         go_wp2_with fail
         go_ret
         have e0 : (List.range d.ks.length).all (fun i => ino ns f (d.ks.getD i 0) (lowAt d.es lo i) (highAt d.es hi i)) = false := List.all_eq_false.2 ⟨k, List.mem_range.2 (by rw [← HQK.out, HQ.out]; exact hlt), by rw [HX.out]; simp⟩
         exact ⟨by rw [HV.out, e0]; rfl, HBE.out⟩
        | true =>
         go_wp2_with fail
         go_roundw
         case rel => exact ⟨k + 1, by omega, by go_num, hid (fun j hj => by by_cases e : j = k; exact e ▸ HX.out; exact HA.out j (by omega)), HS⟩
         case measure => simp [intOf]; omega
      · obtain rfl : k = q := by omega
        have HBE := hid (HKq.out _ HS.out).2.2.2
        go_wp2_with fail
        go_ret
        have e0 : (List.range d.ks.length).all (fun i => ino ns f (d.ks.getD i 0) (lowAt d.es lo i) (highAt d.es hi i)) = true := List.all_eq_true.2 (fun j hj => HA.out j (by have := List.mem_range.1 hj; rw [← HQK.out, HQ.out] at this; exact this))
        exact ⟨by rw [HV.out, e0]; rfl, HBE.out⟩
  · have hmb : ((m : Int) != (n : Int)) = true := by simp; omega
    rw [decide_eq_false hmn, Bool.false_and, Bool.false_and] at HV
    refine qT 12 rfl hHeld 19 rfl ?_
    refine qT 13 rfl hHeld 20 rfl ?_
    refine qK 14 rfl hHeld 21 rfl ?_
    refine qK 15 rfl hHeld 22 rfl ?_
    refine qK 16 rfl hHeld 23 rfl ?_
    refine qK 17 rfl hHeld 24 rfl ?_
    refine qK 18 rfl hHeld 25 rfl ?_
    refine qK 19 rfl hHeld 26 rfl ?_
    refine qT 20 rfl hHeld 27 rfl ?_
    refine anyK_done (by kernel_rfl) ?_ _
    clear hHeld
    have HBE := hid (HKq.out _ BC.out).2.2.2
    go_wp2_with fail
    go_ret
    exact ⟨by rw [HV.out]; rfl, HBE.out⟩
end Go.Proofs.YtlkoghdajpbffaaGreat
/- The program links nodes. Conditions: at most 300 nodes. -/


namespace Go.Proofs.YtlkoghdajpbffaaGreat
open Go.RowKit
set_option maxRecDepth 100000
theorem Tryz.infoPn : (Tryz.prog.info? 70).map (fun i => (i.zero, i.size, i.bytes)) = some (some (.pointer none), 1, 8) := by kernel_rfl
theorem Kept.of_grown {w w' : World} {row : Option Nat} (h : w.grownBy w' row) : Kept (fun b => some b = row) w w' := ⟨h.os, h.tape, h.output, h.size, fun k hk hx => h.block k hk hx⟩
structure NRow (w : World) (r N : Nat) (sd : List Bool) : Prop where
 ex : ∃ ps : List (Option Addr), ps.length = N ∧ w.heap[r]? = some (.cells (ps.map Value.pointer).toArray 70) ∧ ps.map (·.isSome) = sd
theorem NRow.len {w : World} {r N : Nat} {sd : List Bool} (h : NRow w r N sd) : sd.length = N := by
 obtain ⟨ps, h1, _, rfl⟩ := h.ex
 simpa using h1
theorem NRow.at {w : World} {r N : Nat} {sd : List Bool} (h : NRow w r N sd) {i : Nat} (hi : i < N) : ∃ o : Option Addr, w.cell? ⟨r, i, none⟩ = some (.pointer o) ∧ sd.getD i true = o.isSome := by
 obtain ⟨ps, h1, h2, rfl⟩ := h.ex
 have hi' : i < ps.length := by omega
 refine ⟨ps[i], ?_, ?_⟩
 · rw [cell_of_row _ _ _ _ _ _ h2]; simp [hi']
 · simp [List.getD, hi']
theorem foldM_bad (g : List Bool → Int → Option (List Bool)) (ks : List Int) (s s1 : List Bool) (k : Nat) (hk : k < ks.length) (h : (ks.take k).foldlM (fun s k => g s k) s = some s1) (hb : g s1 (ks.getD k 0) = none) : ks.foldlM (fun s k => g s k) s = none := by
 have e : ks = ks.take k ++ (ks.getD k 0 :: ks.drop (k + 1)) := by
  rw [List.getD_eq_getElem?_getD, List.getElem?_eq_getElem hk, Option.getD_some, ← List.drop_eq_getElem_cons hk, List.take_append_drop]
 rw [e, List.foldlM_append, h]
 simp only [Option.bind_eq_bind, Option.bind_some, List.foldlM_cons, hb, Option.bind_none]
theorem foldM_step (g : List Bool → Int → Option (List Bool)) (ks : List Int) (s s1 s2 : List Bool) (k : Nat) (hk : k < ks.length) (h : (ks.take k).foldlM (fun s k => g s k) s = some s1) (hb : g s1 (ks.getD k 0) = some s2) : (ks.take (k + 1)).foldlM (fun s k => g s k) s = some s2 := by
 have e : ks.take (k + 1) = ks.take k ++ [ks.getD k 0] := by
  rw [List.take_succ_eq_append_getElem hk, List.getD_eq_getElem?_getD, List.getElem?_eq_getElem hk, Option.getD_some]
 rw [e, List.foldlM_append, h]
 simp only [Option.bind_eq_bind, Option.bind_some, List.foldlM_cons, hb, List.foldlM_nil]
 rfl
end Go.Proofs.YtlkoghdajpbffaaGreat
/- Entries that were gathered, their texts in elder memory; the specification's walk over a tree in memory. No statement of its own; no conditions. -/




namespace Go.Proofs.YtlkoghdajpbffaaGreat
open Go.RowKit Go.Deep
set_option maxRecDepth 100000
structure ReadsX (w0 w : World) (ad : Option Addr) (es : List En) : Prop where
 cells : es.length = 0 ∨ ∃ b off, ad = some ⟨b, off, none⟩ ∧ ∀ i, i < es.length → ∃ x, Box5 w b (off + i * 5) (es.getD i en0).K (es.getD i en0).N (es.getD i en0).F x (es.getD i en0).id ∧ Row w0 x (es.getD i en0).Z ∧ (es.getD i en0).F < 18446744073709551616
theorem ReadsX.of {w0 w : World} {ad : Option Addr} {es : List En} (h : ReadsE w0 ad es) (hb : Below w0.heap.size w0 w) : ReadsX w0 w ad es := by
 refine ⟨?_⟩
 rcases h.cells with h0 | ⟨b, off, e, hc⟩
 · exact .inl h0
 · refine .inr ⟨b, off, e, fun i hi => ?_⟩
   obtain ⟨x, h1, h2, h3⟩ := hc i hi
   exact ⟨x, h1.below hb qN, h2, h3⟩
theorem ReadsX.rd {w0 w : World} {ad : Option Addr} {es : List En} (h : ReadsX w0 w ad es) (hb : Below w0.heap.size w0 w) : ReadsE w ad es := by
 refine ⟨?_⟩
 rcases h.cells with h0 | ⟨b, off, e, hc⟩
 · exact .inl h0
 · refine .inr ⟨b, off, e, fun i hi => ?_⟩
   obtain ⟨x, h1, h2, h3⟩ := hc i hi
   exact ⟨x, h1, h2.below hb qN, h3⟩
theorem cellsE_one : ∀ (es : List En) (xs : List Value), (∀ i, i < es.length → (xs.getD i nilS).oneCell' = true) → ∀ u ∈ cellsE es xs, u.oneCell' = true
 | [], xs, _, u, hu => by rw [cellsE_nil] at hu; cases hu
 | e :: es, [], _, u, hu => by unfold cellsE at hu; cases hu
 | e :: es, x :: xs, h, u, hu => by
  rw [cellsE_cons, List.mem_append] at hu
  rcases hu with hu | hu
  · simp only [cellsE1, List.mem_cons, List.not_mem_nil, or_false] at hu
    rcases hu with rfl | rfl | rfl | rfl | rfl
    · rfl
    · rfl
    · rfl
    · exact h 0 (by simp)
    · rfl
  · exact cellsE_one es xs (fun i hi => h (i + 1) (by simpa using hi)) u hu
theorem Row.one {w : World} {x : Value} {Z : List Int} (h : Row w x Z) : x.oneCell' = true := by
 obtain ⟨a, c, rfl, _⟩ := h
 rfl
theorem ReadsX.news {w0 w : World} {ad : Option Addr} {es : List En} (h : ReadsX w0 w ad es) : ∃ xs : List Value, xs.length = es.length ∧ (es.length = 0 ∨ ∃ p, ad = some p ∧ ∀ j u, (cellsE es xs)[j]? = some u → w.cell? (p.add j) = some u) ∧ (∀ i, i < es.length → Row w0 (xs.getD i nilS) (es.getD i en0).Z) ∧ (∀ i, (es.getD i en0).F < 18446744073709551616) := by
 rcases h.cells with h0 | ⟨b, off, e, hc⟩
 · obtain rfl := List.length_eq_zero_iff.1 h0
   exact ⟨[], rfl, .inl rfl, (fun i hi => by cases hi), (fun i => by simp [en0])⟩
 · haveI : Inhabited Value := ⟨nilS⟩
   obtain ⟨q, hq⟩ := choose_lt hc
   have hg : ∀ i, i < es.length → ((List.range es.length).map q).getD i nilS = q i := fun i hi => by simp [List.getD, hi]
   have hl : ((List.range es.length).map q).length = es.length := by simp
   refine ⟨(List.range es.length).map q, hl, .inr ⟨_, e, fun j u hj => ?_⟩, fun i hi => by rw [hg i hi]; exact (hq i hi).2.1, fun i => ?_⟩
   · have hjl : j < es.length * 5 := by
      rcases Nat.lt_or_ge j (es.length * 5) with hh | hh
      · exact hh
      · rw [List.getElem?_eq_none (by rw [cellsE_len _ _ hl]; exact hh)] at hj; cases hj
     obtain ⟨i, r, hr, rfl⟩ : ∃ i r, r < 5 ∧ j = i * 5 + r := ⟨j / 5, j % 5, by omega, by omega⟩
     have hi : i < es.length := by omega
     rw [cellsE_at es _ i r hl hi hr, hg i hi] at hj
     obtain ⟨bx, _, _⟩ := hq i hi
     have ea : (⟨b, off, none⟩ : Addr).add (i * 5 + r) = ⟨b, off + i * 5 + r, none⟩ := by simp [Addr.add, Nat.add_assoc]
     rw [ea]
     match r, hr, hj with
     | 0, _, hj => rw [← hj]; exact bx.c0
     | 1, _, hj => rw [← hj]; exact bx.c1
     | 2, _, hj => rw [← hj]; exact bx.c2
     | 3, _, hj => rw [← hj]; exact bx.c3
     | 4, _, hj => rw [← hj]; exact bx.c4
   · by_cases hi : i < es.length
     · exact (hq i hi).2.2
     · rw [List.getD_eq_getElem?_getD, List.getElem?_eq_none (Nat.le_of_not_lt hi)]; simp [en0]
structure AllR (w0 w : World) (lo : Nat) (v : Value) (es : List En) : Prop where
 own : ∃ xs : List Value, w.ownsRow lo 48 5 v es.length (cellsE es xs) ∧ xs.length = es.length ∧ ∀ i, i < es.length → Row w0 (xs.getD i nilS) (es.getD i en0).Z
 fl : ∀ i, (es.getD i en0).F < 18446744073709551616
theorem AllR.nil (w0 w : World) (lo : Nat) : AllR w0 w lo (.slice none 0 0) [] := ⟨⟨[], World.ownsRow_nil _ _ _ _, rfl, (fun i hi => by cases hi)⟩, fun i => by simp [en0]⟩
theorem AllR.lt {w0 w : World} {lo : Nat} {v : Value} {es : List En} (h : AllR w0 w lo v es) : ∀ g, v.ownBlock = some g → lo ≤ g ∧ g < w.heap.size := by
 obtain ⟨xs, o, _⟩ := h.own
 exact o.lt
theorem AllR.keep {w0 w w' : World} {lo : Nat} {v : Value} {es : List En} (h : AllR w0 w lo v es) (hb : ∀ g, v.ownBlock = some g → w'.heap[g]? = w.heap[g]?) : AllR w0 w' lo v es := by
 obtain ⟨xs, o, hl, hr⟩ := h.own
 refine ⟨⟨xs, ?_, hl, hr⟩, h.fl⟩
 cases e : v.ownBlock with
 | none => exact owns_agree (lo := 0) (hi := 0) o (fun k _ k2 => by omega) (fun g hg => by rw [e] at hg; cases hg)
 | some g =>
  refine owns_agree (lo := g) (hi := g + 1) o (fun k k1 k2 => ?_) (fun g' hg => by rw [e] at hg; cases hg; omega)
  obtain rfl : k = g := by omega
  exact hb k e
theorem AllR.slice {w0 w : World} {lo : Nat} {v : Value} {es : List En} (h : AllR w0 w lo v es) : ∃ a c, v = .slice a es.length c := by
 obtain ⟨xs, o, _⟩ := h.own
 exact own_sl o
theorem AllR.rx {w0 w : World} {lo : Nat} {a : Option Addr} {n c : Nat} {es : List En} (h : AllR w0 w lo (.slice a n c) es) : ReadsX w0 w a es := by
 obtain ⟨xs, o, hxl, hr⟩ := h.own
 rcases o.2 with ⟨e, h0⟩ | ⟨g, cap, cur, e, _⟩
 · cases e; exact ⟨.inl h0⟩
 · cases e
   refine ⟨.inr ⟨g, 0, rfl, fun i hi => ⟨xs.getD i nilS, ?_, hr i hi, h.fl i⟩⟩⟩
   have hc := fun j (hj : j < 5) => (o.cellAt (i * 5 + j) (by omega)).trans (cellsE_at es xs i j hxl hi hj)
   rw [Nat.zero_add]
   exact ⟨hc 0 (by omega), hc 1 (by omega), hc 2 (by omega), hc 3 (by omega), hc 4 (by omega)⟩
theorem run_append_none_any {w : World} (base : Nat) (t ty e : TypeId) (i : TypeInfo) (size : Nat) (ht : Tryz.prog.underlying t = some (.slice e)) (hi : Tryz.prog.info? e = some i)
 (v : Value) (n : Nat) (xs : List Value) (hown : w.ownsRow base e size v n xs) (c : Nat) :
 (Builtin.append_ #[t, t] ty #[v, .slice none 0 c]).run Tryz.prog w = .ok v w := by
 rcases hown.2 with ⟨rfl, rfl⟩ | ⟨g, cap, cur, rfl, _, _, hnc, _⟩
 · simp [Builtin.append_, run_underlying ht, sizeOf, typeInfo, hi, Builtin.lenOf, Builtin.firstCells]
 · simp [Builtin.append_, run_underlying ht, sizeOf, typeInfo, hi, Builtin.lenOf, Builtin.firstCells, hnc, storeCells]
theorem AllR.app {w0 w' : World} {lo : Nat} {v : Value} {es fs : List En} {xs ys : List Value} (hx : xs.length = es.length) (hy : ys.length = fs.length) (rx : ∀ i, i < es.length → Row w0 (xs.getD i nilS) (es.getD i en0).Z) (ry : ∀ i, i < fs.length → Row w0 (ys.getD i nilS) (fs.getD i en0).Z)
 (fx : ∀ i, (es.getD i en0).F < 18446744073709551616) (fy : ∀ i, (fs.getD i en0).F < 18446744073709551616) (o : w'.ownsRow lo 48 5 v (es.length + fs.length) (cellsE es xs ++ cellsE fs ys)) : AllR w0 w' lo v (es ++ fs) := by
 refine ⟨⟨xs ++ ys, ?_, by simp [hx, hy], fun i hi => ?_⟩, fun i => ?_⟩
 · rw [List.length_append, cellsE_app es fs xs ys hx]; exact o
 · rw [List.length_append] at hi
   rw [getD_app, getD_app, hx]
   by_cases q : i < es.length
   · rw [if_pos q, if_pos q]; exact rx i q
   · rw [if_neg q, if_neg q]; exact ry _ (by omega)
 · rw [getD_app]
   split
   · exact fx i
   · exact fy _
theorem run_append_X {w0 w : World} {lo : Nat} {v : Value} {es fs : List En} (t ty : TypeId) (ht : Tryz.prog.underlying t = some (.slice 48)) (h : AllR w0 w lo v es) {ad : Option Addr} (c : Nat) (hx : ReadsX w0 w ad fs) (hb : es.length + fs.length ≤ 100000000) (hlo : lo ≤ w.heap.size) :
 ∃ a' cap w', (Builtin.append_ #[t, t] ty #[v, .slice ad fs.length c]).run Tryz.prog w = .ok (.slice a' (es.length + fs.length) cap) w' ∧ AllR w0 w' lo (.slice a' (es.length + fs.length) cap) (es ++ fs) ∧ w.grownBy w' v.ownBlock ∧ ((Value.slice a' (es.length + fs.length) cap).ownBlock = v.ownBlock ∨ (Value.slice a' (es.length + fs.length) cap).ownBlock = some w.heap.size) := by
 obtain ⟨xs, o, hl, hr⟩ := h.own
 obtain ⟨ys, hyl, hy, hyr, hyf⟩ := hx.news
 obtain ⟨i0, hi, hz0, hz1, hz2⟩ := info_parts Tryz.infoEn
 cases ad with
 | none =>
  have h0 : fs.length = 0 := by
   rcases hy with q | ⟨p, q, _⟩
   · exact q
   · cases q
  obtain rfl := List.length_eq_zero_iff.1 h0
  obtain ⟨a', c', rfl⟩ := own_sl o
  refine ⟨a', c', w, ?_, by simpa using h, grown_refl _ _, .inl rfl⟩
  exact run_append_none_any lo t ty 48 i0 5 ht hi _ es.length (cellsE es xs) o c
 | some p =>
  obtain ⟨v', w', hr', h2, h3, _, h5⟩ := run_append_own_at (P := Tryz.prog) w lo t ty 48 i0 _ 5 56 ht hi hz0 hz1 hz2 rfl (by decide) v es.length (cellsE es xs) o p fs.length c (cellsE fs ys) (cellsE_len fs ys hyl) (by
   rcases hy with q | ⟨p', q, hq⟩
   · obtain rfl := List.length_eq_zero_iff.1 q
     intro j u hj
     rw [cellsE_nil] at hj
     cases hj
   · cases q; exact hq) (cellsE_one fs ys (fun i hi => (hyr i hi).one)) (by unfold maxLen; omega) (by omega) hlo
  obtain ⟨a', c', rfl⟩ := own_sl h2
  exact ⟨a', c', w', hr', AllR.app hl hyl hr hyr h.fl hyf h2, h3, h5⟩
section
variable {ops : Array Oper} {o : Oper} {a : Act} {K : Act → World → Prop} {Q : Exit → Act → World → Prop} {E : Prop} {w0 w : World} {lo : Nat} {v : Value} {es fs : List En} {ad : Option Addr} {m : Nat}
theorem wp_append_X (s x : Operand) (t : TypeId) (ho : o.op = .call { callee := .builtin .append, args := #[s, x], argTypes := #[t, t] }) (ht : Tryz.prog.underlying t = some (.slice 48)) (h : AllR w0 w lo v es) (hs : a.eval s = v) (c : Nat) (hx : a.eval x = .slice ad m c) (hm : fs.length = m) (hX : ReadsX w0 w ad fs) (hb : es.length + fs.length ≤ 100000000) (hlo : lo ≤ w.heap.size)
 (hh : ∀ a' n' cap w', n' = es.length + m → AllR w0 w' lo (.slice a' n' cap) (es ++ fs) → w.grownBy w' v.ownBlock → ((Value.slice a' n' cap).ownBlock = v.ownBlock ∨ (Value.slice a' n' cap).ownBlock = some w.heap.size) → K (a.put o.dst (.slice a' n' cap)) w') : o.wp Tryz.prog a w K Q := by
 subst hm
 obtain ⟨a', cap, w', hr, h2, h3, h4⟩ := run_append_X t o.type ht h c hX hb hlo
 unfold Oper.wp execOp
 simp only [ho, resolve, invoke, builtin, Sem.run_bind, Sem.run_pure, Result.andThen_ok, List.map_toArray, List.map_cons, List.map_nil, hs, hx, hr]
 exact hh a' _ cap w' rfl h2 h3 h4
theorem step_append_X (hgd : o.guard = none) (s x : Operand) (t : TypeId) (ho : o.op = .call { callee := .builtin .append, args := #[s, x], argTypes := #[t, t] }) (ht : Tryz.prog.underlying t = some (.slice 48)) (h : AllR w0 w lo v es) (hs : a.eval s = v) (c : Nat) (hx : a.eval x = .slice ad m c) (hm : fs.length = m) (hX : ReadsX w0 w ad fs) (hb : es.length + fs.length ≤ 100000000) (hlo : lo ≤ w.heap.size)
 (hh : ∀ a' n' cap w', n' = es.length + m → AllR w0 w' lo (.slice a' n' cap) (es ++ fs) → w.grownBy w' v.ownBlock → ((Value.slice a' n' cap).ownBlock = v.ownBlock ∨ (Value.slice a' n' cap).ownBlock = some w.heap.size) → K (a.put o.dst (.slice a' n' cap)) w') :
 if Region.wanted o (yielded ops a.tmps) = true then Oper.wp Tryz.prog o a w K Q else E := by
 have hw : Region.wanted o (yielded ops a.tmps) = true := by simp [Region.wanted, hgd]
 rw [if_pos hw]
 exact wp_append_X s x t ho ht h hs c hx hm hX hb hlo hh
end
structure Step (p r : Nat) (w : World) (av : Value) (w' : World) (av' : Value) : Prop where
 kept : Kept (fun b => b = p ∨ b = r ∨ av.ownBlock = some b) w w'
 own : av'.ownBlock = av.ownBlock ∨ ∀ b, av'.ownBlock = some b → w.heap.size ≤ b
section
variable {p r : Nat} {w w1 w2 : World} {av av1 av2 : Value}
theorem Step.refl (p r : Nat) (w : World) (av : Value) : Step p r w av w av := ⟨Kept.refl _ _, .inl rfl⟩
theorem Step.trans (h : Step p r w av w1 av1) (k : Step p r w1 av1 w2 av2) : Step p r w av w2 av2 := by
 refine ⟨h.kept.trans k.kept (fun i hi hx => ?_), ?_⟩
 · rcases hx with e | e | e
   · exact .inl e
   · exact .inr (.inl e)
   · rcases h.own with q | q
     · exact .inr (.inr (q ▸ e))
     · exact absurd (q i e) (by omega)
 · rcases k.own with q | q
   · rcases h.own with q' | q'
     · exact .inl (q.trans q')
     · exact .inr (fun b hb => q' b (q ▸ hb))
   · exact .inr (fun b hb => Nat.le_trans h.kept.size (q b hb))
theorem Step.of_below (p r : Nat) (av : Value) (h : Below w.heap.size w w1) : Step p r w av w1 av := ⟨Kept.of_below h, .inl rfl⟩
theorem Step.set_p (p r : Nat) (w : World) (av : Value) (o : Nat) (u : Value) : Step p r w av (w.setCell ⟨p, o, none⟩ u) av := ⟨Kept.set w (p := ⟨p, o, none⟩) (.inl rfl) u, .inl rfl⟩
theorem Step.set_r (p r : Nat) (w : World) (av : Value) (o : Nat) (u : Value) : Step p r w av (w.setCell ⟨r, o, none⟩ u) av := ⟨Kept.set w (p := ⟨r, o, none⟩) (.inr (.inl rfl)) u, .inl rfl⟩
theorem Step.grown (p r : Nat) (g : w.grownBy w1 av.ownBlock) (h : av1.ownBlock = av.ownBlock ∨ av1.ownBlock = some w.heap.size) : Step p r w av w1 av1 := by
 refine ⟨(Kept.of_grown g).mono (fun k _ e => .inr (.inr e.symm)), ?_⟩
 rcases h with q | q
 · exact .inl q
 · exact .inr (fun b hb => by rw [q] at hb; exact Nat.le_of_eq (Option.some.inj hb))
theorem Step.below (h : Step p r w av w1 av1) {B : Nat} (hB : B ≤ w.heap.size) (hp : B ≤ p) (hr : B ≤ r) (hv : ∀ b, av.ownBlock = some b → B ≤ b) : Below B w w1 :=
 h.kept.below hB (fun k hk hx => by
  rcases hx with e | e | e
  · omega
  · omega
  · have := hv k e; omega)
theorem Step.block (h : Step p r w av w1 av1) {k : Nat} (hk : k < w.heap.size) (h1 : k ≠ p) (h2 : k ≠ r) (h3 : av.ownBlock ≠ some k) : w1.heap[k]? = w.heap[k]? := h.kept.block k hk (fun hx => by
 rcases hx with e | e | e
 · exact h1 e
 · exact h2 e
 · exact h3 e)
end
structure WK (w0 w : World) (p r N lo : Nat) (st : St) (av : Value) : Prop where
 box : w.heap[p]? = some (.cells #[.slice (some ⟨r, 0, none⟩) N N, .int .i64 st.deep, .bool st.wrong, av] 95)
 row : w.heap[r]? = some (.cells (st.seen.map Value.bool).toArray 4)
 len : st.seen.length = N
 all : AllR w0 w lo av st.all
 ne : ∀ b, av.ownBlock = some b → b ≠ p ∧ b ≠ r
 pr : p ≠ r
section
variable {w0 w w' : World} {p r N lo : Nat} {st : St} {av : Value}
theorem blk_lt {w : World} {k : Nat} {o : Obj} (h : w.heap[k]? = some o) : k < w.heap.size := by
 rcases Nat.lt_or_ge k w.heap.size with q | q
 · exact q
 · rw [Array.getElem?_eq_none q] at h; cases h
theorem WK.keep (h : WK w0 w p r N lo st av) (hp : w'.heap[p]? = w.heap[p]?) (hr : w'.heap[r]? = w.heap[r]?) (hb : ∀ g, av.ownBlock = some g → w'.heap[g]? = w.heap[g]?) : WK w0 w' p r N lo st av :=
 ⟨hp.trans h.box, hr.trans h.row, h.len, h.all.keep hb, h.ne, h.pr⟩
theorem WK.below (h : WK w0 w p r N lo st av) (hb : Below w.heap.size w w') : WK w0 w' p r N lo st av :=
 h.keep (hb.block p (blk_lt h.box)) (hb.block r (blk_lt h.row)) (fun g hg => hb.block g (h.all.lt g hg).2)
theorem WK.bad (h : WK w0 w p r N lo st av) : WK w0 (w.setCell ⟨p, 2, none⟩ (.bool true)) p r N lo st.bad av :=
 ⟨by rw [heap_setCell_same _ _ _ _ _ _ h.box]; rfl, (heap_set_ne _ p 2 r _ (fun e => h.pr e.symm)).trans h.row, h.len, h.all.keep (fun g hg => heap_set_ne _ p 2 g _ (h.ne g hg).1), h.ne, h.pr⟩
theorem WK.deeper (h : WK w0 w p r N lo st av) (d : Int) : WK w0 (w.setCell ⟨p, 1, none⟩ (.int .i64 d)) p r N lo { st with deep := d } av :=
 ⟨by rw [heap_setCell_same _ _ _ _ _ _ h.box]; rfl, (heap_set_ne _ p 1 r _ (fun e => h.pr e.symm)).trans h.row, h.len, h.all.keep (fun g hg => heap_set_ne _ p 1 g _ (h.ne g hg).1), h.ne, h.pr⟩
theorem WK.see (h : WK w0 w p r N lo st av) (k : Nat) : WK w0 (w.setCell ⟨r, k, none⟩ (.bool true)) p r N lo ⟨st.seen.set k true, st.deep, st.wrong, st.all⟩ av := by
 refine ⟨(heap_set_ne _ r k p _ h.pr).trans h.box, ?_, by simpa using h.len, h.all.keep (fun g hg => heap_set_ne _ r k g _ (h.ne g hg).2), h.ne, h.pr⟩
 rw [heap_setCell_same _ _ _ _ _ _ h.row]
 simp [List.map_set]
theorem WK.push {w1 : World} {av' : Value} {fs : List En} (h : WK w0 w p r N lo st av) (g : w.grownBy w1 av.ownBlock) (o : AllR w0 w1 lo av' (st.all ++ fs)) (hn : av'.ownBlock = av.ownBlock ∨ av'.ownBlock = some w.heap.size) : WK w0 (w1.setCell ⟨p, 3, none⟩ av') p r N lo { st with all := st.all ++ fs } av' := by
 have hp := blk_lt h.box
 have hr := blk_lt h.row
 have ne' : ∀ b, av'.ownBlock = some b → b ≠ p ∧ b ≠ r := fun b hb => by
  rcases hn with q | q
  · exact h.ne b (q ▸ hb)
  · rw [q] at hb
    have := Option.some.inj hb
    omega
 have b1 : w1.heap[p]? = some (.cells #[.slice (some ⟨r, 0, none⟩) N N, .int .i64 st.deep, .bool st.wrong, av] 95) := (g.block p hp (fun e => (h.ne p e.symm).1 rfl)).trans h.box
 have r1 := (g.block r hr (fun e => (h.ne r e.symm).2 rfl)).trans h.row
 exact ⟨by rw [heap_setCell_same _ _ _ _ _ _ b1]; rfl, (heap_set_ne _ p 3 r _ (fun e => h.pr e.symm)).trans r1, h.len, o.keep (fun g hg => heap_set_ne _ p 3 g _ (ne' g hg).1), ne', h.pr⟩
theorem WK.seen_at (h : WK w0 w p r N lo st av) {k : Nat} (hk : k < N) : w.cell? ⟨r, k, none⟩ = some (.bool (st.seen.getD k true)) := by
 have hk' : k < st.seen.length := by rw [h.len]; exact hk
 rw [cell_of_row _ _ _ _ _ _ h.row]
 simp [hk', List.getD]
end
def SlE (w0 w : World) : Option En → Value → Prop
 | none, v => v = .slice none 0 0
 | some e, v => ∃ b c a cc, v = .slice (some ⟨b, 0, none⟩) 1 c ∧ Box5 w b 0 e.K e.N e.F (.slice a e.Z.length cc) e.id ∧ Reads w0 a e.Z.length e.Z ∧ e.F < 18446744073709551616 ∧ e.Z.length ≤ 2097152
theorem SlE.keep {w0 w w' : World} : ∀ {o : Option En} {v : Value}, SlE w0 w o v → (∀ b, v.ownBlock = some b → w'.heap[b]? = w.heap[b]?) → SlE w0 w' o v
 | none, _, h, _ => h
 | some e, v, ⟨b, c, a, cc, h1, h2, h3⟩, hb => by
  subst h1
  exact ⟨b, c, a, cc, rfl, h2.agree (hb b rfl), h3⟩
theorem SlE.lt {w0 w : World} : ∀ {o : Option En} {v : Value}, SlE w0 w o v → ∀ b, v.ownBlock = some b → b < w.heap.size
 | none, _, h, b, hb => by rw [show _ = Value.slice none 0 0 from h] at hb; cases hb
 | some e, v, ⟨b', c, a, cc, h1, h2, _⟩, b, hb => by
  subst h1
  obtain rfl : b' = b := Option.some.inj hb
  exact h2.lt
def Side (p r : Nat) (av v : Value) : Prop := ∀ b, v.ownBlock = some b → b ≠ p ∧ b ≠ r ∧ av.ownBlock ≠ some b
theorem Side.step {p r : Nat} {w w1 : World} {av av1 v : Value} (h : Side p r av v) (k : Step p r w av w1 av1) (hl : ∀ b, v.ownBlock = some b → b < w.heap.size) : Side p r av1 v := fun b hb => by
 obtain ⟨h1, h2, h3⟩ := h b hb
 refine ⟨h1, h2, fun e => ?_⟩
 rcases k.own with q | q
 · exact h3 (q ▸ e)
 · have := q b e; have := hl b hb; omega
theorem SlE.step {w0 w w1 : World} {p r : Nat} {av av1 : Value} {o : Option En} {v : Value} (h : SlE w0 w o v) (hs : Side p r av v) (k : Step p r w av w1 av1) : SlE w0 w1 o v :=
 h.keep (fun b hb => k.block (h.lt b hb) (hs b hb).1 (hs b hb).2.1 (hs b hb).2.2)
end Go.Proofs.YtlkoghdajpbffaaGreat
