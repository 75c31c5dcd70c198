/- FnExactTreeAdd's walk. Conditions: none but what the arguments' types say. -/
import Derived.Test.YtlkoghdajpbffaaGreatMgt
import Derived.Test.YtlkoghdajpbffaaGreatMgo
import Derived.Test.YtlkoghdajpbffaaGreatKw11
import Derived.Test.YtlkoghdajpbffaaGreatMge
import Derived.Test.YtlkoghdajpbffaaGreatMgr
import Derived.Deep.RegionHeld3
namespace Go.Proofs.YtlkoghdajpbffaaGreat
open Go.RowKit
set_option maxRecDepth 100000
structure SpecAdd (addT : List Nd → Int → En → List Nd × Int × Bool) : Prop where
 ok : ∀ {ad : Option Addr} {N : Nat} (cap : Nat) (root : Int) {ns : List Nd} (KQ NQ : Int) (FQ : Nat) {aq : Option Addr} {zq : Nat} (cq : Nat) (iq : Int) {ZQ : List Int} {w : World} (_ : ReadsD w ad ns) (_ : ns.length = N) (_ : ∀ i j, ((ns.getD i nd0).es.getD j en0).Z.length ≤ 2097152) (_ : KapD w ad N) (_ : CapD w ad N) (_ : EapD w ad N) (_ : aq = none → cq = 0) (_ : Reads w aq zq ZQ) (_ : ZQ.length = zq ∧ FQ < 18446744073709551616 ∧ zq ≤ 2097152) (_ : -9223372036854775808 ≤ iq ∧ iq ≤ 9223372036854775807),
  Calls Tryz.prog 6 #[.agg #[.slice ad N cap, .int .i64 root], .agg #[.int .i64 KQ, .int .i64 NQ, .float .f64 FQ, .slice aq zq cq], .int .i64 iq] w fun e w' => ∃ a c, e = .returned (.tuple #[.agg #[.slice a (addT ns root ⟨KQ, NQ, FQ, ZQ, iq⟩).1.length c, .int .i64 (addT ns root ⟨KQ, NQ, FQ, ZQ, iq⟩).2.1], .bool (addT ns root ⟨KQ, NQ, FQ, ZQ, iq⟩).2.2]) ∧ (∃ b ys, NsR w' b (.slice a (addT ns root ⟨KQ, NQ, FQ, ZQ, iq⟩).1.length c) (addT ns root ⟨KQ, NQ, FQ, ZQ, iq⟩).1 ys) ∧ Below w.heap.size w w'
structure ImplAdd (addT : List Nd → Int → En → List Nd × Int × Bool) : Prop where
 ok : ∀ {ad : Option Addr} {N : Nat} (cap : Nat) (root : Int) {ns : List Nd} (KQ NQ : Int) (FQ : Nat) {aq : Option Addr} {zq : Nat} (cq : Nat) (iq : Int) {ZQ : List Int} {w : World} (_ : ReadsD w ad ns) (_ : ns.length = N) (_ : ∀ i j, ((ns.getD i nd0).es.getD j en0).Z.length ≤ 2097152) (_ : KapD w ad N) (_ : CapD w ad N) (_ : EapD w ad N) (_ : aq = none → cq = 0) (_ : Reads w aq zq ZQ) (_ : ZQ.length = zq ∧ FQ < 18446744073709551616 ∧ zq ≤ 2097152) (_ : -9223372036854775808 ≤ iq ∧ iq ≤ 9223372036854775807),
  Calls Tryz.prog 9 #[.agg #[.slice ad N cap, .int .i64 root], .agg #[.int .i64 KQ, .int .i64 NQ, .float .f64 FQ, .slice aq zq cq], .int .i64 iq] w fun e w' => ∃ v, e = .returned (.tuple #[.agg #[v, .int .i64 (addT ns root ⟨KQ, NQ, FQ, ZQ, iq⟩).2.1], .bool (addT ns root ⟨KQ, NQ, FQ, ZQ, iq⟩).2.2]) ∧ OwnD w' w.heap.size w'.heap.size v (addT ns root ⟨KQ, NQ, FQ, ZQ, iq⟩).1 ∧ Below w.heap.size w w'
structure TrC (w : World) (g n : Nat) (ds : List Nd) : Prop where
 rd : ReadsD w (some ⟨g, 0, none⟩) ds
 cap : CapD w (some ⟨g, 0, none⟩) n ∧ KapD w (some ⟨g, 0, none⟩) n
 eap : EapD w (some ⟨g, 0, none⟩) n
 len : ds.length = n
theorem TrC.own {w : World} {lo hi g n c : Nat} {ds : List Nd} (o : OwnD w lo hi (.slice (some ⟨g, 0, none⟩) n c) ds) (hl : ds.length = n) : TrC w g n ds := by
 obtain ⟨ys, r⟩ := o.nsr
 exact ⟨o.rd, r.cap hl, r.eap hl, hl⟩
theorem TrC.below {w w' : World} {g n : Nat} {ds : List Nd} (h : TrC w g n ds) {B : Nat} (hb : Below B w w') (hB : w.heap.size ≤ B) : TrC w' g n ds :=
 ⟨h.rd.below hb hB, ⟨h.cap.1.below h.rd h.len (hb.mono hB), h.cap.2.below h.rd h.len (hb.mono hB)⟩, h.eap.below h.rd h.len (hb.mono hB), h.len⟩
set_option maxHeartbeats 51200000 in
theorem exactTreeAdd {addT : List Nd → Int → En → List Nd × Int × Bool} (hS : SpecAdd addT) (hI : ImplAdd addT) (hsm : ∀ ns root q, (addT ns root q).1.length ≤ 2097152 ∧ sumD szD (addT ns root q).1 ≤ 2097152) {a : Option Addr} {n : Nat} (c : Nat) (rt : Int) {ds : List Nd} (K1 N1 : Int) {f1 : Nat} {ka1 : Option Addr} {kn1 : Nat} (kc1 : Nat) {zs1 : List Int} (id : Int) {w : World} (h : ReadsD w a ds) (hl : ds.length = n) (hn0 : n ≤ maxLen) (hk1 : Reads w ka1 kn1 zs1) (hkn1 : kn1 ≤ maxLen) (hf1 : f1 < 18446744073709551616) (hib : -9223372036854775808 ≤ id ∧ id ≤ 9223372036854775807) :
 Calls Tryz.prog 3 #[.agg #[.slice a n c, .int .i64 rt], .agg #[.int .i64 K1, .int .i64 N1, .float .f64 f1, .slice ka1 kn1 kc1], .int .i64 id] w fun e w' => e = .returned (.bool true) ∧ Below w.heap.size w w' := by
 unfold maxLen at hn0 hkn1
 have HS := hid (show SpecAdd addT from hS)
 have HI := hid (show ImplAdd addT from hI)
 have HIb := hid hib
 clear hS hI hib
 obtain rfl : zs1.length = kn1 := hk1.len
 have hst1 := fun w a m => run_store Tryz.prog w a (.float .f64 f1) m rfl
 have Zbd1 := hid hk1.bd
 have z0 := alloc_size w (.cells #[.slice a n c, .int .i64 rt] 24)
 have z1 := alloc_size (w.alloc (.cells #[.slice a n c, .int .i64 rt] 24)) (.cells #[.int .i64 K1, .int .i64 N1, .float .f64 f1, .slice ka1 zs1.length kc1] 28)
 have bb0 := Below.alloc1 w (.cells #[.slice a n c, .int .i64 rt] 24)
 have bb1 := Below.alloc1 (w.alloc (.cells #[.slice a n c, .int .i64 rt] 24)) (.cells #[.int .i64 K1, .int .i64 N1, .float .f64 f1, .slice ka1 zs1.length kc1] 28)
 have HA0 := hid ((ArgTr.new n c rt h 24 w.heap.size rfl).below bb1 qN)
 have HK10 := hid (Arg.new K1 N1 f1 kc1 (hk1.below bb0 qN) 28 (w.heap.size + 1) (by omega))
 have HB0 := hid (show Below w.heap.size w ((w.alloc (.cells #[.slice a n c, .int .i64 rt] 24)).alloc (.cells #[.int .i64 K1, .int .i64 N1, .float .f64 f1, .slice ka1 zs1.length kc1] 28)) from bb0.trans (bb1.mono bb0.size))
 have S0 := hid (show ((w.alloc (.cells #[.slice a n c, .int .i64 rt] 24)).alloc (.cells #[.int .i64 K1, .int .i64 N1, .float .f64 f1, .slice ka1 zs1.length kc1] 28)).heap.size = w.heap.size + 2 by omega)
 have HA := HA0
 have HK1 := HK10
 clear h hk1 z0 bb0 z1 bb1
 go_enter Tryz.func3, Tryz.ntmps3
 have y0 := HA.out.box.c0
 have y1 := HA.out.box.c1
 go_wp2_with fail
 clear y0 y1
 generalize ((w.alloc (.cells #[.slice a n c, .int .i64 rt] 24)).alloc (.cells #[.int .i64 K1, .int .i64 N1, .float .f64 f1, .slice ka1 zs1.length kc1] 28)) = W0 at *
 have HC := hid (Below.refl W0.heap.size W0)
 refine (szTree c rt HA.out.reads hl (by omega) 1048576 (by omega) (by omega)).mono ?_
 rintro e w1 ⟨rfl, b⟩
 replace HA := hid (HA.out.below b qN)
 replace HK1 := hid (HK1.out.below b qN)
 replace HC := hid (HC.out.trans (b.mono HC.out.size))
 have S1 := hid (b.size)
 clear b
 by_cases hbig : (1048576 : Int) < (n + sumD szD ds : Nat)
 · rw [show lft11 1048576 (n + sumD szD ds) = -1 by unfold lft11; rw [if_pos hbig]]
   go_wp2_with fail
   go_ret
   exact ⟨rfl, HB0.out.trans (HC.out.mono HB0.out.size)⟩
 obtain ⟨LF0, hLF⟩ : ∃ LF : Int, (1048576 : Int) - (n + sumD szD ds : Nat) = LF := ⟨_, rfl⟩
 rw [show lft11 1048576 (n + sumD szD ds) = LF0 by unfold lft11; rw [if_neg hbig, hLF]]
 have hq0 : ¬ LF0 < 0 := by omega
 have hLF0 : LF0 ≤ 1048576 := by omega
 have hn : n ≤ 1048576 := by omega
 have hsz : sumD szD ds ≤ 1048576 := by omega
 have HTx := hid (show ∀ i j, ((ds.getD i nd0).es.getD j en0).Z.length ≤ 2097152 from fun i j => Nat.le_trans (texts_small hsz i j) (by omega))
 have hnm := sumD_nm ds
 rw [hl] at hnm
 clear hbig hLF
 obtain ⟨u00, u01, u02, u03⟩ := HK1.out.box
 go_wp2_with fail
 clear u00 u01 u02 u03
 refine (szItem K1 N1 f1 ka1 zs1.length kc1 LF0 (by omega) (by omega) hLF0 _).mono ?_
 rintro e w2 ⟨rfl, b⟩
 replace HA := hid (HA.out.below b qN)
 replace HK1 := hid (HK1.out.below b qN)
 replace HC := hid (HC.out.trans (b.mono HC.out.size))
 have S2 := hid (b.size)
 clear b
 by_cases hbig : LF0 < zs1.length
 · rw [if_pos hbig]
   go_wp2_with fail
   go_ret
   exact ⟨rfl, HB0.out.trans (HC.out.mono HB0.out.size)⟩
 rw [if_neg hbig]
 have hz1 : zs1.length ≤ 1048576 := by omega
 obtain ⟨LF1, hLF⟩ : ∃ LF : Int, LF0 - (zs1.length : Int) = LF := ⟨_, rfl⟩
 rw [hLF]
 have hq1 : ¬ LF1 < 0 := by omega
 have hLF1 : LF1 ≤ 1048576 := by omega
 clear hbig hLF
 go_wp2_with fail
 clear hq0 hLF0 hq1 hLF1
 have hAS := hsm ds rt (⟨K1, N1, f1, zs1, id⟩ : En)
 obtain ⟨⟨DS, RQ, BB⟩, hDT⟩ : ∃ DT, addT ds rt (⟨K1, N1, f1, zs1, id⟩ : En) = DT := ⟨_, rfl⟩
 rw [hDT] at hAS
 dsimp only at hAS
 have HDT := hid hDT
 obtain ⟨Nq, hNq⟩ : ∃ N, DS.length = N := ⟨_, rfl⟩
 rw [hNq] at hAS
 have HNq := hid hNq
 have hNq1 : Nq ≤ 2097152 := by omega
 have hsq : sumD szD DS ≤ 2097152 := by omega
 have hnq := sumD_nm DS
 rw [hNq] at hnq
 obtain ⟨M, hM⟩ : ∃ M : Int, 1 + (sumD nmD DS : Int) = M := ⟨_, rfl⟩
 have HM := hid hM
 have hMn : ¬ M < 0 := by omega
 have hMM : (M != M) = false := by simp
 have hob : (BB != BB) = false := by cases BB <;> rfl
 obtain ⟨KM, hKM⟩ : ∃ KM : Int, 1 + (sumD nmD ds : Int) = KM := ⟨_, rfl⟩
 have HKM := hid hKM
 have hKM0 : 0 ≤ KM := by omega
 have hKM1 : KM ≤ 10000000 := by omega
 have HLen := hid hl
 clear hDT hNq hM hKM hAS hnq
 go_cut [8, 9] (fun s8 s9 wx => ∃ (pQ : Nat) (aQ : Option Addr) (cQ : Nat), s8 = .pointer (some ⟨pQ, 0, none⟩) ∧ s9 = .bool BB ∧ Hid (BoxTr wx pQ (.slice aQ Nq cQ) RQ) ∧ Hid (ReadsD wx aQ DS) ∧ Hid (Below w2.heap.size w2 wx))
 case first =>
  have HAc := HA
  have HKc := HK1
  have HC := hid (Below.refl w2.heap.size w2)
  replace HA := hid (HA.out.below ((Still.drew w2).below _) qN)
  replace HK1 := hid (HK1.out.below ((Still.drew w2).below _) qN)
  replace HC := hid (HC.out.trans (((Still.drew w2).below _).mono HC.out.size))
  have S3 := hid ((Still.drew w2).size)
  refine region_K 99 (fun W => BoxTr W w.heap.size (.slice a n c) rt ∧ Box W (w.heap.size + 1) K1 N1 f1 ka1 zs1.length kc1) (by kernel_rfl) ?_ (fun hh => ?_)
  · exact ⟨HA.out.box, HK1.out.box⟩
  generalize w2.drew = v1x at *
  refine qT 0 rfl hh 30 rfl ?_ (by rintro W ⟨⟨r0, r1⟩, ⟨p10, p11, p12, p13⟩⟩; go_simp; try with_reducible rfl)
  refine qT 2 rfl hh 32 rfl ?_ (by rintro W ⟨⟨r0, r1⟩, ⟨p10, p11, p12, p13⟩⟩; go_simp; try with_reducible rfl)
  refine qT 4 rfl hh 34 rfl ?_ (by rintro W ⟨⟨r0, r1⟩, ⟨p10, p11, p12, p13⟩⟩; go_simp; try with_reducible rfl)
  refine anyK_two (i := 1) (j := 9) (by kernel_rfl) rfl rfl (fun KP hK => ?_) (fun KP hK => ?_)
  · skip
    go_simp
    refine (toTree c rt HA.out.reads hl (by omega) (by omega)).mono ?_
    rintro e w3 ⟨gp, rfl, o, b⟩
    replace HA := hid (HA.out.below b qN)
    replace HK1 := hid (HK1.out.below b qN)
    replace HC := hid (HC.out.trans (b.mono HC.out.size))
    have S4 := hid (b.size)
    clear b
    have PS := hid (TrC.own o hl)
    clear o
    go_wp2_with fail
    refine hK.out _ _ ?_ (fun hH2 => ?_)
    · exact ⟨HA.out.box, HK1.out.box⟩
    clear hK KP hh
    have hh := hH2
    clear hH2
    try simp only [qP]
    refine anyK_two (i := 3) (j := 9) (by kernel_rfl) rfl rfl (fun KP hK => ?_) (fun KP hK => ?_)
    · skip
      go_simp
      refine (toItem K1 N1 f1 kc1 HK1.out.reads (by omega)).mono ?_
      rintro e w4 ⟨gpi, rfl, o, b⟩
      replace HA := hid (HA.out.below b qN)
      replace HK1 := hid (HK1.out.below b qN)
      replace PS := hid (PS.out.below b qN)
      replace HC := hid (HC.out.trans (b.mono HC.out.size))
      have S5 := hid (b.size)
      clear b
      have PI := hid (show Reads w4 (some ⟨gpi, 0, none⟩) zs1.length zs1 by obtain ⟨_, _, e, r, _⟩ := Reads.own o Zbd1.out; obtain ⟨rfl, _, _⟩ := Value.slice.inj e; exact r)
      clear o
      go_wp2_with fail
      refine hK.out _ _ ?_ (fun hH2 => ?_)
      · exact ⟨HA.out.box, HK1.out.box⟩
      clear hK KP hh
      have hh := hH2
      clear hH2
      try simp only [qP]
      refine anyK_two (i := 5) (j := 9) (by kernel_rfl) rfl rfl (fun KP hK => ?_) (fun KP hK => ?_)
      · skip
        go_simp
        refine (HS.out.ok n rt K1 N1 f1 zs1.length id PS.out.rd hl HTx.out PS.out.cap.2 PS.out.cap.1 PS.out.eap (fun e => by cases e) PI.out ⟨rfl, hf1, by omega⟩ HIb.out).mono ?_
        rintro e w5 ⟨aQ, cQ, he, ⟨bq, yq, nq⟩, b⟩
        replace HA := hid (HA.out.below b qN)
        replace HK1 := hid (HK1.out.below b qN)
        replace PS := hid (PS.out.below b qN)
        replace PI := hid (PI.out.below b qN)
        replace HC := hid (HC.out.trans (b.mono HC.out.size))
        have S6 := hid (b.size)
        clear b
        clear PS
        clear PI
        rw [HDT.out] at he nq
        dsimp only at he nq
        rw [HNq.out] at he nq
        subst he
        have NQ := hid nq
        clear nq
        go_wp2_with fail
        refine hK.out _ _ ?_ (fun hH2 => ?_)
        · exact ⟨HA.out.box, HK1.out.box⟩
        clear hK KP hh
        have hh := hH2
        clear hH2
        try simp only [qP]
        refine qT 6 rfl hh 29 rfl ?_ (by rintro W ⟨⟨r0, r1⟩, ⟨p10, p11, p12, p13⟩⟩; go_simp; try with_reducible rfl)
        refine qT 7 rfl hh 36 rfl ?_ (by rintro W ⟨⟨r0, r1⟩, ⟨p10, p11, p12, p13⟩⟩; go_simp; try with_reducible rfl)
        refine qT 8 rfl hh 37 rfl ?_ (by rintro W ⟨⟨r0, r1⟩, ⟨p10, p11, p12, p13⟩⟩; go_simp; try with_reducible rfl)
        refine qS 9 rfl fun KP hK => ?_
        go_simp
        have HpL := hid (show w2.heap.size ≤ w5.heap.size from HC.out.size)
        have HBx := hid (heap_alloc_new w5 (.cells #[.slice none 0 0, .int .i64 0] 33))
        have b := Below.alloc1 w5 (.cells #[.slice none 0 0, .int .i64 0] 33)
        replace HA := hid (HA.out.below b qN)
        replace HK1 := hid (HK1.out.below b qN)
        replace NQ := hid (NQ.out.below b)
        replace HC := hid (HC.out.trans (b.mono HC.out.size))
        have S7 := hid (alloc_size w5 (.cells #[.slice none 0 0, .int .i64 0] 33))
        clear b
        refine hK.out _ _ ?_ (fun hH2 => ?_)
        · exact ⟨HA.out.box, HK1.out.box⟩
        clear hK KP hh
        have hh := hH2
        clear hH2
        try simp only [qP]
        generalize w5.alloc (.cells #[.slice none 0 0, .int .i64 0] 33) = t1 at *
        obtain ⟨pB, hpB⟩ : ∃ pB, w5.heap.size = pB := ⟨_, rfl⟩
        rw [hpB] at HBx HpL
        try simp only [hpB]
        clear hpB
        refine qS 10 rfl fun KP hK => ?_
        refine wp_store_row 33 (.tmp 8) (.tmp 36) rfl pB #[.slice aQ Nq cQ, .int .i64 RQ] rfl rfl 33 _ HBx.out size_tr11 rfl (by simp [Value.oneCell']) ?_
        have HFr := hid (NQ.out.row (cs' := #[.slice aQ Nq cQ, .int .i64 RQ]) HBx.out).rd
        have HRf := hid (setRow_heap _ _ _ #[.slice aQ Nq cQ, .int .i64 RQ] _ _ HBx.out)
        have HFb := hid (show BoxTr (t1.setRow pB #[.slice aQ Nq cQ, .int .i64 RQ]) pB (.slice aQ Nq cQ) RQ from ⟨qC HRf.out, qC HRf.out⟩)
        have BF := hid (below_setRow HC.out HpL.out #[.slice aQ Nq cQ, .int .i64 RQ])
        clear NQ HBx HRf
        refine hK.out _ _ ?_ (fun hH2 => ?_)
        · exact ⟨(HAc.out.below BF.out qN).box, (HKc.out.below BF.out qN).box⟩
        clear hK KP hh
        have hh := hH2
        clear hH2
        try simp only [qP]
        refine qS 11 rfl fun KP hK => ?_
        go_simp
        refine hK.out _ _ ?_ (fun hH2 => ?_)
        · exact ⟨(HAc.out.below BF.out qN).box, (HKc.out.below BF.out qN).box⟩
        clear hK KP hh
        have hh := hH2
        clear hH2
        try simp only [qP]
        refine anyK_done (by kernel_rfl) ?_ _
        clear hh
        go_wp2_with fail
        go_meet
        exact ⟨pB, aQ, cQ, rfl, rfl, HFb, HFr, BF⟩
      · skip
        go_simp
        have HpL := hid (show w2.heap.size ≤ w4.heap.size from HC.out.size)
        have HBx := hid (heap_alloc_new w4 (.cells #[.slice none 0 0, .int .i64 0] 33))
        have b := Below.alloc1 w4 (.cells #[.slice none 0 0, .int .i64 0] 33)
        replace HA := hid (HA.out.below b qN)
        replace HK1 := hid (HK1.out.below b qN)
        replace PS := hid (PS.out.below b qN)
        replace PI := hid (PI.out.below b qN)
        replace HC := hid (HC.out.trans (b.mono HC.out.size))
        have S6 := hid (alloc_size w4 (.cells #[.slice none 0 0, .int .i64 0] 33))
        clear b
        refine hK.out _ _ ?_ (fun hH2 => ?_)
        · exact ⟨HA.out.box, HK1.out.box⟩
        clear hK KP hh
        have hh := hH2
        clear hH2
        try simp only [qP]
        generalize w4.alloc (.cells #[.slice none 0 0, .int .i64 0] 33) = t2 at *
        obtain ⟨pB, hpB⟩ : ∃ pB, w4.heap.size = pB := ⟨_, rfl⟩
        rw [hpB] at HBx HpL
        try simp only [hpB]
        clear hpB
        refine qS 5 rfl fun KP hK => ?_
        go_simp
        refine (HS.out.ok n rt K1 N1 f1 zs1.length id PS.out.rd hl HTx.out PS.out.cap.2 PS.out.cap.1 PS.out.eap (fun e => by cases e) PI.out ⟨rfl, hf1, by omega⟩ HIb.out).mono ?_
        rintro e w6 ⟨aQ, cQ, he, ⟨bq, yq, nq⟩, b⟩
        replace HA := hid (HA.out.below b qN)
        replace HK1 := hid (HK1.out.below b qN)
        replace PS := hid (PS.out.below b qN)
        replace PI := hid (PI.out.below b qN)
        replace HBx := hid ((b.block _ (qL HBx.out)).trans HBx.out)
        replace HC := hid (HC.out.trans (b.mono HC.out.size))
        have S7 := hid (b.size)
        clear b
        clear PS
        clear PI
        rw [HDT.out] at he nq
        dsimp only at he nq
        rw [HNq.out] at he nq
        subst he
        have NQ := hid nq
        clear nq
        go_wp2_with fail
        refine hK.out _ _ ?_ (fun hH2 => ?_)
        · exact ⟨HA.out.box, HK1.out.box⟩
        clear hK KP hh
        have hh := hH2
        clear hH2
        try simp only [qP]
        refine qT 6 rfl hh 29 rfl ?_ (by rintro W ⟨⟨r0, r1⟩, ⟨p10, p11, p12, p13⟩⟩; go_simp; try with_reducible rfl)
        refine qT 7 rfl hh 36 rfl ?_ (by rintro W ⟨⟨r0, r1⟩, ⟨p10, p11, p12, p13⟩⟩; go_simp; try with_reducible rfl)
        refine qT 8 rfl hh 37 rfl ?_ (by rintro W ⟨⟨r0, r1⟩, ⟨p10, p11, p12, p13⟩⟩; go_simp; try with_reducible rfl)
        refine qS 10 rfl fun KP hK => ?_
        refine wp_store_row 33 (.tmp 8) (.tmp 36) rfl pB #[.slice aQ Nq cQ, .int .i64 RQ] rfl rfl 33 _ HBx.out size_tr11 rfl (by simp [Value.oneCell']) ?_
        have HFr := hid (NQ.out.row (cs' := #[.slice aQ Nq cQ, .int .i64 RQ]) HBx.out).rd
        have HRf := hid (setRow_heap _ _ _ #[.slice aQ Nq cQ, .int .i64 RQ] _ _ HBx.out)
        have HFb := hid (show BoxTr (w6.setRow pB #[.slice aQ Nq cQ, .int .i64 RQ]) pB (.slice aQ Nq cQ) RQ from ⟨qC HRf.out, qC HRf.out⟩)
        have BF := hid (below_setRow HC.out HpL.out #[.slice aQ Nq cQ, .int .i64 RQ])
        clear NQ HBx HRf
        refine hK.out _ _ ?_ (fun hH2 => ?_)
        · exact ⟨(HAc.out.below BF.out qN).box, (HKc.out.below BF.out qN).box⟩
        clear hK KP hh
        have hh := hH2
        clear hH2
        try simp only [qP]
        refine qS 11 rfl fun KP hK => ?_
        go_simp
        refine hK.out _ _ ?_ (fun hH2 => ?_)
        · exact ⟨(HAc.out.below BF.out qN).box, (HKc.out.below BF.out qN).box⟩
        clear hK KP hh
        have hh := hH2
        clear hH2
        try simp only [qP]
        refine anyK_done (by kernel_rfl) ?_ _
        clear hh
        go_wp2_with fail
        go_meet
        exact ⟨pB, aQ, cQ, rfl, rfl, HFb, HFr, BF⟩
    · skip
      go_simp
      have HpL := hid (show w2.heap.size ≤ w3.heap.size from HC.out.size)
      have HBx := hid (heap_alloc_new w3 (.cells #[.slice none 0 0, .int .i64 0] 33))
      have b := Below.alloc1 w3 (.cells #[.slice none 0 0, .int .i64 0] 33)
      replace HA := hid (HA.out.below b qN)
      replace HK1 := hid (HK1.out.below b qN)
      replace PS := hid (PS.out.below b qN)
      replace HC := hid (HC.out.trans (b.mono HC.out.size))
      have S5 := hid (alloc_size w3 (.cells #[.slice none 0 0, .int .i64 0] 33))
      clear b
      refine hK.out _ _ ?_ (fun hH2 => ?_)
      · exact ⟨HA.out.box, HK1.out.box⟩
      clear hK KP hh
      have hh := hH2
      clear hH2
      try simp only [qP]
      generalize w3.alloc (.cells #[.slice none 0 0, .int .i64 0] 33) = t3 at *
      obtain ⟨pB, hpB⟩ : ∃ pB, w3.heap.size = pB := ⟨_, rfl⟩
      rw [hpB] at HBx HpL
      try simp only [hpB]
      clear hpB
      refine qS 3 rfl fun KP hK => ?_
      go_simp
      refine (toItem K1 N1 f1 kc1 HK1.out.reads (by omega)).mono ?_
      rintro e w7 ⟨gpi, rfl, o, b⟩
      replace HA := hid (HA.out.below b qN)
      replace HK1 := hid (HK1.out.below b qN)
      replace PS := hid (PS.out.below b qN)
      replace HBx := hid ((b.block _ (qL HBx.out)).trans HBx.out)
      replace HC := hid (HC.out.trans (b.mono HC.out.size))
      have S6 := hid (b.size)
      clear b
      have PI := hid (show Reads w7 (some ⟨gpi, 0, none⟩) zs1.length zs1 by obtain ⟨_, _, e, r, _⟩ := Reads.own o Zbd1.out; obtain ⟨rfl, _, _⟩ := Value.slice.inj e; exact r)
      clear o
      go_wp2_with fail
      refine hK.out _ _ ?_ (fun hH2 => ?_)
      · exact ⟨HA.out.box, HK1.out.box⟩
      clear hK KP hh
      have hh := hH2
      clear hH2
      try simp only [qP]
      refine qS 5 rfl fun KP hK => ?_
      go_simp
      refine (HS.out.ok n rt K1 N1 f1 zs1.length id PS.out.rd hl HTx.out PS.out.cap.2 PS.out.cap.1 PS.out.eap (fun e => by cases e) PI.out ⟨rfl, hf1, by omega⟩ HIb.out).mono ?_
      rintro e w8 ⟨aQ, cQ, he, ⟨bq, yq, nq⟩, b⟩
      replace HA := hid (HA.out.below b qN)
      replace HK1 := hid (HK1.out.below b qN)
      replace PS := hid (PS.out.below b qN)
      replace HBx := hid ((b.block _ (qL HBx.out)).trans HBx.out)
      replace PI := hid (PI.out.below b qN)
      replace HC := hid (HC.out.trans (b.mono HC.out.size))
      have S7 := hid (b.size)
      clear b
      clear PS
      clear PI
      rw [HDT.out] at he nq
      dsimp only at he nq
      rw [HNq.out] at he nq
      subst he
      have NQ := hid nq
      clear nq
      go_wp2_with fail
      refine hK.out _ _ ?_ (fun hH2 => ?_)
      · exact ⟨HA.out.box, HK1.out.box⟩
      clear hK KP hh
      have hh := hH2
      clear hH2
      try simp only [qP]
      refine qT 6 rfl hh 29 rfl ?_ (by rintro W ⟨⟨r0, r1⟩, ⟨p10, p11, p12, p13⟩⟩; go_simp; try with_reducible rfl)
      refine qT 7 rfl hh 36 rfl ?_ (by rintro W ⟨⟨r0, r1⟩, ⟨p10, p11, p12, p13⟩⟩; go_simp; try with_reducible rfl)
      refine qT 8 rfl hh 37 rfl ?_ (by rintro W ⟨⟨r0, r1⟩, ⟨p10, p11, p12, p13⟩⟩; go_simp; try with_reducible rfl)
      refine qS 10 rfl fun KP hK => ?_
      refine wp_store_row 33 (.tmp 8) (.tmp 36) rfl pB #[.slice aQ Nq cQ, .int .i64 RQ] rfl rfl 33 _ HBx.out size_tr11 rfl (by simp [Value.oneCell']) ?_
      have HFr := hid (NQ.out.row (cs' := #[.slice aQ Nq cQ, .int .i64 RQ]) HBx.out).rd
      have HRf := hid (setRow_heap _ _ _ #[.slice aQ Nq cQ, .int .i64 RQ] _ _ HBx.out)
      have HFb := hid (show BoxTr (w8.setRow pB #[.slice aQ Nq cQ, .int .i64 RQ]) pB (.slice aQ Nq cQ) RQ from ⟨qC HRf.out, qC HRf.out⟩)
      have BF := hid (below_setRow HC.out HpL.out #[.slice aQ Nq cQ, .int .i64 RQ])
      clear NQ HBx HRf
      refine hK.out _ _ ?_ (fun hH2 => ?_)
      · exact ⟨(HAc.out.below BF.out qN).box, (HKc.out.below BF.out qN).box⟩
      clear hK KP hh
      have hh := hH2
      clear hH2
      try simp only [qP]
      refine qS 11 rfl fun KP hK => ?_
      go_simp
      refine hK.out _ _ ?_ (fun hH2 => ?_)
      · exact ⟨(HAc.out.below BF.out qN).box, (HKc.out.below BF.out qN).box⟩
      clear hK KP hh
      have hh := hH2
      clear hH2
      try simp only [qP]
      refine anyK_done (by kernel_rfl) ?_ _
      clear hh
      go_wp2_with fail
      go_meet
      exact ⟨pB, aQ, cQ, rfl, rfl, HFb, HFr, BF⟩
  · skip
    go_simp
    have HpL := hid (show w2.heap.size ≤ v1x.heap.size from HC.out.size)
    have HBx := hid (heap_alloc_new v1x (.cells #[.slice none 0 0, .int .i64 0] 33))
    have b := Below.alloc1 v1x (.cells #[.slice none 0 0, .int .i64 0] 33)
    replace HA := hid (HA.out.below b qN)
    replace HK1 := hid (HK1.out.below b qN)
    replace HC := hid (HC.out.trans (b.mono HC.out.size))
    have S4 := hid (alloc_size v1x (.cells #[.slice none 0 0, .int .i64 0] 33))
    clear b
    refine hK.out _ _ ?_ (fun hH2 => ?_)
    · exact ⟨HA.out.box, HK1.out.box⟩
    clear hK KP hh
    have hh := hH2
    clear hH2
    try simp only [qP]
    generalize v1x.alloc (.cells #[.slice none 0 0, .int .i64 0] 33) = t4 at *
    obtain ⟨pB, hpB⟩ : ∃ pB, v1x.heap.size = pB := ⟨_, rfl⟩
    rw [hpB] at HBx HpL
    try simp only [hpB]
    clear hpB
    refine qS 1 rfl fun KP hK => ?_
    go_simp
    refine (toTree c rt HA.out.reads hl (by omega) (by omega)).mono ?_
    rintro e w9 ⟨gp, rfl, o, b⟩
    replace HA := hid (HA.out.below b qN)
    replace HK1 := hid (HK1.out.below b qN)
    replace HBx := hid ((b.block _ (qL HBx.out)).trans HBx.out)
    replace HC := hid (HC.out.trans (b.mono HC.out.size))
    have S5 := hid (b.size)
    clear b
    have PS := hid (TrC.own o hl)
    clear o
    go_wp2_with fail
    refine hK.out _ _ ?_ (fun hH2 => ?_)
    · exact ⟨HA.out.box, HK1.out.box⟩
    clear hK KP hh
    have hh := hH2
    clear hH2
    try simp only [qP]
    refine qS 3 rfl fun KP hK => ?_
    go_simp
    refine (toItem K1 N1 f1 kc1 HK1.out.reads (by omega)).mono ?_
    rintro e w10 ⟨gpi, rfl, o, b⟩
    replace HA := hid (HA.out.below b qN)
    replace HK1 := hid (HK1.out.below b qN)
    replace HBx := hid ((b.block _ (qL HBx.out)).trans HBx.out)
    replace PS := hid (PS.out.below b qN)
    replace HC := hid (HC.out.trans (b.mono HC.out.size))
    have S6 := hid (b.size)
    clear b
    have PI := hid (show Reads w10 (some ⟨gpi, 0, none⟩) zs1.length zs1 by obtain ⟨_, _, e, r, _⟩ := Reads.own o Zbd1.out; obtain ⟨rfl, _, _⟩ := Value.slice.inj e; exact r)
    clear o
    go_wp2_with fail
    refine hK.out _ _ ?_ (fun hH2 => ?_)
    · exact ⟨HA.out.box, HK1.out.box⟩
    clear hK KP hh
    have hh := hH2
    clear hH2
    try simp only [qP]
    refine qS 5 rfl fun KP hK => ?_
    go_simp
    refine (HS.out.ok n rt K1 N1 f1 zs1.length id PS.out.rd hl HTx.out PS.out.cap.2 PS.out.cap.1 PS.out.eap (fun e => by cases e) PI.out ⟨rfl, hf1, by omega⟩ HIb.out).mono ?_
    rintro e w11 ⟨aQ, cQ, he, ⟨bq, yq, nq⟩, b⟩
    replace HA := hid (HA.out.below b qN)
    replace HK1 := hid (HK1.out.below b qN)
    replace HBx := hid ((b.block _ (qL HBx.out)).trans HBx.out)
    replace PS := hid (PS.out.below b qN)
    replace PI := hid (PI.out.below b qN)
    replace HC := hid (HC.out.trans (b.mono HC.out.size))
    have S7 := hid (b.size)
    clear b
    clear PS
    clear PI
    rw [HDT.out] at he nq
    dsimp only at he nq
    rw [HNq.out] at he nq
    subst he
    have NQ := hid nq
    clear nq
    go_wp2_with fail
    refine hK.out _ _ ?_ (fun hH2 => ?_)
    · exact ⟨HA.out.box, HK1.out.box⟩
    clear hK KP hh
    have hh := hH2
    clear hH2
    try simp only [qP]
    refine qT 6 rfl hh 29 rfl ?_ (by rintro W ⟨⟨r0, r1⟩, ⟨p10, p11, p12, p13⟩⟩; go_simp; try with_reducible rfl)
    refine qT 7 rfl hh 36 rfl ?_ (by rintro W ⟨⟨r0, r1⟩, ⟨p10, p11, p12, p13⟩⟩; go_simp; try with_reducible rfl)
    refine qT 8 rfl hh 37 rfl ?_ (by rintro W ⟨⟨r0, r1⟩, ⟨p10, p11, p12, p13⟩⟩; go_simp; try with_reducible rfl)
    refine qS 10 rfl fun KP hK => ?_
    refine wp_store_row 33 (.tmp 8) (.tmp 36) rfl pB #[.slice aQ Nq cQ, .int .i64 RQ] rfl rfl 33 _ HBx.out size_tr11 rfl (by simp [Value.oneCell']) ?_
    have HFr := hid (NQ.out.row (cs' := #[.slice aQ Nq cQ, .int .i64 RQ]) HBx.out).rd
    have HRf := hid (setRow_heap _ _ _ #[.slice aQ Nq cQ, .int .i64 RQ] _ _ HBx.out)
    have HFb := hid (show BoxTr (w11.setRow pB #[.slice aQ Nq cQ, .int .i64 RQ]) pB (.slice aQ Nq cQ) RQ from ⟨qC HRf.out, qC HRf.out⟩)
    have BF := hid (below_setRow HC.out HpL.out #[.slice aQ Nq cQ, .int .i64 RQ])
    clear NQ HBx HRf
    refine hK.out _ _ ?_ (fun hH2 => ?_)
    · exact ⟨(HAc.out.below BF.out qN).box, (HKc.out.below BF.out qN).box⟩
    clear hK KP hh
    have hh := hH2
    clear hH2
    try simp only [qP]
    refine qS 11 rfl fun KP hK => ?_
    go_simp
    refine hK.out _ _ ?_ (fun hH2 => ?_)
    · exact ⟨(HAc.out.below BF.out qN).box, (HKc.out.below BF.out qN).box⟩
    clear hK KP hh
    have hh := hH2
    clear hH2
    try simp only [qP]
    refine anyK_done (by kernel_rfl) ?_ _
    clear hh
    go_wp2_with fail
    go_meet
    exact ⟨pB, aQ, cQ, rfl, rfl, HFb, HFr, BF⟩
 case rest =>
  obtain ⟨pQ, aQ, cQ, rfl, rfl, HBQ, HRQ, HCut⟩ := hcut
  generalize wc = X0 at *
  replace HB0 := hid (HB0.out.trans ((HC.out.trans (HCut.out.mono HC.out.size)).mono HB0.out.size))
  replace HA := hid (HA.out.below HCut.out qN)
  replace HK1 := hid (HK1.out.below HCut.out qN)
  clear HC HA0 HK10
  have HA0 := HA
  have HK10 := HK1
  have BQ := HBQ
  have HQ := HRQ
  have HC := hid (Below.refl X0.heap.size X0)
  have S3 := hid (HCut.out.size)
  have y0 := (HA.out.box).c0
  have yy0 := (HA.out.box).c1
  go_wp2_with fail
  clear y0 yy0
  refine (toTree c rt HA.out.reads hl (by omega) (by omega)).mono ?_
  rintro e w12 ⟨gx, rfl, o, b⟩
  replace HA := hid (HA.out.below b qN)
  replace HK1 := hid (HK1.out.below b qN)
  replace BQ := hid (BQ.out.below b qN)
  replace HQ := hid (HQ.out.below b qN)
  replace HC := hid (HC.out.trans (b.mono HC.out.size))
  have S4 := hid (b.size)
  clear b
  have HX := hid o
  clear o
  have BX := hid (BoxTr.new w12 (.slice (some ⟨gx, 0, none⟩) n n) rt 33)
  have b := Below.alloc1 w12 (.cells #[(.slice (some ⟨gx, 0, none⟩) n n), .int .i64 rt] 33)
  replace HA := hid (HA.out.below b qN)
  replace HK1 := hid (HK1.out.below b qN)
  replace BQ := hid (BQ.out.below b qN)
  replace HQ := hid (HQ.out.below b qN)
  replace HX := hid (HX.out.below b (by have := S0.out; have := S1.out; have := S2.out; have := S3.out; have := S4.out; omega))
  replace HC := hid (HC.out.trans (b.mono HC.out.size))
  have S5 := hid (alloc_size w12 (.cells #[(.slice (some ⟨gx, 0, none⟩) n n), .int .i64 rt] 33))
  clear b
  have w8 := BX.out.c0
  have w9 := BX.out.c1
  obtain ⟨u00, u01, u02, u03⟩ := HK1.out.box
  go_wp2_with fail
  clear u00 u01 u02 u03
  clear w8 w9
  generalize w12.alloc (.cells #[(.slice (some ⟨gx, 0, none⟩) n n), .int .i64 rt] 33) = t5 at *
  refine (toItem K1 N1 f1 kc1 HK1.out.reads (by omega)).mono ?_
  rintro e w13 ⟨xi1, rfl, o, b⟩
  replace HA := hid (HA.out.below b qN)
  replace HK1 := hid (HK1.out.below b qN)
  replace BQ := hid (BQ.out.below b qN)
  replace HQ := hid (HQ.out.below b qN)
  replace HX := hid (HX.out.below b (by have := S0.out; have := S1.out; have := S2.out; have := S3.out; have := S4.out; have := S5.out; omega))
  replace BX := hid (BX.out.below b qN)
  replace HC := hid (HC.out.trans (b.mono HC.out.size))
  have S6 := hid (b.size)
  clear b
  have OX := hid o
  clear o
  have XI1 := hid (BoxIt.new OX.out Zbd1.out K1 N1 f1 37)
  have b := Below.alloc1 w13 (.cells #[.int .i64 K1, .int .i64 N1, .float .f64 f1, .slice (some ⟨xi1, 0, none⟩) zs1.length zs1.length] 37)
  replace HA := hid (HA.out.below b qN)
  replace HK1 := hid (HK1.out.below b qN)
  replace BQ := hid (BQ.out.below b qN)
  replace HQ := hid (HQ.out.below b qN)
  replace HX := hid (HX.out.below b (by have := S0.out; have := S1.out; have := S2.out; have := S3.out; have := S4.out; have := S5.out; have := S6.out; omega))
  replace BX := hid (BX.out.below b qN)
  replace HC := hid (HC.out.trans (b.mono HC.out.size))
  have S7 := hid (alloc_size w13 (.cells #[.int .i64 K1, .int .i64 N1, .float .f64 f1, .slice (some ⟨xi1, 0, none⟩) zs1.length zs1.length] 37))
  clear b
  have y0 := (BX.out).c0
  have yy0 := (BX.out).c1
  go_wp2_with fail
  clear y0 yy0
  generalize w13.alloc (.cells #[.int .i64 K1, .int .i64 N1, .float .f64 f1, .slice (some ⟨xi1, 0, none⟩) zs1.length zs1.length] 37) = t6 at *
  clear OX
  refine (HI.out.ok n rt K1 N1 f1 zs1.length id HX.out.rd hl HTx.out (TrC.own HX.out hl).cap.2 (TrC.own HX.out hl).cap.1 (TrC.own HX.out hl).eap (fun e => by cases e) XI1.out.rd ⟨rfl, hf1, by omega⟩ HIb.out).mono ?_
  rintro e w14 ⟨vg, he, o, b⟩
  replace HA := hid (HA.out.below b qN)
  replace HK1 := hid (HK1.out.below b qN)
  replace BQ := hid (BQ.out.below b qN)
  replace HQ := hid (HQ.out.below b qN)
  replace HX := hid (HX.out.below b (by have := S0.out; have := S1.out; have := S2.out; have := S3.out; have := S4.out; have := S5.out; have := S6.out; have := S7.out; omega))
  replace BX := hid (BX.out.below b qN)
  replace XI1 := hid (XI1.out.below b qN)
  replace HC := hid (HC.out.trans (b.mono HC.out.size))
  have S8 := hid (b.size)
  clear b
  rw [HDT.out] at he o
  dsimp only at he o
  obtain ⟨aHG, cHG, e1⟩ := o.slice
  rw [HNq.out] at e1
  subst e1
  subst he
  have HG := hid o
  clear o
  have BG := hid (BoxTr.new w14 (.slice aHG Nq cHG) RQ 33)
  have b := Below.alloc1 w14 (.cells #[.slice aHG Nq cHG, .int .i64 RQ] 33)
  replace HA := hid (HA.out.below b qN)
  replace HK1 := hid (HK1.out.below b qN)
  replace BQ := hid (BQ.out.below b qN)
  replace HQ := hid (HQ.out.below b qN)
  replace HX := hid (HX.out.below b (by have := S0.out; have := S1.out; have := S2.out; have := S3.out; have := S4.out; have := S5.out; have := S6.out; have := S7.out; have := S8.out; omega))
  replace BX := hid (BX.out.below b qN)
  replace XI1 := hid (XI1.out.below b qN)
  replace HG := hid (HG.out.below b (by have := S0.out; have := S1.out; have := S2.out; have := S3.out; have := S4.out; have := S5.out; have := S6.out; have := S7.out; have := S8.out; omega))
  replace HC := hid (HC.out.trans (b.mono HC.out.size))
  have S9 := hid (alloc_size w14 (.cells #[.slice aHG Nq cHG, .int .i64 RQ] 33))
  clear b
  have w8 := BG.out.c0
  have w9 := BG.out.c1
  have y0 := (BQ.out).c0
  have yy0 := (BQ.out).c1
  go_wp2_with fail
  clear y0 yy0
  clear w8 w9
  generalize w14.alloc (.cells #[.slice aHG Nq cHG, .int .i64 RQ] 33) = t7 at *
  refine (eqTree cHG cQ RQ HG.out.rd HQ.out HNq.out hNq1 hsq).mono ?_
  rintro e w15 ⟨rfl, b⟩
  replace HA := hid (HA.out.below b qN)
  replace HK1 := hid (HK1.out.below b qN)
  replace BQ := hid (BQ.out.below b qN)
  replace HQ := hid (HQ.out.below b qN)
  replace HX := hid (HX.out.below b (by have := S0.out; have := S1.out; have := S2.out; have := S3.out; have := S4.out; have := S5.out; have := S6.out; have := S7.out; have := S8.out; have := S9.out; omega))
  replace BX := hid (BX.out.below b qN)
  replace XI1 := hid (XI1.out.below b qN)
  replace HG := hid (HG.out.below b (by have := S0.out; have := S1.out; have := S2.out; have := S3.out; have := S4.out; have := S5.out; have := S6.out; have := S7.out; have := S8.out; have := S9.out; omega))
  replace BG := hid (BG.out.below b qN)
  replace HC := hid (HC.out.trans (b.mono HC.out.size))
  have S10 := hid (b.size)
  clear b
  go_wp2_with fail
  replace HA := hid (HA.out.below ((Still.drew w15).below _) qN)
  replace HK1 := hid (HK1.out.below ((Still.drew w15).below _) qN)
  replace BQ := hid (BQ.out.below ((Still.drew w15).below _) qN)
  replace HQ := hid (HQ.out.below ((Still.drew w15).below _) qN)
  replace HX := hid (HX.out.below ((Still.drew w15).below w15.heap.size) (by have := S0.out; have := S1.out; have := S2.out; have := S3.out; have := S4.out; have := S5.out; have := S6.out; have := S7.out; have := S8.out; have := S9.out; have := S10.out; omega))
  replace BX := hid (BX.out.below ((Still.drew w15).below _) qN)
  replace XI1 := hid (XI1.out.below ((Still.drew w15).below _) qN)
  replace HG := hid (HG.out.below ((Still.drew w15).below w15.heap.size) (by have := S0.out; have := S1.out; have := S2.out; have := S3.out; have := S4.out; have := S5.out; have := S6.out; have := S7.out; have := S8.out; have := S9.out; have := S10.out; omega))
  replace BG := hid (BG.out.below ((Still.drew w15).below _) qN)
  replace HC := hid (HC.out.trans (((Still.drew w15).below _).mono HC.out.size))
  have S11 := hid ((Still.drew w15).size)
  refine region_K 99 (fun W => BoxTr W w.heap.size (.slice a n c) rt ∧ BoxTr W w12.heap.size (.slice (some ⟨gx, 0, none⟩) n n) rt) (by kernel_rfl) ?_ (fun hh => ?_)
  · exact ⟨HA.out.box, BX.out⟩
  generalize w15.drew = v2x at *
  refine qT 0 rfl hh 58 rfl ?_ (by rintro W ⟨⟨r0, r1⟩, ⟨r2, r3⟩⟩; go_simp; try with_reducible rfl)
  refine qT 1 rfl hh 59 rfl ?_ (by rintro W ⟨⟨r0, r1⟩, ⟨r2, r3⟩⟩; go_simp; try with_reducible rfl)
  refine qS 2 rfl fun KP hK => ?_
  go_simp
  refine (toTree c rt HA.out.reads hl (by omega) (by omega)).mono ?_
  rintro e w16 ⟨gy, rfl, o, b⟩
  replace HA := hid (HA.out.below b qN)
  replace HK1 := hid (HK1.out.below b qN)
  replace BQ := hid (BQ.out.below b qN)
  replace HQ := hid (HQ.out.below b qN)
  replace HX := hid (HX.out.below b (by have := S0.out; have := S1.out; have := S2.out; have := S3.out; have := S4.out; have := S5.out; have := S6.out; have := S7.out; have := S8.out; have := S9.out; have := S10.out; have := S11.out; omega))
  replace BX := hid (BX.out.below b qN)
  replace XI1 := hid (XI1.out.below b qN)
  replace HG := hid (HG.out.below b (by have := S0.out; have := S1.out; have := S2.out; have := S3.out; have := S4.out; have := S5.out; have := S6.out; have := S7.out; have := S8.out; have := S9.out; have := S10.out; have := S11.out; omega))
  replace BG := hid (BG.out.below b qN)
  replace HC := hid (HC.out.trans (b.mono HC.out.size))
  have S12 := hid (b.size)
  clear b
  have PY := hid o
  clear o
  go_wp2_with fail
  refine hK.out _ _ ?_ (fun hH2 => ?_)
  · exact ⟨HA.out.box, BX.out⟩
  clear hK KP hh
  have hh := hH2
  clear hH2
  try simp only [qP]
  refine qS 3 rfl fun KP hK => ?_
  go_simp
  refine (eqTree n n rt HX.out.rd PY.out.rd hl (by omega) (by omega)).mono ?_
  rintro e w17 ⟨rfl, b⟩
  replace HA := hid (HA.out.below b qN)
  replace HK1 := hid (HK1.out.below b qN)
  replace BQ := hid (BQ.out.below b qN)
  replace HQ := hid (HQ.out.below b qN)
  replace HX := hid (HX.out.below b (by have := S0.out; have := S1.out; have := S2.out; have := S3.out; have := S4.out; have := S5.out; have := S6.out; have := S7.out; have := S8.out; have := S9.out; have := S10.out; have := S11.out; have := S12.out; omega))
  replace BX := hid (BX.out.below b qN)
  replace XI1 := hid (XI1.out.below b qN)
  replace HG := hid (HG.out.below b (by have := S0.out; have := S1.out; have := S2.out; have := S3.out; have := S4.out; have := S5.out; have := S6.out; have := S7.out; have := S8.out; have := S9.out; have := S10.out; have := S11.out; have := S12.out; omega))
  replace BG := hid (BG.out.below b qN)
  replace PY := hid (PY.out.below b (by have := S0.out; have := S1.out; have := S2.out; have := S3.out; have := S4.out; have := S5.out; have := S6.out; have := S7.out; have := S8.out; have := S9.out; have := S10.out; have := S11.out; have := S12.out; omega))
  replace HC := hid (HC.out.trans (b.mono HC.out.size))
  have S13 := hid (b.size)
  clear b
  clear PY
  go_wp2_with fail
  refine hK.out _ _ ?_ (fun hH2 => ?_)
  · exact ⟨HA.out.box, BX.out⟩
  clear hK KP hh
  have hh := hH2
  clear hH2
  try simp only [qP]
  refine qS 4 rfl fun KP hK => ?_
  go_simp
  refine hK.out _ _ ?_ (fun hH2 => ?_)
  · exact ⟨HA.out.box, BX.out⟩
  clear hK KP hh
  have hh := hH2
  clear hH2
  try simp only [qP]
  refine anyK_done (by kernel_rfl) ?_ _
  clear hh
  go_wp2_with fail
  replace HA := hid (HA.out.below ((Still.drew w17).below _) qN)
  replace HK1 := hid (HK1.out.below ((Still.drew w17).below _) qN)
  replace BQ := hid (BQ.out.below ((Still.drew w17).below _) qN)
  replace HQ := hid (HQ.out.below ((Still.drew w17).below _) qN)
  replace HX := hid (HX.out.below ((Still.drew w17).below w17.heap.size) (by have := S0.out; have := S1.out; have := S2.out; have := S3.out; have := S4.out; have := S5.out; have := S6.out; have := S7.out; have := S8.out; have := S9.out; have := S10.out; have := S11.out; have := S12.out; have := S13.out; omega))
  replace BX := hid (BX.out.below ((Still.drew w17).below _) qN)
  replace XI1 := hid (XI1.out.below ((Still.drew w17).below _) qN)
  replace HG := hid (HG.out.below ((Still.drew w17).below w17.heap.size) (by have := S0.out; have := S1.out; have := S2.out; have := S3.out; have := S4.out; have := S5.out; have := S6.out; have := S7.out; have := S8.out; have := S9.out; have := S10.out; have := S11.out; have := S12.out; have := S13.out; omega))
  replace BG := hid (BG.out.below ((Still.drew w17).below _) qN)
  replace HC := hid (HC.out.trans (((Still.drew w17).below _).mono HC.out.size))
  have S14 := hid ((Still.drew w17).size)
  refine region_K 99 (fun W => Box W (w.heap.size + 1) K1 N1 f1 ka1 zs1.length kc1 ∧ Box W w13.heap.size K1 N1 f1 (some ⟨xi1, 0, none⟩) zs1.length zs1.length) (by kernel_rfl) ?_ (fun hh => ?_)
  · exact ⟨HK1.out.box, XI1.out.box⟩
  generalize w17.drew = v3x at *
  refine qT 0 rfl hh 63 rfl ?_ (by rintro W ⟨⟨r0, r1, r2, r3⟩, ⟨s0, s1, s2, s3⟩⟩; go_simp; try with_reducible rfl)
  refine qT 1 rfl hh 64 rfl ?_ (by rintro W ⟨⟨r0, r1, r2, r3⟩, ⟨s0, s1, s2, s3⟩⟩; go_simp; try with_reducible rfl)
  refine qS 2 rfl fun KP hK => ?_
  go_simp
  refine (toItem K1 N1 f1 kc1 HK1.out.reads (by omega)).mono ?_
  rintro e w18 ⟨gj, rfl, o, b⟩
  replace HA := hid (HA.out.below b qN)
  replace HK1 := hid (HK1.out.below b qN)
  replace BQ := hid (BQ.out.below b qN)
  replace HQ := hid (HQ.out.below b qN)
  replace HX := hid (HX.out.below b (by have := S0.out; have := S1.out; have := S2.out; have := S3.out; have := S4.out; have := S5.out; have := S6.out; have := S7.out; have := S8.out; have := S9.out; have := S10.out; have := S11.out; have := S12.out; have := S13.out; have := S14.out; omega))
  replace BX := hid (BX.out.below b qN)
  replace XI1 := hid (XI1.out.below b qN)
  replace HG := hid (HG.out.below b (by have := S0.out; have := S1.out; have := S2.out; have := S3.out; have := S4.out; have := S5.out; have := S6.out; have := S7.out; have := S8.out; have := S9.out; have := S10.out; have := S11.out; have := S12.out; have := S13.out; have := S14.out; omega))
  replace BG := hid (BG.out.below b qN)
  replace HC := hid (HC.out.trans (b.mono HC.out.size))
  have S15 := hid (b.size)
  clear b
  have PJ := hid (show Reads w18 (some ⟨gj, 0, none⟩) zs1.length zs1 by obtain ⟨_, _, e, r, _⟩ := Reads.own o Zbd1.out; obtain ⟨rfl, _, _⟩ := Value.slice.inj e; exact r)
  clear o
  go_wp2_with fail
  refine hK.out _ _ ?_ (fun hH2 => ?_)
  · exact ⟨HK1.out.box, XI1.out.box⟩
  clear hK KP hh
  have hh := hH2
  clear hH2
  try simp only [qP]
  refine qS 3 rfl fun KP hK => ?_
  go_simp
  refine (eqItem K1 N1 f1 f1 zs1.length zs1.length hf1 hf1 (Same.refl f1) XI1.out.rd PJ.out (by omega)).mono ?_
  rintro e w19 ⟨rfl, b⟩
  replace HA := hid (HA.out.below b qN)
  replace HK1 := hid (HK1.out.below b qN)
  replace BQ := hid (BQ.out.below b qN)
  replace HQ := hid (HQ.out.below b qN)
  replace HX := hid (HX.out.below b (by have := S0.out; have := S1.out; have := S2.out; have := S3.out; have := S4.out; have := S5.out; have := S6.out; have := S7.out; have := S8.out; have := S9.out; have := S10.out; have := S11.out; have := S12.out; have := S13.out; have := S14.out; have := S15.out; omega))
  replace BX := hid (BX.out.below b qN)
  replace XI1 := hid (XI1.out.below b qN)
  replace HG := hid (HG.out.below b (by have := S0.out; have := S1.out; have := S2.out; have := S3.out; have := S4.out; have := S5.out; have := S6.out; have := S7.out; have := S8.out; have := S9.out; have := S10.out; have := S11.out; have := S12.out; have := S13.out; have := S14.out; have := S15.out; omega))
  replace BG := hid (BG.out.below b qN)
  replace PJ := hid (PJ.out.below b qN)
  replace HC := hid (HC.out.trans (b.mono HC.out.size))
  have S16 := hid (b.size)
  clear b
  clear PJ
  go_wp2_with fail
  refine hK.out _ _ ?_ (fun hH2 => ?_)
  · exact ⟨HK1.out.box, XI1.out.box⟩
  clear hK KP hh
  have hh := hH2
  clear hH2
  try simp only [qP]
  refine qS 4 rfl fun KP hK => ?_
  go_simp
  refine hK.out _ _ ?_ (fun hH2 => ?_)
  · exact ⟨HK1.out.box, XI1.out.box⟩
  clear hK KP hh
  have hh := hH2
  clear hH2
  try simp only [qP]
  refine anyK_done (by kernel_rfl) ?_ _
  clear hh
  have y0 := (BX.out).c0
  have yy0 := (BX.out).c1
  go_wp2_with fail
  clear y0 yy0
  refine (markTree n rt 1 HX.out (by have := S0.out; have := S1.out; have := S2.out; have := S3.out; have := S4.out; have := S5.out; have := S6.out; have := S7.out; have := S8.out; have := S9.out; have := S10.out; have := S11.out; have := S12.out; have := S13.out; have := S14.out; have := S15.out; have := S16.out; omega) hl (by omega) (by omega) (by omega) (by omega)).mono ?_
  rintro e w20 ⟨rfl, _, G⟩
  replace HC := hid (HC.out.trans ((G.below (by have := S0.out; have := S1.out; have := S2.out; have := S3.out; have := S4.out; have := S5.out; have := S6.out; have := S7.out; have := S8.out; have := S9.out; have := S10.out; have := S11.out; have := S12.out; have := S13.out; have := S14.out; have := S15.out; have := S16.out; omega)).mono (by have := S0.out; have := S1.out; have := S2.out; have := S3.out; have := S4.out; have := S5.out; have := S6.out; have := S7.out; have := S8.out; have := S9.out; have := S10.out; have := S11.out; have := S12.out; have := S13.out; have := S14.out; have := S15.out; have := S16.out; omega)))
  replace HA := hid (HA0.out.below HC.out qN)
  replace HK1 := hid (HK10.out.below HC.out qN)
  replace BQ := hid (HBQ.out.below HC.out qN)
  replace HQ := hid (HRQ.out.below HC.out qN)
  replace BX := hid (BX.out.within G (by have := S0.out; have := S1.out; have := S2.out; have := S3.out; have := S4.out; have := S5.out; have := S6.out; have := S7.out; have := S8.out; have := S9.out; have := S10.out; have := S11.out; have := S12.out; have := S13.out; have := S14.out; have := S15.out; have := S16.out; omega))
  replace XI1 := hid (XI1.out.agree (G.agree (by have := S0.out; have := S1.out; have := S2.out; have := S3.out; have := S4.out; have := S5.out; have := S6.out; have := S7.out; have := S8.out; have := S9.out; have := S10.out; have := S11.out; have := S12.out; have := S13.out; have := S14.out; have := S15.out; have := S16.out; omega) (by have := S0.out; have := S1.out; have := S2.out; have := S3.out; have := S4.out; have := S5.out; have := S6.out; have := S7.out; have := S8.out; have := S9.out; have := S10.out; have := S11.out; have := S12.out; have := S13.out; have := S14.out; have := S15.out; have := S16.out; omega)))
  replace HG := hid (HG.out.agree (G.agree (by have := S0.out; have := S1.out; have := S2.out; have := S3.out; have := S4.out; have := S5.out; have := S6.out; have := S7.out; have := S8.out; have := S9.out; have := S10.out; have := S11.out; have := S12.out; have := S13.out; have := S14.out; have := S15.out; have := S16.out; omega) (by have := S0.out; have := S1.out; have := S2.out; have := S3.out; have := S4.out; have := S5.out; have := S6.out; have := S7.out; have := S8.out; have := S9.out; have := S10.out; have := S11.out; have := S12.out; have := S13.out; have := S14.out; have := S15.out; have := S16.out; omega)))
  replace BG := hid (BG.out.within G (by have := S0.out; have := S1.out; have := S2.out; have := S3.out; have := S4.out; have := S5.out; have := S6.out; have := S7.out; have := S8.out; have := S9.out; have := S10.out; have := S11.out; have := S12.out; have := S13.out; have := S14.out; have := S15.out; have := S16.out; omega))
  have S17 := hid (G.size)
  clear G
  clear HX BX
  rw [HKM.out]
  obtain ⟨u00, u01, u02, u03⟩ := XI1.out.box
  go_wp2_with fail
  clear u00 u01 u02 u03
  refine (markItem K1 N1 f1 KM (by omega) (by omega) (by omega) XI1.out.o).mono ?_
  rintro e w21 ⟨rfl, _, g0⟩
  have G := XI1.out.within g0
  clear g0
  replace HC := hid (HC.out.trans ((G.below (by have := S0.out; have := S1.out; have := S2.out; have := S3.out; have := S4.out; have := S5.out; have := S6.out; have := S7.out; have := S8.out; have := S9.out; have := S10.out; have := S11.out; have := S12.out; have := S13.out; have := S14.out; have := S15.out; have := S16.out; have := S17.out; omega)).mono (by have := S0.out; have := S1.out; have := S2.out; have := S3.out; have := S4.out; have := S5.out; have := S6.out; have := S7.out; have := S8.out; have := S9.out; have := S10.out; have := S11.out; have := S12.out; have := S13.out; have := S14.out; have := S15.out; have := S16.out; have := S17.out; omega)))
  replace HA := hid (HA0.out.below HC.out qN)
  replace HK1 := hid (HK10.out.below HC.out qN)
  replace BQ := hid (HBQ.out.below HC.out qN)
  replace HQ := hid (HRQ.out.below HC.out qN)
  replace HG := hid (HG.out.agree (G.agree (by have := S0.out; have := S1.out; have := S2.out; have := S3.out; have := S4.out; have := S5.out; have := S6.out; have := S7.out; have := S8.out; have := S9.out; have := S10.out; have := S11.out; have := S12.out; have := S13.out; have := S14.out; have := S15.out; have := S16.out; have := S17.out; omega) (by have := S0.out; have := S1.out; have := S2.out; have := S3.out; have := S4.out; have := S5.out; have := S6.out; have := S7.out; have := S8.out; have := S9.out; have := S10.out; have := S11.out; have := S12.out; have := S13.out; have := S14.out; have := S15.out; have := S16.out; have := S17.out; omega)))
  replace BG := hid (BG.out.within G (by have := S0.out; have := S1.out; have := S2.out; have := S3.out; have := S4.out; have := S5.out; have := S6.out; have := S7.out; have := S8.out; have := S9.out; have := S10.out; have := S11.out; have := S12.out; have := S13.out; have := S14.out; have := S15.out; have := S16.out; have := S17.out; omega))
  have S18 := hid (G.size)
  clear G
  clear XI1
  obtain ⟨KM2, hKM⟩ : ∃ K : Int, KM + (zs1.length : Int) = K := ⟨_, rfl⟩
  rw [hKM]
  have hKM2n : ¬ KM2 < 0 := by omega
  clear hKM
  have y0 := (BG.out).c0
  have yy0 := (BG.out).c1
  have y1 := (BQ.out).c0
  have yy1 := (BQ.out).c1
  go_wp2_with fail
  clear y0 yy0 y1 yy1
  refine (eqTree cHG cQ RQ HG.out.rd HQ.out HNq.out hNq1 hsq).mono ?_
  rintro e w22 ⟨rfl, b⟩
  replace HA := hid (HA.out.below b qN)
  replace HK1 := hid (HK1.out.below b qN)
  replace BQ := hid (BQ.out.below b qN)
  replace HQ := hid (HQ.out.below b qN)
  replace HG := hid (HG.out.below b (by have := S0.out; have := S1.out; have := S2.out; have := S3.out; have := S4.out; have := S5.out; have := S6.out; have := S7.out; have := S8.out; have := S9.out; have := S10.out; have := S11.out; have := S12.out; have := S13.out; have := S14.out; have := S15.out; have := S16.out; have := S17.out; have := S18.out; omega))
  replace BG := hid (BG.out.below b qN)
  replace HC := hid (HC.out.trans (b.mono HC.out.size))
  have S19 := hid (b.size)
  clear b
  have y0 := (BG.out).c0
  have yy0 := (BG.out).c1
  go_wp2_with fail
  clear y0 yy0
  refine (markTree cHG RQ 1 HG.out (by have := S0.out; have := S1.out; have := S2.out; have := S3.out; have := S4.out; have := S5.out; have := S6.out; have := S7.out; have := S8.out; have := S9.out; have := S10.out; have := S11.out; have := S12.out; have := S13.out; have := S14.out; have := S15.out; have := S16.out; have := S17.out; have := S18.out; have := S19.out; omega) HNq.out hNq1 hsq (by omega) (by omega)).mono ?_
  rintro e w23 ⟨rfl, o, G⟩
  replace HC := hid (HC.out.trans ((G.below (by have := S0.out; have := S1.out; have := S2.out; have := S3.out; have := S4.out; have := S5.out; have := S6.out; have := S7.out; have := S8.out; have := S9.out; have := S10.out; have := S11.out; have := S12.out; have := S13.out; have := S14.out; have := S15.out; have := S16.out; have := S17.out; have := S18.out; have := S19.out; omega)).mono (by have := S0.out; have := S1.out; have := S2.out; have := S3.out; have := S4.out; have := S5.out; have := S6.out; have := S7.out; have := S8.out; have := S9.out; have := S10.out; have := S11.out; have := S12.out; have := S13.out; have := S14.out; have := S15.out; have := S16.out; have := S17.out; have := S18.out; have := S19.out; omega)))
  replace HA := hid (HA0.out.below HC.out qN)
  replace HK1 := hid (HK10.out.below HC.out qN)
  replace BQ := hid (HBQ.out.below HC.out qN)
  replace HQ := hid (HRQ.out.below HC.out qN)
  replace BG := hid (BG.out.within G (by have := S0.out; have := S1.out; have := S2.out; have := S3.out; have := S4.out; have := S5.out; have := S6.out; have := S7.out; have := S8.out; have := S9.out; have := S10.out; have := S11.out; have := S12.out; have := S13.out; have := S14.out; have := S15.out; have := S16.out; have := S17.out; have := S18.out; have := S19.out; omega))
  have S20 := hid (G.size)
  clear G
  rw [HM.out]
  replace HG := hid o
  clear o
  have y0 := (BG.out).c0
  have yy0 := (BG.out).c1
  go_wp2_with fail
  clear y0 yy0
  refine (heldTree cHG RQ 1 HG.out.rd HNq.out hNq1 hsq (by omega) (by omega)).mono ?_
  rintro e w24 ⟨rfl, b⟩
  replace HA := hid (HA.out.below b qN)
  replace HK1 := hid (HK1.out.below b qN)
  replace BQ := hid (BQ.out.below b qN)
  replace HQ := hid (HQ.out.below b qN)
  replace HG := hid (HG.out.below b (by have := S0.out; have := S1.out; have := S2.out; have := S3.out; have := S4.out; have := S5.out; have := S6.out; have := S7.out; have := S8.out; have := S9.out; have := S10.out; have := S11.out; have := S12.out; have := S13.out; have := S14.out; have := S15.out; have := S16.out; have := S17.out; have := S18.out; have := S19.out; have := S20.out; omega))
  replace BG := hid (BG.out.below b qN)
  replace HC := hid (HC.out.trans (b.mono HC.out.size))
  have S21 := hid (b.size)
  clear b
  rw [HM.out]
  go_wp2_with fail
  go_cut [17, 18] (fun s8 s9 wx => ∃ (pQ : Nat) (aQ : Option Addr) (cQ : Nat), s8 = .pointer (some ⟨pQ, 0, none⟩) ∧ s9 = .bool BB ∧ Hid (BoxTr wx pQ (.slice aQ Nq cQ) RQ) ∧ Hid (ReadsD wx aQ DS) ∧ Hid (Below w24.heap.size w24 wx))
  case first =>
   have HAc := HA
   have HKc := HK1
   have HC := hid (Below.refl w24.heap.size w24)
   replace HA := hid (HA.out.below ((Still.drew w24).below _) qN)
   replace HK1 := hid (HK1.out.below ((Still.drew w24).below _) qN)
   replace HC := hid (HC.out.trans (((Still.drew w24).below _).mono HC.out.size))
   have S22 := hid ((Still.drew w24).size)
   refine region_K 99 (fun W => BoxTr W w.heap.size (.slice a n c) rt ∧ Box W (w.heap.size + 1) K1 N1 f1 ka1 zs1.length kc1) (by kernel_rfl) ?_ (fun hh => ?_)
   · exact ⟨HA.out.box, HK1.out.box⟩
   generalize w24.drew = v4x at *
   refine qT 0 rfl hh 99 rfl ?_ (by rintro W ⟨⟨r0, r1⟩, ⟨p10, p11, p12, p13⟩⟩; go_simp; try with_reducible rfl)
   refine qT 2 rfl hh 101 rfl ?_ (by rintro W ⟨⟨r0, r1⟩, ⟨p10, p11, p12, p13⟩⟩; go_simp; try with_reducible rfl)
   refine qT 4 rfl hh 103 rfl ?_ (by rintro W ⟨⟨r0, r1⟩, ⟨p10, p11, p12, p13⟩⟩; go_simp; try with_reducible rfl)
   refine anyK_two (i := 1) (j := 9) (by kernel_rfl) rfl rfl (fun KP hK => ?_) (fun KP hK => ?_)
   · skip
     go_simp
     refine (toTree c rt HA.out.reads hl (by omega) (by omega)).mono ?_
     rintro e w25 ⟨gp, rfl, o, b⟩
     replace HA := hid (HA.out.below b qN)
     replace HK1 := hid (HK1.out.below b qN)
     replace HC := hid (HC.out.trans (b.mono HC.out.size))
     have S23 := hid (b.size)
     clear b
     have PS := hid (TrC.own o hl)
     clear o
     go_wp2_with fail
     refine hK.out _ _ ?_ (fun hH2 => ?_)
     · exact ⟨HA.out.box, HK1.out.box⟩
     clear hK KP hh
     have hh := hH2
     clear hH2
     try simp only [qP]
     refine anyK_two (i := 3) (j := 9) (by kernel_rfl) rfl rfl (fun KP hK => ?_) (fun KP hK => ?_)
     · skip
       go_simp
       refine (toItem K1 N1 f1 kc1 HK1.out.reads (by omega)).mono ?_
       rintro e w26 ⟨gpi, rfl, o, b⟩
       replace HA := hid (HA.out.below b qN)
       replace HK1 := hid (HK1.out.below b qN)
       replace PS := hid (PS.out.below b qN)
       replace HC := hid (HC.out.trans (b.mono HC.out.size))
       have S24 := hid (b.size)
       clear b
       have PI := hid (show Reads w26 (some ⟨gpi, 0, none⟩) zs1.length zs1 by obtain ⟨_, _, e, r, _⟩ := Reads.own o Zbd1.out; obtain ⟨rfl, _, _⟩ := Value.slice.inj e; exact r)
       clear o
       go_wp2_with fail
       refine hK.out _ _ ?_ (fun hH2 => ?_)
       · exact ⟨HA.out.box, HK1.out.box⟩
       clear hK KP hh
       have hh := hH2
       clear hH2
       try simp only [qP]
       refine anyK_two (i := 5) (j := 9) (by kernel_rfl) rfl rfl (fun KP hK => ?_) (fun KP hK => ?_)
       · skip
         go_simp
         refine (HI.out.ok n rt K1 N1 f1 zs1.length id PS.out.rd hl HTx.out PS.out.cap.2 PS.out.cap.1 PS.out.eap (fun e => by cases e) PI.out ⟨rfl, hf1, by omega⟩ HIb.out).mono ?_
         rintro e w27 ⟨vq, he, oq, b⟩
         replace HA := hid (HA.out.below b qN)
         replace HK1 := hid (HK1.out.below b qN)
         replace PS := hid (PS.out.below b qN)
         replace PI := hid (PI.out.below b qN)
         replace HC := hid (HC.out.trans (b.mono HC.out.size))
         have S25 := hid (b.size)
         clear b
         obtain ⟨yq, nq⟩ := oq.nsr
         obtain ⟨aQ, cQ, e1⟩ := oq.slice
         subst e1
         clear oq
         clear PS
         clear PI
         rw [HDT.out] at he nq
         dsimp only at he nq
         rw [HNq.out] at he nq
         subst he
         have NQ := hid nq
         clear nq
         go_wp2_with fail
         refine hK.out _ _ ?_ (fun hH2 => ?_)
         · exact ⟨HA.out.box, HK1.out.box⟩
         clear hK KP hh
         have hh := hH2
         clear hH2
         try simp only [qP]
         refine qT 6 rfl hh 98 rfl ?_ (by rintro W ⟨⟨r0, r1⟩, ⟨p10, p11, p12, p13⟩⟩; go_simp; try with_reducible rfl)
         refine qT 7 rfl hh 105 rfl ?_ (by rintro W ⟨⟨r0, r1⟩, ⟨p10, p11, p12, p13⟩⟩; go_simp; try with_reducible rfl)
         refine qT 8 rfl hh 106 rfl ?_ (by rintro W ⟨⟨r0, r1⟩, ⟨p10, p11, p12, p13⟩⟩; go_simp; try with_reducible rfl)
         refine qS 9 rfl fun KP hK => ?_
         go_simp
         have HpL := hid (show w24.heap.size ≤ w27.heap.size from HC.out.size)
         have HBx := hid (heap_alloc_new w27 (.cells #[.slice none 0 0, .int .i64 0] 33))
         have b := Below.alloc1 w27 (.cells #[.slice none 0 0, .int .i64 0] 33)
         replace HA := hid (HA.out.below b qN)
         replace HK1 := hid (HK1.out.below b qN)
         replace NQ := hid (NQ.out.below b)
         replace HC := hid (HC.out.trans (b.mono HC.out.size))
         have S26 := hid (alloc_size w27 (.cells #[.slice none 0 0, .int .i64 0] 33))
         clear b
         refine hK.out _ _ ?_ (fun hH2 => ?_)
         · exact ⟨HA.out.box, HK1.out.box⟩
         clear hK KP hh
         have hh := hH2
         clear hH2
         try simp only [qP]
         generalize w27.alloc (.cells #[.slice none 0 0, .int .i64 0] 33) = t8 at *
         obtain ⟨pB, hpB⟩ : ∃ pB, w27.heap.size = pB := ⟨_, rfl⟩
         rw [hpB] at HBx HpL
         try simp only [hpB]
         clear hpB
         refine qS 10 rfl fun KP hK => ?_
         refine wp_store_row 33 (.tmp 17) (.tmp 105) rfl pB #[.slice aQ Nq cQ, .int .i64 RQ] rfl rfl 33 _ HBx.out size_tr11 rfl (by simp [Value.oneCell']) ?_
         have HFr := hid (NQ.out.row (cs' := #[.slice aQ Nq cQ, .int .i64 RQ]) HBx.out).rd
         have HRf := hid (setRow_heap _ _ _ #[.slice aQ Nq cQ, .int .i64 RQ] _ _ HBx.out)
         have HFb := hid (show BoxTr (t8.setRow pB #[.slice aQ Nq cQ, .int .i64 RQ]) pB (.slice aQ Nq cQ) RQ from ⟨qC HRf.out, qC HRf.out⟩)
         have BF := hid (below_setRow HC.out HpL.out #[.slice aQ Nq cQ, .int .i64 RQ])
         clear NQ HBx HRf
         refine hK.out _ _ ?_ (fun hH2 => ?_)
         · exact ⟨(HAc.out.below BF.out qN).box, (HKc.out.below BF.out qN).box⟩
         clear hK KP hh
         have hh := hH2
         clear hH2
         try simp only [qP]
         refine qS 11 rfl fun KP hK => ?_
         go_simp
         refine hK.out _ _ ?_ (fun hH2 => ?_)
         · exact ⟨(HAc.out.below BF.out qN).box, (HKc.out.below BF.out qN).box⟩
         clear hK KP hh
         have hh := hH2
         clear hH2
         try simp only [qP]
         refine anyK_done (by kernel_rfl) ?_ _
         clear hh
         go_wp2_with fail
         go_meet
         exact ⟨pB, aQ, cQ, rfl, rfl, HFb, HFr, BF⟩
       · skip
         go_simp
         have HpL := hid (show w24.heap.size ≤ w26.heap.size from HC.out.size)
         have HBx := hid (heap_alloc_new w26 (.cells #[.slice none 0 0, .int .i64 0] 33))
         have b := Below.alloc1 w26 (.cells #[.slice none 0 0, .int .i64 0] 33)
         replace HA := hid (HA.out.below b qN)
         replace HK1 := hid (HK1.out.below b qN)
         replace PS := hid (PS.out.below b qN)
         replace PI := hid (PI.out.below b qN)
         replace HC := hid (HC.out.trans (b.mono HC.out.size))
         have S25 := hid (alloc_size w26 (.cells #[.slice none 0 0, .int .i64 0] 33))
         clear b
         refine hK.out _ _ ?_ (fun hH2 => ?_)
         · exact ⟨HA.out.box, HK1.out.box⟩
         clear hK KP hh
         have hh := hH2
         clear hH2
         try simp only [qP]
         generalize w26.alloc (.cells #[.slice none 0 0, .int .i64 0] 33) = t9 at *
         obtain ⟨pB, hpB⟩ : ∃ pB, w26.heap.size = pB := ⟨_, rfl⟩
         rw [hpB] at HBx HpL
         try simp only [hpB]
         clear hpB
         refine qS 5 rfl fun KP hK => ?_
         go_simp
         refine (HI.out.ok n rt K1 N1 f1 zs1.length id PS.out.rd hl HTx.out PS.out.cap.2 PS.out.cap.1 PS.out.eap (fun e => by cases e) PI.out ⟨rfl, hf1, by omega⟩ HIb.out).mono ?_
         rintro e w28 ⟨vq, he, oq, b⟩
         replace HA := hid (HA.out.below b qN)
         replace HK1 := hid (HK1.out.below b qN)
         replace PS := hid (PS.out.below b qN)
         replace PI := hid (PI.out.below b qN)
         replace HBx := hid ((b.block _ (qL HBx.out)).trans HBx.out)
         replace HC := hid (HC.out.trans (b.mono HC.out.size))
         have S26 := hid (b.size)
         clear b
         obtain ⟨yq, nq⟩ := oq.nsr
         obtain ⟨aQ, cQ, e1⟩ := oq.slice
         subst e1
         clear oq
         clear PS
         clear PI
         rw [HDT.out] at he nq
         dsimp only at he nq
         rw [HNq.out] at he nq
         subst he
         have NQ := hid nq
         clear nq
         go_wp2_with fail
         refine hK.out _ _ ?_ (fun hH2 => ?_)
         · exact ⟨HA.out.box, HK1.out.box⟩
         clear hK KP hh
         have hh := hH2
         clear hH2
         try simp only [qP]
         refine qT 6 rfl hh 98 rfl ?_ (by rintro W ⟨⟨r0, r1⟩, ⟨p10, p11, p12, p13⟩⟩; go_simp; try with_reducible rfl)
         refine qT 7 rfl hh 105 rfl ?_ (by rintro W ⟨⟨r0, r1⟩, ⟨p10, p11, p12, p13⟩⟩; go_simp; try with_reducible rfl)
         refine qT 8 rfl hh 106 rfl ?_ (by rintro W ⟨⟨r0, r1⟩, ⟨p10, p11, p12, p13⟩⟩; go_simp; try with_reducible rfl)
         refine qS 10 rfl fun KP hK => ?_
         refine wp_store_row 33 (.tmp 17) (.tmp 105) rfl pB #[.slice aQ Nq cQ, .int .i64 RQ] rfl rfl 33 _ HBx.out size_tr11 rfl (by simp [Value.oneCell']) ?_
         have HFr := hid (NQ.out.row (cs' := #[.slice aQ Nq cQ, .int .i64 RQ]) HBx.out).rd
         have HRf := hid (setRow_heap _ _ _ #[.slice aQ Nq cQ, .int .i64 RQ] _ _ HBx.out)
         have HFb := hid (show BoxTr (w28.setRow pB #[.slice aQ Nq cQ, .int .i64 RQ]) pB (.slice aQ Nq cQ) RQ from ⟨qC HRf.out, qC HRf.out⟩)
         have BF := hid (below_setRow HC.out HpL.out #[.slice aQ Nq cQ, .int .i64 RQ])
         clear NQ HBx HRf
         refine hK.out _ _ ?_ (fun hH2 => ?_)
         · exact ⟨(HAc.out.below BF.out qN).box, (HKc.out.below BF.out qN).box⟩
         clear hK KP hh
         have hh := hH2
         clear hH2
         try simp only [qP]
         refine qS 11 rfl fun KP hK => ?_
         go_simp
         refine hK.out _ _ ?_ (fun hH2 => ?_)
         · exact ⟨(HAc.out.below BF.out qN).box, (HKc.out.below BF.out qN).box⟩
         clear hK KP hh
         have hh := hH2
         clear hH2
         try simp only [qP]
         refine anyK_done (by kernel_rfl) ?_ _
         clear hh
         go_wp2_with fail
         go_meet
         exact ⟨pB, aQ, cQ, rfl, rfl, HFb, HFr, BF⟩
     · skip
       go_simp
       have HpL := hid (show w24.heap.size ≤ w25.heap.size from HC.out.size)
       have HBx := hid (heap_alloc_new w25 (.cells #[.slice none 0 0, .int .i64 0] 33))
       have b := Below.alloc1 w25 (.cells #[.slice none 0 0, .int .i64 0] 33)
       replace HA := hid (HA.out.below b qN)
       replace HK1 := hid (HK1.out.below b qN)
       replace PS := hid (PS.out.below b qN)
       replace HC := hid (HC.out.trans (b.mono HC.out.size))
       have S24 := hid (alloc_size w25 (.cells #[.slice none 0 0, .int .i64 0] 33))
       clear b
       refine hK.out _ _ ?_ (fun hH2 => ?_)
       · exact ⟨HA.out.box, HK1.out.box⟩
       clear hK KP hh
       have hh := hH2
       clear hH2
       try simp only [qP]
       generalize w25.alloc (.cells #[.slice none 0 0, .int .i64 0] 33) = t10 at *
       obtain ⟨pB, hpB⟩ : ∃ pB, w25.heap.size = pB := ⟨_, rfl⟩
       rw [hpB] at HBx HpL
       try simp only [hpB]
       clear hpB
       refine qS 3 rfl fun KP hK => ?_
       go_simp
       refine (toItem K1 N1 f1 kc1 HK1.out.reads (by omega)).mono ?_
       rintro e w29 ⟨gpi, rfl, o, b⟩
       replace HA := hid (HA.out.below b qN)
       replace HK1 := hid (HK1.out.below b qN)
       replace PS := hid (PS.out.below b qN)
       replace HBx := hid ((b.block _ (qL HBx.out)).trans HBx.out)
       replace HC := hid (HC.out.trans (b.mono HC.out.size))
       have S25 := hid (b.size)
       clear b
       have PI := hid (show Reads w29 (some ⟨gpi, 0, none⟩) zs1.length zs1 by obtain ⟨_, _, e, r, _⟩ := Reads.own o Zbd1.out; obtain ⟨rfl, _, _⟩ := Value.slice.inj e; exact r)
       clear o
       go_wp2_with fail
       refine hK.out _ _ ?_ (fun hH2 => ?_)
       · exact ⟨HA.out.box, HK1.out.box⟩
       clear hK KP hh
       have hh := hH2
       clear hH2
       try simp only [qP]
       refine qS 5 rfl fun KP hK => ?_
       go_simp
       refine (HI.out.ok n rt K1 N1 f1 zs1.length id PS.out.rd hl HTx.out PS.out.cap.2 PS.out.cap.1 PS.out.eap (fun e => by cases e) PI.out ⟨rfl, hf1, by omega⟩ HIb.out).mono ?_
       rintro e w30 ⟨vq, he, oq, b⟩
       replace HA := hid (HA.out.below b qN)
       replace HK1 := hid (HK1.out.below b qN)
       replace PS := hid (PS.out.below b qN)
       replace HBx := hid ((b.block _ (qL HBx.out)).trans HBx.out)
       replace PI := hid (PI.out.below b qN)
       replace HC := hid (HC.out.trans (b.mono HC.out.size))
       have S26 := hid (b.size)
       clear b
       obtain ⟨yq, nq⟩ := oq.nsr
       obtain ⟨aQ, cQ, e1⟩ := oq.slice
       subst e1
       clear oq
       clear PS
       clear PI
       rw [HDT.out] at he nq
       dsimp only at he nq
       rw [HNq.out] at he nq
       subst he
       have NQ := hid nq
       clear nq
       go_wp2_with fail
       refine hK.out _ _ ?_ (fun hH2 => ?_)
       · exact ⟨HA.out.box, HK1.out.box⟩
       clear hK KP hh
       have hh := hH2
       clear hH2
       try simp only [qP]
       refine qT 6 rfl hh 98 rfl ?_ (by rintro W ⟨⟨r0, r1⟩, ⟨p10, p11, p12, p13⟩⟩; go_simp; try with_reducible rfl)
       refine qT 7 rfl hh 105 rfl ?_ (by rintro W ⟨⟨r0, r1⟩, ⟨p10, p11, p12, p13⟩⟩; go_simp; try with_reducible rfl)
       refine qT 8 rfl hh 106 rfl ?_ (by rintro W ⟨⟨r0, r1⟩, ⟨p10, p11, p12, p13⟩⟩; go_simp; try with_reducible rfl)
       refine qS 10 rfl fun KP hK => ?_
       refine wp_store_row 33 (.tmp 17) (.tmp 105) rfl pB #[.slice aQ Nq cQ, .int .i64 RQ] rfl rfl 33 _ HBx.out size_tr11 rfl (by simp [Value.oneCell']) ?_
       have HFr := hid (NQ.out.row (cs' := #[.slice aQ Nq cQ, .int .i64 RQ]) HBx.out).rd
       have HRf := hid (setRow_heap _ _ _ #[.slice aQ Nq cQ, .int .i64 RQ] _ _ HBx.out)
       have HFb := hid (show BoxTr (w30.setRow pB #[.slice aQ Nq cQ, .int .i64 RQ]) pB (.slice aQ Nq cQ) RQ from ⟨qC HRf.out, qC HRf.out⟩)
       have BF := hid (below_setRow HC.out HpL.out #[.slice aQ Nq cQ, .int .i64 RQ])
       clear NQ HBx HRf
       refine hK.out _ _ ?_ (fun hH2 => ?_)
       · exact ⟨(HAc.out.below BF.out qN).box, (HKc.out.below BF.out qN).box⟩
       clear hK KP hh
       have hh := hH2
       clear hH2
       try simp only [qP]
       refine qS 11 rfl fun KP hK => ?_
       go_simp
       refine hK.out _ _ ?_ (fun hH2 => ?_)
       · exact ⟨(HAc.out.below BF.out qN).box, (HKc.out.below BF.out qN).box⟩
       clear hK KP hh
       have hh := hH2
       clear hH2
       try simp only [qP]
       refine anyK_done (by kernel_rfl) ?_ _
       clear hh
       go_wp2_with fail
       go_meet
       exact ⟨pB, aQ, cQ, rfl, rfl, HFb, HFr, BF⟩
   · skip
     go_simp
     have HpL := hid (show w24.heap.size ≤ v4x.heap.size from HC.out.size)
     have HBx := hid (heap_alloc_new v4x (.cells #[.slice none 0 0, .int .i64 0] 33))
     have b := Below.alloc1 v4x (.cells #[.slice none 0 0, .int .i64 0] 33)
     replace HA := hid (HA.out.below b qN)
     replace HK1 := hid (HK1.out.below b qN)
     replace HC := hid (HC.out.trans (b.mono HC.out.size))
     have S23 := hid (alloc_size v4x (.cells #[.slice none 0 0, .int .i64 0] 33))
     clear b
     refine hK.out _ _ ?_ (fun hH2 => ?_)
     · exact ⟨HA.out.box, HK1.out.box⟩
     clear hK KP hh
     have hh := hH2
     clear hH2
     try simp only [qP]
     generalize v4x.alloc (.cells #[.slice none 0 0, .int .i64 0] 33) = t11 at *
     obtain ⟨pB, hpB⟩ : ∃ pB, v4x.heap.size = pB := ⟨_, rfl⟩
     rw [hpB] at HBx HpL
     try simp only [hpB]
     clear hpB
     refine qS 1 rfl fun KP hK => ?_
     go_simp
     refine (toTree c rt HA.out.reads hl (by omega) (by omega)).mono ?_
     rintro e w31 ⟨gp, rfl, o, b⟩
     replace HA := hid (HA.out.below b qN)
     replace HK1 := hid (HK1.out.below b qN)
     replace HBx := hid ((b.block _ (qL HBx.out)).trans HBx.out)
     replace HC := hid (HC.out.trans (b.mono HC.out.size))
     have S24 := hid (b.size)
     clear b
     have PS := hid (TrC.own o hl)
     clear o
     go_wp2_with fail
     refine hK.out _ _ ?_ (fun hH2 => ?_)
     · exact ⟨HA.out.box, HK1.out.box⟩
     clear hK KP hh
     have hh := hH2
     clear hH2
     try simp only [qP]
     refine qS 3 rfl fun KP hK => ?_
     go_simp
     refine (toItem K1 N1 f1 kc1 HK1.out.reads (by omega)).mono ?_
     rintro e w32 ⟨gpi, rfl, o, b⟩
     replace HA := hid (HA.out.below b qN)
     replace HK1 := hid (HK1.out.below b qN)
     replace HBx := hid ((b.block _ (qL HBx.out)).trans HBx.out)
     replace PS := hid (PS.out.below b qN)
     replace HC := hid (HC.out.trans (b.mono HC.out.size))
     have S25 := hid (b.size)
     clear b
     have PI := hid (show Reads w32 (some ⟨gpi, 0, none⟩) zs1.length zs1 by obtain ⟨_, _, e, r, _⟩ := Reads.own o Zbd1.out; obtain ⟨rfl, _, _⟩ := Value.slice.inj e; exact r)
     clear o
     go_wp2_with fail
     refine hK.out _ _ ?_ (fun hH2 => ?_)
     · exact ⟨HA.out.box, HK1.out.box⟩
     clear hK KP hh
     have hh := hH2
     clear hH2
     try simp only [qP]
     refine qS 5 rfl fun KP hK => ?_
     go_simp
     refine (HI.out.ok n rt K1 N1 f1 zs1.length id PS.out.rd hl HTx.out PS.out.cap.2 PS.out.cap.1 PS.out.eap (fun e => by cases e) PI.out ⟨rfl, hf1, by omega⟩ HIb.out).mono ?_
     rintro e w33 ⟨vq, he, oq, b⟩
     replace HA := hid (HA.out.below b qN)
     replace HK1 := hid (HK1.out.below b qN)
     replace HBx := hid ((b.block _ (qL HBx.out)).trans HBx.out)
     replace PS := hid (PS.out.below b qN)
     replace PI := hid (PI.out.below b qN)
     replace HC := hid (HC.out.trans (b.mono HC.out.size))
     have S26 := hid (b.size)
     clear b
     obtain ⟨yq, nq⟩ := oq.nsr
     obtain ⟨aQ, cQ, e1⟩ := oq.slice
     subst e1
     clear oq
     clear PS
     clear PI
     rw [HDT.out] at he nq
     dsimp only at he nq
     rw [HNq.out] at he nq
     subst he
     have NQ := hid nq
     clear nq
     go_wp2_with fail
     refine hK.out _ _ ?_ (fun hH2 => ?_)
     · exact ⟨HA.out.box, HK1.out.box⟩
     clear hK KP hh
     have hh := hH2
     clear hH2
     try simp only [qP]
     refine qT 6 rfl hh 98 rfl ?_ (by rintro W ⟨⟨r0, r1⟩, ⟨p10, p11, p12, p13⟩⟩; go_simp; try with_reducible rfl)
     refine qT 7 rfl hh 105 rfl ?_ (by rintro W ⟨⟨r0, r1⟩, ⟨p10, p11, p12, p13⟩⟩; go_simp; try with_reducible rfl)
     refine qT 8 rfl hh 106 rfl ?_ (by rintro W ⟨⟨r0, r1⟩, ⟨p10, p11, p12, p13⟩⟩; go_simp; try with_reducible rfl)
     refine qS 10 rfl fun KP hK => ?_
     refine wp_store_row 33 (.tmp 17) (.tmp 105) rfl pB #[.slice aQ Nq cQ, .int .i64 RQ] rfl rfl 33 _ HBx.out size_tr11 rfl (by simp [Value.oneCell']) ?_
     have HFr := hid (NQ.out.row (cs' := #[.slice aQ Nq cQ, .int .i64 RQ]) HBx.out).rd
     have HRf := hid (setRow_heap _ _ _ #[.slice aQ Nq cQ, .int .i64 RQ] _ _ HBx.out)
     have HFb := hid (show BoxTr (w33.setRow pB #[.slice aQ Nq cQ, .int .i64 RQ]) pB (.slice aQ Nq cQ) RQ from ⟨qC HRf.out, qC HRf.out⟩)
     have BF := hid (below_setRow HC.out HpL.out #[.slice aQ Nq cQ, .int .i64 RQ])
     clear NQ HBx HRf
     refine hK.out _ _ ?_ (fun hH2 => ?_)
     · exact ⟨(HAc.out.below BF.out qN).box, (HKc.out.below BF.out qN).box⟩
     clear hK KP hh
     have hh := hH2
     clear hH2
     try simp only [qP]
     refine qS 11 rfl fun KP hK => ?_
     go_simp
     refine hK.out _ _ ?_ (fun hH2 => ?_)
     · exact ⟨(HAc.out.below BF.out qN).box, (HKc.out.below BF.out qN).box⟩
     clear hK KP hh
     have hh := hH2
     clear hH2
     try simp only [qP]
     refine anyK_done (by kernel_rfl) ?_ _
     clear hh
     go_wp2_with fail
     go_meet
     exact ⟨pB, aQ, cQ, rfl, rfl, HFb, HFr, BF⟩
  case rest =>
   obtain ⟨pH, aH, cH, rfl, rfl, BH, HH, HCt⟩ := hcut
   generalize wc = X1 at *
   have b := HCt.out
   replace HA := hid (HA.out.below b qN)
   replace HK1 := hid (HK1.out.below b qN)
   replace BQ := hid (BQ.out.below b qN)
   replace HQ := hid (HQ.out.below b qN)
   replace HG := hid (HG.out.below b (by have := S0.out; have := S1.out; have := S2.out; have := S3.out; have := S4.out; have := S5.out; have := S6.out; have := S7.out; have := S8.out; have := S9.out; have := S10.out; have := S11.out; have := S12.out; have := S13.out; have := S14.out; have := S15.out; have := S16.out; have := S17.out; have := S18.out; have := S19.out; have := S20.out; have := S21.out; omega))
   replace BG := hid (BG.out.below b qN)
   replace HC := hid (HC.out.trans (b.mono HC.out.size))
   have S22 := hid (b.size)
   clear b
   have y0 := (BH.out).c0
   have yy0 := (BH.out).c1
   have y1 := (BQ.out).c0
   have yy1 := (BQ.out).c1
   go_wp2_with fail
   clear y0 yy0 y1 yy1
   refine (eqTree cH cQ RQ HH.out HQ.out HNq.out hNq1 hsq).mono ?_
   rintro e w34 ⟨rfl, b⟩
   replace HA := hid (HA.out.below b qN)
   replace HK1 := hid (HK1.out.below b qN)
   replace BQ := hid (BQ.out.below b qN)
   replace HQ := hid (HQ.out.below b qN)
   replace HG := hid (HG.out.below b (by have := S0.out; have := S1.out; have := S2.out; have := S3.out; have := S4.out; have := S5.out; have := S6.out; have := S7.out; have := S8.out; have := S9.out; have := S10.out; have := S11.out; have := S12.out; have := S13.out; have := S14.out; have := S15.out; have := S16.out; have := S17.out; have := S18.out; have := S19.out; have := S20.out; have := S21.out; have := S22.out; omega))
   replace BG := hid (BG.out.below b qN)
   replace BH := hid (BH.out.below b qN)
   replace HH := hid (HH.out.below b qN)
   replace HC := hid (HC.out.trans (b.mono HC.out.size))
   have S23 := hid (b.size)
   clear b
   have y0 := (BG.out).c0
   have yy0 := (BG.out).c1
   go_wp2_with fail
   clear y0 yy0
   refine (heldTree cHG RQ 1 HG.out.rd HNq.out hNq1 hsq (by omega) (by omega)).mono ?_
   rintro e w35 ⟨rfl, b⟩
   replace HA := hid (HA.out.below b qN)
   replace HK1 := hid (HK1.out.below b qN)
   replace BQ := hid (BQ.out.below b qN)
   replace HQ := hid (HQ.out.below b qN)
   replace HG := hid (HG.out.below b (by have := S0.out; have := S1.out; have := S2.out; have := S3.out; have := S4.out; have := S5.out; have := S6.out; have := S7.out; have := S8.out; have := S9.out; have := S10.out; have := S11.out; have := S12.out; have := S13.out; have := S14.out; have := S15.out; have := S16.out; have := S17.out; have := S18.out; have := S19.out; have := S20.out; have := S21.out; have := S22.out; have := S23.out; omega))
   replace BG := hid (BG.out.below b qN)
   replace BH := hid (BH.out.below b qN)
   replace HH := hid (HH.out.below b qN)
   replace HC := hid (HC.out.trans (b.mono HC.out.size))
   have S24 := hid (b.size)
   clear b
   rw [HM.out]
   go_wp2_with fail
   go_ret
   exact ⟨rfl, HB0.out.trans (HC.out.mono HB0.out.size)⟩
end Go.Proofs.YtlkoghdajpbffaaGreat
