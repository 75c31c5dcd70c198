/- Texts of this proof in one: Kq11 Kr11. -/
import Derived.Test.YtlkoghdajpbffaaGreatMgj
/- The program's stretches: what they have, those of a node's kids. Conditions: texts of at most 2^21 bytes. -/

namespace Go.Proofs.YtlkoghdajpbffaaGreat
open Go.RowKit
set_option maxRecDepth 100000
def PtrE (w0 : World) : Option En → Value → Prop
 | none, v => v = .pointer none
 | some e, v => ∃ b o a c, v = .pointer (some ⟨b, o, none⟩) ∧ Box5 w0 b o e.K e.N e.F (.slice a e.Z.length c) e.id ∧ Reads w0 a e.Z.length e.Z ∧ e.F < 18446744073709551616 ∧ e.Z.length ≤ 2097152
theorem PtrE.shape {w0 : World} : ∀ {lo : Option En} {v : Value}, PtrE w0 lo v → ∃ q, v = .pointer q
 | none, _, h => ⟨_, h⟩
 | some _, _, ⟨b, o, _, _, h, _⟩ => ⟨some ⟨b, o, none⟩, h⟩
def loB (lo : Option En) (e : En) : Bool := match lo with | none => true | some a => !ltE e a
def hiB (hi : Option En) (e : En) : Bool := match hi with | none => true | some b => ltE e b
theorem hasB_of (lo hi : Option En) (e : En) : hasB lo hi e = (entOk e && (loB lo e && hiB hi e)) := rfl
set_option maxHeartbeats 6400000 in
theorem impl_has {w0 : World} {lo hi : Option En} {vl vh : Value} (hl : PtrE w0 lo vl) (hh : PtrE w0 hi vh) (K N : Int) (F : Nat) {ad : Option Addr} {n : Nat} (cap : Nat) (id : Int) {Z : List Int} {w : World} (hw : Below w0.heap.size w0 w) (hr : Reads w0 ad n Z) (hZ : Z.length = n) (hF : F < 18446744073709551616) (hn : n ≤ 2097152) :
 Calls Tryz.prog 78 #[.agg #[vl, vh], .agg #[.int .i64 K, .int .i64 N, .float .f64 F, .slice ad n cap, .int .i64 id]] w fun e w' => e = .returned (.bool (hasB lo hi ⟨K, N, F, Z, id⟩)) ∧ Below w.heap.size w w' := by
 obtain ⟨ql, rfl⟩ := hl.shape
 obtain ⟨qh, rfl⟩ := hh.shape
 have hst := fun w a m => run_store Tryz.prog w a (.float .f64 F) m rfl
 have hB := two w (.cells #[.pointer ql, .pointer qh] 107) (.cells #[.int .i64 K, .int .i64 N, .float .f64 F, .slice ad n cap, .int .i64 id] 48)
 obtain ⟨R1, R2, z⟩ := two_rows11 w (.cells #[.pointer ql, .pointer qh] 107) (.cells #[.int .i64 K, .int .i64 N, .float .f64 F, .slice ad n cap, .int .i64 id] 48)
 have HB := hid hB
 have HW := hid hw
 have HR := hid hr
 have HL := hid hl
 have HH := hid hh
 have HR1 := hid R1
 have HR2 := hid R2
 have HZ := hid z
 have HE := hid (hasB_of lo hi ⟨K, N, F, Z, id⟩)
 have HEn := hid (show entOk ⟨K, N, F, Z, id⟩ = entB K N F n id by rw [← hZ]; rfl)
 have HLn := hid hZ
 clear hB R1 R2 z hr hw hl hh hZ
 go_enter Tryz.func78, Tryz.ntmps78
 go_wp2_with fail
 generalize (w.alloc (.cells #[.pointer ql, .pointer qh] 107)).alloc (.cells #[.int .i64 K, .int .i64 N, .float .f64 F, .slice ad n cap, .int .i64 id] 48) = V at *
 obtain ⟨p0, hp0⟩ : ∃ p0, w.heap.size = p0 := ⟨_, rfl⟩
 obtain ⟨p1, hp1⟩ : ∃ p1, w.heap.size + 1 = p1 := ⟨_, rfl⟩
 have HP := hid (show p0 < V.heap.size ∧ p1 < V.heap.size by have := HZ.out; omega)
 rw [hp0] at HR1
 rw [hp1] at HR2
 try simp only [hp1]
 try simp only [hp0]
 clear hp1 hp0 HZ
 have HKp := hid (show ∀ W', Below V.heap.size V W' → (W'.cell? ⟨p0, 0, none⟩ = some (.pointer ql) ∧ W'.cell? ⟨p0, 1, none⟩ = some (.pointer qh)) ∧ (W'.cell? ⟨p1, 0, none⟩ = some (.int .i64 K) ∧ W'.cell? ⟨p1, 1, none⟩ = some (.int .i64 N) ∧ W'.cell? ⟨p1, 2, none⟩ = some (.float .f64 F) ∧ W'.cell? ⟨p1, 3, none⟩ = some (.slice ad n cap) ∧ W'.cell? ⟨p1, 4, none⟩ = some (.int .i64 id)) ∧ Hid (Below w0.heap.size w0 W') from fun W' b => by
  have r1 := (b.block p0 HP.out.1).trans HR1.out
  have r2 := (b.block p1 HP.out.2).trans HR2.out
  exact ⟨⟨qC r1, qC r1⟩, ⟨qC r2, qC r2, qC r2, qC r2, qC r2⟩, hid (HW.out.trans ((HB.out.trans (b.mono HB.out.size)).mono HW.out.size))⟩)
 clear HR1 HR2 HP
 have BC := hid ((Still.drew V).below V.heap.size)
 refine region_K 99 (fun W => (W.cell? ⟨p0, 0, none⟩ = some (.pointer ql) ∧ W.cell? ⟨p0, 1, none⟩ = some (.pointer qh)) ∧ (W.cell? ⟨p1, 0, none⟩ = some (.int .i64 K) ∧ W.cell? ⟨p1, 1, none⟩ = some (.int .i64 N) ∧ W.cell? ⟨p1, 2, none⟩ = some (.float .f64 F) ∧ W.cell? ⟨p1, 3, none⟩ = some (.slice ad n cap) ∧ W.cell? ⟨p1, 4, none⟩ = some (.int .i64 id)) ∧ Hid (Below w0.heap.size w0 W)) (by kernel_rfl) ?_ (fun hHeld => ?_)
 · exact HKp.out _ BC.out
 generalize V.drew = vd at *
 refine qT 0 rfl hHeld 5 rfl ?_
 refine qS 1 rfl fun KP hK => ?_
 go_simp
 refine (impl_entry K N F ad n cap id hF hn _).mono ?_
 rintro e v1 ⟨rfl, b⟩
 replace BC := hid (BC.out.trans (b.mono BC.out.size))
 clear b
 obtain ⟨EO, hEO⟩ : ∃ EO, entB K N F n id = EO := ⟨_, rfl⟩
 rw [hEO]
 rw [HEn.out, hEO] at HE
 clear hEO
 go_wp2_with fail
 clear hHeld
 refine hK.out _ _ (HKp.out _ BC.out) (fun hHeld => ?_)
 clear hK KP
 try simp only [qP]
 cases EO with
 | false =>
  refine qT 2 rfl hHeld 7 rfl ?_
  refine qK 3 rfl hHeld 8 rfl ?_
  refine qK 4 rfl hHeld 9 rfl ?_
  refine qK 5 rfl hHeld 10 rfl ?_
  refine qK 6 rfl hHeld 11 rfl ?_
  refine qK 7 rfl hHeld 12 rfl ?_
  refine qK 8 rfl hHeld 13 rfl ?_
  refine qK 9 rfl hHeld 14 rfl ?_
  refine qK 10 rfl hHeld 15 rfl ?_
  refine qK 11 rfl hHeld 16 rfl ?_
  refine qK 12 rfl hHeld 17 rfl ?_
  refine qK 13 rfl hHeld 18 rfl ?_
  refine qT 14 rfl hHeld 19 rfl ?_
  refine qT 15 rfl hHeld 20 rfl ?_
  refine qK 16 rfl hHeld 21 rfl ?_
  refine qK 17 rfl hHeld 22 rfl ?_
  refine qK 18 rfl hHeld 23 rfl ?_
  refine qK 19 rfl hHeld 24 rfl ?_
  refine qK 20 rfl hHeld 25 rfl ?_
  refine qK 21 rfl hHeld 26 rfl ?_
  refine qK 22 rfl hHeld 27 rfl ?_
  refine qK 23 rfl hHeld 28 rfl ?_
  refine qK 24 rfl hHeld 29 rfl ?_
  refine qK 25 rfl hHeld 30 rfl ?_
  refine qK 26 rfl hHeld 31 rfl ?_
  refine qK 27 rfl hHeld 32 rfl ?_
  refine qT 28 rfl hHeld 33 rfl ?_
  refine qT 29 rfl hHeld 4 rfl ?_
  refine anyK_done (by kernel_rfl) ?_ _
  clear hHeld
  go_wp2_with fail
  go_ret
  exact ⟨by rw [HE.out]; first | rfl | simp, HB.out.trans (BC.out.mono HB.out.size)⟩
 | true =>
  refine qT 2 rfl hHeld 7 rfl ?_
  refine qT 3 rfl hHeld 8 rfl ?_
  refine qT 4 rfl hHeld 9 rfl ?_
  cases lo with
  | none =>
   obtain rfl : ql = none := by have := HL.out; simpa [PtrE] using this
   refine qT 5 rfl hHeld 10 rfl ?_
   refine qT 6 rfl hHeld 11 rfl ?_
   refine qK 7 rfl hHeld 12 rfl ?_
   refine qK 8 rfl hHeld 13 rfl ?_
   refine qK 9 rfl hHeld 14 rfl ?_
   refine qK 10 rfl hHeld 15 rfl ?_
   refine qK 11 rfl hHeld 16 rfl ?_
   refine qK 12 rfl hHeld 17 rfl ?_
   refine qT 13 rfl hHeld 18 rfl ?_
   refine qT 14 rfl hHeld 19 rfl ?_
   refine qT 15 rfl hHeld 20 rfl ?_
   cases hi with
   | none =>
    obtain rfl : qh = none := by have := HH.out; simpa [PtrE] using this
    refine qT 16 rfl hHeld 21 rfl ?_
    refine qT 17 rfl hHeld 22 rfl ?_
    refine qT 18 rfl hHeld 23 rfl ?_
    refine qT 19 rfl hHeld 24 rfl ?_
    refine qK 20 rfl hHeld 25 rfl ?_
    refine qK 21 rfl hHeld 26 rfl ?_
    refine qK 22 rfl hHeld 27 rfl ?_
    refine qK 23 rfl hHeld 28 rfl ?_
    refine qK 24 rfl hHeld 29 rfl ?_
    refine qK 25 rfl hHeld 30 rfl ?_
    refine qK 26 rfl hHeld 31 rfl ?_
    refine qT 27 rfl hHeld 32 rfl ?_
    refine qT 28 rfl hHeld 33 rfl ?_
    refine qT 29 rfl hHeld 4 rfl ?_
    refine anyK_done (by kernel_rfl) ?_ _
    clear hHeld
    go_wp2_with fail
    go_ret
    exact ⟨by rw [HE.out]; first | rfl | simp, HB.out.trans (BC.out.mono HB.out.size)⟩
   | some eh =>
    obtain ⟨b2, o2, a2, c2, e2, bx2, r2, f2, m2⟩ := HH.out
    obtain rfl : qh = some ⟨b2, o2, none⟩ := by simpa using e2
    clear e2
    have BX2 := hid bx2
    have RX2 := hid r2
    clear bx2 r2
    refine qT 16 rfl hHeld 21 rfl ?_
    refine qT 17 rfl hHeld 22 rfl ?_
    refine qT 18 rfl hHeld 23 rfl ?_
    refine qT 19 rfl hHeld 24 rfl ?_
    refine qT 20 rfl hHeld 25 rfl ?_
    refine qT 21 rfl hHeld 26 rfl ?_
    refine qT 22 rfl hHeld 27 rfl ?_
    refine qT 23 rfl hHeld 28 rfl ?_
    refine anyK_take2 (i := 24) (v := ?v30) rfl (by kernel_rfl) (by kernel_rfl) (by kernel_rfl) (by rfl) (fun _ _ _ h => h) (by rfl) hHeld ?hy30 (some 29) (by rfl) ?rest30
    case hy30 => (intro W hSw; obtain ⟨⟨x0, x1⟩, ⟨y0, y1, y2, y3, y4⟩, HbW⟩ := hSw; obtain ⟨z0, z1, z2, z3, z4⟩ := BX2.out.below HbW.out qN; go_simp; (try with_reducible rfl))
    try simp only [qP]
    refine qS 25 rfl fun KP hK => ?_
    go_simp
    refine (impl_notBelow K N F cap id eh.K eh.N eh.F c2 eh.id hF f2 (HR.out.below (HKp.out _ BC.out).2.2.out qN) (RX2.out.below (HKp.out _ BC.out).2.2.out qN) hn m2).mono ?_
    rintro e v3 ⟨rfl, b⟩
    replace BC := hid (BC.out.trans (b.mono BC.out.size))
    clear b
    have hcm := hid (show hiB (some eh) ⟨K, N, F, Z, id⟩ = ltB (cmpI K N F n Z eh.K eh.N eh.F eh.Z.length eh.Z) id eh.id by rw [← HLn.out]; rfl)
    obtain ⟨HT, hHT⟩ : ∃ HT, ltB (cmpI K N F n Z eh.K eh.N eh.F eh.Z.length eh.Z) id eh.id = HT := ⟨_, rfl⟩
    rw [hHT]
    rw [hcm.out, hHT] at HE
    clear hHT hcm
    go_wp2_with fail
    clear hHeld
    refine hK.out _ _ (HKp.out _ BC.out) (fun hHeld => ?_)
    clear hK KP
    try simp only [qP]
    cases HT with
    | false =>
     refine qT 26 rfl hHeld 31 rfl ?_
     refine qT 27 rfl hHeld 32 rfl ?_
     refine qT 28 rfl hHeld 33 rfl ?_
     refine qT 29 rfl hHeld 4 rfl ?_
     refine anyK_done (by kernel_rfl) ?_ _
     clear hHeld
     go_wp2_with fail
     go_ret
     exact ⟨by rw [HE.out]; first | rfl | simp, HB.out.trans (BC.out.mono HB.out.size)⟩
    | true =>
     refine qT 26 rfl hHeld 31 rfl ?_
     refine qT 27 rfl hHeld 32 rfl ?_
     refine qT 28 rfl hHeld 33 rfl ?_
     refine qT 29 rfl hHeld 4 rfl ?_
     refine anyK_done (by kernel_rfl) ?_ _
     clear hHeld
     go_wp2_with fail
     go_ret
     exact ⟨by rw [HE.out]; first | rfl | simp, HB.out.trans (BC.out.mono HB.out.size)⟩
  | some el =>
   obtain ⟨b1, o1, a1, c1, e1, bx1, r1, f1, m1⟩ := HL.out
   obtain rfl : ql = some ⟨b1, o1, none⟩ := by simpa using e1
   clear e1
   have BX1 := hid bx1
   have RX1 := hid r1
   clear bx1 r1
   refine qT 5 rfl hHeld 10 rfl ?_
   refine qT 6 rfl hHeld 11 rfl ?_
   refine qT 7 rfl hHeld 12 rfl ?_
   refine qT 8 rfl hHeld 13 rfl ?_
   refine qT 9 rfl hHeld 14 rfl ?_
   refine qT 10 rfl hHeld 15 rfl ?_
   refine anyK_take2 (i := 11) (v := ?v45) rfl (by kernel_rfl) (by kernel_rfl) (by kernel_rfl) (by rfl) (fun _ _ _ h => h) (by rfl) hHeld ?hy45 (some 16) (by rfl) ?rest45
   case hy45 => (intro W hSw; obtain ⟨⟨x0, x1⟩, ⟨y0, y1, y2, y3, y4⟩, HbW⟩ := hSw; obtain ⟨z0, z1, z2, z3, z4⟩ := BX1.out.below HbW.out qN; go_simp; (try with_reducible rfl))
   try simp only [qP]
   refine qS 12 rfl fun KP hK => ?_
   go_simp
   refine (impl_notBelow K N F cap id el.K el.N el.F c1 el.id hF f1 (HR.out.below (HKp.out _ BC.out).2.2.out qN) (RX1.out.below (HKp.out _ BC.out).2.2.out qN) hn m1).mono ?_
   rintro e v2 ⟨rfl, b⟩
   replace BC := hid (BC.out.trans (b.mono BC.out.size))
   clear b
   have hcm := hid (show loB (some el) ⟨K, N, F, Z, id⟩ = !ltB (cmpI K N F n Z el.K el.N el.F el.Z.length el.Z) id el.id by rw [← HLn.out]; rfl)
   obtain ⟨LT, hLT⟩ : ∃ LT, ltB (cmpI K N F n Z el.K el.N el.F el.Z.length el.Z) id el.id = LT := ⟨_, rfl⟩
   rw [hLT]
   rw [hcm.out, hLT] at HE
   clear hLT hcm
   go_wp2_with fail
   clear hHeld
   refine hK.out _ _ (HKp.out _ BC.out) (fun hHeld => ?_)
   clear hK KP
   try simp only [qP]
   cases LT with
   | true =>
    refine qT 13 rfl hHeld 18 rfl ?_
    refine qT 14 rfl hHeld 19 rfl ?_
    refine qT 15 rfl hHeld 20 rfl ?_
    refine qK 16 rfl hHeld 21 rfl ?_
    refine qK 17 rfl hHeld 22 rfl ?_
    refine qK 18 rfl hHeld 23 rfl ?_
    refine qK 19 rfl hHeld 24 rfl ?_
    refine qK 20 rfl hHeld 25 rfl ?_
    refine qK 21 rfl hHeld 26 rfl ?_
    refine qK 22 rfl hHeld 27 rfl ?_
    refine qK 23 rfl hHeld 28 rfl ?_
    refine qK 24 rfl hHeld 29 rfl ?_
    refine qK 25 rfl hHeld 30 rfl ?_
    refine qK 26 rfl hHeld 31 rfl ?_
    refine qK 27 rfl hHeld 32 rfl ?_
    refine qT 28 rfl hHeld 33 rfl ?_
    refine qT 29 rfl hHeld 4 rfl ?_
    refine anyK_done (by kernel_rfl) ?_ _
    clear hHeld
    go_wp2_with fail
    go_ret
    exact ⟨by rw [HE.out]; first | rfl | simp, HB.out.trans (BC.out.mono HB.out.size)⟩
   | false =>
    refine qT 13 rfl hHeld 18 rfl ?_
    refine qT 14 rfl hHeld 19 rfl ?_
    refine qT 15 rfl hHeld 20 rfl ?_
    cases hi with
    | none =>
     obtain rfl : qh = none := by have := HH.out; simpa [PtrE] using this
     refine qT 16 rfl hHeld 21 rfl ?_
     refine qT 17 rfl hHeld 22 rfl ?_
     refine qT 18 rfl hHeld 23 rfl ?_
     refine qT 19 rfl hHeld 24 rfl ?_
     refine qK 20 rfl hHeld 25 rfl ?_
     refine qK 21 rfl hHeld 26 rfl ?_
     refine qK 22 rfl hHeld 27 rfl ?_
     refine qK 23 rfl hHeld 28 rfl ?_
     refine qK 24 rfl hHeld 29 rfl ?_
     refine qK 25 rfl hHeld 30 rfl ?_
     refine qK 26 rfl hHeld 31 rfl ?_
     refine qT 27 rfl hHeld 32 rfl ?_
     refine qT 28 rfl hHeld 33 rfl ?_
     refine qT 29 rfl hHeld 4 rfl ?_
     refine anyK_done (by kernel_rfl) ?_ _
     clear hHeld
     go_wp2_with fail
     go_ret
     exact ⟨by rw [HE.out]; first | rfl | simp, HB.out.trans (BC.out.mono HB.out.size)⟩
    | some eh =>
     obtain ⟨b2, o2, a2, c2, e2, bx2, r2, f2, m2⟩ := HH.out
     obtain rfl : qh = some ⟨b2, o2, none⟩ := by simpa using e2
     clear e2
     have BX2 := hid bx2
     have RX2 := hid r2
     clear bx2 r2
     refine qT 16 rfl hHeld 21 rfl ?_
     refine qT 17 rfl hHeld 22 rfl ?_
     refine qT 18 rfl hHeld 23 rfl ?_
     refine qT 19 rfl hHeld 24 rfl ?_
     refine qT 20 rfl hHeld 25 rfl ?_
     refine qT 21 rfl hHeld 26 rfl ?_
     refine qT 22 rfl hHeld 27 rfl ?_
     refine qT 23 rfl hHeld 28 rfl ?_
     refine anyK_take2 (i := 24) (v := ?v69) rfl (by kernel_rfl) (by kernel_rfl) (by kernel_rfl) (by rfl) (fun _ _ _ h => h) (by rfl) hHeld ?hy69 (some 29) (by rfl) ?rest69
     case hy69 => (intro W hSw; obtain ⟨⟨x0, x1⟩, ⟨y0, y1, y2, y3, y4⟩, HbW⟩ := hSw; obtain ⟨z0, z1, z2, z3, z4⟩ := BX2.out.below HbW.out qN; go_simp; (try with_reducible rfl))
     try simp only [qP]
     refine qS 25 rfl fun KP hK => ?_
     go_simp
     refine (impl_notBelow K N F cap id eh.K eh.N eh.F c2 eh.id hF f2 (HR.out.below (HKp.out _ BC.out).2.2.out qN) (RX2.out.below (HKp.out _ BC.out).2.2.out qN) hn m2).mono ?_
     rintro e v3 ⟨rfl, b⟩
     replace BC := hid (BC.out.trans (b.mono BC.out.size))
     clear b
     have hcm := hid (show hiB (some eh) ⟨K, N, F, Z, id⟩ = ltB (cmpI K N F n Z eh.K eh.N eh.F eh.Z.length eh.Z) id eh.id by rw [← HLn.out]; rfl)
     obtain ⟨HT, hHT⟩ : ∃ HT, ltB (cmpI K N F n Z eh.K eh.N eh.F eh.Z.length eh.Z) id eh.id = HT := ⟨_, rfl⟩
     rw [hHT]
     rw [hcm.out, hHT] at HE
     clear hHT hcm
     go_wp2_with fail
     clear hHeld
     refine hK.out _ _ (HKp.out _ BC.out) (fun hHeld => ?_)
     clear hK KP
     try simp only [qP]
     cases HT with
     | false =>
      refine qT 26 rfl hHeld 31 rfl ?_
      refine qT 27 rfl hHeld 32 rfl ?_
      refine qT 28 rfl hHeld 33 rfl ?_
      refine qT 29 rfl hHeld 4 rfl ?_
      refine anyK_done (by kernel_rfl) ?_ _
      clear hHeld
      go_wp2_with fail
      go_ret
      exact ⟨by rw [HE.out]; first | rfl | simp, HB.out.trans (BC.out.mono HB.out.size)⟩
     | true =>
      refine qT 26 rfl hHeld 31 rfl ?_
      refine qT 27 rfl hHeld 32 rfl ?_
      refine qT 28 rfl hHeld 33 rfl ?_
      refine qT 29 rfl hHeld 4 rfl ?_
      refine anyK_done (by kernel_rfl) ?_ _
      clear hHeld
      go_wp2_with fail
      go_ret
      exact ⟨by rw [HE.out]; first | rfl | simp, HB.out.trans (BC.out.mono HB.out.size)⟩
end Go.Proofs.YtlkoghdajpbffaaGreat
/- The program's stretch of a kid, its test of entries that ascend, and how many a stretch has. Conditions: texts of at most 2^21 bytes. -/

namespace Go.Proofs.YtlkoghdajpbffaaGreat
open Go.RowKit
set_option maxRecDepth 100000
theorem size_st : (Tryz.prog.info? 107).map (·.size) = some 2 := by kernel_rfl
theorem ptr_at {w0 : World} {a : Option Addr} {es : List En} (h : ReadsE w0 a es) {k : Nat} (hk : k < es.length) (hm : (es.getD k en0).Z.length ≤ 2097152) : ∃ b off, a = some ⟨b, off, none⟩ ∧ PtrE w0 (some (es.getD k en0)) (.pointer (some ⟨b, off + k * 5, none⟩)) := by
 obtain ⟨b, off, a', c, rfl, bx, r, _, _, hf⟩ := h.at hk
 exact ⟨b, off, rfl, b, off + k * 5, a', c, rfl, bx, r, hf, hm⟩
set_option maxHeartbeats 3200000 in
theorem impl_ofKid {w0 : World} {lo hi : Option En} {vl vh : Value} (hl : PtrE w0 lo vl) (hh : PtrE w0 hi vh) {es : List En} {a : Option Addr} {n c g : Nat} {w : World} (hr : ReadsE w0 a es) (hn : es.length = n) (hn4 : n ≤ 4) (hm : ∀ j, (es.getD j en0).Z.length ≤ 2097152) (h2 : w.cell? ⟨g, 2, none⟩ = some (.slice a n c)) (i : Nat) (hi5 : i ≤ 5) (hin : i ≤ n) :
 Calls Tryz.prog 80 #[.agg #[vl, vh], .pointer (some ⟨g, 0, none⟩), .int .i64 i] w fun e w' => ∃ ul uh, e = .returned (.agg #[ul, uh]) ∧ PtrE w0 (lowAt es lo i) ul ∧ PtrE w0 (highAt es hi i) uh ∧ Below w.heap.size w w' := by
 obtain ⟨ql, rfl⟩ := hl.shape
 obtain ⟨qh, rfl⟩ := hh.shape
 have hB := two w (.cells #[.pointer ql, .pointer qh] 107) (.cells #[.pointer none, .pointer none] 107)
 obtain ⟨R1, R2, z⟩ := two_rows11 w (.cells #[.pointer ql, .pointer qh] 107) (.cells #[.pointer none, .pointer none] 107)
 have hg := World.block_lt_of_cell? w _ h2
 simp only at hg
 have HG2 := hid h2
 have HLo := hid (show lowAt es lo i = if i = 0 then lo else some (es.getD (i - 1) en0) from rfl)
 have HHi := hid (show highAt es hi i = if i < es.length then some (es.getD i en0) else hi from rfl)
 have HL := hid hl
 have HH := hid hh
 have HB := hid hB
 have HR1 := hid R1
 have HR2 := hid R2
 have HZ := hid z
 have HGz := hid hg
 have HN := hid hn
 have HRE := hid hr
 clear hB R1 R2 z h2 hl hh hg hn hr
 go_enter Tryz.func80, Tryz.ntmps80
 have k2 : ∀ o1 o2, ((w.alloc o1).alloc o2).cell? ⟨g, 2, none⟩ = some (.slice a n c) := fun o1 o2 => ((two w o1 o2).cell (p := ⟨g, 2, none⟩) HGz.out).trans HG2.out
 have HBB := hid (fun o1 o2 => two w o1 o2)
 have HRR := hid (fun o1 o2 => (two_rows11 w o1 o2).2.1)
 clear HB HR1 HR2 HZ
 by_cases h0 : i = 0
 · subst h0
   have HE1 := hid (show lowAt es lo 0 = lo from HLo.out)
   by_cases hlt : 0 < n
   · have hlt' : (0 : Int) < (n : Int) := by omega
     obtain ⟨b, off, rfl, hp⟩ := ptr_at HRE.out (k := 0) (by rw [HN.out]; exact hlt) (hm 0)
     have HPP := hid hp
     have HE2 := hid (show highAt es hi 0 = some (es.getD 0 en0) by rw [HHi.out, if_pos (by rw [HN.out]; exact hlt)])
     clear hp hm HLo HHi
     go_wp2_with fail
     refine bodyPost_ret (results_cell_row Tryz.results80 _ _ (w.heap.size + 1) 107 _ (0, 0) _ rfl (HRR.out _ _) Tryz.underlying107 rfl size_st) rfl ?_
     exact ⟨_, _, rfl, by rw [HE1.out]; exact HL.out, by rw [HE2.out]; simpa using HPP.out, HBB.out _ _⟩
   · obtain rfl : n = 0 := by omega
     have HE2 := hid (show highAt es hi 0 = hi by rw [HHi.out, if_neg (by rw [HN.out]; omega)])
     clear hm HLo HHi
     go_wp2_with fail
     refine bodyPost_ret (results_cell_row Tryz.results80 _ _ (w.heap.size + 1) 107 _ (0, 0) _ rfl (HRR.out _ _) Tryz.underlying107 rfl size_st) rfl ?_
     exact ⟨_, _, rfl, by rw [HE1.out]; exact HL.out, by rw [HE2.out]; exact HH.out, HBB.out _ _⟩
 · have h0' : (0 : Int) < (i : Int) := by omega
   have h1' : (i : Int) - 1 < (n : Int) := by omega
   have h2' : (0 : Int) ≤ (i : Int) - 1 := by omega
   have h3' : ((i : Int) - 1).toNat = i - 1 := by omega
   have HE1 := hid (show lowAt es lo i = some (es.getD (i - 1) en0) by rw [HLo.out, if_neg h0])
   obtain ⟨b, off, rfl, hp⟩ := ptr_at HRE.out (k := i - 1) (by rw [HN.out]; omega) (hm _)
   have HPP := hid hp
   by_cases hlt : i < n
   · have hlt' : (i : Int) < (n : Int) := by omega
     obtain ⟨b', off', e', hp'⟩ := ptr_at HRE.out (k := i) (by rw [HN.out]; exact hlt) (hm i)
     obtain ⟨rfl, rfl⟩ : b = b' ∧ off = off' := by simpa using e'
     have HPQ := hid hp'
     have HE2 := hid (show highAt es hi i = some (es.getD i en0) by rw [HHi.out, if_pos (by rw [HN.out]; exact hlt)])
     clear hp hp' e' hm HLo HHi
     go_wp2_with fail
     refine bodyPost_ret (results_cell_row Tryz.results80 _ _ (w.heap.size + 1) 107 _ (0, 0) _ rfl (HRR.out _ _) Tryz.underlying107 rfl size_st) rfl ?_
     exact ⟨_, _, rfl, by rw [HE1.out]; exact HPP.out, by rw [HE2.out]; exact HPQ.out, HBB.out _ _⟩
   · have hlt' : ¬ (i : Int) < (n : Int) := by omega
     have HE2 := hid (show highAt es hi i = hi by rw [HHi.out, if_neg (by rw [HN.out]; exact hlt)])
     clear hp hm HLo HHi
     go_wp2_with fail
     refine bodyPost_ret (results_cell_row Tryz.results80 _ _ (w.heap.size + 1) 107 _ (0, 0) _ rfl (HRR.out _ _) Tryz.underlying107 rfl size_st) rfl ?_
     exact ⟨_, _, rfl, by rw [HE1.out]; exact HPP.out, by rw [HE2.out]; exact HH.out, HBB.out _ _⟩
def ascAt (es : List En) (i : Nat) : Bool := decide (i = 0) || ltE (es.getD (i - 1) en0) (es.getD i en0)
def ascB (es : List En) : Bool := (List.range es.length).all (ascAt es)
theorem nodeOk_of (lo hi : Option En) (es : List En) : nodeOk lo hi es = (decide (es.countP (hasB lo hi) = es.length) && ascB es) := by
 rw [Bool.eq_iff_iff, Bool.and_eq_true, decide_eq_true_iff, List.countP_eq_length]
 unfold nodeOk ascB
 rw [List.all_eq_true, List.all_eq_true]
 constructor
 · intro h
   refine ⟨fun e he => ?_, fun i hi => ?_⟩
   · obtain ⟨j, hj, rfl⟩ := List.mem_iff_getElem.1 he
     have := h j (List.mem_range.2 hj)
     unfold okAt at this
     rw [Bool.and_eq_true, List.getD_eq_getElem?_getD, List.getElem?_eq_getElem hj] at this
     exact this.1
   · have := h i hi
     unfold okAt at this
     rw [Bool.and_eq_true] at this
     exact this.2
 · rintro ⟨h1, h2⟩ i hi
   unfold okAt
   rw [Bool.and_eq_true]
   refine ⟨h1 _ ?_, h2 i hi⟩
   have hj := List.mem_range.1 hi
   rw [List.getD_eq_getElem?_getD, List.getElem?_eq_getElem hj]
   exact List.getElem_mem hj
theorem countP_take (p : En → Bool) (es : List En) {k : Nat} (hk : k < es.length) : (es.take (k + 1)).countP p = (es.take k).countP p + (if p (es.getD k en0) = true then 1 else 0) := by
 rw [List.take_succ_eq_append_getElem hk, List.countP_append, List.getD_eq_getElem?_getD, List.getElem?_eq_getElem hk]
 simp [List.countP_cons]
set_option maxHeartbeats 3200000 in
theorem impl_count {w0 : World} {lo hi : Option En} {vl vh : Value} (hl : PtrE w0 lo vl) (hh : PtrE w0 hi vh) {es : List En} {a : Option Addr} {n : Nat} (c : Nat) {w : World} (hr : ReadsE w0 a es) (hn : es.length = n) (hn4 : n ≤ 4) (hm : ∀ j, (es.getD j en0).Z.length ≤ 2097152) (hw : Below w0.heap.size w0 w) :
 Calls Tryz.prog 77 #[.slice a n c, .func (.func 78) #[.agg #[vl, vh]] #[]] w fun e w' => e = .returned (.int .i64 (es.countP (hasB lo hi) : Nat)) ∧ Below w.heap.size w w' := by
 have HL := hid hl
 have HH := hid hh
 have HW := hid hw
 have HN := hid hn
 have HRE := hid hr
 have HM := hid hm
 clear hl hh hw hn hr hm
 go_enter Tryz.func77, Tryz.ntmps77
 go_wp2_with fail
 go_loopw [5, 10] (fun t i wr => ∃ k m : Nat, k ≤ n ∧ i = .int .i64 k ∧ t = .int .i64 m ∧ m ≤ k ∧ Hid (m = (es.take k).countP (hasB lo hi)) ∧ Hid (Below w.heap.size w wr)) (fun _ i _ => n - (intOf i).toNat)
 case atStart => exact ⟨0, 0, Nat.zero_le _, rfl, rfl, Nat.le_refl _, hid (by simp), hid (Below.refl _ _)⟩
 case round =>
  obtain ⟨k, m, hk, rfl, rfl, hmk, HC, HB⟩ := hrel
  by_cases hlt : k < n
  · have hlt' : (k : Int) < (n : Int) := by omega
    have hk0 : (0 : Int) ≤ (k : Int) := by omega
    have HT := hid (countP_take (hasB lo hi) es (k := k) (by rw [HN.out]; exact hlt))
    obtain ⟨b, off, a', c', rfl, bx0, r0, _, _, hf⟩ := HRE.out.at (k := k) (by rw [HN.out]; exact hlt)
    have hmz := HM.out k
    have BW := HW.out.trans (HB.out.mono HW.out.size)
    have bx := bx0.below BW qN
    have HR0 := hid r0
    generalize es.getD k en0 = e at *
    obtain ⟨K, N, F, Z, id⟩ := e
    simp only at bx hmz hf
    have HR1 := hid (show Reads w0 a' Z.length Z from HR0.out)
    obtain ⟨z, hz⟩ : ∃ z, Z.length = z := ⟨_, rfl⟩
    rw [hz] at bx hmz HR1
    have HZ := hid hz
    have hst := fun w a m => run_store Tryz.prog w a (.float .f64 F) m rfl
    have HBX := hid (Below.alloc1 wr (.cells #[.int .i64 K, .int .i64 N, .float .f64 F, .slice a' z c', .int .i64 id] 48))
    have HBW := hid BW
    obtain ⟨c0, c1, c2, c3, c4⟩ := bx
    clear r0 hz bx0 HR0 BW
    go_wp2_with fail
    clear c0 c1 c2 c3 c4
    refine (impl_has HL.out HH.out K N F c' id (HBW.out.trans (HBX.out.mono HBW.out.size)) HR1.out HZ.out hf hmz).mono ?_
    rintro e w1 ⟨rfl, b1⟩
    replace HB := hid ((HB.out.trans (HBX.out.mono HB.out.size)).trans (b1.mono (HB.out.trans (HBX.out.mono HB.out.size)).size))
    clear b1 HBX HBW
    generalize hasB lo hi ⟨K, N, F, Z, id⟩ = X at *
    cases X with
    | false =>
     go_wp2_with fail
     go_roundw
     case rel => exact ⟨k + 1, m, by omega, by go_num, rfl, by omega, hid (by have := HC.out; rw [HT.out]; simp; omega), HB⟩
     case measure => simp [intOf]; omega
    | true =>
     go_wp2_with fail
     go_roundw
     case rel => exact ⟨k + 1, m + 1, by omega, by go_num, by go_num, by omega, hid (by have := HC.out; rw [HT.out]; simp; omega), HB⟩
     case measure => simp [intOf]; omega
  · obtain rfl : k = n := by omega
    go_wp2_with fail
    go_ret
    refine ⟨?_, HB.out⟩
    have e0 : es.take k = es := List.take_of_length_le (by rw [HN.out]; exact Nat.le_refl _)
    have := HC.out
    rw [e0] at this
    rw [this]
    rfl
end Go.Proofs.YtlkoghdajpbffaaGreat
