/- The program's stretches: what they have, those of a node's kids. Conditions: texts of at most 2^21 bytes. -/
import Derived.Test.YtphmlndkjgldkaaKp11
namespace Go.Proofs.Ytphmlndkjgldkaa
open Go.RowKit
set_option maxRecDepth 100000
def PtrE (w0 : World) : Option En → Value → Prop
 | none, v => v = .pointer none
 | some e, v => ∃ b o a c, v = .pointer (some ⟨b, o, none⟩) ∧ Box5 w0 b o e.K e.N e.F (.slice a e.Z.length c) e.id ∧ Reads w0 a e.Z.length e.Z ∧ e.F < 18446744073709551616 ∧ e.Z.length ≤ 2097152
theorem PtrE.shape {w0 : World} : ∀ {lo : Option En} {v : Value}, PtrE w0 lo v → ∃ q, v = .pointer q
 | none, _, h => ⟨_, h⟩
 | some _, _, ⟨b, o, _, _, h, _⟩ => ⟨some ⟨b, o, none⟩, h⟩
def loB (lo : Option En) (e : En) : Bool := match lo with | none => true | some a => !ltE e a
def hiB (hi : Option En) (e : En) : Bool := match hi with | none => true | some b => ltE e b
theorem hasB_of (lo hi : Option En) (e : En) : hasB lo hi e = (entOk e && (loB lo e && hiB hi e)) := rfl
set_option maxHeartbeats 6400000 in
theorem impl_has {w0 : World} {lo hi : Option En} {vl vh : Value} (hl : PtrE w0 lo vl) (hh : PtrE w0 hi vh) (K N : Int) (F : Nat) {ad : Option Addr} {n : Nat} (cap : Nat) (id : Int) {Z : List Int} {w : World} (hw : Below w0.heap.size w0 w) (hr : Reads w0 ad n Z) (hZ : Z.length = n) (hF : F < 18446744073709551616) (hn : n ≤ 2097152) :
 Calls Try.prog 109 #[.agg #[vl, vh], .agg #[.int .i64 K, .int .i64 N, .float .f64 F, .slice ad n cap, .int .i64 id]] w fun e w' => e = .returned (.bool (hasB lo hi ⟨K, N, F, Z, id⟩)) ∧ Below w.heap.size w w' := by
 obtain ⟨ql, rfl⟩ := hl.shape
 obtain ⟨qh, rfl⟩ := hh.shape
 have hst := fun w a m => run_store Try.prog w a (.float .f64 F) m rfl
 have hB := two w (.cells #[.pointer ql, .pointer qh] 121) (.cells #[.int .i64 K, .int .i64 N, .float .f64 F, .slice ad n cap, .int .i64 id] 35)
 obtain ⟨R1, R2, z⟩ := two_rows11 w (.cells #[.pointer ql, .pointer qh] 121) (.cells #[.int .i64 K, .int .i64 N, .float .f64 F, .slice ad n cap, .int .i64 id] 35)
 have HB := hid hB
 have HW := hid hw
 have HR := hid hr
 have HL := hid hl
 have HH := hid hh
 have HR1 := hid R1
 have HR2 := hid R2
 have HZ := hid z
 have HE := hid (hasB_of lo hi ⟨K, N, F, Z, id⟩)
 have HEn := hid (show entOk ⟨K, N, F, Z, id⟩ = entB K N F n id by rw [← hZ]; rfl)
 have HLn := hid hZ
 clear hB R1 R2 z hr hw hl hh hZ
 go_enter Try.func109, Try.ntmps109
 go_wp2_with fail
 generalize (w.alloc (.cells #[.pointer ql, .pointer qh] 121)).alloc (.cells #[.int .i64 K, .int .i64 N, .float .f64 F, .slice ad n cap, .int .i64 id] 35) = V at *
 obtain ⟨p0, hp0⟩ : ∃ p0, w.heap.size = p0 := ⟨_, rfl⟩
 obtain ⟨p1, hp1⟩ : ∃ p1, w.heap.size + 1 = p1 := ⟨_, rfl⟩
 have HP := hid (show p0 < V.heap.size ∧ p1 < V.heap.size by have := HZ.out; omega)
 rw [hp0] at HR1
 rw [hp1] at HR2
 try simp only [hp1]
 try simp only [hp0]
 clear hp1 hp0 HZ
 have HKp := hid (show ∀ W', Below V.heap.size V W' → (W'.cell? ⟨p0, 0, none⟩ = some (.pointer ql) ∧ W'.cell? ⟨p0, 1, none⟩ = some (.pointer qh)) ∧ (W'.cell? ⟨p1, 0, none⟩ = some (.int .i64 K) ∧ W'.cell? ⟨p1, 1, none⟩ = some (.int .i64 N) ∧ W'.cell? ⟨p1, 2, none⟩ = some (.float .f64 F) ∧ W'.cell? ⟨p1, 3, none⟩ = some (.slice ad n cap) ∧ W'.cell? ⟨p1, 4, none⟩ = some (.int .i64 id)) ∧ Hid (Below w0.heap.size w0 W') from fun W' b => by
  have r1 := (b.block p0 HP.out.1).trans HR1.out
  have r2 := (b.block p1 HP.out.2).trans HR2.out
  exact ⟨⟨by rw [cell_of_row _ _ _ _ _ _ r1]; rfl, by rw [cell_of_row _ _ _ _ _ _ r1]; rfl⟩, ⟨by rw [cell_of_row _ _ _ _ _ _ r2]; rfl, by rw [cell_of_row _ _ _ _ _ _ r2]; rfl, by rw [cell_of_row _ _ _ _ _ _ r2]; rfl, by rw [cell_of_row _ _ _ _ _ _ r2]; rfl, by rw [cell_of_row _ _ _ _ _ _ r2]; rfl⟩, hid (HW.out.trans ((HB.out.trans (b.mono HB.out.size)).mono HW.out.size))⟩)
 clear HR1 HR2 HP
 have BC := hid ((Still.drew V).below V.heap.size)
 refine region_K 99 (fun W => (W.cell? ⟨p0, 0, none⟩ = some (.pointer ql) ∧ W.cell? ⟨p0, 1, none⟩ = some (.pointer qh)) ∧ (W.cell? ⟨p1, 0, none⟩ = some (.int .i64 K) ∧ W.cell? ⟨p1, 1, none⟩ = some (.int .i64 N) ∧ W.cell? ⟨p1, 2, none⟩ = some (.float .f64 F) ∧ W.cell? ⟨p1, 3, none⟩ = some (.slice ad n cap) ∧ W.cell? ⟨p1, 4, none⟩ = some (.int .i64 id)) ∧ Hid (Below w0.heap.size w0 W)) (by kernel_rfl) ?_ (fun hHeld => ?_)
 · exact HKp.out _ BC.out
 generalize V.drew = vd at *
 refine anyK_take2 (i := 0) (v := ?v1) rfl (by kernel_rfl) (by kernel_rfl) (by kernel_rfl) (by rfl) (fun _ _ _ h => h) (by rfl) hHeld ?hy1 (some 5) (by rfl) ?rest1
 case hy1 => (intro W hSw; obtain ⟨⟨x0, x1⟩, ⟨y0, y1, y2, y3, y4⟩, HbW⟩ := hSw; go_simp; (try with_reducible rfl))
 try simp only [Act.put, List.setIfInBounds_toArray, List.set_cons_succ, List.set_cons_zero]
 refine anyK_step (i := 1) (by kernel_rfl) rfl (fun KP hK => ?_)
 go_simp
 refine (impl_entry K N F ad n cap id hF hn _).mono ?_
 rintro e v1 ⟨rfl, b⟩
 replace BC := hid (BC.out.trans (b.mono BC.out.size))
 clear b
 obtain ⟨EO, hEO⟩ : ∃ EO, entB K N F n id = EO := ⟨_, rfl⟩
 rw [hEO]
 rw [HEn.out, hEO] at HE
 clear hEO
 go_wp2_with fail
 clear hHeld
 refine hK.out _ _ (HKp.out _ BC.out) (fun hHeld => ?_)
 clear hK KP
 try simp only [Act.put, List.setIfInBounds_toArray, List.set_cons_succ, List.set_cons_zero]
 cases EO with
 | false =>
  refine anyK_take2 (i := 2) (v := ?v2) rfl (by kernel_rfl) (by kernel_rfl) (by kernel_rfl) (by rfl) (fun _ _ _ h => h) (by rfl) hHeld ?hy2 (some 7) (by rfl) ?rest2
  case hy2 => (intro W hSw; obtain ⟨⟨x0, x1⟩, ⟨y0, y1, y2, y3, y4⟩, HbW⟩ := hSw; go_simp; (try with_reducible rfl))
  try simp only [Act.put, List.setIfInBounds_toArray, List.set_cons_succ, List.set_cons_zero]
  refine anyK_skip (i := 3) rfl (by kernel_rfl) (by kernel_rfl) (by kernel_rfl) (by kernel_rfl) (fun _ _ _ h => h) (by rfl) hHeld (some 8) (by rfl) ?_
  try simp only [Act.put, List.setIfInBounds_toArray, List.set_cons_succ, List.set_cons_zero]
  refine anyK_skip (i := 4) rfl (by kernel_rfl) (by kernel_rfl) (by kernel_rfl) (by kernel_rfl) (fun _ _ _ h => h) (by rfl) hHeld (some 9) (by rfl) ?_
  try simp only [Act.put, List.setIfInBounds_toArray, List.set_cons_succ, List.set_cons_zero]
  refine anyK_skip (i := 5) rfl (by kernel_rfl) (by kernel_rfl) (by kernel_rfl) (by kernel_rfl) (fun _ _ _ h => h) (by rfl) hHeld (some 10) (by rfl) ?_
  try simp only [Act.put, List.setIfInBounds_toArray, List.set_cons_succ, List.set_cons_zero]
  refine anyK_skip (i := 6) rfl (by kernel_rfl) (by kernel_rfl) (by kernel_rfl) (by kernel_rfl) (fun _ _ _ h => h) (by rfl) hHeld (some 11) (by rfl) ?_
  try simp only [Act.put, List.setIfInBounds_toArray, List.set_cons_succ, List.set_cons_zero]
  refine anyK_skip (i := 7) rfl (by kernel_rfl) (by kernel_rfl) (by kernel_rfl) (by kernel_rfl) (fun _ _ _ h => h) (by rfl) hHeld (some 12) (by rfl) ?_
  try simp only [Act.put, List.setIfInBounds_toArray, List.set_cons_succ, List.set_cons_zero]
  refine anyK_skip (i := 8) rfl (by kernel_rfl) (by kernel_rfl) (by kernel_rfl) (by kernel_rfl) (fun _ _ _ h => h) (by rfl) hHeld (some 13) (by rfl) ?_
  try simp only [Act.put, List.setIfInBounds_toArray, List.set_cons_succ, List.set_cons_zero]
  refine anyK_skip (i := 9) rfl (by kernel_rfl) (by kernel_rfl) (by kernel_rfl) (by kernel_rfl) (fun _ _ _ h => h) (by rfl) hHeld (some 14) (by rfl) ?_
  try simp only [Act.put, List.setIfInBounds_toArray, List.set_cons_succ, List.set_cons_zero]
  refine anyK_skip (i := 10) rfl (by kernel_rfl) (by kernel_rfl) (by kernel_rfl) (by kernel_rfl) (fun _ _ _ h => h) (by rfl) hHeld (some 15) (by rfl) ?_
  try simp only [Act.put, List.setIfInBounds_toArray, List.set_cons_succ, List.set_cons_zero]
  refine anyK_skip (i := 11) rfl (by kernel_rfl) (by kernel_rfl) (by kernel_rfl) (by kernel_rfl) (fun _ _ _ h => h) (by rfl) hHeld (some 16) (by rfl) ?_
  try simp only [Act.put, List.setIfInBounds_toArray, List.set_cons_succ, List.set_cons_zero]
  refine anyK_skip (i := 12) rfl (by kernel_rfl) (by kernel_rfl) (by kernel_rfl) (by kernel_rfl) (fun _ _ _ h => h) (by rfl) hHeld (some 17) (by rfl) ?_
  try simp only [Act.put, List.setIfInBounds_toArray, List.set_cons_succ, List.set_cons_zero]
  refine anyK_skip (i := 13) rfl (by kernel_rfl) (by kernel_rfl) (by kernel_rfl) (by kernel_rfl) (fun _ _ _ h => h) (by rfl) hHeld (some 18) (by rfl) ?_
  try simp only [Act.put, List.setIfInBounds_toArray, List.set_cons_succ, List.set_cons_zero]
  refine anyK_take2 (i := 14) (v := ?v3) rfl (by kernel_rfl) (by kernel_rfl) (by kernel_rfl) (by rfl) (fun _ _ _ h => h) (by rfl) hHeld ?hy3 (some 19) (by rfl) ?rest3
  case hy3 => (intro W hSw; obtain ⟨⟨x0, x1⟩, ⟨y0, y1, y2, y3, y4⟩, HbW⟩ := hSw; go_simp; (try with_reducible rfl))
  try simp only [Act.put, List.setIfInBounds_toArray, List.set_cons_succ, List.set_cons_zero]
  refine anyK_take2 (i := 15) (v := ?v4) rfl (by kernel_rfl) (by kernel_rfl) (by kernel_rfl) (by rfl) (fun _ _ _ h => h) (by rfl) hHeld ?hy4 (some 20) (by rfl) ?rest4
  case hy4 => (intro W hSw; obtain ⟨⟨x0, x1⟩, ⟨y0, y1, y2, y3, y4⟩, HbW⟩ := hSw; go_simp; (try with_reducible rfl))
  try simp only [Act.put, List.setIfInBounds_toArray, List.set_cons_succ, List.set_cons_zero]
  refine anyK_skip (i := 16) rfl (by kernel_rfl) (by kernel_rfl) (by kernel_rfl) (by kernel_rfl) (fun _ _ _ h => h) (by rfl) hHeld (some 21) (by rfl) ?_
  try simp only [Act.put, List.setIfInBounds_toArray, List.set_cons_succ, List.set_cons_zero]
  refine anyK_skip (i := 17) rfl (by kernel_rfl) (by kernel_rfl) (by kernel_rfl) (by kernel_rfl) (fun _ _ _ h => h) (by rfl) hHeld (some 22) (by rfl) ?_
  try simp only [Act.put, List.setIfInBounds_toArray, List.set_cons_succ, List.set_cons_zero]
  refine anyK_skip (i := 18) rfl (by kernel_rfl) (by kernel_rfl) (by kernel_rfl) (by kernel_rfl) (fun _ _ _ h => h) (by rfl) hHeld (some 23) (by rfl) ?_
  try simp only [Act.put, List.setIfInBounds_toArray, List.set_cons_succ, List.set_cons_zero]
  refine anyK_skip (i := 19) rfl (by kernel_rfl) (by kernel_rfl) (by kernel_rfl) (by kernel_rfl) (fun _ _ _ h => h) (by rfl) hHeld (some 24) (by rfl) ?_
  try simp only [Act.put, List.setIfInBounds_toArray, List.set_cons_succ, List.set_cons_zero]
  refine anyK_skip (i := 20) rfl (by kernel_rfl) (by kernel_rfl) (by kernel_rfl) (by kernel_rfl) (fun _ _ _ h => h) (by rfl) hHeld (some 25) (by rfl) ?_
  try simp only [Act.put, List.setIfInBounds_toArray, List.set_cons_succ, List.set_cons_zero]
  refine anyK_skip (i := 21) rfl (by kernel_rfl) (by kernel_rfl) (by kernel_rfl) (by kernel_rfl) (fun _ _ _ h => h) (by rfl) hHeld (some 26) (by rfl) ?_
  try simp only [Act.put, List.setIfInBounds_toArray, List.set_cons_succ, List.set_cons_zero]
  refine anyK_skip (i := 22) rfl (by kernel_rfl) (by kernel_rfl) (by kernel_rfl) (by kernel_rfl) (fun _ _ _ h => h) (by rfl) hHeld (some 27) (by rfl) ?_
  try simp only [Act.put, List.setIfInBounds_toArray, List.set_cons_succ, List.set_cons_zero]
  refine anyK_skip (i := 23) rfl (by kernel_rfl) (by kernel_rfl) (by kernel_rfl) (by kernel_rfl) (fun _ _ _ h => h) (by rfl) hHeld (some 28) (by rfl) ?_
  try simp only [Act.put, List.setIfInBounds_toArray, List.set_cons_succ, List.set_cons_zero]
  refine anyK_skip (i := 24) rfl (by kernel_rfl) (by kernel_rfl) (by kernel_rfl) (by kernel_rfl) (fun _ _ _ h => h) (by rfl) hHeld (some 29) (by rfl) ?_
  try simp only [Act.put, List.setIfInBounds_toArray, List.set_cons_succ, List.set_cons_zero]
  refine anyK_skip (i := 25) rfl (by kernel_rfl) (by kernel_rfl) (by kernel_rfl) (by kernel_rfl) (fun _ _ _ h => h) (by rfl) hHeld (some 30) (by rfl) ?_
  try simp only [Act.put, List.setIfInBounds_toArray, List.set_cons_succ, List.set_cons_zero]
  refine anyK_skip (i := 26) rfl (by kernel_rfl) (by kernel_rfl) (by kernel_rfl) (by kernel_rfl) (fun _ _ _ h => h) (by rfl) hHeld (some 31) (by rfl) ?_
  try simp only [Act.put, List.setIfInBounds_toArray, List.set_cons_succ, List.set_cons_zero]
  refine anyK_skip (i := 27) rfl (by kernel_rfl) (by kernel_rfl) (by kernel_rfl) (by kernel_rfl) (fun _ _ _ h => h) (by rfl) hHeld (some 32) (by rfl) ?_
  try simp only [Act.put, List.setIfInBounds_toArray, List.set_cons_succ, List.set_cons_zero]
  refine anyK_take2 (i := 28) (v := ?v5) rfl (by kernel_rfl) (by kernel_rfl) (by kernel_rfl) (by rfl) (fun _ _ _ h => h) (by rfl) hHeld ?hy5 (some 33) (by rfl) ?rest5
  case hy5 => (intro W hSw; obtain ⟨⟨x0, x1⟩, ⟨y0, y1, y2, y3, y4⟩, HbW⟩ := hSw; go_simp; (try with_reducible rfl))
  try simp only [Act.put, List.setIfInBounds_toArray, List.set_cons_succ, List.set_cons_zero]
  refine anyK_take2 (i := 29) (v := ?v6) rfl (by kernel_rfl) (by kernel_rfl) (by kernel_rfl) (by rfl) (fun _ _ _ h => h) (by rfl) hHeld ?hy6 (some 4) (by rfl) ?rest6
  case hy6 => (intro W hSw; obtain ⟨⟨x0, x1⟩, ⟨y0, y1, y2, y3, y4⟩, HbW⟩ := hSw; go_simp; (try with_reducible rfl))
  try simp only [Act.put, List.setIfInBounds_toArray, List.set_cons_succ, List.set_cons_zero]
  refine anyK_done (by kernel_rfl) ?_ _
  clear hHeld
  go_wp2_with fail
  go_ret
  exact ⟨by rw [HE.out]; first | rfl | simp, HB.out.trans (BC.out.mono HB.out.size)⟩
 | true =>
  refine anyK_take2 (i := 2) (v := ?v7) rfl (by kernel_rfl) (by kernel_rfl) (by kernel_rfl) (by rfl) (fun _ _ _ h => h) (by rfl) hHeld ?hy7 (some 7) (by rfl) ?rest7
  case hy7 => (intro W hSw; obtain ⟨⟨x0, x1⟩, ⟨y0, y1, y2, y3, y4⟩, HbW⟩ := hSw; go_simp; (try with_reducible rfl))
  try simp only [Act.put, List.setIfInBounds_toArray, List.set_cons_succ, List.set_cons_zero]
  refine anyK_take2 (i := 3) (v := ?v8) rfl (by kernel_rfl) (by kernel_rfl) (by kernel_rfl) (by rfl) (fun _ _ _ h => h) (by rfl) hHeld ?hy8 (some 8) (by rfl) ?rest8
  case hy8 => (intro W hSw; obtain ⟨⟨x0, x1⟩, ⟨y0, y1, y2, y3, y4⟩, HbW⟩ := hSw; go_simp; (try with_reducible rfl))
  try simp only [Act.put, List.setIfInBounds_toArray, List.set_cons_succ, List.set_cons_zero]
  refine anyK_take2 (i := 4) (v := ?v9) rfl (by kernel_rfl) (by kernel_rfl) (by kernel_rfl) (by rfl) (fun _ _ _ h => h) (by rfl) hHeld ?hy9 (some 9) (by rfl) ?rest9
  case hy9 => (intro W hSw; obtain ⟨⟨x0, x1⟩, ⟨y0, y1, y2, y3, y4⟩, HbW⟩ := hSw; go_simp; (try with_reducible rfl))
  try simp only [Act.put, List.setIfInBounds_toArray, List.set_cons_succ, List.set_cons_zero]
  cases lo with
  | none =>
   obtain rfl : ql = none := by have := HL.out; simpa [PtrE] using this
   refine anyK_take2 (i := 5) (v := ?v10) rfl (by kernel_rfl) (by kernel_rfl) (by kernel_rfl) (by rfl) (fun _ _ _ h => h) (by rfl) hHeld ?hy10 (some 10) (by rfl) ?rest10
   case hy10 => (intro W hSw; obtain ⟨⟨x0, x1⟩, ⟨y0, y1, y2, y3, y4⟩, HbW⟩ := hSw; go_simp; (try with_reducible rfl))
   try simp only [Act.put, List.setIfInBounds_toArray, List.set_cons_succ, List.set_cons_zero]
   refine anyK_take2 (i := 6) (v := ?v11) rfl (by kernel_rfl) (by kernel_rfl) (by kernel_rfl) (by rfl) (fun _ _ _ h => h) (by rfl) hHeld ?hy11 (some 11) (by rfl) ?rest11
   case hy11 => (intro W hSw; obtain ⟨⟨x0, x1⟩, ⟨y0, y1, y2, y3, y4⟩, HbW⟩ := hSw; go_simp; (try with_reducible rfl))
   try simp only [Act.put, List.setIfInBounds_toArray, List.set_cons_succ, List.set_cons_zero]
   refine anyK_skip (i := 7) rfl (by kernel_rfl) (by kernel_rfl) (by kernel_rfl) (by kernel_rfl) (fun _ _ _ h => h) (by rfl) hHeld (some 12) (by rfl) ?_
   try simp only [Act.put, List.setIfInBounds_toArray, List.set_cons_succ, List.set_cons_zero]
   refine anyK_skip (i := 8) rfl (by kernel_rfl) (by kernel_rfl) (by kernel_rfl) (by kernel_rfl) (fun _ _ _ h => h) (by rfl) hHeld (some 13) (by rfl) ?_
   try simp only [Act.put, List.setIfInBounds_toArray, List.set_cons_succ, List.set_cons_zero]
   refine anyK_skip (i := 9) rfl (by kernel_rfl) (by kernel_rfl) (by kernel_rfl) (by kernel_rfl) (fun _ _ _ h => h) (by rfl) hHeld (some 14) (by rfl) ?_
   try simp only [Act.put, List.setIfInBounds_toArray, List.set_cons_succ, List.set_cons_zero]
   refine anyK_skip (i := 10) rfl (by kernel_rfl) (by kernel_rfl) (by kernel_rfl) (by kernel_rfl) (fun _ _ _ h => h) (by rfl) hHeld (some 15) (by rfl) ?_
   try simp only [Act.put, List.setIfInBounds_toArray, List.set_cons_succ, List.set_cons_zero]
   refine anyK_skip (i := 11) rfl (by kernel_rfl) (by kernel_rfl) (by kernel_rfl) (by kernel_rfl) (fun _ _ _ h => h) (by rfl) hHeld (some 16) (by rfl) ?_
   try simp only [Act.put, List.setIfInBounds_toArray, List.set_cons_succ, List.set_cons_zero]
   refine anyK_skip (i := 12) rfl (by kernel_rfl) (by kernel_rfl) (by kernel_rfl) (by kernel_rfl) (fun _ _ _ h => h) (by rfl) hHeld (some 17) (by rfl) ?_
   try simp only [Act.put, List.setIfInBounds_toArray, List.set_cons_succ, List.set_cons_zero]
   refine anyK_take2 (i := 13) (v := ?v12) rfl (by kernel_rfl) (by kernel_rfl) (by kernel_rfl) (by rfl) (fun _ _ _ h => h) (by rfl) hHeld ?hy12 (some 18) (by rfl) ?rest12
   case hy12 => (intro W hSw; obtain ⟨⟨x0, x1⟩, ⟨y0, y1, y2, y3, y4⟩, HbW⟩ := hSw; go_simp; (try with_reducible rfl))
   try simp only [Act.put, List.setIfInBounds_toArray, List.set_cons_succ, List.set_cons_zero]
   refine anyK_take2 (i := 14) (v := ?v13) rfl (by kernel_rfl) (by kernel_rfl) (by kernel_rfl) (by rfl) (fun _ _ _ h => h) (by rfl) hHeld ?hy13 (some 19) (by rfl) ?rest13
   case hy13 => (intro W hSw; obtain ⟨⟨x0, x1⟩, ⟨y0, y1, y2, y3, y4⟩, HbW⟩ := hSw; go_simp; (try with_reducible rfl))
   try simp only [Act.put, List.setIfInBounds_toArray, List.set_cons_succ, List.set_cons_zero]
   refine anyK_take2 (i := 15) (v := ?v14) rfl (by kernel_rfl) (by kernel_rfl) (by kernel_rfl) (by rfl) (fun _ _ _ h => h) (by rfl) hHeld ?hy14 (some 20) (by rfl) ?rest14
   case hy14 => (intro W hSw; obtain ⟨⟨x0, x1⟩, ⟨y0, y1, y2, y3, y4⟩, HbW⟩ := hSw; go_simp; (try with_reducible rfl))
   try simp only [Act.put, List.setIfInBounds_toArray, List.set_cons_succ, List.set_cons_zero]
   cases hi with
   | none =>
    obtain rfl : qh = none := by have := HH.out; simpa [PtrE] using this
    refine anyK_take2 (i := 16) (v := ?v15) rfl (by kernel_rfl) (by kernel_rfl) (by kernel_rfl) (by rfl) (fun _ _ _ h => h) (by rfl) hHeld ?hy15 (some 21) (by rfl) ?rest15
    case hy15 => (intro W hSw; obtain ⟨⟨x0, x1⟩, ⟨y0, y1, y2, y3, y4⟩, HbW⟩ := hSw; go_simp; (try with_reducible rfl))
    try simp only [Act.put, List.setIfInBounds_toArray, List.set_cons_succ, List.set_cons_zero]
    refine anyK_take2 (i := 17) (v := ?v16) rfl (by kernel_rfl) (by kernel_rfl) (by kernel_rfl) (by rfl) (fun _ _ _ h => h) (by rfl) hHeld ?hy16 (some 22) (by rfl) ?rest16
    case hy16 => (intro W hSw; obtain ⟨⟨x0, x1⟩, ⟨y0, y1, y2, y3, y4⟩, HbW⟩ := hSw; go_simp; (try with_reducible rfl))
    try simp only [Act.put, List.setIfInBounds_toArray, List.set_cons_succ, List.set_cons_zero]
    refine anyK_take2 (i := 18) (v := ?v17) rfl (by kernel_rfl) (by kernel_rfl) (by kernel_rfl) (by rfl) (fun _ _ _ h => h) (by rfl) hHeld ?hy17 (some 23) (by rfl) ?rest17
    case hy17 => (intro W hSw; obtain ⟨⟨x0, x1⟩, ⟨y0, y1, y2, y3, y4⟩, HbW⟩ := hSw; go_simp; (try with_reducible rfl))
    try simp only [Act.put, List.setIfInBounds_toArray, List.set_cons_succ, List.set_cons_zero]
    refine anyK_take2 (i := 19) (v := ?v18) rfl (by kernel_rfl) (by kernel_rfl) (by kernel_rfl) (by rfl) (fun _ _ _ h => h) (by rfl) hHeld ?hy18 (some 24) (by rfl) ?rest18
    case hy18 => (intro W hSw; obtain ⟨⟨x0, x1⟩, ⟨y0, y1, y2, y3, y4⟩, HbW⟩ := hSw; go_simp; (try with_reducible rfl))
    try simp only [Act.put, List.setIfInBounds_toArray, List.set_cons_succ, List.set_cons_zero]
    refine anyK_skip (i := 20) rfl (by kernel_rfl) (by kernel_rfl) (by kernel_rfl) (by kernel_rfl) (fun _ _ _ h => h) (by rfl) hHeld (some 25) (by rfl) ?_
    try simp only [Act.put, List.setIfInBounds_toArray, List.set_cons_succ, List.set_cons_zero]
    refine anyK_skip (i := 21) rfl (by kernel_rfl) (by kernel_rfl) (by kernel_rfl) (by kernel_rfl) (fun _ _ _ h => h) (by rfl) hHeld (some 26) (by rfl) ?_
    try simp only [Act.put, List.setIfInBounds_toArray, List.set_cons_succ, List.set_cons_zero]
    refine anyK_skip (i := 22) rfl (by kernel_rfl) (by kernel_rfl) (by kernel_rfl) (by kernel_rfl) (fun _ _ _ h => h) (by rfl) hHeld (some 27) (by rfl) ?_
    try simp only [Act.put, List.setIfInBounds_toArray, List.set_cons_succ, List.set_cons_zero]
    refine anyK_skip (i := 23) rfl (by kernel_rfl) (by kernel_rfl) (by kernel_rfl) (by kernel_rfl) (fun _ _ _ h => h) (by rfl) hHeld (some 28) (by rfl) ?_
    try simp only [Act.put, List.setIfInBounds_toArray, List.set_cons_succ, List.set_cons_zero]
    refine anyK_skip (i := 24) rfl (by kernel_rfl) (by kernel_rfl) (by kernel_rfl) (by kernel_rfl) (fun _ _ _ h => h) (by rfl) hHeld (some 29) (by rfl) ?_
    try simp only [Act.put, List.setIfInBounds_toArray, List.set_cons_succ, List.set_cons_zero]
    refine anyK_skip (i := 25) rfl (by kernel_rfl) (by kernel_rfl) (by kernel_rfl) (by kernel_rfl) (fun _ _ _ h => h) (by rfl) hHeld (some 30) (by rfl) ?_
    try simp only [Act.put, List.setIfInBounds_toArray, List.set_cons_succ, List.set_cons_zero]
    refine anyK_skip (i := 26) rfl (by kernel_rfl) (by kernel_rfl) (by kernel_rfl) (by kernel_rfl) (fun _ _ _ h => h) (by rfl) hHeld (some 31) (by rfl) ?_
    try simp only [Act.put, List.setIfInBounds_toArray, List.set_cons_succ, List.set_cons_zero]
    refine anyK_take2 (i := 27) (v := ?v19) rfl (by kernel_rfl) (by kernel_rfl) (by kernel_rfl) (by rfl) (fun _ _ _ h => h) (by rfl) hHeld ?hy19 (some 32) (by rfl) ?rest19
    case hy19 => (intro W hSw; obtain ⟨⟨x0, x1⟩, ⟨y0, y1, y2, y3, y4⟩, HbW⟩ := hSw; go_simp; (try with_reducible rfl))
    try simp only [Act.put, List.setIfInBounds_toArray, List.set_cons_succ, List.set_cons_zero]
    refine anyK_take2 (i := 28) (v := ?v20) rfl (by kernel_rfl) (by kernel_rfl) (by kernel_rfl) (by rfl) (fun _ _ _ h => h) (by rfl) hHeld ?hy20 (some 33) (by rfl) ?rest20
    case hy20 => (intro W hSw; obtain ⟨⟨x0, x1⟩, ⟨y0, y1, y2, y3, y4⟩, HbW⟩ := hSw; go_simp; (try with_reducible rfl))
    try simp only [Act.put, List.setIfInBounds_toArray, List.set_cons_succ, List.set_cons_zero]
    refine anyK_take2 (i := 29) (v := ?v21) rfl (by kernel_rfl) (by kernel_rfl) (by kernel_rfl) (by rfl) (fun _ _ _ h => h) (by rfl) hHeld ?hy21 (some 4) (by rfl) ?rest21
    case hy21 => (intro W hSw; obtain ⟨⟨x0, x1⟩, ⟨y0, y1, y2, y3, y4⟩, HbW⟩ := hSw; go_simp; (try with_reducible rfl))
    try simp only [Act.put, List.setIfInBounds_toArray, List.set_cons_succ, List.set_cons_zero]
    refine anyK_done (by kernel_rfl) ?_ _
    clear hHeld
    go_wp2_with fail
    go_ret
    exact ⟨by rw [HE.out]; first | rfl | simp, HB.out.trans (BC.out.mono HB.out.size)⟩
   | some eh =>
    obtain ⟨b2, o2, a2, c2, e2, bx2, r2, f2, m2⟩ := HH.out
    obtain rfl : qh = some ⟨b2, o2, none⟩ := by simpa using e2
    clear e2
    have BX2 := hid bx2
    have RX2 := hid r2
    clear bx2 r2
    refine anyK_take2 (i := 16) (v := ?v22) rfl (by kernel_rfl) (by kernel_rfl) (by kernel_rfl) (by rfl) (fun _ _ _ h => h) (by rfl) hHeld ?hy22 (some 21) (by rfl) ?rest22
    case hy22 => (intro W hSw; obtain ⟨⟨x0, x1⟩, ⟨y0, y1, y2, y3, y4⟩, HbW⟩ := hSw; go_simp; (try with_reducible rfl))
    try simp only [Act.put, List.setIfInBounds_toArray, List.set_cons_succ, List.set_cons_zero]
    refine anyK_take2 (i := 17) (v := ?v23) rfl (by kernel_rfl) (by kernel_rfl) (by kernel_rfl) (by rfl) (fun _ _ _ h => h) (by rfl) hHeld ?hy23 (some 22) (by rfl) ?rest23
    case hy23 => (intro W hSw; obtain ⟨⟨x0, x1⟩, ⟨y0, y1, y2, y3, y4⟩, HbW⟩ := hSw; go_simp; (try with_reducible rfl))
    try simp only [Act.put, List.setIfInBounds_toArray, List.set_cons_succ, List.set_cons_zero]
    refine anyK_take2 (i := 18) (v := ?v24) rfl (by kernel_rfl) (by kernel_rfl) (by kernel_rfl) (by rfl) (fun _ _ _ h => h) (by rfl) hHeld ?hy24 (some 23) (by rfl) ?rest24
    case hy24 => (intro W hSw; obtain ⟨⟨x0, x1⟩, ⟨y0, y1, y2, y3, y4⟩, HbW⟩ := hSw; go_simp; (try with_reducible rfl))
    try simp only [Act.put, List.setIfInBounds_toArray, List.set_cons_succ, List.set_cons_zero]
    refine anyK_take2 (i := 19) (v := ?v25) rfl (by kernel_rfl) (by kernel_rfl) (by kernel_rfl) (by rfl) (fun _ _ _ h => h) (by rfl) hHeld ?hy25 (some 24) (by rfl) ?rest25
    case hy25 => (intro W hSw; obtain ⟨⟨x0, x1⟩, ⟨y0, y1, y2, y3, y4⟩, HbW⟩ := hSw; go_simp; (try with_reducible rfl))
    try simp only [Act.put, List.setIfInBounds_toArray, List.set_cons_succ, List.set_cons_zero]
    refine anyK_take2 (i := 20) (v := ?v26) rfl (by kernel_rfl) (by kernel_rfl) (by kernel_rfl) (by rfl) (fun _ _ _ h => h) (by rfl) hHeld ?hy26 (some 25) (by rfl) ?rest26
    case hy26 => (intro W hSw; obtain ⟨⟨x0, x1⟩, ⟨y0, y1, y2, y3, y4⟩, HbW⟩ := hSw; go_simp; (try with_reducible rfl))
    try simp only [Act.put, List.setIfInBounds_toArray, List.set_cons_succ, List.set_cons_zero]
    refine anyK_take2 (i := 21) (v := ?v27) rfl (by kernel_rfl) (by kernel_rfl) (by kernel_rfl) (by rfl) (fun _ _ _ h => h) (by rfl) hHeld ?hy27 (some 26) (by rfl) ?rest27
    case hy27 => (intro W hSw; obtain ⟨⟨x0, x1⟩, ⟨y0, y1, y2, y3, y4⟩, HbW⟩ := hSw; go_simp; (try with_reducible rfl))
    try simp only [Act.put, List.setIfInBounds_toArray, List.set_cons_succ, List.set_cons_zero]
    refine anyK_take2 (i := 22) (v := ?v28) rfl (by kernel_rfl) (by kernel_rfl) (by kernel_rfl) (by rfl) (fun _ _ _ h => h) (by rfl) hHeld ?hy28 (some 27) (by rfl) ?rest28
    case hy28 => (intro W hSw; obtain ⟨⟨x0, x1⟩, ⟨y0, y1, y2, y3, y4⟩, HbW⟩ := hSw; go_simp; (try with_reducible rfl))
    try simp only [Act.put, List.setIfInBounds_toArray, List.set_cons_succ, List.set_cons_zero]
    refine anyK_take2 (i := 23) (v := ?v29) rfl (by kernel_rfl) (by kernel_rfl) (by kernel_rfl) (by rfl) (fun _ _ _ h => h) (by rfl) hHeld ?hy29 (some 28) (by rfl) ?rest29
    case hy29 => (intro W hSw; obtain ⟨⟨x0, x1⟩, ⟨y0, y1, y2, y3, y4⟩, HbW⟩ := hSw; go_simp; (try with_reducible rfl))
    try simp only [Act.put, List.setIfInBounds_toArray, List.set_cons_succ, List.set_cons_zero]
    refine anyK_take2 (i := 24) (v := ?v30) rfl (by kernel_rfl) (by kernel_rfl) (by kernel_rfl) (by rfl) (fun _ _ _ h => h) (by rfl) hHeld ?hy30 (some 29) (by rfl) ?rest30
    case hy30 => (intro W hSw; obtain ⟨⟨x0, x1⟩, ⟨y0, y1, y2, y3, y4⟩, HbW⟩ := hSw; obtain ⟨z0, z1, z2, z3, z4⟩ := BX2.out.below HbW.out (Nat.le_refl _); go_simp; (try with_reducible rfl))
    try simp only [Act.put, List.setIfInBounds_toArray, List.set_cons_succ, List.set_cons_zero]
    refine anyK_step (i := 25) (by kernel_rfl) rfl (fun KP hK => ?_)
    go_simp
    refine (impl_notBelow K N F cap id eh.K eh.N eh.F c2 eh.id hF f2 (HR.out.below (HKp.out _ BC.out).2.2.out (Nat.le_refl _)) (RX2.out.below (HKp.out _ BC.out).2.2.out (Nat.le_refl _)) hn m2).mono ?_
    rintro e v3 ⟨rfl, b⟩
    replace BC := hid (BC.out.trans (b.mono BC.out.size))
    clear b
    have hcm := hid (show hiB (some eh) ⟨K, N, F, Z, id⟩ = ltB (cmpI K N F n Z eh.K eh.N eh.F eh.Z.length eh.Z) id eh.id by rw [← HLn.out]; rfl)
    obtain ⟨HT, hHT⟩ : ∃ HT, ltB (cmpI K N F n Z eh.K eh.N eh.F eh.Z.length eh.Z) id eh.id = HT := ⟨_, rfl⟩
    rw [hHT]
    rw [hcm.out, hHT] at HE
    clear hHT hcm
    go_wp2_with fail
    clear hHeld
    refine hK.out _ _ (HKp.out _ BC.out) (fun hHeld => ?_)
    clear hK KP
    try simp only [Act.put, List.setIfInBounds_toArray, List.set_cons_succ, List.set_cons_zero]
    cases HT with
    | false =>
     refine anyK_take2 (i := 26) (v := ?v31) rfl (by kernel_rfl) (by kernel_rfl) (by kernel_rfl) (by rfl) (fun _ _ _ h => h) (by rfl) hHeld ?hy31 (some 31) (by rfl) ?rest31
     case hy31 => (intro W hSw; obtain ⟨⟨x0, x1⟩, ⟨y0, y1, y2, y3, y4⟩, HbW⟩ := hSw; go_simp; (try with_reducible rfl))
     try simp only [Act.put, List.setIfInBounds_toArray, List.set_cons_succ, List.set_cons_zero]
     refine anyK_take2 (i := 27) (v := ?v32) rfl (by kernel_rfl) (by kernel_rfl) (by kernel_rfl) (by rfl) (fun _ _ _ h => h) (by rfl) hHeld ?hy32 (some 32) (by rfl) ?rest32
     case hy32 => (intro W hSw; obtain ⟨⟨x0, x1⟩, ⟨y0, y1, y2, y3, y4⟩, HbW⟩ := hSw; go_simp; (try with_reducible rfl))
     try simp only [Act.put, List.setIfInBounds_toArray, List.set_cons_succ, List.set_cons_zero]
     refine anyK_take2 (i := 28) (v := ?v33) rfl (by kernel_rfl) (by kernel_rfl) (by kernel_rfl) (by rfl) (fun _ _ _ h => h) (by rfl) hHeld ?hy33 (some 33) (by rfl) ?rest33
     case hy33 => (intro W hSw; obtain ⟨⟨x0, x1⟩, ⟨y0, y1, y2, y3, y4⟩, HbW⟩ := hSw; go_simp; (try with_reducible rfl))
     try simp only [Act.put, List.setIfInBounds_toArray, List.set_cons_succ, List.set_cons_zero]
     refine anyK_take2 (i := 29) (v := ?v34) rfl (by kernel_rfl) (by kernel_rfl) (by kernel_rfl) (by rfl) (fun _ _ _ h => h) (by rfl) hHeld ?hy34 (some 4) (by rfl) ?rest34
     case hy34 => (intro W hSw; obtain ⟨⟨x0, x1⟩, ⟨y0, y1, y2, y3, y4⟩, HbW⟩ := hSw; go_simp; (try with_reducible rfl))
     try simp only [Act.put, List.setIfInBounds_toArray, List.set_cons_succ, List.set_cons_zero]
     refine anyK_done (by kernel_rfl) ?_ _
     clear hHeld
     go_wp2_with fail
     go_ret
     exact ⟨by rw [HE.out]; first | rfl | simp, HB.out.trans (BC.out.mono HB.out.size)⟩
    | true =>
     refine anyK_take2 (i := 26) (v := ?v35) rfl (by kernel_rfl) (by kernel_rfl) (by kernel_rfl) (by rfl) (fun _ _ _ h => h) (by rfl) hHeld ?hy35 (some 31) (by rfl) ?rest35
     case hy35 => (intro W hSw; obtain ⟨⟨x0, x1⟩, ⟨y0, y1, y2, y3, y4⟩, HbW⟩ := hSw; go_simp; (try with_reducible rfl))
     try simp only [Act.put, List.setIfInBounds_toArray, List.set_cons_succ, List.set_cons_zero]
     refine anyK_take2 (i := 27) (v := ?v36) rfl (by kernel_rfl) (by kernel_rfl) (by kernel_rfl) (by rfl) (fun _ _ _ h => h) (by rfl) hHeld ?hy36 (some 32) (by rfl) ?rest36
     case hy36 => (intro W hSw; obtain ⟨⟨x0, x1⟩, ⟨y0, y1, y2, y3, y4⟩, HbW⟩ := hSw; go_simp; (try with_reducible rfl))
     try simp only [Act.put, List.setIfInBounds_toArray, List.set_cons_succ, List.set_cons_zero]
     refine anyK_take2 (i := 28) (v := ?v37) rfl (by kernel_rfl) (by kernel_rfl) (by kernel_rfl) (by rfl) (fun _ _ _ h => h) (by rfl) hHeld ?hy37 (some 33) (by rfl) ?rest37
     case hy37 => (intro W hSw; obtain ⟨⟨x0, x1⟩, ⟨y0, y1, y2, y3, y4⟩, HbW⟩ := hSw; go_simp; (try with_reducible rfl))
     try simp only [Act.put, List.setIfInBounds_toArray, List.set_cons_succ, List.set_cons_zero]
     refine anyK_take2 (i := 29) (v := ?v38) rfl (by kernel_rfl) (by kernel_rfl) (by kernel_rfl) (by rfl) (fun _ _ _ h => h) (by rfl) hHeld ?hy38 (some 4) (by rfl) ?rest38
     case hy38 => (intro W hSw; obtain ⟨⟨x0, x1⟩, ⟨y0, y1, y2, y3, y4⟩, HbW⟩ := hSw; go_simp; (try with_reducible rfl))
     try simp only [Act.put, List.setIfInBounds_toArray, List.set_cons_succ, List.set_cons_zero]
     refine anyK_done (by kernel_rfl) ?_ _
     clear hHeld
     go_wp2_with fail
     go_ret
     exact ⟨by rw [HE.out]; first | rfl | simp, HB.out.trans (BC.out.mono HB.out.size)⟩
  | some el =>
   obtain ⟨b1, o1, a1, c1, e1, bx1, r1, f1, m1⟩ := HL.out
   obtain rfl : ql = some ⟨b1, o1, none⟩ := by simpa using e1
   clear e1
   have BX1 := hid bx1
   have RX1 := hid r1
   clear bx1 r1
   refine anyK_take2 (i := 5) (v := ?v39) rfl (by kernel_rfl) (by kernel_rfl) (by kernel_rfl) (by rfl) (fun _ _ _ h => h) (by rfl) hHeld ?hy39 (some 10) (by rfl) ?rest39
   case hy39 => (intro W hSw; obtain ⟨⟨x0, x1⟩, ⟨y0, y1, y2, y3, y4⟩, HbW⟩ := hSw; go_simp; (try with_reducible rfl))
   try simp only [Act.put, List.setIfInBounds_toArray, List.set_cons_succ, List.set_cons_zero]
   refine anyK_take2 (i := 6) (v := ?v40) rfl (by kernel_rfl) (by kernel_rfl) (by kernel_rfl) (by rfl) (fun _ _ _ h => h) (by rfl) hHeld ?hy40 (some 11) (by rfl) ?rest40
   case hy40 => (intro W hSw; obtain ⟨⟨x0, x1⟩, ⟨y0, y1, y2, y3, y4⟩, HbW⟩ := hSw; go_simp; (try with_reducible rfl))
   try simp only [Act.put, List.setIfInBounds_toArray, List.set_cons_succ, List.set_cons_zero]
   refine anyK_take2 (i := 7) (v := ?v41) rfl (by kernel_rfl) (by kernel_rfl) (by kernel_rfl) (by rfl) (fun _ _ _ h => h) (by rfl) hHeld ?hy41 (some 12) (by rfl) ?rest41
   case hy41 => (intro W hSw; obtain ⟨⟨x0, x1⟩, ⟨y0, y1, y2, y3, y4⟩, HbW⟩ := hSw; go_simp; (try with_reducible rfl))
   try simp only [Act.put, List.setIfInBounds_toArray, List.set_cons_succ, List.set_cons_zero]
   refine anyK_take2 (i := 8) (v := ?v42) rfl (by kernel_rfl) (by kernel_rfl) (by kernel_rfl) (by rfl) (fun _ _ _ h => h) (by rfl) hHeld ?hy42 (some 13) (by rfl) ?rest42
   case hy42 => (intro W hSw; obtain ⟨⟨x0, x1⟩, ⟨y0, y1, y2, y3, y4⟩, HbW⟩ := hSw; go_simp; (try with_reducible rfl))
   try simp only [Act.put, List.setIfInBounds_toArray, List.set_cons_succ, List.set_cons_zero]
   refine anyK_take2 (i := 9) (v := ?v43) rfl (by kernel_rfl) (by kernel_rfl) (by kernel_rfl) (by rfl) (fun _ _ _ h => h) (by rfl) hHeld ?hy43 (some 14) (by rfl) ?rest43
   case hy43 => (intro W hSw; obtain ⟨⟨x0, x1⟩, ⟨y0, y1, y2, y3, y4⟩, HbW⟩ := hSw; go_simp; (try with_reducible rfl))
   try simp only [Act.put, List.setIfInBounds_toArray, List.set_cons_succ, List.set_cons_zero]
   refine anyK_take2 (i := 10) (v := ?v44) rfl (by kernel_rfl) (by kernel_rfl) (by kernel_rfl) (by rfl) (fun _ _ _ h => h) (by rfl) hHeld ?hy44 (some 15) (by rfl) ?rest44
   case hy44 => (intro W hSw; obtain ⟨⟨x0, x1⟩, ⟨y0, y1, y2, y3, y4⟩, HbW⟩ := hSw; go_simp; (try with_reducible rfl))
   try simp only [Act.put, List.setIfInBounds_toArray, List.set_cons_succ, List.set_cons_zero]
   refine anyK_take2 (i := 11) (v := ?v45) rfl (by kernel_rfl) (by kernel_rfl) (by kernel_rfl) (by rfl) (fun _ _ _ h => h) (by rfl) hHeld ?hy45 (some 16) (by rfl) ?rest45
   case hy45 => (intro W hSw; obtain ⟨⟨x0, x1⟩, ⟨y0, y1, y2, y3, y4⟩, HbW⟩ := hSw; obtain ⟨z0, z1, z2, z3, z4⟩ := BX1.out.below HbW.out (Nat.le_refl _); go_simp; (try with_reducible rfl))
   try simp only [Act.put, List.setIfInBounds_toArray, List.set_cons_succ, List.set_cons_zero]
   refine anyK_step (i := 12) (by kernel_rfl) rfl (fun KP hK => ?_)
   go_simp
   refine (impl_notBelow K N F cap id el.K el.N el.F c1 el.id hF f1 (HR.out.below (HKp.out _ BC.out).2.2.out (Nat.le_refl _)) (RX1.out.below (HKp.out _ BC.out).2.2.out (Nat.le_refl _)) hn m1).mono ?_
   rintro e v2 ⟨rfl, b⟩
   replace BC := hid (BC.out.trans (b.mono BC.out.size))
   clear b
   have hcm := hid (show loB (some el) ⟨K, N, F, Z, id⟩ = !ltB (cmpI K N F n Z el.K el.N el.F el.Z.length el.Z) id el.id by rw [← HLn.out]; rfl)
   obtain ⟨LT, hLT⟩ : ∃ LT, ltB (cmpI K N F n Z el.K el.N el.F el.Z.length el.Z) id el.id = LT := ⟨_, rfl⟩
   rw [hLT]
   rw [hcm.out, hLT] at HE
   clear hLT hcm
   go_wp2_with fail
   clear hHeld
   refine hK.out _ _ (HKp.out _ BC.out) (fun hHeld => ?_)
   clear hK KP
   try simp only [Act.put, List.setIfInBounds_toArray, List.set_cons_succ, List.set_cons_zero]
   cases LT with
   | true =>
    refine anyK_take2 (i := 13) (v := ?v46) rfl (by kernel_rfl) (by kernel_rfl) (by kernel_rfl) (by rfl) (fun _ _ _ h => h) (by rfl) hHeld ?hy46 (some 18) (by rfl) ?rest46
    case hy46 => (intro W hSw; obtain ⟨⟨x0, x1⟩, ⟨y0, y1, y2, y3, y4⟩, HbW⟩ := hSw; go_simp; (try with_reducible rfl))
    try simp only [Act.put, List.setIfInBounds_toArray, List.set_cons_succ, List.set_cons_zero]
    refine anyK_take2 (i := 14) (v := ?v47) rfl (by kernel_rfl) (by kernel_rfl) (by kernel_rfl) (by rfl) (fun _ _ _ h => h) (by rfl) hHeld ?hy47 (some 19) (by rfl) ?rest47
    case hy47 => (intro W hSw; obtain ⟨⟨x0, x1⟩, ⟨y0, y1, y2, y3, y4⟩, HbW⟩ := hSw; go_simp; (try with_reducible rfl))
    try simp only [Act.put, List.setIfInBounds_toArray, List.set_cons_succ, List.set_cons_zero]
    refine anyK_take2 (i := 15) (v := ?v48) rfl (by kernel_rfl) (by kernel_rfl) (by kernel_rfl) (by rfl) (fun _ _ _ h => h) (by rfl) hHeld ?hy48 (some 20) (by rfl) ?rest48
    case hy48 => (intro W hSw; obtain ⟨⟨x0, x1⟩, ⟨y0, y1, y2, y3, y4⟩, HbW⟩ := hSw; go_simp; (try with_reducible rfl))
    try simp only [Act.put, List.setIfInBounds_toArray, List.set_cons_succ, List.set_cons_zero]
    refine anyK_skip (i := 16) rfl (by kernel_rfl) (by kernel_rfl) (by kernel_rfl) (by kernel_rfl) (fun _ _ _ h => h) (by rfl) hHeld (some 21) (by rfl) ?_
    try simp only [Act.put, List.setIfInBounds_toArray, List.set_cons_succ, List.set_cons_zero]
    refine anyK_skip (i := 17) rfl (by kernel_rfl) (by kernel_rfl) (by kernel_rfl) (by kernel_rfl) (fun _ _ _ h => h) (by rfl) hHeld (some 22) (by rfl) ?_
    try simp only [Act.put, List.setIfInBounds_toArray, List.set_cons_succ, List.set_cons_zero]
    refine anyK_skip (i := 18) rfl (by kernel_rfl) (by kernel_rfl) (by kernel_rfl) (by kernel_rfl) (fun _ _ _ h => h) (by rfl) hHeld (some 23) (by rfl) ?_
    try simp only [Act.put, List.setIfInBounds_toArray, List.set_cons_succ, List.set_cons_zero]
    refine anyK_skip (i := 19) rfl (by kernel_rfl) (by kernel_rfl) (by kernel_rfl) (by kernel_rfl) (fun _ _ _ h => h) (by rfl) hHeld (some 24) (by rfl) ?_
    try simp only [Act.put, List.setIfInBounds_toArray, List.set_cons_succ, List.set_cons_zero]
    refine anyK_skip (i := 20) rfl (by kernel_rfl) (by kernel_rfl) (by kernel_rfl) (by kernel_rfl) (fun _ _ _ h => h) (by rfl) hHeld (some 25) (by rfl) ?_
    try simp only [Act.put, List.setIfInBounds_toArray, List.set_cons_succ, List.set_cons_zero]
    refine anyK_skip (i := 21) rfl (by kernel_rfl) (by kernel_rfl) (by kernel_rfl) (by kernel_rfl) (fun _ _ _ h => h) (by rfl) hHeld (some 26) (by rfl) ?_
    try simp only [Act.put, List.setIfInBounds_toArray, List.set_cons_succ, List.set_cons_zero]
    refine anyK_skip (i := 22) rfl (by kernel_rfl) (by kernel_rfl) (by kernel_rfl) (by kernel_rfl) (fun _ _ _ h => h) (by rfl) hHeld (some 27) (by rfl) ?_
    try simp only [Act.put, List.setIfInBounds_toArray, List.set_cons_succ, List.set_cons_zero]
    refine anyK_skip (i := 23) rfl (by kernel_rfl) (by kernel_rfl) (by kernel_rfl) (by kernel_rfl) (fun _ _ _ h => h) (by rfl) hHeld (some 28) (by rfl) ?_
    try simp only [Act.put, List.setIfInBounds_toArray, List.set_cons_succ, List.set_cons_zero]
    refine anyK_skip (i := 24) rfl (by kernel_rfl) (by kernel_rfl) (by kernel_rfl) (by kernel_rfl) (fun _ _ _ h => h) (by rfl) hHeld (some 29) (by rfl) ?_
    try simp only [Act.put, List.setIfInBounds_toArray, List.set_cons_succ, List.set_cons_zero]
    refine anyK_skip (i := 25) rfl (by kernel_rfl) (by kernel_rfl) (by kernel_rfl) (by kernel_rfl) (fun _ _ _ h => h) (by rfl) hHeld (some 30) (by rfl) ?_
    try simp only [Act.put, List.setIfInBounds_toArray, List.set_cons_succ, List.set_cons_zero]
    refine anyK_skip (i := 26) rfl (by kernel_rfl) (by kernel_rfl) (by kernel_rfl) (by kernel_rfl) (fun _ _ _ h => h) (by rfl) hHeld (some 31) (by rfl) ?_
    try simp only [Act.put, List.setIfInBounds_toArray, List.set_cons_succ, List.set_cons_zero]
    refine anyK_skip (i := 27) rfl (by kernel_rfl) (by kernel_rfl) (by kernel_rfl) (by kernel_rfl) (fun _ _ _ h => h) (by rfl) hHeld (some 32) (by rfl) ?_
    try simp only [Act.put, List.setIfInBounds_toArray, List.set_cons_succ, List.set_cons_zero]
    refine anyK_take2 (i := 28) (v := ?v49) rfl (by kernel_rfl) (by kernel_rfl) (by kernel_rfl) (by rfl) (fun _ _ _ h => h) (by rfl) hHeld ?hy49 (some 33) (by rfl) ?rest49
    case hy49 => (intro W hSw; obtain ⟨⟨x0, x1⟩, ⟨y0, y1, y2, y3, y4⟩, HbW⟩ := hSw; go_simp; (try with_reducible rfl))
    try simp only [Act.put, List.setIfInBounds_toArray, List.set_cons_succ, List.set_cons_zero]
    refine anyK_take2 (i := 29) (v := ?v50) rfl (by kernel_rfl) (by kernel_rfl) (by kernel_rfl) (by rfl) (fun _ _ _ h => h) (by rfl) hHeld ?hy50 (some 4) (by rfl) ?rest50
    case hy50 => (intro W hSw; obtain ⟨⟨x0, x1⟩, ⟨y0, y1, y2, y3, y4⟩, HbW⟩ := hSw; go_simp; (try with_reducible rfl))
    try simp only [Act.put, List.setIfInBounds_toArray, List.set_cons_succ, List.set_cons_zero]
    refine anyK_done (by kernel_rfl) ?_ _
    clear hHeld
    go_wp2_with fail
    go_ret
    exact ⟨by rw [HE.out]; first | rfl | simp, HB.out.trans (BC.out.mono HB.out.size)⟩
   | false =>
    refine anyK_take2 (i := 13) (v := ?v51) rfl (by kernel_rfl) (by kernel_rfl) (by kernel_rfl) (by rfl) (fun _ _ _ h => h) (by rfl) hHeld ?hy51 (some 18) (by rfl) ?rest51
    case hy51 => (intro W hSw; obtain ⟨⟨x0, x1⟩, ⟨y0, y1, y2, y3, y4⟩, HbW⟩ := hSw; go_simp; (try with_reducible rfl))
    try simp only [Act.put, List.setIfInBounds_toArray, List.set_cons_succ, List.set_cons_zero]
    refine anyK_take2 (i := 14) (v := ?v52) rfl (by kernel_rfl) (by kernel_rfl) (by kernel_rfl) (by rfl) (fun _ _ _ h => h) (by rfl) hHeld ?hy52 (some 19) (by rfl) ?rest52
    case hy52 => (intro W hSw; obtain ⟨⟨x0, x1⟩, ⟨y0, y1, y2, y3, y4⟩, HbW⟩ := hSw; go_simp; (try with_reducible rfl))
    try simp only [Act.put, List.setIfInBounds_toArray, List.set_cons_succ, List.set_cons_zero]
    refine anyK_take2 (i := 15) (v := ?v53) rfl (by kernel_rfl) (by kernel_rfl) (by kernel_rfl) (by rfl) (fun _ _ _ h => h) (by rfl) hHeld ?hy53 (some 20) (by rfl) ?rest53
    case hy53 => (intro W hSw; obtain ⟨⟨x0, x1⟩, ⟨y0, y1, y2, y3, y4⟩, HbW⟩ := hSw; go_simp; (try with_reducible rfl))
    try simp only [Act.put, List.setIfInBounds_toArray, List.set_cons_succ, List.set_cons_zero]
    cases hi with
    | none =>
     obtain rfl : qh = none := by have := HH.out; simpa [PtrE] using this
     refine anyK_take2 (i := 16) (v := ?v54) rfl (by kernel_rfl) (by kernel_rfl) (by kernel_rfl) (by rfl) (fun _ _ _ h => h) (by rfl) hHeld ?hy54 (some 21) (by rfl) ?rest54
     case hy54 => (intro W hSw; obtain ⟨⟨x0, x1⟩, ⟨y0, y1, y2, y3, y4⟩, HbW⟩ := hSw; go_simp; (try with_reducible rfl))
     try simp only [Act.put, List.setIfInBounds_toArray, List.set_cons_succ, List.set_cons_zero]
     refine anyK_take2 (i := 17) (v := ?v55) rfl (by kernel_rfl) (by kernel_rfl) (by kernel_rfl) (by rfl) (fun _ _ _ h => h) (by rfl) hHeld ?hy55 (some 22) (by rfl) ?rest55
     case hy55 => (intro W hSw; obtain ⟨⟨x0, x1⟩, ⟨y0, y1, y2, y3, y4⟩, HbW⟩ := hSw; go_simp; (try with_reducible rfl))
     try simp only [Act.put, List.setIfInBounds_toArray, List.set_cons_succ, List.set_cons_zero]
     refine anyK_take2 (i := 18) (v := ?v56) rfl (by kernel_rfl) (by kernel_rfl) (by kernel_rfl) (by rfl) (fun _ _ _ h => h) (by rfl) hHeld ?hy56 (some 23) (by rfl) ?rest56
     case hy56 => (intro W hSw; obtain ⟨⟨x0, x1⟩, ⟨y0, y1, y2, y3, y4⟩, HbW⟩ := hSw; go_simp; (try with_reducible rfl))
     try simp only [Act.put, List.setIfInBounds_toArray, List.set_cons_succ, List.set_cons_zero]
     refine anyK_take2 (i := 19) (v := ?v57) rfl (by kernel_rfl) (by kernel_rfl) (by kernel_rfl) (by rfl) (fun _ _ _ h => h) (by rfl) hHeld ?hy57 (some 24) (by rfl) ?rest57
     case hy57 => (intro W hSw; obtain ⟨⟨x0, x1⟩, ⟨y0, y1, y2, y3, y4⟩, HbW⟩ := hSw; go_simp; (try with_reducible rfl))
     try simp only [Act.put, List.setIfInBounds_toArray, List.set_cons_succ, List.set_cons_zero]
     refine anyK_skip (i := 20) rfl (by kernel_rfl) (by kernel_rfl) (by kernel_rfl) (by kernel_rfl) (fun _ _ _ h => h) (by rfl) hHeld (some 25) (by rfl) ?_
     try simp only [Act.put, List.setIfInBounds_toArray, List.set_cons_succ, List.set_cons_zero]
     refine anyK_skip (i := 21) rfl (by kernel_rfl) (by kernel_rfl) (by kernel_rfl) (by kernel_rfl) (fun _ _ _ h => h) (by rfl) hHeld (some 26) (by rfl) ?_
     try simp only [Act.put, List.setIfInBounds_toArray, List.set_cons_succ, List.set_cons_zero]
     refine anyK_skip (i := 22) rfl (by kernel_rfl) (by kernel_rfl) (by kernel_rfl) (by kernel_rfl) (fun _ _ _ h => h) (by rfl) hHeld (some 27) (by rfl) ?_
     try simp only [Act.put, List.setIfInBounds_toArray, List.set_cons_succ, List.set_cons_zero]
     refine anyK_skip (i := 23) rfl (by kernel_rfl) (by kernel_rfl) (by kernel_rfl) (by kernel_rfl) (fun _ _ _ h => h) (by rfl) hHeld (some 28) (by rfl) ?_
     try simp only [Act.put, List.setIfInBounds_toArray, List.set_cons_succ, List.set_cons_zero]
     refine anyK_skip (i := 24) rfl (by kernel_rfl) (by kernel_rfl) (by kernel_rfl) (by kernel_rfl) (fun _ _ _ h => h) (by rfl) hHeld (some 29) (by rfl) ?_
     try simp only [Act.put, List.setIfInBounds_toArray, List.set_cons_succ, List.set_cons_zero]
     refine anyK_skip (i := 25) rfl (by kernel_rfl) (by kernel_rfl) (by kernel_rfl) (by kernel_rfl) (fun _ _ _ h => h) (by rfl) hHeld (some 30) (by rfl) ?_
     try simp only [Act.put, List.setIfInBounds_toArray, List.set_cons_succ, List.set_cons_zero]
     refine anyK_skip (i := 26) rfl (by kernel_rfl) (by kernel_rfl) (by kernel_rfl) (by kernel_rfl) (fun _ _ _ h => h) (by rfl) hHeld (some 31) (by rfl) ?_
     try simp only [Act.put, List.setIfInBounds_toArray, List.set_cons_succ, List.set_cons_zero]
     refine anyK_take2 (i := 27) (v := ?v58) rfl (by kernel_rfl) (by kernel_rfl) (by kernel_rfl) (by rfl) (fun _ _ _ h => h) (by rfl) hHeld ?hy58 (some 32) (by rfl) ?rest58
     case hy58 => (intro W hSw; obtain ⟨⟨x0, x1⟩, ⟨y0, y1, y2, y3, y4⟩, HbW⟩ := hSw; go_simp; (try with_reducible rfl))
     try simp only [Act.put, List.setIfInBounds_toArray, List.set_cons_succ, List.set_cons_zero]
     refine anyK_take2 (i := 28) (v := ?v59) rfl (by kernel_rfl) (by kernel_rfl) (by kernel_rfl) (by rfl) (fun _ _ _ h => h) (by rfl) hHeld ?hy59 (some 33) (by rfl) ?rest59
     case hy59 => (intro W hSw; obtain ⟨⟨x0, x1⟩, ⟨y0, y1, y2, y3, y4⟩, HbW⟩ := hSw; go_simp; (try with_reducible rfl))
     try simp only [Act.put, List.setIfInBounds_toArray, List.set_cons_succ, List.set_cons_zero]
     refine anyK_take2 (i := 29) (v := ?v60) rfl (by kernel_rfl) (by kernel_rfl) (by kernel_rfl) (by rfl) (fun _ _ _ h => h) (by rfl) hHeld ?hy60 (some 4) (by rfl) ?rest60
     case hy60 => (intro W hSw; obtain ⟨⟨x0, x1⟩, ⟨y0, y1, y2, y3, y4⟩, HbW⟩ := hSw; go_simp; (try with_reducible rfl))
     try simp only [Act.put, List.setIfInBounds_toArray, List.set_cons_succ, List.set_cons_zero]
     refine anyK_done (by kernel_rfl) ?_ _
     clear hHeld
     go_wp2_with fail
     go_ret
     exact ⟨by rw [HE.out]; first | rfl | simp, HB.out.trans (BC.out.mono HB.out.size)⟩
    | some eh =>
     obtain ⟨b2, o2, a2, c2, e2, bx2, r2, f2, m2⟩ := HH.out
     obtain rfl : qh = some ⟨b2, o2, none⟩ := by simpa using e2
     clear e2
     have BX2 := hid bx2
     have RX2 := hid r2
     clear bx2 r2
     refine anyK_take2 (i := 16) (v := ?v61) rfl (by kernel_rfl) (by kernel_rfl) (by kernel_rfl) (by rfl) (fun _ _ _ h => h) (by rfl) hHeld ?hy61 (some 21) (by rfl) ?rest61
     case hy61 => (intro W hSw; obtain ⟨⟨x0, x1⟩, ⟨y0, y1, y2, y3, y4⟩, HbW⟩ := hSw; go_simp; (try with_reducible rfl))
     try simp only [Act.put, List.setIfInBounds_toArray, List.set_cons_succ, List.set_cons_zero]
     refine anyK_take2 (i := 17) (v := ?v62) rfl (by kernel_rfl) (by kernel_rfl) (by kernel_rfl) (by rfl) (fun _ _ _ h => h) (by rfl) hHeld ?hy62 (some 22) (by rfl) ?rest62
     case hy62 => (intro W hSw; obtain ⟨⟨x0, x1⟩, ⟨y0, y1, y2, y3, y4⟩, HbW⟩ := hSw; go_simp; (try with_reducible rfl))
     try simp only [Act.put, List.setIfInBounds_toArray, List.set_cons_succ, List.set_cons_zero]
     refine anyK_take2 (i := 18) (v := ?v63) rfl (by kernel_rfl) (by kernel_rfl) (by kernel_rfl) (by rfl) (fun _ _ _ h => h) (by rfl) hHeld ?hy63 (some 23) (by rfl) ?rest63
     case hy63 => (intro W hSw; obtain ⟨⟨x0, x1⟩, ⟨y0, y1, y2, y3, y4⟩, HbW⟩ := hSw; go_simp; (try with_reducible rfl))
     try simp only [Act.put, List.setIfInBounds_toArray, List.set_cons_succ, List.set_cons_zero]
     refine anyK_take2 (i := 19) (v := ?v64) rfl (by kernel_rfl) (by kernel_rfl) (by kernel_rfl) (by rfl) (fun _ _ _ h => h) (by rfl) hHeld ?hy64 (some 24) (by rfl) ?rest64
     case hy64 => (intro W hSw; obtain ⟨⟨x0, x1⟩, ⟨y0, y1, y2, y3, y4⟩, HbW⟩ := hSw; go_simp; (try with_reducible rfl))
     try simp only [Act.put, List.setIfInBounds_toArray, List.set_cons_succ, List.set_cons_zero]
     refine anyK_take2 (i := 20) (v := ?v65) rfl (by kernel_rfl) (by kernel_rfl) (by kernel_rfl) (by rfl) (fun _ _ _ h => h) (by rfl) hHeld ?hy65 (some 25) (by rfl) ?rest65
     case hy65 => (intro W hSw; obtain ⟨⟨x0, x1⟩, ⟨y0, y1, y2, y3, y4⟩, HbW⟩ := hSw; go_simp; (try with_reducible rfl))
     try simp only [Act.put, List.setIfInBounds_toArray, List.set_cons_succ, List.set_cons_zero]
     refine anyK_take2 (i := 21) (v := ?v66) rfl (by kernel_rfl) (by kernel_rfl) (by kernel_rfl) (by rfl) (fun _ _ _ h => h) (by rfl) hHeld ?hy66 (some 26) (by rfl) ?rest66
     case hy66 => (intro W hSw; obtain ⟨⟨x0, x1⟩, ⟨y0, y1, y2, y3, y4⟩, HbW⟩ := hSw; go_simp; (try with_reducible rfl))
     try simp only [Act.put, List.setIfInBounds_toArray, List.set_cons_succ, List.set_cons_zero]
     refine anyK_take2 (i := 22) (v := ?v67) rfl (by kernel_rfl) (by kernel_rfl) (by kernel_rfl) (by rfl) (fun _ _ _ h => h) (by rfl) hHeld ?hy67 (some 27) (by rfl) ?rest67
     case hy67 => (intro W hSw; obtain ⟨⟨x0, x1⟩, ⟨y0, y1, y2, y3, y4⟩, HbW⟩ := hSw; go_simp; (try with_reducible rfl))
     try simp only [Act.put, List.setIfInBounds_toArray, List.set_cons_succ, List.set_cons_zero]
     refine anyK_take2 (i := 23) (v := ?v68) rfl (by kernel_rfl) (by kernel_rfl) (by kernel_rfl) (by rfl) (fun _ _ _ h => h) (by rfl) hHeld ?hy68 (some 28) (by rfl) ?rest68
     case hy68 => (intro W hSw; obtain ⟨⟨x0, x1⟩, ⟨y0, y1, y2, y3, y4⟩, HbW⟩ := hSw; go_simp; (try with_reducible rfl))
     try simp only [Act.put, List.setIfInBounds_toArray, List.set_cons_succ, List.set_cons_zero]
     refine anyK_take2 (i := 24) (v := ?v69) rfl (by kernel_rfl) (by kernel_rfl) (by kernel_rfl) (by rfl) (fun _ _ _ h => h) (by rfl) hHeld ?hy69 (some 29) (by rfl) ?rest69
     case hy69 => (intro W hSw; obtain ⟨⟨x0, x1⟩, ⟨y0, y1, y2, y3, y4⟩, HbW⟩ := hSw; obtain ⟨z0, z1, z2, z3, z4⟩ := BX2.out.below HbW.out (Nat.le_refl _); go_simp; (try with_reducible rfl))
     try simp only [Act.put, List.setIfInBounds_toArray, List.set_cons_succ, List.set_cons_zero]
     refine anyK_step (i := 25) (by kernel_rfl) rfl (fun KP hK => ?_)
     go_simp
     refine (impl_notBelow K N F cap id eh.K eh.N eh.F c2 eh.id hF f2 (HR.out.below (HKp.out _ BC.out).2.2.out (Nat.le_refl _)) (RX2.out.below (HKp.out _ BC.out).2.2.out (Nat.le_refl _)) hn m2).mono ?_
     rintro e v3 ⟨rfl, b⟩
     replace BC := hid (BC.out.trans (b.mono BC.out.size))
     clear b
     have hcm := hid (show hiB (some eh) ⟨K, N, F, Z, id⟩ = ltB (cmpI K N F n Z eh.K eh.N eh.F eh.Z.length eh.Z) id eh.id by rw [← HLn.out]; rfl)
     obtain ⟨HT, hHT⟩ : ∃ HT, ltB (cmpI K N F n Z eh.K eh.N eh.F eh.Z.length eh.Z) id eh.id = HT := ⟨_, rfl⟩
     rw [hHT]
     rw [hcm.out, hHT] at HE
     clear hHT hcm
     go_wp2_with fail
     clear hHeld
     refine hK.out _ _ (HKp.out _ BC.out) (fun hHeld => ?_)
     clear hK KP
     try simp only [Act.put, List.setIfInBounds_toArray, List.set_cons_succ, List.set_cons_zero]
     cases HT with
     | false =>
      refine anyK_take2 (i := 26) (v := ?v70) rfl (by kernel_rfl) (by kernel_rfl) (by kernel_rfl) (by rfl) (fun _ _ _ h => h) (by rfl) hHeld ?hy70 (some 31) (by rfl) ?rest70
      case hy70 => (intro W hSw; obtain ⟨⟨x0, x1⟩, ⟨y0, y1, y2, y3, y4⟩, HbW⟩ := hSw; go_simp; (try with_reducible rfl))
      try simp only [Act.put, List.setIfInBounds_toArray, List.set_cons_succ, List.set_cons_zero]
      refine anyK_take2 (i := 27) (v := ?v71) rfl (by kernel_rfl) (by kernel_rfl) (by kernel_rfl) (by rfl) (fun _ _ _ h => h) (by rfl) hHeld ?hy71 (some 32) (by rfl) ?rest71
      case hy71 => (intro W hSw; obtain ⟨⟨x0, x1⟩, ⟨y0, y1, y2, y3, y4⟩, HbW⟩ := hSw; go_simp; (try with_reducible rfl))
      try simp only [Act.put, List.setIfInBounds_toArray, List.set_cons_succ, List.set_cons_zero]
      refine anyK_take2 (i := 28) (v := ?v72) rfl (by kernel_rfl) (by kernel_rfl) (by kernel_rfl) (by rfl) (fun _ _ _ h => h) (by rfl) hHeld ?hy72 (some 33) (by rfl) ?rest72
      case hy72 => (intro W hSw; obtain ⟨⟨x0, x1⟩, ⟨y0, y1, y2, y3, y4⟩, HbW⟩ := hSw; go_simp; (try with_reducible rfl))
      try simp only [Act.put, List.setIfInBounds_toArray, List.set_cons_succ, List.set_cons_zero]
      refine anyK_take2 (i := 29) (v := ?v73) rfl (by kernel_rfl) (by kernel_rfl) (by kernel_rfl) (by rfl) (fun _ _ _ h => h) (by rfl) hHeld ?hy73 (some 4) (by rfl) ?rest73
      case hy73 => (intro W hSw; obtain ⟨⟨x0, x1⟩, ⟨y0, y1, y2, y3, y4⟩, HbW⟩ := hSw; go_simp; (try with_reducible rfl))
      try simp only [Act.put, List.setIfInBounds_toArray, List.set_cons_succ, List.set_cons_zero]
      refine anyK_done (by kernel_rfl) ?_ _
      clear hHeld
      go_wp2_with fail
      go_ret
      exact ⟨by rw [HE.out]; first | rfl | simp, HB.out.trans (BC.out.mono HB.out.size)⟩
     | true =>
      refine anyK_take2 (i := 26) (v := ?v74) rfl (by kernel_rfl) (by kernel_rfl) (by kernel_rfl) (by rfl) (fun _ _ _ h => h) (by rfl) hHeld ?hy74 (some 31) (by rfl) ?rest74
      case hy74 => (intro W hSw; obtain ⟨⟨x0, x1⟩, ⟨y0, y1, y2, y3, y4⟩, HbW⟩ := hSw; go_simp; (try with_reducible rfl))
      try simp only [Act.put, List.setIfInBounds_toArray, List.set_cons_succ, List.set_cons_zero]
      refine anyK_take2 (i := 27) (v := ?v75) rfl (by kernel_rfl) (by kernel_rfl) (by kernel_rfl) (by rfl) (fun _ _ _ h => h) (by rfl) hHeld ?hy75 (some 32) (by rfl) ?rest75
      case hy75 => (intro W hSw; obtain ⟨⟨x0, x1⟩, ⟨y0, y1, y2, y3, y4⟩, HbW⟩ := hSw; go_simp; (try with_reducible rfl))
      try simp only [Act.put, List.setIfInBounds_toArray, List.set_cons_succ, List.set_cons_zero]
      refine anyK_take2 (i := 28) (v := ?v76) rfl (by kernel_rfl) (by kernel_rfl) (by kernel_rfl) (by rfl) (fun _ _ _ h => h) (by rfl) hHeld ?hy76 (some 33) (by rfl) ?rest76
      case hy76 => (intro W hSw; obtain ⟨⟨x0, x1⟩, ⟨y0, y1, y2, y3, y4⟩, HbW⟩ := hSw; go_simp; (try with_reducible rfl))
      try simp only [Act.put, List.setIfInBounds_toArray, List.set_cons_succ, List.set_cons_zero]
      refine anyK_take2 (i := 29) (v := ?v77) rfl (by kernel_rfl) (by kernel_rfl) (by kernel_rfl) (by rfl) (fun _ _ _ h => h) (by rfl) hHeld ?hy77 (some 4) (by rfl) ?rest77
      case hy77 => (intro W hSw; obtain ⟨⟨x0, x1⟩, ⟨y0, y1, y2, y3, y4⟩, HbW⟩ := hSw; go_simp; (try with_reducible rfl))
      try simp only [Act.put, List.setIfInBounds_toArray, List.set_cons_succ, List.set_cons_zero]
      refine anyK_done (by kernel_rfl) ?_ _
      clear hHeld
      go_wp2_with fail
      go_ret
      exact ⟨by rw [HE.out]; first | rfl | simp, HB.out.trans (BC.out.mono HB.out.size)⟩
end Go.Proofs.Ytphmlndkjgldkaa
