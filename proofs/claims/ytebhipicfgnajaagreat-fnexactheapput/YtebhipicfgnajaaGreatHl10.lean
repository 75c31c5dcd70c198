/- Rows in memory, read; the contracts of the laws' eqRow and eqRowS. Conditions: texts of at most 2^21 bytes. -/
import Derived.Test.YtebhipicfgnajaaGreatHj10
import Derived.Test.YtebhipicfgnajaaGreatTh
import Derived.Test.YtebhipicfgnajaaGreatMga
import Derived.Deep.RegionHeld3
namespace Go.Proofs.YtebhipicfgnajaaGreat
open Go.RowKit
set_option maxRecDepth 100000
structure ReadsRw (w : World) (ad : Option Addr) (rs : List Rw) : Prop where
 cells : rs.length = 0 ∨ ∃ b off, ad = some ⟨b, off, none⟩ ∧ ∀ i, i < rs.length → ∃ (f : Nat × Nat) (x y : Value), SameR (rs.getD i rw0) f ∧ (∀ j, j < 12 → w.cell? ⟨b, off + i * 12 + j, none⟩ = (cellsOne (rs.getD i rw0) f x y)[j]?) ∧ Row w x (rs.getD i rw0).t.Z ∧ Row w y (rs.getD i rw0).t.Y
structure Box12 (w : World) (b o : Nat) (P S A B K N : Int) (f : Nat) (x : Value) (L M : Int) (h : Nat) (y : Value) : Prop where
 c0 : w.cell? ⟨b, o, none⟩ = some (.int .i64 P)
 c1 : w.cell? ⟨b, o + 1, none⟩ = some (.int .i64 S)
 c2 : w.cell? ⟨b, o + 2, none⟩ = some (.int .i64 A)
 c3 : w.cell? ⟨b, o + 3, none⟩ = some (.int .i64 B)
 c4 : w.cell? ⟨b, o + 4, none⟩ = some (.int .i64 K)
 c5 : w.cell? ⟨b, o + 5, none⟩ = some (.int .i64 N)
 c6 : w.cell? ⟨b, o + 6, none⟩ = some (.float .f64 f)
 c7 : w.cell? ⟨b, o + 7, none⟩ = some (x)
 c8 : w.cell? ⟨b, o + 8, none⟩ = some (.int .i64 L)
 c9 : w.cell? ⟨b, o + 9, none⟩ = some (.int .i64 M)
 c10 : w.cell? ⟨b, o + 10, none⟩ = some (.float .f64 h)
 c11 : w.cell? ⟨b, o + 11, none⟩ = some (y)
set_option maxHeartbeats 3200000 in
theorem eqRow (P S A B K N : Int) (f f' : Nat) {a1 b1 : Option Addr} {n : Nat} (c1 d1 : Nat) (L M : Int) (h h' : Nat) {a2 b2 : Option Addr} {m : Nat} (c2 d2 : Nat) {zs ys : List Int} {w : World} (hf : f < 18446744073709551616) (hf' : f' < 18446744073709551616) (hh : h < 18446744073709551616) (hh' : h' < 18446744073709551616)
 (sf : Hid (Same f f')) (sh : Hid (Same h h')) (rk : Reads w a1 n zs) (rk' : Reads w b1 n zs) (rv : Reads w a2 m ys) (rv' : Reads w b2 m ys) (hn : n ≤ 2097152) (hm : m ≤ 2097152) :
 Calls Tryz.prog 104 #[.agg #[.int .i64 P, .int .i64 S, .int .i64 A, .int .i64 B, .int .i64 K, .int .i64 N, .float .f64 f, .slice a1 n c1, .int .i64 L, .int .i64 M, .float .f64 h, .slice a2 m c2], .agg #[.int .i64 P, .int .i64 S, .int .i64 A, .int .i64 B, .int .i64 K, .int .i64 N, .float .f64 f', .slice b1 n d1, .int .i64 L, .int .i64 M, .float .f64 h', .slice b2 m d2]] w fun e w' => e = .returned (.bool true) ∧ Below w.heap.size w w' := by
 have hB := two w (.cells #[.int .i64 P, .int .i64 S, .int .i64 A, .int .i64 B, .int .i64 K, .int .i64 N, .float .f64 f, .slice a1 n c1, .int .i64 L, .int .i64 M, .float .f64 h, .slice a2 m c2] 42) (.cells #[.int .i64 P, .int .i64 S, .int .i64 A, .int .i64 B, .int .i64 K, .int .i64 N, .float .f64 f', .slice b1 n d1, .int .i64 L, .int .i64 M, .float .f64 h', .slice b2 m d2] 42)
 have H1 := hid (rk.below hB (Nat.le_refl _))
 have H2 := hid (rk'.below hB (Nat.le_refl _))
 have H3 := hid (rv.below hB (Nat.le_refl _))
 have H4 := hid (rv'.below hB (Nat.le_refl _))
 have HB := hid hB
 have q1 : (P != P) = false := by simp
 have q2 : (S != S) = false := by simp
 clear hB rk rk' rv rv'
 go_enter Tryz.func104, Tryz.ntmps104
 go_wp2_with fail
 refine (eqTuple A B K N f f' c1 d1 L M h h' c2 d2 hf hf' hh hh' sf sh H1.out H2.out H3.out H4.out hn hm).mono ?_
 rintro e w2 ⟨rfl, b⟩
 replace HB := hid (HB.out.trans (b.mono HB.out.size))
 clear b
 go_wp2_with fail
 go_ret
 exact ⟨rfl, HB.out⟩
set_option maxHeartbeats 6400000 in
theorem eqRowS {ad ad' : Option Addr} {n : Nat} (cap cap' : Nat) {rs : List Rw} {w : World} (h : ReadsRw w ad rs) (h' : ReadsRw w ad' rs) (hl : rs.length = n) (hn : n ≤ 2097152) (hs : ∀ i, i < n → (rs.getD i rw0).t.Z.length ≤ 2097152 ∧ (rs.getD i rw0).t.Y.length ≤ 2097152) :
 Calls Tryz.prog 39 #[.slice ad n cap, .slice ad' n cap'] w fun e w' => e = .returned (.bool true) ∧ Below w.heap.size w w' := by
 go_enter Tryz.func39, Tryz.ntmps39
 go_wp2
 go_loopw [5] (fun i wr => ∃ k : Nat, k ≤ n ∧ i = .int .i64 k ∧ Hid (Below w.heap.size w wr)) (fun i _ => n - (intOf i).toNat)
 case atStart => exact ⟨0, Nat.zero_le _, rfl, hid (Below.refl _ _)⟩
 case round =>
  obtain ⟨k, hk, rfl, hS⟩ := hrel
  by_cases hlt : k < n
  · have hlt' : (k : Int) < (n : Int) := by omega
    have hk0 : (0 : Int) ≤ (k : Int) := by omega
    obtain ⟨b, off, f1, f2, a1, c1, a2, c2, rfl, bx, sm, r1, r2⟩ := h.at (k := k) (by omega)
    obtain ⟨b', off', f1', f2', a1', c1', a2', c2', rfl, bx', sm', r1', r2'⟩ := h'.at (k := k) (by omega)
    have hlen := hs k hlt
    generalize rs.getD k rw0 = r at *
    obtain ⟨P, S, A, B, K, N, F, Z, L, M, G, Y, okk⟩ := r
    simp only at bx bx' r1 r2 r1' r2' hlen
    obtain ⟨sa, sb, sc, sd⟩ := sm
    obtain ⟨sa', sb', sc', sd'⟩ := sm'
    simp only at sa sb sc sd sa' sb' sc' sd'
    have SF := hid (Same.both sa sa')
    have SG := hid (Same.both sb sb')
    obtain ⟨zl, hzl⟩ : ∃ zl, Z.length = zl := ⟨_, rfl⟩
    obtain ⟨yl, hyl⟩ : ∃ yl, Y.length = yl := ⟨_, rfl⟩
    rw [hzl] at bx bx' r1 r1' hlen
    rw [hyl] at bx bx' r2 r2' hlen
    have hz2 := hlen.1
    have hy2 := hlen.2
    have BX := hid (bx.below hS.out (Nat.le_refl _))
    have BY := hid (bx'.below hS.out (Nat.le_refl _))
    have R1 := hid (r1.below hS.out (Nat.le_refl _))
    have R2 := hid (r2.below hS.out (Nat.le_refl _))
    have R3 := hid (r1'.below hS.out (Nat.le_refl _))
    have R4 := hid (r2'.below hS.out (Nat.le_refl _))
    clear bx bx' r1 r2 r1' r2' hlen hzl hyl sa sb sa' sb'
    go_wp2
    replace BX := hid (BX.out.below ((Still.drew wr).below _) (Nat.le_refl _))
    replace BY := hid (BY.out.below ((Still.drew wr).below _) (Nat.le_refl _))
    replace R1 := hid (R1.out.below ((Still.drew wr).below _) (Nat.le_refl _))
    replace R2 := hid (R2.out.below ((Still.drew wr).below _) (Nat.le_refl _))
    replace R3 := hid (R3.out.below ((Still.drew wr).below _) (Nat.le_refl _))
    replace R4 := hid (R4.out.below ((Still.drew wr).below _) (Nat.le_refl _))
    replace hS := hid (hS.out.trans (((Still.drew wr).below _).mono hS.out.size))
    refine region_K 99 (fun W => Box12 W b (off + k * 12) P S A B K N f1 (.slice a1 zl c1) L M f2 (.slice a2 yl c2) ∧ Box12 W b' (off' + k * 12) P S A B K N f1' (.slice a1' zl c1') L M f2' (.slice a2' yl c2')) (by kernel_rfl) ?_ (fun hHeld => ?_)
    · exact ⟨BX.out, BY.out⟩
    generalize wr.drew = v0 at *
    refine anyK_take2 (i := 0) (v := ?v0) rfl (by kernel_rfl) (by kernel_rfl) (by kernel_rfl) (by rfl) (fun _ _ _ h => h) (by rfl) hHeld ?hy0 (some 17) (by rfl) ?rest0
    case hy0 => (intro W hSw; obtain ⟨⟨x0, x1, x2, x3, x4, x5, x6, x7, x8, x9, x10, x11⟩, ⟨y0, y1, y2, y3, y4, y5, y6, y7, y8, y9, y10, y11⟩⟩ := hSw; go_simp; (try with_reducible rfl))
    try simp only [Act.put]
    try simp only [List.setIfInBounds_toArray]
    try simp only [List.set_cons_succ, List.set_cons_zero]
    refine anyK_take2 (i := 1) (v := ?v1) rfl (by kernel_rfl) (by kernel_rfl) (by kernel_rfl) (by rfl) (fun _ _ _ h => h) (by rfl) hHeld ?hy1 (some 18) (by rfl) ?rest1
    case hy1 => (intro W hSw; obtain ⟨⟨x0, x1, x2, x3, x4, x5, x6, x7, x8, x9, x10, x11⟩, ⟨y0, y1, y2, y3, y4, y5, y6, y7, y8, y9, y10, y11⟩⟩ := hSw; go_simp; (try with_reducible rfl))
    try simp only [Act.put]
    try simp only [List.setIfInBounds_toArray]
    try simp only [List.set_cons_succ, List.set_cons_zero]
    refine anyK_take2 (i := 2) (v := ?v2) rfl (by kernel_rfl) (by kernel_rfl) (by kernel_rfl) (by rfl) (fun _ _ _ h => h) (by rfl) hHeld ?hy2 (some 19) (by rfl) ?rest2
    case hy2 => (intro W hSw; obtain ⟨⟨x0, x1, x2, x3, x4, x5, x6, x7, x8, x9, x10, x11⟩, ⟨y0, y1, y2, y3, y4, y5, y6, y7, y8, y9, y10, y11⟩⟩ := hSw; go_simp; (try with_reducible rfl))
    try simp only [Act.put]
    try simp only [List.setIfInBounds_toArray]
    try simp only [List.set_cons_succ, List.set_cons_zero]
    refine anyK_take2 (i := 3) (v := ?v3) rfl (by kernel_rfl) (by kernel_rfl) (by kernel_rfl) (by rfl) (fun _ _ _ h => h) (by rfl) hHeld ?hy3 (some 20) (by rfl) ?rest3
    case hy3 => (intro W hSw; obtain ⟨⟨x0, x1, x2, x3, x4, x5, x6, x7, x8, x9, x10, x11⟩, ⟨y0, y1, y2, y3, y4, y5, y6, y7, y8, y9, y10, y11⟩⟩ := hSw; go_simp; (try with_reducible rfl))
    try simp only [Act.put]
    try simp only [List.setIfInBounds_toArray]
    try simp only [List.set_cons_succ, List.set_cons_zero]
    refine anyK_take2 (i := 4) (v := ?v4) rfl (by kernel_rfl) (by kernel_rfl) (by kernel_rfl) (by rfl) (fun _ _ _ h => h) (by rfl) hHeld ?hy4 (some 21) (by rfl) ?rest4
    case hy4 => (intro W hSw; obtain ⟨⟨x0, x1, x2, x3, x4, x5, x6, x7, x8, x9, x10, x11⟩, ⟨y0, y1, y2, y3, y4, y5, y6, y7, y8, y9, y10, y11⟩⟩ := hSw; go_simp; (try with_reducible rfl))
    try simp only [Act.put]
    try simp only [List.setIfInBounds_toArray]
    try simp only [List.set_cons_succ, List.set_cons_zero]
    refine anyK_take2 (i := 5) (v := ?v5) rfl (by kernel_rfl) (by kernel_rfl) (by kernel_rfl) (by rfl) (fun _ _ _ h => h) (by rfl) hHeld ?hy5 (some 22) (by rfl) ?rest5
    case hy5 => (intro W hSw; obtain ⟨⟨x0, x1, x2, x3, x4, x5, x6, x7, x8, x9, x10, x11⟩, ⟨y0, y1, y2, y3, y4, y5, y6, y7, y8, y9, y10, y11⟩⟩ := hSw; go_simp; (try with_reducible rfl))
    try simp only [Act.put]
    try simp only [List.setIfInBounds_toArray]
    try simp only [List.set_cons_succ, List.set_cons_zero]
    refine anyK_take2 (i := 6) (v := ?v6) rfl (by kernel_rfl) (by kernel_rfl) (by kernel_rfl) (by rfl) (fun _ _ _ h => h) (by rfl) hHeld ?hy6 (some 23) (by rfl) ?rest6
    case hy6 => (intro W hSw; obtain ⟨⟨x0, x1, x2, x3, x4, x5, x6, x7, x8, x9, x10, x11⟩, ⟨y0, y1, y2, y3, y4, y5, y6, y7, y8, y9, y10, y11⟩⟩ := hSw; go_simp; (try with_reducible rfl))
    try simp only [Act.put]
    try simp only [List.setIfInBounds_toArray]
    try simp only [List.set_cons_succ, List.set_cons_zero]
    refine anyK_take2 (i := 7) (v := ?v7) rfl (by kernel_rfl) (by kernel_rfl) (by kernel_rfl) (by rfl) (fun _ _ _ h => h) (by rfl) hHeld ?hy7 (some 24) (by rfl) ?rest7
    case hy7 => (intro W hSw; obtain ⟨⟨x0, x1, x2, x3, x4, x5, x6, x7, x8, x9, x10, x11⟩, ⟨y0, y1, y2, y3, y4, y5, y6, y7, y8, y9, y10, y11⟩⟩ := hSw; go_simp; (try with_reducible rfl))
    try simp only [Act.put]
    try simp only [List.setIfInBounds_toArray]
    try simp only [List.set_cons_succ, List.set_cons_zero]
    refine anyK_step (i := 8) (by kernel_rfl) rfl (fun KP hK => ?_)
    go_simp
    refine (eqRow P S A B K N f1 f1' c1 c1' L M f2 f2' c2 c2' sc sc' sd sd' SF SG R1.out R3.out R2.out R4.out hz2 hy2).mono ?_
    rintro e u ⟨rfl, b1⟩
    have HS2 := hid (hS.out.trans (b1.mono hS.out.size))
    replace BX := hid (BX.out.below b1 (Nat.le_refl _))
    replace BY := hid (BY.out.below b1 (Nat.le_refl _))
    clear b1
    go_wp2_with fail
    refine hK.out _ _ ?_ (fun hH2 => ?_)
    · exact ⟨BX.out, BY.out⟩
    clear hK KP hHeld
    have hHeld := hH2
    clear hH2
    try simp only [Act.put]
    try simp only [List.setIfInBounds_toArray]
    try simp only [List.set_cons_succ, List.set_cons_zero]
    refine anyK_step (i := 9) (by kernel_rfl) rfl (fun KP hK => ?_)
    go_simp
    refine hK.out _ _ ?_ (fun hH2 => ?_)
    · exact ⟨BX.out, BY.out⟩
    clear hK KP hHeld
    have hHeld := hH2
    clear hH2
    try simp only [Act.put]
    try simp only [List.setIfInBounds_toArray]
    try simp only [List.set_cons_succ, List.set_cons_zero]
    refine anyK_done (by kernel_rfl) ?_ _
    clear hHeld
    go_wp2_with fail
    go_roundw
    case rel => exact ⟨k + 1, by omega, by go_num, HS2⟩
    case measure => simp [intOf]; omega
  · have hlt' : ¬ (k : Int) < (n : Int) := by omega
    go_wp2
    go_ret
    exact ⟨rfl, hS.out⟩
end Go.Proofs.YtebhipicfgnajaaGreat
