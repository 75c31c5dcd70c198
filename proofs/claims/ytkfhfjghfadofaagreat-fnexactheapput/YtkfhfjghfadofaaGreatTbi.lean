/- The contract of the program's TupleBytes. Conditions: texts of at most 2^21 bytes. -/
import Derived.Test.YtkfhfjghfadofaaGreatMgc
import Derived.Test.YtkfhfjghfadofaaGreatMgb
import Derived.Test.YtkfhfjghfadofaaGreatKb
import Derived.Test.YtkfhfjghfadofaaGreatMga
import Derived.Deep.DeepCutAuto
namespace Go.Proofs.YtkfhfjghfadofaaGreat
open Go.RowKit
set_option maxRecDepth 100000
theorem putL_one (k : Nat) (h : k ≤ 255) : putL (k : Int) 1 = [(k : Int)] := by
 have e : sh k 1 = 0 := by unfold sh; exact Nat.div_eq_of_lt (by omega)
 show putL ((k : Nat) : Int) ((1 : Nat) : Int) = _
 rw [putL_yes k 1 (by omega) (by omega) e]
 simp [dig, List.range_succ, sh]
 omega
theorem Row.of {w : World} {a : Option Addr} {n c : Nat} {zs : List Int} (h : Reads w a n zs) (hc : a = none → c = 0) (hm : n ≤ maxLen) : Row w (.slice a n c) zs := ⟨a, c, by rw [h.len], by rw [h.len]; exact h, hc, by rw [h.len]; exact hm⟩
theorem rows6 {w : World} {g : Nat} {p1 p2 p3 p4 gk gv n1 n2 n3 n4 kl vl ck cv : Nat} {B1 B2 B3 B4 KB VB : List Int} {t : TypeId} (hg : w.heap[g]? = some (.cells #[.slice (some ⟨p1, 0, none⟩) 4 n1, .slice (some ⟨p2, 0, none⟩) 4 n2, .slice (some ⟨p3, 0, none⟩) 1 n3, .slice (some ⟨gk, 0, none⟩) kl ck, .slice (some ⟨p4, 0, none⟩) 1 n4, .slice (some ⟨gv, 0, none⟩) vl cv] t (0, 0)))
 (h1 : Reads w (some ⟨p1, 0, none⟩) 4 B1) (h2 : Reads w (some ⟨p2, 0, none⟩) 4 B2) (h3 : Reads w (some ⟨p3, 0, none⟩) 1 B3) (hk : Reads w (some ⟨gk, 0, none⟩) kl KB) (h4 : Reads w (some ⟨p4, 0, none⟩) 1 B4) (hv : Reads w (some ⟨gv, 0, none⟩) vl VB) (lk : kl ≤ 41) (lv : vl ≤ 41) :
 ReadsS w (some ⟨g, 0, none⟩) [B1, B2, B3, KB, B4, VB] := by
 have hm : 41 ≤ maxLen := by unfold maxLen; omega
 refine ⟨.inr ⟨g, 0, rfl, fun i hi => ?_⟩⟩
 rw [Nat.zero_add]
 match i, hi with
 | 0, _ => exact ⟨.slice (some ⟨p1, 0, none⟩) 4 n1, by rw [cell_of_row _ _ _ _ _ _ hg]; rfl, show Row w _ B1 from Row.of h1 (fun h => by cases h) (by omega)⟩
 | 1, _ => exact ⟨.slice (some ⟨p2, 0, none⟩) 4 n2, by rw [cell_of_row _ _ _ _ _ _ hg]; rfl, show Row w _ B2 from Row.of h2 (fun h => by cases h) (by omega)⟩
 | 2, _ => exact ⟨.slice (some ⟨p3, 0, none⟩) 1 n3, by rw [cell_of_row _ _ _ _ _ _ hg]; rfl, show Row w _ B3 from Row.of h3 (fun h => by cases h) (by omega)⟩
 | 3, _ => exact ⟨.slice (some ⟨gk, 0, none⟩) kl ck, by rw [cell_of_row _ _ _ _ _ _ hg]; rfl, show Row w _ KB from Row.of hk (fun h => by cases h) (by omega)⟩
 | 4, _ => exact ⟨.slice (some ⟨p4, 0, none⟩) 1 n4, by rw [cell_of_row _ _ _ _ _ _ hg]; rfl, show Row w _ B4 from Row.of h4 (fun h => by cases h) (by omega)⟩
 | 5, _ => exact ⟨.slice (some ⟨gv, 0, none⟩) vl cv, by rw [cell_of_row _ _ _ _ _ _ hg]; rfl, show Row w _ VB from Row.of hv (fun h => by cases h) (by omega)⟩
set_option maxHeartbeats 25600000 in
theorem impl_TupleBytes (A B K N : Int) (f : Nat) {ad : Option Addr} {n : Nat} (cap : Nat) (L M : Int) (h : Nat) {ad' : Option Addr} {m : Nat} (cap' : Nat) {zs ys : List Int} {w : World} (rk : Reads w ad n zs) (rv : Reads w ad' m ys) (hnil : ad = none → cap = 0) (hnil' : ad' = none → cap' = 0) (hn : n ≤ 2097152) (hm : m ≤ 2097152) (hN : -9223372036854775808 ≤ N ∧ N ≤ 9223372036854775807) (hM : -9223372036854775808 ≤ M ∧ M ≤ 9223372036854775807) (hf : f < 18446744073709551616) (hh : h < 18446744073709551616) :
 Calls Tryz.prog 107 #[.agg #[.int .i64 A, .int .i64 B, .int .i64 K, .int .i64 N, .float .f64 f, .slice ad n cap, .int .i64 L, .int .i64 M, .float .f64 h, .slice ad' m cap']] w fun e w' => ∃ v, e = .returned v ∧ w'.ownsRow w.heap.size 5 1 v (bytesT A B K N f n zs L M h m ys).length (bys (bytesT A B K N f n zs L M h m ys)) ∧ Below w.heap.size w w' := by
 have HB := hid (Below.alloc1 w (.cells #[.int .i64 A, .int .i64 B, .int .i64 K, .int .i64 N, .float .f64 f, .slice ad n cap, .int .i64 L, .int .i64 M, .float .f64 h, .slice ad' m cap'] 31))
 have HX := hid (BoxT.new w A B K N f ad n cap L M h ad' m cap' 31)
 have RK := hid (rk.below HB.out (Nat.le_refl _))
 have RV := hid (rv.below HB.out (Nat.le_refl _))
 have HZ := hid (show w.heap.size + 1 ≤ (w.alloc (.cells #[.int .i64 A, .int .i64 B, .int .i64 K, .int .i64 N, .float .f64 f, .slice ad n cap, .int .i64 L, .int .i64 M, .float .f64 h, .slice ad' m cap'] 31)).heap.size from Nat.le_of_eq (alloc_size w _).symm)
 have i0 := impl_TupleOk A B K N f ad n cap L M h ad' m cap' hf hh hn hm
 obtain ⟨ok, hok⟩ : ∃ b, okT A B K N f n L M h m = b := ⟨_, rfl⟩
 rw [hok] at i0
 cases ok
 · have HE := hid (show bytesT A B K N f n zs L M h m ys = [] by unfold bytesT; rw [if_neg (by rw [hok]; simp)])
   clear hok rk rv
   go_enter Tryz.func107, Tryz.ntmps107
   go_wp2_with fail
   refine (i0 _).mono ?_
   rintro e w1 ⟨rfl, b⟩
   replace HB := hid (HB.out.trans (b.mono HB.out.size))
   clear b i0
   go_wp2_with fail
   go_ret
   exact ⟨_, rfl, by rw [HE.out]; exact World.ownsRow_nil _ _ _ _, HB.out⟩
 have HE := hid (show bytesT A B K N f n zs L M h m ys = layT A B (keyB K N f n zs) (valB L M h m ys) by unfold bytesT; rw [if_pos hok])
 obtain ⟨⟨a1, a2, a3, a4⟩, k1, v1, v2⟩ := okT_iff.1 hok
 have lk := keyB_pos (zs := zs) k1 rk.len
 have lv := valB_pos (zs := ys) v1 v2 rv.len
 have bk := (keyB_bd (K := K) (N := N) (f := f) (n := n) (zs := zs) rfl rk.bd (by have := (okI_lim (okK_I k1).1).2; have := rk.len; omega)).1
 have bv := (valB_bd (K := L) (N := M) (f := h) (n := m) (zs := ys) rfl rv.bd (by have := (okI_lim v1).2; have := rv.len; omega)).1
 have e1 := putL_four A (by omega) (by omega)
 have e2 := putL_four B (by omega) (by omega)
 have d1 := putL_bd A 4
 have d2 := putL_bd B 4
 have f1 := fun W => impl_PutNum A 4 W (by omega)
 have f2 := fun W => impl_PutNum B 4 W (by omega)
 unfold layT at HE
 have IK : Hid (∀ W : World, Reads W ad n zs → Calls Tryz.prog 147 #[.agg #[.int .i64 K, .int .i64 N, .float .f64 f, .slice ad n cap]] W fun e w' => ∃ v, e = .returned v ∧ w'.ownsRow W.heap.size 5 1 v (keyB K N f n zs).length (bys (keyB K N f n zs)) ∧ Below W.heap.size W w') := hid fun W r => impl_KeyBytes K N f cap hnil r hn hN.1 hN.2 hf
 have IV : Hid (∀ W : World, Reads W ad' m ys → Calls Tryz.prog 148 #[.agg #[.int .i64 L, .int .i64 M, .float .f64 h, .slice ad' m cap']] W fun e w' => ∃ v, e = .returned v ∧ w'.ownsRow W.heap.size 5 1 v (valB L M h m ys).length (bys (valB L M h m ys)) ∧ Below W.heap.size W w') := hid fun W r => impl_ValueBytes L M h cap' hnil' r hm hM.1 hM.2 hh
 generalize bytesT A B K N f n zs L M h m ys = RES at *
 generalize keyB K N f n zs = KB at *
 generalize valB L M h m ys = VB at *
 generalize putL A 4 = B1 at *
 generalize putL B 4 = B2 at *
 rw [e1] at f1
 rw [e2] at f2
 generalize hkl : KB.length = kl at *
 generalize hvl : VB.length = vl at *
 have wk : IntKind.u8.wrap (kl : Int) = (kl : Int) := by simp [IntKind.wrap, IntKind.bits, IntKind.signed]; omega
 have wv : IntKind.u8.wrap (vl : Int) = (vl : Int) := by simp [IntKind.wrap, IntKind.bits, IntKind.signed]; omega
 have FF := hid (And.intro f1 f2)
 have DD := hid (And.intro d1 (And.intro d2 (And.intro bk bv)))
 clear hok k1 v1 v2 f1 f2 d1 d2 bk bv rk rv
 have fk := fun W => impl_PutNum (kl : Int) 1 W (by omega)
 have fv := fun W => impl_PutNum (vl : Int) 1 W (by omega)
 rw [putL_one kl (by omega), show [(kl : Int)].length = 1 from rfl] at fk
 rw [putL_one vl (by omega), show [(vl : Int)].length = 1 from rfl] at fv
 have FK := hid fk
 have FV := hid fv
 have DK : Hid (∀ i, 0 ≤ [(kl : Int)].getD i 0 ∧ [(kl : Int)].getD i 0 ≤ 255) := hid fun i => by
  match i with
  | 0 => show 0 ≤ (kl : Int) ∧ (kl : Int) ≤ 255; omega
  | i + 1 => simp
 have DV : Hid (∀ i, 0 ≤ [(vl : Int)].getD i 0 ∧ [(vl : Int)].getD i 0 ≤ 255) := hid fun i => by
  match i with
  | 0 => show 0 ≤ (vl : Int) ∧ (vl : Int) ≤ 255; omega
  | i + 1 => simp
 clear fk fv
 go_enter Tryz.func107, Tryz.ntmps107
 go_wp2_with fail
 generalize w.alloc (.cells #[.int .i64 A, .int .i64 B, .int .i64 K, .int .i64 N, .float .f64 f, .slice ad n cap, .int .i64 L, .int .i64 M, .float .f64 h, .slice ad' m cap'] 31) = W0 at *
 refine (i0 _).mono ?_
 rintro e w1 ⟨rfl, b⟩
 replace HX := hid (HX.out.below b (Nat.le_refl _))
 replace RK := hid (RK.out.below b (Nat.le_refl _))
 replace RV := hid (RV.out.below b (Nat.le_refl _))
 replace HB := hid (HB.out.trans (b.mono HB.out.size))
 clear b i0 HZ
 go_upto_region 3 with fail
 go_cut [3] (fun s3 wx => ∃ g3 gk ck gv cv : Nat, s3 = .pointer (some ⟨g3, 0, none⟩) ∧ Hid (wx.heap[g3]? = some (.cells #[.int .i64 A, .int .i64 B, .slice (some ⟨gk, 0, none⟩) kl ck, .slice (some ⟨gv, 0, none⟩) vl cv] 162 (0, 0))) ∧ Hid (Reads wx (some ⟨gk, 0, none⟩) kl KB) ∧ Hid (Reads wx (some ⟨gv, 0, none⟩) vl VB) ∧ Hid (Below w.heap.size w wx))
 case first =>
  replace HX := hid (HX.out.below ((Still.drew w1).below _) (Nat.le_refl _))
  replace RK := hid (RK.out.below ((Still.drew w1).below _) (Nat.le_refl _))
  replace RV := hid (RV.out.below ((Still.drew w1).below _) (Nat.le_refl _))
  replace HB := hid (HB.out.trans ((Still.drew w1).below _))
  refine region_K 99 (fun W => W.cell? ⟨w.heap.size, 0, none⟩ = some (.int .i64 A) ∧ W.cell? ⟨w.heap.size, 1, none⟩ = some (.int .i64 B) ∧ W.cell? ⟨w.heap.size, 2, none⟩ = some (.int .i64 K) ∧ W.cell? ⟨w.heap.size, 3, none⟩ = some (.int .i64 N) ∧ W.cell? ⟨w.heap.size, 4, none⟩ = some (.float .f64 f) ∧ W.cell? ⟨w.heap.size, 5, none⟩ = some (.slice ad n cap) ∧ W.cell? ⟨w.heap.size, 6, none⟩ = some (.int .i64 L) ∧ W.cell? ⟨w.heap.size, 7, none⟩ = some (.int .i64 M) ∧ W.cell? ⟨w.heap.size, 8, none⟩ = some (.float .f64 h) ∧ W.cell? ⟨w.heap.size, 9, none⟩ = some (.slice ad' m cap')) (by kernel_rfl) ?_ (fun hHeld => ?_)
  · exact (have q := HX.out; ⟨q.c0, q.c1, q.c2, q.c3, q.c4, q.c5, q.c6, q.c7, q.c8, q.c9⟩)
  generalize w1.drew = u0 at *
  refine anyK_take2 (i := 0) (v := ?v1) rfl (by kernel_rfl) (by kernel_rfl) (by kernel_rfl) (by rfl) (fun _ _ _ h => h) (by rfl) hHeld ?hy1 (some 7) (by rfl) ?rest1
  case hy1 => (intro W hSw; (try dsimp only at hSw); go_simp; (try with_reducible rfl))
  try simp only [Act.put]
  try simp only [List.setIfInBounds_toArray]
  try simp only [List.set_cons_succ, List.set_cons_zero]
  refine anyK_take2 (i := 2) (v := ?v2) rfl (by kernel_rfl) (by kernel_rfl) (by kernel_rfl) (by rfl) (fun _ _ _ h => h) (by rfl) hHeld ?hy2 (some 9) (by rfl) ?rest2
  case hy2 => (intro W hSw; (try dsimp only at hSw); go_simp; (try with_reducible rfl))
  try simp only [Act.put]
  try simp only [List.setIfInBounds_toArray]
  try simp only [List.set_cons_succ, List.set_cons_zero]
  refine anyK_take2 (i := 3) (v := ?v3) rfl (by kernel_rfl) (by kernel_rfl) (by kernel_rfl) (by rfl) (fun _ _ _ h => h) (by rfl) hHeld ?hy3 (some 10) (by rfl) ?rest3
  case hy3 => (intro W hSw; (try dsimp only at hSw); go_simp; (try with_reducible rfl))
  try simp only [Act.put]
  try simp only [List.setIfInBounds_toArray]
  try simp only [List.set_cons_succ, List.set_cons_zero]
  refine anyK_take2 (i := 5) (v := ?v4) rfl (by kernel_rfl) (by kernel_rfl) (by kernel_rfl) (by rfl) (fun _ _ _ h => h) (by rfl) hHeld ?hy4 (some 12) (by rfl) ?rest4
  case hy4 => (intro W hSw; (try dsimp only at hSw); go_simp; (try with_reducible rfl))
  try simp only [Act.put]
  try simp only [List.setIfInBounds_toArray]
  try simp only [List.set_cons_succ, List.set_cons_zero]
  refine anyK_take2 (i := 6) (v := ?v5) rfl (by kernel_rfl) (by kernel_rfl) (by kernel_rfl) (by rfl) (fun _ _ _ h => h) (by rfl) hHeld ?hy5 (some 13) (by rfl) ?rest5
  case hy5 => (intro W hSw; (try dsimp only at hSw); go_simp; (try with_reducible rfl))
  try simp only [Act.put]
  try simp only [List.setIfInBounds_toArray]
  try simp only [List.set_cons_succ, List.set_cons_zero]
  refine anyK_two (i := 1) (j := 9) (by kernel_rfl) rfl rfl (fun KP hK => ?_) (fun KP hK => ?_)
  · go_simp
    refine (impl_headOf A B K N f ad n cap L M h ad' m cap' _).mono ?_
    rintro e u1 ⟨rfl, b⟩
    replace HX := hid (HX.out.below b (Nat.le_refl _))
    replace HB := hid (HB.out.trans (b.mono HB.out.size))
    replace RK := hid (RK.out.below b (Nat.le_refl _))
    replace RV := hid (RV.out.below b (Nat.le_refl _))
    clear b
    go_wp2_with fail
    refine hK.out _ _ ?_ (fun hH2 => ?_)
    · exact (have q := HX.out; ⟨q.c0, q.c1, q.c2, q.c3, q.c4, q.c5, q.c6, q.c7, q.c8, q.c9⟩)
    clear hK KP hHeld
    have hHeld := hH2
    clear hH2
    try simp only [Act.put]
    try simp only [List.setIfInBounds_toArray]
    try simp only [List.set_cons_succ, List.set_cons_zero]
    refine anyK_two (i := 4) (j := 9) (by kernel_rfl) rfl rfl (fun KP hK => ?_) (fun KP hK => ?_)
    · go_simp
      refine (IK.out _ RK.out).mono ?_
      rintro e u2 ⟨v, rfl, o, b⟩
      obtain ⟨gk, ck, rfl, r, gk1, gk2⟩ := own_some o DD.out.2.2.1 lk.1
      replace HX := hid (HX.out.below b (Nat.le_refl _))
      replace HB := hid (HB.out.trans (b.mono HB.out.size))
      replace RV := hid (RV.out.below b (Nat.le_refl _))
      have QK := hid r
      have GK := hid gk2
      clear b o r gk1 gk2 RK
      go_wp2_with fail
      refine hK.out _ _ ?_ (fun hH2 => ?_)
      · exact (have q := HX.out; ⟨q.c0, q.c1, q.c2, q.c3, q.c4, q.c5, q.c6, q.c7, q.c8, q.c9⟩)
      clear hK KP hHeld
      have hHeld := hH2
      clear hH2
      try simp only [Act.put]
      try simp only [List.setIfInBounds_toArray]
      try simp only [List.set_cons_succ, List.set_cons_zero]
      refine anyK_two (i := 7) (j := 9) (by kernel_rfl) rfl rfl (fun KP hK => ?_) (fun KP hK => ?_)
      · go_simp
        refine (IV.out _ RV.out).mono ?_
        rintro e u3 ⟨v, rfl, o, b⟩
        obtain ⟨gv, cv, rfl, r, gv1, gv2⟩ := own_some o DD.out.2.2.2 lv.1
        replace HX := hid (HX.out.below b (Nat.le_refl _))
        replace HB := hid (HB.out.trans (b.mono HB.out.size))
        replace QK := hid (QK.out.below b (Nat.le_refl _))
        replace GK := hid (Nat.lt_of_lt_of_le GK.out b.size)
        have QV := hid r
        have GV := hid gv2
        clear b o r gv1 gv2 RV
        go_wp2_with fail
        refine hK.out _ _ ?_ (fun hH2 => ?_)
        · exact (have q := HX.out; ⟨q.c0, q.c1, q.c2, q.c3, q.c4, q.c5, q.c6, q.c7, q.c8, q.c9⟩)
        clear hK KP hHeld
        have hHeld := hH2
        clear hH2
        try simp only [Act.put]
        try simp only [List.setIfInBounds_toArray]
        try simp only [List.set_cons_succ, List.set_cons_zero]
        refine anyK_take2 (i := 8) (v := ?v6) rfl (by kernel_rfl) (by kernel_rfl) (by kernel_rfl) (by rfl) (fun _ _ _ h => h) (by rfl) hHeld ?hy6 (some 15) (by rfl) ?rest6
        case hy6 => (intro W hSw; (try dsimp only at hSw); go_simp; (try with_reducible rfl))
        try simp only [Act.put]
        try simp only [List.setIfInBounds_toArray]
        try simp only [List.set_cons_succ, List.set_cons_zero]
        refine anyK_step (i := 9) (by kernel_rfl) rfl (fun KP hK => ?_)
        go_simp
        have LO1 := hid (show w.heap.size < u3.heap.size from HX.out.lt)
        have b := Below.alloc1 u3 (.cells #[.int .i64 0, .int .i64 0, .slice none 0 0, .slice none 0 0] 162)
        have HT := hid (heap_alloc_new u3 (.cells #[.int .i64 0, .int .i64 0, .slice none 0 0, .slice none 0 0] 162))
        have HTl := hid (show u3.heap.size < (u3.alloc (.cells #[.int .i64 0, .int .i64 0, .slice none 0 0, .slice none 0 0] 162)).heap.size by rw [alloc_size]; omega)
        have NK : Hid (gk ≠ u3.heap.size) := hid (by have := GK.out; omega)
        have NV : Hid (gv ≠ u3.heap.size) := hid (by have := GV.out; omega)
        replace HX := hid (HX.out.below b (Nat.le_refl _))
        replace HB := hid (HB.out.trans (b.mono HB.out.size))
        replace QK := hid (QK.out.below b (Nat.le_refl _))
        replace GK := hid (Nat.lt_of_lt_of_le GK.out b.size)
        replace QV := hid (QV.out.below b (Nat.le_refl _))
        replace GV := hid (Nat.lt_of_lt_of_le GV.out b.size)
        clear b
        generalize u3.alloc (.cells #[.int .i64 0, .int .i64 0, .slice none 0 0, .slice none 0 0] 162) = u3a at *
        generalize u3.heap.size = g3 at *
        refine hK.out _ _ ?_ (fun hH2 => ?_)
        · exact (have q := HX.out; ⟨q.c0, q.c1, q.c2, q.c3, q.c4, q.c5, q.c6, q.c7, q.c8, q.c9⟩)
        clear hK KP hHeld
        have hHeld := hH2
        clear hH2
        try simp only [Act.put]
        try simp only [List.setIfInBounds_toArray]
        try simp only [List.set_cons_succ, List.set_cons_zero]
        refine anyK_step (i := 10) (by kernel_rfl) rfl (fun KP hK => ?_)
        rw [if_pos (by rfl)]
        refine wp_store_row 162 (.tmp 3) (.tmp 15) rfl g3 #[.int .i64 A, .int .i64 B, .slice (some ⟨gk, 0, none⟩) kl ck, .slice (some ⟨gv, 0, none⟩) vl cv] rfl rfl 162 _ HT.out size_laid rfl (by simp [Value.oneCell']) ?_
        have G := grown_setRow _ g3 #[.int .i64 A, .int .i64 B, .slice (some ⟨gk, 0, none⟩) kl ck, .slice (some ⟨gv, 0, none⟩) vl cv] HT.out
        have QK' := hid (QK.out.other G (fun a e => by cases e; exact fun e => NK.out (Option.some.inj e)))
        have QV' := hid (QV.out.other G (fun a e => by cases e; exact fun e => NV.out (Option.some.inj e)))
        have HT' := hid (setRow_heap _ g3 _ #[.int .i64 A, .int .i64 B, .slice (some ⟨gk, 0, none⟩) kl ck, .slice (some ⟨gv, 0, none⟩) vl cv] _ _ HT.out)
        have HB' := hid (HB.out.grown G HB.out.size (fun k hk => by cases hk; exact Nat.le_of_lt LO1.out))
        replace HX := hid (HX.out.other G (by have := LO1.out; simp; omega))
        refine hK.out _ _ ?_ (fun hH2 => ?_)
        · exact (have q := HX.out; ⟨q.c0, q.c1, q.c2, q.c3, q.c4, q.c5, q.c6, q.c7, q.c8, q.c9⟩)
        clear hK KP hHeld
        have hHeld := hH2
        clear hH2
        try simp only [Act.put]
        try simp only [List.setIfInBounds_toArray]
        try simp only [List.set_cons_succ, List.set_cons_zero]
        refine anyK_done (by kernel_rfl) ?_ _
        go_wp2_with fail
        go_meet
        exact ⟨_, _, _, _, _, rfl, HT', QK', QV', HB'⟩
      · go_simp
        have LO1 := hid (show w.heap.size < u2.heap.size from HX.out.lt)
        have b := Below.alloc1 u2 (.cells #[.int .i64 0, .int .i64 0, .slice none 0 0, .slice none 0 0] 162)
        have HT := hid (heap_alloc_new u2 (.cells #[.int .i64 0, .int .i64 0, .slice none 0 0, .slice none 0 0] 162))
        have HTl := hid (show u2.heap.size < (u2.alloc (.cells #[.int .i64 0, .int .i64 0, .slice none 0 0, .slice none 0 0] 162)).heap.size by rw [alloc_size]; omega)
        have NK : Hid (gk ≠ u2.heap.size) := hid (by have := GK.out; omega)
        replace HX := hid (HX.out.below b (Nat.le_refl _))
        replace HB := hid (HB.out.trans (b.mono HB.out.size))
        replace QK := hid (QK.out.below b (Nat.le_refl _))
        replace GK := hid (Nat.lt_of_lt_of_le GK.out b.size)
        replace RV := hid (RV.out.below b (Nat.le_refl _))
        clear b
        generalize u2.alloc (.cells #[.int .i64 0, .int .i64 0, .slice none 0 0, .slice none 0 0] 162) = u2a at *
        generalize u2.heap.size = g3 at *
        refine hK.out _ _ ?_ (fun hH2 => ?_)
        · exact (have q := HX.out; ⟨q.c0, q.c1, q.c2, q.c3, q.c4, q.c5, q.c6, q.c7, q.c8, q.c9⟩)
        clear hK KP hHeld
        have hHeld := hH2
        clear hH2
        try simp only [Act.put]
        try simp only [List.setIfInBounds_toArray]
        try simp only [List.set_cons_succ, List.set_cons_zero]
        refine anyK_step (i := 7) (by kernel_rfl) rfl (fun KP hK => ?_)
        go_simp
        refine (IV.out _ RV.out).mono ?_
        rintro e u3 ⟨v, rfl, o, b⟩
        obtain ⟨gv, cv, rfl, r, gv1, gv2⟩ := own_some o DD.out.2.2.2 lv.1
        have NV : Hid (gv ≠ g3) := hid (by have := HTl.out; omega)
        replace HX := hid (HX.out.below b (Nat.le_refl _))
        replace HB := hid (HB.out.trans (b.mono HB.out.size))
        replace HT := hid ((b.block g3 (by have := HTl.out; omega)).trans HT.out)
        replace HTl := hid (Nat.lt_of_lt_of_le HTl.out b.size)
        replace QK := hid (QK.out.below b (Nat.le_refl _))
        replace GK := hid (Nat.lt_of_lt_of_le GK.out b.size)
        have QV := hid r
        have GV := hid gv2
        clear b o r gv1 gv2 RV
        go_wp2_with fail
        refine hK.out _ _ ?_ (fun hH2 => ?_)
        · exact (have q := HX.out; ⟨q.c0, q.c1, q.c2, q.c3, q.c4, q.c5, q.c6, q.c7, q.c8, q.c9⟩)
        clear hK KP hHeld
        have hHeld := hH2
        clear hH2
        try simp only [Act.put]
        try simp only [List.setIfInBounds_toArray]
        try simp only [List.set_cons_succ, List.set_cons_zero]
        refine anyK_take2 (i := 8) (v := ?v7) rfl (by kernel_rfl) (by kernel_rfl) (by kernel_rfl) (by rfl) (fun _ _ _ h => h) (by rfl) hHeld ?hy7 (some 15) (by rfl) ?rest7
        case hy7 => (intro W hSw; (try dsimp only at hSw); go_simp; (try with_reducible rfl))
        try simp only [Act.put]
        try simp only [List.setIfInBounds_toArray]
        try simp only [List.set_cons_succ, List.set_cons_zero]
        refine anyK_step (i := 10) (by kernel_rfl) rfl (fun KP hK => ?_)
        rw [if_pos (by rfl)]
        refine wp_store_row 162 (.tmp 3) (.tmp 15) rfl g3 #[.int .i64 A, .int .i64 B, .slice (some ⟨gk, 0, none⟩) kl ck, .slice (some ⟨gv, 0, none⟩) vl cv] rfl rfl 162 _ HT.out size_laid rfl (by simp [Value.oneCell']) ?_
        have G := grown_setRow _ g3 #[.int .i64 A, .int .i64 B, .slice (some ⟨gk, 0, none⟩) kl ck, .slice (some ⟨gv, 0, none⟩) vl cv] HT.out
        have QK' := hid (QK.out.other G (fun a e => by cases e; exact fun e => NK.out (Option.some.inj e)))
        have QV' := hid (QV.out.other G (fun a e => by cases e; exact fun e => NV.out (Option.some.inj e)))
        have HT' := hid (setRow_heap _ g3 _ #[.int .i64 A, .int .i64 B, .slice (some ⟨gk, 0, none⟩) kl ck, .slice (some ⟨gv, 0, none⟩) vl cv] _ _ HT.out)
        have HB' := hid (HB.out.grown G HB.out.size (fun k hk => by cases hk; exact Nat.le_of_lt LO1.out))
        replace HX := hid (HX.out.other G (by have := LO1.out; simp; omega))
        refine hK.out _ _ ?_ (fun hH2 => ?_)
        · exact (have q := HX.out; ⟨q.c0, q.c1, q.c2, q.c3, q.c4, q.c5, q.c6, q.c7, q.c8, q.c9⟩)
        clear hK KP hHeld
        have hHeld := hH2
        clear hH2
        try simp only [Act.put]
        try simp only [List.setIfInBounds_toArray]
        try simp only [List.set_cons_succ, List.set_cons_zero]
        refine anyK_done (by kernel_rfl) ?_ _
        go_wp2_with fail
        go_meet
        exact ⟨_, _, _, _, _, rfl, HT', QK', QV', HB'⟩
    · go_simp
      have LO1 := hid (show w.heap.size < u1.heap.size from HX.out.lt)
      have b := Below.alloc1 u1 (.cells #[.int .i64 0, .int .i64 0, .slice none 0 0, .slice none 0 0] 162)
      have HT := hid (heap_alloc_new u1 (.cells #[.int .i64 0, .int .i64 0, .slice none 0 0, .slice none 0 0] 162))
      have HTl := hid (show u1.heap.size < (u1.alloc (.cells #[.int .i64 0, .int .i64 0, .slice none 0 0, .slice none 0 0] 162)).heap.size by rw [alloc_size]; omega)
      replace HX := hid (HX.out.below b (Nat.le_refl _))
      replace HB := hid (HB.out.trans (b.mono HB.out.size))
      replace RK := hid (RK.out.below b (Nat.le_refl _))
      replace RV := hid (RV.out.below b (Nat.le_refl _))
      clear b
      generalize u1.alloc (.cells #[.int .i64 0, .int .i64 0, .slice none 0 0, .slice none 0 0] 162) = u1a at *
      generalize u1.heap.size = g3 at *
      refine hK.out _ _ ?_ (fun hH2 => ?_)
      · exact (have q := HX.out; ⟨q.c0, q.c1, q.c2, q.c3, q.c4, q.c5, q.c6, q.c7, q.c8, q.c9⟩)
      clear hK KP hHeld
      have hHeld := hH2
      clear hH2
      try simp only [Act.put]
      try simp only [List.setIfInBounds_toArray]
      try simp only [List.set_cons_succ, List.set_cons_zero]
      refine anyK_step (i := 4) (by kernel_rfl) rfl (fun KP hK => ?_)
      go_simp
      refine (IK.out _ RK.out).mono ?_
      rintro e u2 ⟨v, rfl, o, b⟩
      obtain ⟨gk, ck, rfl, r, gk1, gk2⟩ := own_some o DD.out.2.2.1 lk.1
      have NK : Hid (gk ≠ g3) := hid (by have := HTl.out; omega)
      replace HX := hid (HX.out.below b (Nat.le_refl _))
      replace HB := hid (HB.out.trans (b.mono HB.out.size))
      replace HT := hid ((b.block g3 (by have := HTl.out; omega)).trans HT.out)
      replace HTl := hid (Nat.lt_of_lt_of_le HTl.out b.size)
      replace RV := hid (RV.out.below b (Nat.le_refl _))
      have QK := hid r
      have GK := hid gk2
      clear b o r gk1 gk2 RK
      go_wp2_with fail
      refine hK.out _ _ ?_ (fun hH2 => ?_)
      · exact (have q := HX.out; ⟨q.c0, q.c1, q.c2, q.c3, q.c4, q.c5, q.c6, q.c7, q.c8, q.c9⟩)
      clear hK KP hHeld
      have hHeld := hH2
      clear hH2
      try simp only [Act.put]
      try simp only [List.setIfInBounds_toArray]
      try simp only [List.set_cons_succ, List.set_cons_zero]
      refine anyK_step (i := 7) (by kernel_rfl) rfl (fun KP hK => ?_)
      go_simp
      refine (IV.out _ RV.out).mono ?_
      rintro e u3 ⟨v, rfl, o, b⟩
      obtain ⟨gv, cv, rfl, r, gv1, gv2⟩ := own_some o DD.out.2.2.2 lv.1
      have NV : Hid (gv ≠ g3) := hid (by have := HTl.out; omega)
      replace HX := hid (HX.out.below b (Nat.le_refl _))
      replace HB := hid (HB.out.trans (b.mono HB.out.size))
      replace HT := hid ((b.block g3 (by have := HTl.out; omega)).trans HT.out)
      replace HTl := hid (Nat.lt_of_lt_of_le HTl.out b.size)
      replace QK := hid (QK.out.below b (Nat.le_refl _))
      replace GK := hid (Nat.lt_of_lt_of_le GK.out b.size)
      have QV := hid r
      have GV := hid gv2
      clear b o r gv1 gv2 RV
      go_wp2_with fail
      refine hK.out _ _ ?_ (fun hH2 => ?_)
      · exact (have q := HX.out; ⟨q.c0, q.c1, q.c2, q.c3, q.c4, q.c5, q.c6, q.c7, q.c8, q.c9⟩)
      clear hK KP hHeld
      have hHeld := hH2
      clear hH2
      try simp only [Act.put]
      try simp only [List.setIfInBounds_toArray]
      try simp only [List.set_cons_succ, List.set_cons_zero]
      refine anyK_take2 (i := 8) (v := ?v8) rfl (by kernel_rfl) (by kernel_rfl) (by kernel_rfl) (by rfl) (fun _ _ _ h => h) (by rfl) hHeld ?hy8 (some 15) (by rfl) ?rest8
      case hy8 => (intro W hSw; (try dsimp only at hSw); go_simp; (try with_reducible rfl))
      try simp only [Act.put]
      try simp only [List.setIfInBounds_toArray]
      try simp only [List.set_cons_succ, List.set_cons_zero]
      refine anyK_step (i := 10) (by kernel_rfl) rfl (fun KP hK => ?_)
      rw [if_pos (by rfl)]
      refine wp_store_row 162 (.tmp 3) (.tmp 15) rfl g3 #[.int .i64 A, .int .i64 B, .slice (some ⟨gk, 0, none⟩) kl ck, .slice (some ⟨gv, 0, none⟩) vl cv] rfl rfl 162 _ HT.out size_laid rfl (by simp [Value.oneCell']) ?_
      have G := grown_setRow _ g3 #[.int .i64 A, .int .i64 B, .slice (some ⟨gk, 0, none⟩) kl ck, .slice (some ⟨gv, 0, none⟩) vl cv] HT.out
      have QK' := hid (QK.out.other G (fun a e => by cases e; exact fun e => NK.out (Option.some.inj e)))
      have QV' := hid (QV.out.other G (fun a e => by cases e; exact fun e => NV.out (Option.some.inj e)))
      have HT' := hid (setRow_heap _ g3 _ #[.int .i64 A, .int .i64 B, .slice (some ⟨gk, 0, none⟩) kl ck, .slice (some ⟨gv, 0, none⟩) vl cv] _ _ HT.out)
      have HB' := hid (HB.out.grown G HB.out.size (fun k hk => by cases hk; exact Nat.le_of_lt LO1.out))
      replace HX := hid (HX.out.other G (by have := LO1.out; simp; omega))
      refine hK.out _ _ ?_ (fun hH2 => ?_)
      · exact (have q := HX.out; ⟨q.c0, q.c1, q.c2, q.c3, q.c4, q.c5, q.c6, q.c7, q.c8, q.c9⟩)
      clear hK KP hHeld
      have hHeld := hH2
      clear hH2
      try simp only [Act.put]
      try simp only [List.setIfInBounds_toArray]
      try simp only [List.set_cons_succ, List.set_cons_zero]
      refine anyK_done (by kernel_rfl) ?_ _
      go_wp2_with fail
      go_meet
      exact ⟨_, _, _, _, _, rfl, HT', QK', QV', HB'⟩
  · go_simp
    have LO1 := hid (show w.heap.size < u0.heap.size from HX.out.lt)
    have b := Below.alloc1 u0 (.cells #[.int .i64 0, .int .i64 0, .slice none 0 0, .slice none 0 0] 162)
    have HT := hid (heap_alloc_new u0 (.cells #[.int .i64 0, .int .i64 0, .slice none 0 0, .slice none 0 0] 162))
    have HTl := hid (show u0.heap.size < (u0.alloc (.cells #[.int .i64 0, .int .i64 0, .slice none 0 0, .slice none 0 0] 162)).heap.size by rw [alloc_size]; omega)
    replace HX := hid (HX.out.below b (Nat.le_refl _))
    replace HB := hid (HB.out.trans (b.mono HB.out.size))
    replace RK := hid (RK.out.below b (Nat.le_refl _))
    replace RV := hid (RV.out.below b (Nat.le_refl _))
    clear b
    generalize u0.alloc (.cells #[.int .i64 0, .int .i64 0, .slice none 0 0, .slice none 0 0] 162) = u0a at *
    generalize u0.heap.size = g3 at *
    refine hK.out _ _ ?_ (fun hH2 => ?_)
    · exact (have q := HX.out; ⟨q.c0, q.c1, q.c2, q.c3, q.c4, q.c5, q.c6, q.c7, q.c8, q.c9⟩)
    clear hK KP hHeld
    have hHeld := hH2
    clear hH2
    try simp only [Act.put]
    try simp only [List.setIfInBounds_toArray]
    try simp only [List.set_cons_succ, List.set_cons_zero]
    refine anyK_step (i := 1) (by kernel_rfl) rfl (fun KP hK => ?_)
    go_simp
    refine (impl_headOf A B K N f ad n cap L M h ad' m cap' _).mono ?_
    rintro e u1 ⟨rfl, b⟩
    replace HX := hid (HX.out.below b (Nat.le_refl _))
    replace HB := hid (HB.out.trans (b.mono HB.out.size))
    replace HT := hid ((b.block g3 (by have := HTl.out; omega)).trans HT.out)
    replace HTl := hid (Nat.lt_of_lt_of_le HTl.out b.size)
    replace RK := hid (RK.out.below b (Nat.le_refl _))
    replace RV := hid (RV.out.below b (Nat.le_refl _))
    clear b
    go_wp2_with fail
    refine hK.out _ _ ?_ (fun hH2 => ?_)
    · exact (have q := HX.out; ⟨q.c0, q.c1, q.c2, q.c3, q.c4, q.c5, q.c6, q.c7, q.c8, q.c9⟩)
    clear hK KP hHeld
    have hHeld := hH2
    clear hH2
    try simp only [Act.put]
    try simp only [List.setIfInBounds_toArray]
    try simp only [List.set_cons_succ, List.set_cons_zero]
    refine anyK_step (i := 4) (by kernel_rfl) rfl (fun KP hK => ?_)
    go_simp
    refine (IK.out _ RK.out).mono ?_
    rintro e u2 ⟨v, rfl, o, b⟩
    obtain ⟨gk, ck, rfl, r, gk1, gk2⟩ := own_some o DD.out.2.2.1 lk.1
    have NK : Hid (gk ≠ g3) := hid (by have := HTl.out; omega)
    replace HX := hid (HX.out.below b (Nat.le_refl _))
    replace HB := hid (HB.out.trans (b.mono HB.out.size))
    replace HT := hid ((b.block g3 (by have := HTl.out; omega)).trans HT.out)
    replace HTl := hid (Nat.lt_of_lt_of_le HTl.out b.size)
    replace RV := hid (RV.out.below b (Nat.le_refl _))
    have QK := hid r
    have GK := hid gk2
    clear b o r gk1 gk2 RK
    go_wp2_with fail
    refine hK.out _ _ ?_ (fun hH2 => ?_)
    · exact (have q := HX.out; ⟨q.c0, q.c1, q.c2, q.c3, q.c4, q.c5, q.c6, q.c7, q.c8, q.c9⟩)
    clear hK KP hHeld
    have hHeld := hH2
    clear hH2
    try simp only [Act.put]
    try simp only [List.setIfInBounds_toArray]
    try simp only [List.set_cons_succ, List.set_cons_zero]
    refine anyK_step (i := 7) (by kernel_rfl) rfl (fun KP hK => ?_)
    go_simp
    refine (IV.out _ RV.out).mono ?_
    rintro e u3 ⟨v, rfl, o, b⟩
    obtain ⟨gv, cv, rfl, r, gv1, gv2⟩ := own_some o DD.out.2.2.2 lv.1
    have NV : Hid (gv ≠ g3) := hid (by have := HTl.out; omega)
    replace HX := hid (HX.out.below b (Nat.le_refl _))
    replace HB := hid (HB.out.trans (b.mono HB.out.size))
    replace HT := hid ((b.block g3 (by have := HTl.out; omega)).trans HT.out)
    replace HTl := hid (Nat.lt_of_lt_of_le HTl.out b.size)
    replace QK := hid (QK.out.below b (Nat.le_refl _))
    replace GK := hid (Nat.lt_of_lt_of_le GK.out b.size)
    have QV := hid r
    have GV := hid gv2
    clear b o r gv1 gv2 RV
    go_wp2_with fail
    refine hK.out _ _ ?_ (fun hH2 => ?_)
    · exact (have q := HX.out; ⟨q.c0, q.c1, q.c2, q.c3, q.c4, q.c5, q.c6, q.c7, q.c8, q.c9⟩)
    clear hK KP hHeld
    have hHeld := hH2
    clear hH2
    try simp only [Act.put]
    try simp only [List.setIfInBounds_toArray]
    try simp only [List.set_cons_succ, List.set_cons_zero]
    refine anyK_take2 (i := 8) (v := ?v9) rfl (by kernel_rfl) (by kernel_rfl) (by kernel_rfl) (by rfl) (fun _ _ _ h => h) (by rfl) hHeld ?hy9 (some 15) (by rfl) ?rest9
    case hy9 => (intro W hSw; (try dsimp only at hSw); go_simp; (try with_reducible rfl))
    try simp only [Act.put]
    try simp only [List.setIfInBounds_toArray]
    try simp only [List.set_cons_succ, List.set_cons_zero]
    refine anyK_step (i := 10) (by kernel_rfl) rfl (fun KP hK => ?_)
    rw [if_pos (by rfl)]
    refine wp_store_row 162 (.tmp 3) (.tmp 15) rfl g3 #[.int .i64 A, .int .i64 B, .slice (some ⟨gk, 0, none⟩) kl ck, .slice (some ⟨gv, 0, none⟩) vl cv] rfl rfl 162 _ HT.out size_laid rfl (by simp [Value.oneCell']) ?_
    have G := grown_setRow _ g3 #[.int .i64 A, .int .i64 B, .slice (some ⟨gk, 0, none⟩) kl ck, .slice (some ⟨gv, 0, none⟩) vl cv] HT.out
    have QK' := hid (QK.out.other G (fun a e => by cases e; exact fun e => NK.out (Option.some.inj e)))
    have QV' := hid (QV.out.other G (fun a e => by cases e; exact fun e => NV.out (Option.some.inj e)))
    have HT' := hid (setRow_heap _ g3 _ #[.int .i64 A, .int .i64 B, .slice (some ⟨gk, 0, none⟩) kl ck, .slice (some ⟨gv, 0, none⟩) vl cv] _ _ HT.out)
    have HB' := hid (HB.out.grown G HB.out.size (fun k hk => by cases hk; exact Nat.le_of_lt LO1.out))
    replace HX := hid (HX.out.other G (by have := LO1.out; simp; omega))
    refine hK.out _ _ ?_ (fun hH2 => ?_)
    · exact (have q := HX.out; ⟨q.c0, q.c1, q.c2, q.c3, q.c4, q.c5, q.c6, q.c7, q.c8, q.c9⟩)
    clear hK KP hHeld
    have hHeld := hH2
    clear hH2
    try simp only [Act.put]
    try simp only [List.setIfInBounds_toArray]
    try simp only [List.set_cons_succ, List.set_cons_zero]
    refine anyK_done (by kernel_rfl) ?_ _
    go_wp2_with fail
    go_meet
    exact ⟨_, _, _, _, _, rfl, HT', QK', QV', HB'⟩
 case rest =>
 obtain ⟨g3, gk, ck, gv, cv, rfl, HT, QK, QV, HB⟩ := hcut
 have hC : wc.cell? ⟨g3, 0, none⟩ = some (.int .i64 A) ∧ wc.cell? ⟨g3, 1, none⟩ = some (.int .i64 B) ∧ wc.cell? ⟨g3, 2, none⟩ = some (.slice (some ⟨gk, 0, none⟩) kl ck) ∧ wc.cell? ⟨g3, 3, none⟩ = some (.slice (some ⟨gv, 0, none⟩) vl cv) := by
  refine ⟨?_, ?_, ?_, ?_⟩ <;> (rw [cell_of_row _ _ _ _ _ _ HT.out]; rfl)
 have HC := hid (cells4_below hC ((Still.drew wc).below _))
 replace QK := hid (QK.out.below ((Still.drew wc).below _) (Nat.le_refl _))
 replace QV := hid (QV.out.below ((Still.drew wc).below _) (Nat.le_refl _))
 replace HB := hid (HB.out.trans ((Still.drew wc).below _))
 clear hC HT HX RK RV IK IV
 go_upto_region 4 with fail
 refine region_K 22 (fun W => W.cell? ⟨g3, 0, none⟩ = some (.int .i64 A) ∧ W.cell? ⟨g3, 1, none⟩ = some (.int .i64 B) ∧ W.cell? ⟨g3, 2, none⟩ = some (.slice (some ⟨gk, 0, none⟩) kl ck) ∧ W.cell? ⟨g3, 3, none⟩ = some (.slice (some ⟨gv, 0, none⟩) vl cv)) (by kernel_rfl) ?_ (fun hHeld => ?_)
 · exact (have q := HC.out; ⟨q.1, q.2.1, q.2.2.1, q.2.2.2⟩)
 refine anyK_take (i := 0) (v := ?v501) rfl (by kernel_rfl) (by kernel_rfl) (by kernel_rfl) (by kernel_rfl) (fun _ _ _ h => h) (by rfl) hHeld ?hy501 (some 16) (by rfl) ?rest501
 case hy501 => (intro W hSw; (try dsimp only at hSw); go_simp; (try with_reducible rfl))
 try simp only [Act.put]
 try simp only [List.setIfInBounds_toArray]
 try simp only [List.set_cons_succ, List.set_cons_zero]
 refine anyK_take (i := 1) (v := ?v502) rfl (by kernel_rfl) (by kernel_rfl) (by kernel_rfl) (by kernel_rfl) (fun _ _ _ h => h) (by rfl) hHeld ?hy502 (some 17) (by rfl) ?rest502
 case hy502 => (intro W hSw; (try dsimp only at hSw); go_simp; (try with_reducible rfl))
 try simp only [Act.put]
 try simp only [List.setIfInBounds_toArray]
 try simp only [List.set_cons_succ, List.set_cons_zero]
 refine anyK_take (i := 2) (v := ?v503) rfl (by kernel_rfl) (by kernel_rfl) (by kernel_rfl) (by kernel_rfl) (fun _ _ _ h => h) (by rfl) hHeld ?hy503 (some 18) (by rfl) ?rest503
 case hy503 => (intro W hSw; (try dsimp only at hSw); go_simp; (try with_reducible rfl))
 try simp only [Act.put]
 try simp only [List.setIfInBounds_toArray]
 try simp only [List.set_cons_succ, List.set_cons_zero]
 refine anyK_take (i := 4) (v := ?v504) rfl (by kernel_rfl) (by kernel_rfl) (by kernel_rfl) (by kernel_rfl) (fun _ _ _ h => h) (by rfl) hHeld ?hy504 (some 20) (by rfl) ?rest504
 case hy504 => (intro W hSw; (try dsimp only at hSw); go_simp; (try with_reducible rfl))
 try simp only [Act.put]
 try simp only [List.setIfInBounds_toArray]
 try simp only [List.set_cons_succ, List.set_cons_zero]
 refine anyK_take (i := 5) (v := ?v505) rfl (by kernel_rfl) (by kernel_rfl) (by kernel_rfl) (by kernel_rfl) (fun _ _ _ h => h) (by rfl) hHeld ?hy505 (some 21) (by rfl) ?rest505
 case hy505 => (intro W hSw; (try dsimp only at hSw); go_simp; (try with_reducible rfl))
 try simp only [Act.put]
 try simp only [List.setIfInBounds_toArray]
 try simp only [List.set_cons_succ, List.set_cons_zero]
 refine anyK_take (i := 6) (v := ?v506) rfl (by kernel_rfl) (by kernel_rfl) (by kernel_rfl) (by kernel_rfl) (fun _ _ _ h => h) (by rfl) hHeld ?hy506 (some 22) (by rfl) ?rest506
 case hy506 => (intro W hSw; (try dsimp only at hSw); go_simp; (try with_reducible rfl))
 try simp only [Act.put]
 try simp only [List.setIfInBounds_toArray]
 try simp only [List.set_cons_succ, List.set_cons_zero]
 refine anyK_take (i := 8) (v := ?v507) rfl (by kernel_rfl) (by kernel_rfl) (by kernel_rfl) (by kernel_rfl) (fun _ _ _ h => h) (by rfl) hHeld ?hy507 (some 24) (by rfl) ?rest507
 case hy507 => (intro W hSw; (try dsimp only at hSw); go_simp; (try with_reducible rfl))
 try simp only [Act.put]
 try simp only [List.setIfInBounds_toArray]
 try simp only [List.set_cons_succ, List.set_cons_zero]
 refine anyK_take (i := 9) (v := ?v508) rfl (by kernel_rfl) (by kernel_rfl) (by kernel_rfl) (by kernel_rfl) (fun _ _ _ h => h) (by rfl) hHeld ?hy508 (some 25) (by rfl) ?rest508
 case hy508 => (intro W hSw; (try dsimp only at hSw); go_simp; (try with_reducible rfl))
 try simp only [Act.put]
 try simp only [List.setIfInBounds_toArray]
 try simp only [List.set_cons_succ, List.set_cons_zero]
 refine anyK_take (i := 10) (v := ?v509) rfl (by kernel_rfl) (by kernel_rfl) (by kernel_rfl) (by kernel_rfl) (fun _ _ _ h => h) (by rfl) hHeld ?hy509 (some 26) (by rfl) ?rest509
 case hy509 => (intro W hSw; (try dsimp only at hSw); go_simp; (try with_reducible rfl))
 try simp only [Act.put]
 try simp only [List.setIfInBounds_toArray]
 try simp only [List.set_cons_succ, List.set_cons_zero]
 refine anyK_take (i := 12) (v := ?v510) rfl (by kernel_rfl) (by kernel_rfl) (by kernel_rfl) (by kernel_rfl) (fun _ _ _ h => h) (by rfl) hHeld ?hy510 (some 28) (by rfl) ?rest510
 case hy510 => (intro W hSw; (try dsimp only at hSw); go_simp; (try with_reducible rfl))
 try simp only [Act.put]
 try simp only [List.setIfInBounds_toArray]
 try simp only [List.set_cons_succ, List.set_cons_zero]
 refine anyK_take (i := 13) (v := ?v511) rfl (by kernel_rfl) (by kernel_rfl) (by kernel_rfl) (by kernel_rfl) (fun _ _ _ h => h) (by rfl) hHeld ?hy511 (some 29) (by rfl) ?rest511
 case hy511 => (intro W hSw; (try dsimp only at hSw); go_simp; (try with_reducible rfl))
 try simp only [Act.put]
 try simp only [List.setIfInBounds_toArray]
 try simp only [List.set_cons_succ, List.set_cons_zero]
 refine anyK_take (i := 14) (v := ?v512) rfl (by kernel_rfl) (by kernel_rfl) (by kernel_rfl) (by kernel_rfl) (fun _ _ _ h => h) (by rfl) hHeld ?hy512 (some 30) (by rfl) ?rest512
 case hy512 => (intro W hSw; (try dsimp only at hSw); go_simp; (try with_reducible rfl))
 try simp only [Act.put]
 try simp only [List.setIfInBounds_toArray]
 try simp only [List.set_cons_succ, List.set_cons_zero]
 refine anyK_take (i := 15) (v := ?v513) rfl (by kernel_rfl) (by kernel_rfl) (by kernel_rfl) (by kernel_rfl) (fun _ _ _ h => h) (by rfl) hHeld ?hy513 (some 31) (by rfl) ?rest513
 case hy513 => (intro W hSw; (try dsimp only at hSw); go_simp; (try with_reducible rfl))
 try simp only [Act.put]
 try simp only [List.setIfInBounds_toArray]
 try simp only [List.set_cons_succ, List.set_cons_zero]
 refine anyK_take (i := 16) (v := ?v514) rfl (by kernel_rfl) (by kernel_rfl) (by kernel_rfl) (by kernel_rfl) (fun _ _ _ h => h) (by rfl) hHeld ?hy514 (some 32) (by rfl) ?rest514
 case hy514 => (intro W hSw; (try dsimp only at hSw); go_simp; (try with_reducible rfl))
 try simp only [Act.put]
 try simp only [List.setIfInBounds_toArray]
 try simp only [List.set_cons_succ, List.set_cons_zero]
 refine anyK_take (i := 18) (v := ?v515) rfl (by kernel_rfl) (by kernel_rfl) (by kernel_rfl) (by kernel_rfl) (fun _ _ _ h => h) (by rfl) hHeld ?hy515 (some 34) (by rfl) ?rest515
 case hy515 => (intro W hSw; (try dsimp only at hSw); go_simp; (try with_reducible rfl))
 try simp only [Act.put]
 try simp only [List.setIfInBounds_toArray]
 try simp only [List.set_cons_succ, List.set_cons_zero]
 refine anyK_take (i := 19) (v := ?v516) rfl (by kernel_rfl) (by kernel_rfl) (by kernel_rfl) (by kernel_rfl) (fun _ _ _ h => h) (by rfl) hHeld ?hy516 (some 35) (by rfl) ?rest516
 case hy516 => (intro W hSw; (try dsimp only at hSw); go_simp; (try with_reducible rfl))
 try simp only [Act.put]
 try simp only [List.setIfInBounds_toArray]
 try simp only [List.set_cons_succ, List.set_cons_zero]
 refine anyK_step (i := 3) (by kernel_rfl) rfl (fun K hK => ?_)
 go_simp
 refine (FF.out.1 _).mono ?_
 rintro e y1 ⟨v, rfl, o, b⟩
 obtain ⟨p1, n1, rfl, r, _⟩ := own_some o DD.out.1 (by omega)
 replace HC := hid (cells4_below HC.out b)
 replace QK := hid (QK.out.below b (Nat.le_refl _))
 replace QV := hid (QV.out.below b (Nat.le_refl _))
 have HR1 := hid r
 replace HB := hid (HB.out.trans (b.mono HB.out.size))
 clear b o r
 go_wp2_with fail
 refine hK.out _ _ ?_ (fun hH2 => ?_)
 · exact (have q := HC.out; ⟨q.1, q.2.1, q.2.2.1, q.2.2.2⟩)
 clear hK K hHeld
 have hHeld := hH2
 clear hH2
 try simp only [Act.put]
 try simp only [List.setIfInBounds_toArray]
 try simp only [List.set_cons_succ, List.set_cons_zero]
 refine anyK_step (i := 7) (by kernel_rfl) rfl (fun K hK => ?_)
 go_simp
 refine (FF.out.2 _).mono ?_
 rintro e y2 ⟨v, rfl, o, b⟩
 obtain ⟨p2, n2, rfl, r, _⟩ := own_some o DD.out.2.1 (by omega)
 replace HC := hid (cells4_below HC.out b)
 replace QK := hid (QK.out.below b (Nat.le_refl _))
 replace QV := hid (QV.out.below b (Nat.le_refl _))
 replace HR1 := hid (HR1.out.below b (Nat.le_refl _))
 have HR2 := hid r
 replace HB := hid (HB.out.trans (b.mono HB.out.size))
 clear b o r
 go_wp2_with fail
 refine hK.out _ _ ?_ (fun hH2 => ?_)
 · exact (have q := HC.out; ⟨q.1, q.2.1, q.2.2.1, q.2.2.2⟩)
 clear hK K hHeld
 have hHeld := hH2
 clear hH2
 try simp only [Act.put]
 try simp only [List.setIfInBounds_toArray]
 try simp only [List.set_cons_succ, List.set_cons_zero]
 refine anyK_step (i := 11) (by kernel_rfl) rfl (fun K hK => ?_)
 go_simp
 refine (FK.out _).mono ?_
 rintro e y3 ⟨v, rfl, o, b⟩
 obtain ⟨p3, n3, rfl, r, _⟩ := own_some o DK.out (by omega)
 replace HC := hid (cells4_below HC.out b)
 replace QK := hid (QK.out.below b (Nat.le_refl _))
 replace QV := hid (QV.out.below b (Nat.le_refl _))
 replace HR1 := hid (HR1.out.below b (Nat.le_refl _))
 replace HR2 := hid (HR2.out.below b (Nat.le_refl _))
 have HR3 := hid r
 replace HB := hid (HB.out.trans (b.mono HB.out.size))
 clear b o r
 go_wp2_with fail
 refine hK.out _ _ ?_ (fun hH2 => ?_)
 · exact (have q := HC.out; ⟨q.1, q.2.1, q.2.2.1, q.2.2.2⟩)
 clear hK K hHeld
 have hHeld := hH2
 clear hH2
 try simp only [Act.put]
 try simp only [List.setIfInBounds_toArray]
 try simp only [List.set_cons_succ, List.set_cons_zero]
 refine anyK_step (i := 17) (by kernel_rfl) rfl (fun K hK => ?_)
 go_simp
 refine (FV.out _).mono ?_
 rintro e y4 ⟨v, rfl, o, b⟩
 obtain ⟨p4, n4, rfl, r, _⟩ := own_some o DV.out (by omega)
 replace HC := hid (cells4_below HC.out b)
 replace QK := hid (QK.out.below b (Nat.le_refl _))
 replace QV := hid (QV.out.below b (Nat.le_refl _))
 replace HR1 := hid (HR1.out.below b (Nat.le_refl _))
 replace HR2 := hid (HR2.out.below b (Nat.le_refl _))
 replace HR3 := hid (HR3.out.below b (Nat.le_refl _))
 have HR4 := hid r
 replace HB := hid (HB.out.trans (b.mono HB.out.size))
 clear b o r
 go_wp2_with fail
 refine hK.out _ _ ?_ (fun hH2 => ?_)
 · exact (have q := HC.out; ⟨q.1, q.2.1, q.2.2.1, q.2.2.2⟩)
 clear hK K hHeld
 have hHeld := hH2
 clear hH2
 try simp only [Act.put]
 try simp only [List.setIfInBounds_toArray]
 try simp only [List.set_cons_succ, List.set_cons_zero]
 refine anyK_step (i := 20) (by kernel_rfl) rfl (fun K hK => ?_)
 go_simp
 have bM := Below.alloc1 y4 (.cells #[.slice (some ⟨p1, 0, none⟩) 4 n1, .slice (some ⟨p2, 0, none⟩) 4 n2, .slice (some ⟨p3, 0, none⟩) 1 n3, .slice (some ⟨gk, 0, none⟩) kl ck, .slice (some ⟨p4, 0, none⟩) 1 n4, .slice (some ⟨gv, 0, none⟩) vl cv] 22)
 replace HC := hid (cells4_below HC.out bM)
 refine hK.out _ _ ?_ (fun hH2 => ?_)
 · exact (have q := HC.out; ⟨q.1, q.2.1, q.2.2.1, q.2.2.2⟩)
 clear hK K hHeld
 have hHeld := hH2
 clear hH2
 try simp only [Act.put]
 try simp only [List.setIfInBounds_toArray]
 try simp only [List.set_cons_succ, List.set_cons_zero]
 refine anyK_step (i := 21) (by kernel_rfl) rfl (fun K hK => ?_)
 go_simp
 have hg := heap_alloc_new y4 (.cells #[.slice (some ⟨p1, 0, none⟩) 4 n1, .slice (some ⟨p2, 0, none⟩) 4 n2, .slice (some ⟨p3, 0, none⟩) 1 n3, .slice (some ⟨gk, 0, none⟩) kl ck, .slice (some ⟨p4, 0, none⟩) 1 n4, .slice (some ⟨gv, 0, none⟩) vl cv] 22)
 have RS : ReadsS (y4.alloc (.cells #[.slice (some ⟨p1, 0, none⟩) 4 n1, .slice (some ⟨p2, 0, none⟩) 4 n2, .slice (some ⟨p3, 0, none⟩) 1 n3, .slice (some ⟨gk, 0, none⟩) kl ck, .slice (some ⟨p4, 0, none⟩) 1 n4, .slice (some ⟨gv, 0, none⟩) vl cv] 22)) (some ⟨y4.heap.size, 0, none⟩) [B1, B2, [(kl : Int)], KB, [(vl : Int)], VB] := rows6 hg (HR1.out.below bM (Nat.le_refl _)) (HR2.out.below bM (Nat.le_refl _)) (HR3.out.below bM (Nat.le_refl _)) (QK.out.below bM (Nat.le_refl _)) (HR4.out.below bM (Nat.le_refl _)) (QV.out.below bM (Nat.le_refl _)) lk.2 lv.2
 have htt : tot [B1, B2, [(kl : Int)], KB, [(vl : Int)], VB] = 9 + kl + 1 + vl := by simp only [tot, e1, e2, hkl, hvl, List.length_cons, List.length_nil]; omega
 refine (impl_joined (m := 6) 6 RS rfl (by omega) (by omega)).mono ?_
 rintro e y9 ⟨v, rfl, o, b⟩
 rw [htt] at o
 obtain ⟨q1, q2, rfl⟩ := own_slice o
 replace HC := hid (cells4_below HC.out b)
 have HA := hid (HB.out.trans (bM.mono HB.out.size))
 have HO := hid (owns_base o HA.out.size)
 replace HB := hid (HA.out.trans (b.mono HA.out.size))
 clear o b hg RS bM htt HR1 HR2 HR3 HR4 QK QV HA
 go_wp2_with fail
 refine hK.out _ _ ?_ (fun hH2 => ?_)
 · exact (have q := HC.out; ⟨q.1, q.2.1, q.2.2.1, q.2.2.2⟩)
 clear hK K hHeld
 have hHeld := hH2
 clear hH2
 try simp only [Act.put]
 try simp only [List.setIfInBounds_toArray]
 try simp only [List.set_cons_succ, List.set_cons_zero]
 refine anyK_last (by kernel_rfl) rfl (fun K hK => ?_)
 go_simp
 refine hK.out _ _ ?_
 clear hK K hHeld
 refine anyK_done (by kernel_rfl) ?_ _
 go_wp2_with fail
 go_ret
 have o := HO.out
 have he : RES.length = 9 + kl + 1 + vl := by rw [HE.out]; simp only [List.length_append, e1, e2, hkl, hvl, List.length_cons, List.length_nil]; omega
 refine ⟨_, rfl, ?_, HB.out⟩
 rw [he, HE.out]
 have eb : [B1, B2, [(kl : Int)], KB, [(vl : Int)], VB].flatten = B1 ++ (B2 ++ ([(kl : Int)] ++ (KB ++ ([(vl : Int)] ++ VB)))) := by simp
 rw [← eb]
 exact o
end Go.Proofs.YtkfhfjghfadofaaGreat
