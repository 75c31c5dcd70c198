/- FnRecords' walk. -/
import Derived.Test.YtgdnjpdheghfoaaD5l
import Derived.Test.YtgdnjpdheghfoaaRmt
import Derived.Test.YtgdnjpdheghfoaaSb
import Derived.Test.YtgdnjpdheghfoaaLbi
import Derived.Test.YtgdnjpdheghfoaaLbs
import Derived.Test.YtgdnjpdheghfoaaLsi
import Derived.Test.YtgdnjpdheghfoaaRby
import Derived.Test.YtgdnjpdheghfoaaRk2
namespace Go.Proofs.Ytgdnjpdheghfoaa
open Go.RowKit

set_option maxRecDepth 100000 in
set_option maxHeartbeats 1600000 in
theorem at_any {w : World} {ad : Option Addr} {n : Nat} (cap : Nat) {zs : List Int} (h : Reads w ad n zs) (hn : n ≤ 2097152) (i : Int) (hi0 : 0 ≤ i) (hi : i ≤ 1000) :
    Calls Try.prog 21 #[.slice ad n cap, .int .i64 i] w fun e w' => ∃ x : Int, e = .returned (.int .i64 x) ∧ 0 ≤ x ∧ x ≤ 255 ∧ w' = w := by
  obtain ⟨i, rfl⟩ := Int.eq_ofNat_of_zero_le hi0
  by_cases hlt : i < n
  · rcases h.cells with h0 | ⟨b, off, rfl, hc⟩
    · omega
    have hcell := hc i hlt
    have hb := h.bd i
    generalize zs.getD i 0 = c at hcell hb
    clear hc
    go_enter Try.func21, Try.ntmps21
    go_wp2
    go_ret
    exact ⟨_, rfl, hb.1, hb.2, rfl⟩
  · go_enter Try.func21, Try.ntmps21
    go_wp2
    go_ret
    exact ⟨_, rfl, by omega, by omega, rfl⟩

set_option maxRecDepth 100000 in
theorem law_big (ad : Option Addr) (n cap : Nat) (w : World) :
    Calls Try.prog 10 #[.slice ad n cap] w fun e w' => e = .returned (.bool (decide ((1048576 : Int) < (n : Int)))) ∧ w' = w := by
  go_enter Try.func10, Try.ntmps10
  go_wp2
  go_ret
  exact ⟨rfl, rfl⟩

theorem Rs.some {B : Nat} {wr : World} {a : Option Addr} {m c : Nat} {rs : List Rc} {ys : List Value} (h : Rs B wr (.slice a m c) rs ys) (hr : 0 < rs.length) : ∃ b, a = some ⟨b, 0, none⟩ ∧ B ≤ b := by
  rcases h.own.2 with ⟨h1, h2⟩ | ⟨g', cap', cur, h1, hb, _⟩
  · omega
  · exact ⟨g', (Value.slice.inj h1).1, hb⟩
theorem own_form {w : World} {B : Nat} {v : Value} {m : Nat} {Z : List Int} (o : w.ownsRow B 5 1 v m (bys Z)) (hb : ∀ i, 0 ≤ Z.getD i 0 ∧ Z.getD i 0 ≤ 255) : ∃ a c, v = .slice a m c ∧ Reads w a m Z ∧ m ≤ c := by
  obtain ⟨a, c, e, r, _⟩ := Reads.own o hb
  refine ⟨a, c, e, r, ?_⟩
  rcases o.2 with ⟨h1, h2⟩ | ⟨g', cap', cur, h1, _, _, h2, _⟩
  · rw [h2]; exact Nat.zero_le _
  · rw [e] at h1; rw [(Value.slice.inj h1).2.2]; exact h2
theorem Reads.take0 {w : World} {a : Option Addr} {m : Nat} {z : List Int} (h : Reads w a m z) (hm : z.length = m) (y : Nat) (hy : y ≤ m) : Reads w a y (z.take y) := by
  have hl : (z.take y).length = y := by simp; omega
  refine ⟨hl, ?_, fun i => ?_⟩
  · rcases h.cells with h0 | ⟨b, off, rfl, hc⟩
    · exact .inl (by omega)
    · refine .inr ⟨b, off, rfl, fun i hi => ?_⟩
      rw [hc i (by omega), List.getD_eq_getElem?_getD, List.getD_eq_getElem?_getD, List.getElem?_take, if_pos hi]
  · have := h.bd i
    rw [List.getD_eq_getElem?_getD, List.getElem?_take]
    split
    · rwa [← List.getD_eq_getElem?_getD]
    · simp
theorem Rs.bdD {B : Nat} {wr : World} {v : Value} {rs : List Rc} {ys : List Value} (h : Rs B wr v rs ys) : ∀ r ∈ rs, bdL r.D := by
  intro r hr
  obtain ⟨i, hi, rfl⟩ := List.mem_iff_getElem.1 hr
  obtain ⟨a, c, _, rd, _⟩ := (h.row i hi).row
  have := rd.bd
  rwa [List.getD_eq_getElem?_getD, List.getElem?_eq_getElem hi] at this

set_option maxRecDepth 100000 in
set_option maxHeartbeats 12800000 in
theorem lawRecords {ad : Option Addr} {n : Nat} (cap : Nat) {zs : List Int} {w : World} (h : Reads w ad n zs) (hn : n ≤ maxLen) :
    Calls Try.prog 4 #[.slice ad n cap] w fun e w' => e = .returned (.bool true) ∧ Below w.heap.size w w' := by
  unfold maxLen at hn
  have HR := hid h
  clear h
  go_enter Try.func4, Try.ntmps4
  go_wp2_with fail
  refine (law_big ad n cap w).mono ?_
  rintro e w1 ⟨rfl, h1⟩
  obtain rfl := h1.symm
  by_cases hb : (1048576 : Int) < (n : Int)
  · rw [decide_eq_true hb]
    go_wp2_with fail
    go_ret
    exact ⟨rfl, Below.refl _ _⟩
  rw [decide_eq_false hb]
  have hn' : n ≤ 1048576 := by omega
  clear h1 hb hn
  go_wp2_with fail
  refine (drawLog cap HR.out (by omega)).mono ?_
  rintro e w1 ⟨v, rs, ys, B, rfl, hB, r1, hl, b1⟩
  obtain ⟨av, cv, rfl⟩ := r1.form
  have HB := hid b1
  have R1 := hid r1
  have HB0 := hid hB
  clear b1 r1 hB
  go_wp2_with fail
  generalize hN : rs.length = N at *
  have HN := hid hN
  clear hN
  go_loopw [4] (fun i wr => ∃ (k : Nat) (rq : List Rc), k ≤ N ∧ i = .int .i64 k ∧ Hid (rq.length = N) ∧ Hid (∀ j, j < k → (rq.getD j r0).L = 7 + j) ∧ Hid (Rs B wr (.slice av N cv) rq ys) ∧ Hid (Below w.heap.size w wr)) (fun i _ => N - (intOf i).toNat)
  case atStart => exact ⟨0, rs, Nat.zero_le _, rfl, HN, hid (fun j hj => by omega), R1, HB⟩
  case round =>
    obtain ⟨k, rq, hk, rfl, hq, h7, hR, hBl⟩ := hrel
    clear R1 HB HN rs
    by_cases hlt : k < N
    · have hlt' : (k : Int) < (N : Int) := by omega
      obtain ⟨b, rfl, hbB⟩ := hR.out.some (by have := hq.out; omega)
      obtain ⟨⟨x, d0⟩, f0, R2, g2⟩ := hR.out.setL (i := k) (by have := hq.out; omega) (7 + (k : Int))
      have HR2 := hid R2
      have HB2 := hid (hBl.out.setCell (p := ⟨b, k * 6 + 1, none⟩) (by have := HB0.out; simp; omega) (.int .i64 (7 + (k : Int))))
      clear R2 g2
      go_wp2_with fail
      go_roundw
      case rel => exact ⟨k + 1, rq.set k { rq.getD k r0 with L := 7 + (k : Int) }, by omega, by go_num, hid (by simpa using hq.out), hid (fun j hj => by rw [getD_set' rq k j _ r0 (by have := hq.out; omega)]; split; (rename_i e; subst e; rfl); exact h7.out j (by omega)), HR2, HB2⟩
      case measure => simp [intOf]; omega
    · have hlt' : ¬ (k : Int) < (N : Int) := by omega
      obtain rfl : k = N := by omega
      obtain ⟨a1, c1, e1, rd1⟩ := hR.out.rd
      obtain ⟨rfl, hN2, rfl⟩ := Value.slice.inj e1
      have RL := hid rd1
      have BD := hid hR.out.bdD
      clear e1 rd1 hlt hlt' hk hN2
      go_wp2_with fail
      have hlog : logB rq = ([], false) ∨ (logB rq = (bytesL rq, true) ∧ rq.all okR = true ∧ (bytesL rq).length ≤ 65536) := by
        unfold logB
        by_cases hc : rq.all okR = true ∧ (bytesL rq).length ≤ 65536
        · rw [if_pos hc]; exact .inr ⟨rfl, hc.1, hc.2⟩
        · rw [if_neg hc]; exact .inl rfl
      have c1 := impl_LogBytes cv RL.out hq.out (by omega)
      have c2 := fun (X : World) (b : Below wr.heap.size wr X) => spec_LogBytes cv (RL.out.below b (Nat.le_refl _)) hq.out (by omega)
      have C2 := hid c2
      clear c2
      rcases hlog with hlog | ⟨hlog, hall, hlen⟩
      · rw [hlog] at c1
        refine c1.mono ?_
        rintro e w2 ⟨vb, rfl, o2, b2⟩
        obtain ⟨aB, cB, rfl, -, -⟩ := own_form o2 (by simp)
        clear c1 o2
        go_wp2_with fail
        have c2 := C2.out w2 b2
        rw [hlog] at c2
        refine c2.mono ?_
        rintro e w3 ⟨vc, rfl, o3, b3⟩
        have HB3 := hid ((hBl.out.trans (b2.mono hBl.out.size)).trans (b3.mono (hBl.out.trans (b2.mono hBl.out.size)).size))
        obtain ⟨aC, cC, rfl, -, -⟩ := own_form o3 (by simp)
        clear c2 o3 b2 b3 C2
        go_wp2_with fail
        go_ret
        exact ⟨by simp, HB3.out⟩
      · rw [hlog] at c1
        have Z0 := hid (And.intro hall hlen)
        have BDZ := hid (show bdL (bytesL rq) from bytesL_bd BD.out)
        have SW := hid (scan_whole (lsn := 7) hall BD.out (fun i hi => by rw [h7.out i (by have := hq.out; omega)]) hlen)
        have SO := hid (scan_other (lsn := 7) (lsn' := 8) hall BD.out (fun i hi => by rw [h7.out i (by have := hq.out; omega)]) hlen (by decide))
        have SC := hid (fun (l m : Nat) h1 h2 h3 h4 => scan_some (rs := rq) (lsn := 7) (l := l) (n := m) hall BD.out (fun i hi => by rw [h7.out i (by have := hq.out; omega)]) hlen h1 h2 h3 h4)
        clear hall hlen
        refine c1.mono ?_
        rintro e w2 ⟨vb, rfl, o2, b2⟩
        obtain ⟨aB, cB, rfl, rb2, hcB⟩ := own_form o2 BDZ.out
        have RB := hid rb2
        have B2 := hid b2
        clear c1 o2 rb2 b2
        go_wp2_with fail
        have c2 := C2.out w2 B2.out
        rw [hlog] at c2
        refine c2.mono ?_
        rintro e w3 ⟨vc, rfl, o3, b3⟩
        obtain ⟨aC, cC, rfl, -, -⟩ := own_form o3 BDZ.out
        replace hBl := hid ((hBl.out.trans (B2.out.mono hBl.out.size)).trans (b3.mono (hBl.out.trans (B2.out.mono hBl.out.size)).size))
        replace RL := hid ((RL.out.below B2.out (Nat.le_refl _)).below b3 (Nat.le_refl _))
        replace RB := hid (RB.out.below b3 (Nat.le_refl _))
        clear c2 o3 b3 C2 B2 hlog
        have hbl : (bytesL rq).length ≤ 65536 := Z0.out.2
        obtain ⟨M, hM⟩ : ∃ M, (bytesL rq).length = M := ⟨_, rfl⟩
        simp only [hM] at RB hcB hbl ⊢
        have HM := hid hM
        clear hM
        go_wp2_with fail
        refine (impl_LogScan cB RB.out (by omega) hcB 7 (by omega) (by omega)).mono ?_
        rintro e w4 ⟨vk, rfl, o4, b4⟩
        rw [SW.out] at o4
        rw [SW.out]
        obtain ⟨aK, cK, rfl, rk⟩ := o4.reads
        replace hBl := hid (hBl.out.trans (b4.mono hBl.out.size))
        replace RL := hid (RL.out.below b4 (Nat.le_refl _))
        replace RB := hid (RB.out.below b4 (Nat.le_refl _))
        have RK := hid rk
        clear rk o4 b4
        simp only [HM.out, hq.out]
        go_wp2_with fail
        go_loopw [11] (fun i wr => ∃ j : Nat, j ≤ k ∧ i = .int .i64 j ∧ Hid (Below w.heap.size w wr) ∧ Hid (ReadsR wr av rq) ∧ Hid (ReadsR wr aK rq) ∧ Hid (Reads wr aB M (bytesL rq))) (fun i _ => k - (intOf i).toNat)
        case atStart => exact ⟨0, Nat.zero_le _, rfl, hBl, RL, RK, RB⟩
        case round =>
          obtain ⟨j, hj, rfl, hBx, hRL, hRK, hRB⟩ := hrel
          clear hBl RL RK RB
          by_cases hlt : j < k
          · have hlt' : (j : Int) < (k : Int) := by omega
            have hj0 : (0 : Int) ≤ (j : Int) := by omega
            have hjq : j < rq.length := by have := hq.out; omega
            obtain ⟨bL, oL, eL, hcL⟩ : ∃ b off, av = some ⟨b, off, none⟩ ∧ ∀ i, i < rq.length → ∃ v, Cells6 wr b (off + i * 6) (rq.getD i r0) v ∧ Row wr v (rq.getD i r0).D := by
              rcases hRL.out.cells with h0 | h0
              · omega
              · exact h0
            obtain ⟨bK, oK, eK, hcK⟩ : ∃ b off, aK = some ⟨b, off, none⟩ ∧ ∀ i, i < rq.length → ∃ v, Cells6 wr b (off + i * 6) (rq.getD i r0) v ∧ Row wr v (rq.getD i r0).D := by
              rcases hRK.out.cells with h0 | h0
              · omega
              · exact h0
            subst eL eK
            obtain ⟨v1, x1, r1⟩ := hcL j hjq
            obtain ⟨v2, x2, r2⟩ := hcK j hjq
            have bdj := BD.out (rq.getD j r0) (by rw [List.getD_eq_getElem?_getD, List.getElem?_eq_getElem hjq]; exact List.getElem_mem hjq)
            have BDJ := hid bdj
            clear hcL hcK bdj
            generalize rq.getD j r0 = rj at *
            obtain ⟨K0, L0, X0, P0, S0, D0⟩ := rj
            obtain ⟨a1, q1, rfl, rd1, hn1, -⟩ := r1
            obtain ⟨a2, q2, rfl, rd2, hn2, -⟩ := r2
            simp only at *
            have HK := hid (show ∀ Y, Below wr.heap.size wr Y → (Y.cell? ⟨bK, oK + j * 6, none⟩ = some (.int .i64 K0) ∧ Y.cell? ⟨bK, oK + j * 6 + 1, none⟩ = some (.int .i64 L0) ∧ Y.cell? ⟨bK, oK + j * 6 + 2, none⟩ = some (.int .i64 X0) ∧ Y.cell? ⟨bK, oK + j * 6 + 3, none⟩ = some (.int .i64 P0) ∧ Y.cell? ⟨bK, oK + j * 6 + 4, none⟩ = some (.int .i64 S0) ∧ Y.cell? ⟨bK, oK + j * 6 + 5, none⟩ = some (.slice a2 D0.length q2) ∧ Y.cell? ⟨bL, oL + j * 6, none⟩ = some (.int .i64 K0) ∧ Y.cell? ⟨bL, oL + j * 6 + 1, none⟩ = some (.int .i64 L0) ∧ Y.cell? ⟨bL, oL + j * 6 + 2, none⟩ = some (.int .i64 X0) ∧ Y.cell? ⟨bL, oL + j * 6 + 3, none⟩ = some (.int .i64 P0) ∧ Y.cell? ⟨bL, oL + j * 6 + 4, none⟩ = some (.int .i64 S0) ∧ Y.cell? ⟨bL, oL + j * 6 + 5, none⟩ = some (.slice a1 D0.length q1)) from fun Y b => by
              have y1 := x1.below b (Nat.le_refl _)
              have y2 := x2.below b (Nat.le_refl _)
              exact ⟨y2.c0, y2.c1, y2.c2, y2.c3, y2.c4, y2.c5, y1.c0, y1.c1, y1.c2, y1.c3, y1.c4, y1.c5⟩)
            have bD := hid (Below.refl wr.heap.size wr).drew
            have RD1 := hid rd1
            have RD2 := hid rd2
            have CB := hid (fun (Y : World) (b : Below wr.heap.size wr Y) (aa : Option Addr) (qq : Nat) (hh : Reads wr aa D0.length D0) (hc : aa = none → qq = 0) => spec_RecordBytes K0 L0 X0 P0 S0 qq (hh.below b (Nat.le_refl _)) hc)
            have BZ := hid (bytesR_bd (r := ⟨K0, L0, X0, P0, S0, D0⟩) BDJ.out)
            generalize bytesR ⟨K0, L0, X0, P0, S0, D0⟩ = zz at *
            clear x1 x2 rd1 rd2
            go_wp2_with fail
            refine region_K 99 (fun Y => Y.cell? ⟨bK, oK + j * 6, none⟩ = some (.int .i64 K0) ∧ Y.cell? ⟨bK, oK + j * 6 + 1, none⟩ = some (.int .i64 L0) ∧ Y.cell? ⟨bK, oK + j * 6 + 2, none⟩ = some (.int .i64 X0) ∧ Y.cell? ⟨bK, oK + j * 6 + 3, none⟩ = some (.int .i64 P0) ∧ Y.cell? ⟨bK, oK + j * 6 + 4, none⟩ = some (.int .i64 S0) ∧ Y.cell? ⟨bK, oK + j * 6 + 5, none⟩ = some (.slice a2 D0.length q2) ∧ Y.cell? ⟨bL, oL + j * 6, none⟩ = some (.int .i64 K0) ∧ Y.cell? ⟨bL, oL + j * 6 + 1, none⟩ = some (.int .i64 L0) ∧ Y.cell? ⟨bL, oL + j * 6 + 2, none⟩ = some (.int .i64 X0) ∧ Y.cell? ⟨bL, oL + j * 6 + 3, none⟩ = some (.int .i64 P0) ∧ Y.cell? ⟨bL, oL + j * 6 + 4, none⟩ = some (.int .i64 S0) ∧ Y.cell? ⟨bL, oL + j * 6 + 5, none⟩ = some (.slice a1 D0.length q1)) (by kernel_rfl) ?_ (fun hHeld => ?_)
            · exact HK.out _ bD.out
            refine anyK_take2 (i := 0) (v := ?v20001) rfl (by kernel_rfl) (by kernel_rfl) (by kernel_rfl) (by kernel_rfl) (fun _ _ _ h => h) (by rfl) hHeld ?hy20001 (some 75) (by rfl) ?rest20001
            case hy20001 => (intro W' hSw; (try dsimp only at hSw); go_simp; (try with_reducible rfl))
            try simp only [Act.put]
            try simp only [List.setIfInBounds_toArray]
            try simp only [List.set_cons_succ, List.set_cons_zero]
            refine anyK_take2 (i := 1) (v := ?v20002) rfl (by kernel_rfl) (by kernel_rfl) (by kernel_rfl) (by kernel_rfl) (fun _ _ _ h => h) (by rfl) hHeld ?hy20002 (some 76) (by rfl) ?rest20002
            case hy20002 => (intro W' hSw; (try dsimp only at hSw); go_simp; (try with_reducible rfl))
            try simp only [Act.put]
            try simp only [List.setIfInBounds_toArray]
            try simp only [List.set_cons_succ, List.set_cons_zero]
            refine anyK_take2 (i := 2) (v := ?v20003) rfl (by kernel_rfl) (by kernel_rfl) (by kernel_rfl) (by kernel_rfl) (fun _ _ _ h => h) (by rfl) hHeld ?hy20003 (some 77) (by rfl) ?rest20003
            case hy20003 => (intro W' hSw; (try dsimp only at hSw); go_simp; (try with_reducible rfl))
            try simp only [Act.put]
            try simp only [List.setIfInBounds_toArray]
            try simp only [List.set_cons_succ, List.set_cons_zero]
            refine anyK_take2 (i := 3) (v := ?v20004) rfl (by kernel_rfl) (by kernel_rfl) (by kernel_rfl) (by kernel_rfl) (fun _ _ _ h => h) (by rfl) hHeld ?hy20004 (some 78) (by rfl) ?rest20004
            case hy20004 => (intro W' hSw; (try dsimp only at hSw); go_simp; (try with_reducible rfl))
            try simp only [Act.put]
            try simp only [List.setIfInBounds_toArray]
            try simp only [List.set_cons_succ, List.set_cons_zero]
            refine anyK_take2 (i := 6) (v := ?v20005) rfl (by kernel_rfl) (by kernel_rfl) (by kernel_rfl) (by kernel_rfl) (fun _ _ _ h => h) (by rfl) hHeld ?hy20005 (some 81) (by rfl) ?rest20005
            case hy20005 => (intro W' hSw; (try dsimp only at hSw); go_simp; (try with_reducible rfl))
            try simp only [Act.put]
            try simp only [List.setIfInBounds_toArray]
            try simp only [List.set_cons_succ, List.set_cons_zero]
            refine anyK_take2 (i := 7) (v := ?v20006) rfl (by kernel_rfl) (by kernel_rfl) (by kernel_rfl) (by kernel_rfl) (fun _ _ _ h => h) (by rfl) hHeld ?hy20006 (some 82) (by rfl) ?rest20006
            case hy20006 => (intro W' hSw; (try dsimp only at hSw); go_simp; (try with_reducible rfl))
            try simp only [Act.put]
            try simp only [List.setIfInBounds_toArray]
            try simp only [List.set_cons_succ, List.set_cons_zero]
            refine anyK_take2 (i := 8) (v := ?v20007) rfl (by kernel_rfl) (by kernel_rfl) (by kernel_rfl) (by kernel_rfl) (fun _ _ _ h => h) (by rfl) hHeld ?hy20007 (some 83) (by rfl) ?rest20007
            case hy20007 => (intro W' hSw; (try dsimp only at hSw); go_simp; (try with_reducible rfl))
            try simp only [Act.put]
            try simp only [List.setIfInBounds_toArray]
            try simp only [List.set_cons_succ, List.set_cons_zero]
            refine anyK_take2 (i := 9) (v := ?v20008) rfl (by kernel_rfl) (by kernel_rfl) (by kernel_rfl) (by kernel_rfl) (fun _ _ _ h => h) (by rfl) hHeld ?hy20008 (some 84) (by rfl) ?rest20008
            case hy20008 => (intro W' hSw; (try dsimp only at hSw); go_simp; (try with_reducible rfl))
            try simp only [Act.put]
            try simp only [List.setIfInBounds_toArray]
            try simp only [List.set_cons_succ, List.set_cons_zero]
            refine anyK_step (i := 4) (by kernel_rfl) rfl (fun K hK => ?_)
            go_simp
            refine (CB.out _ bD.out a2 q2 RD2.out hn2).mono ?_
            rintro e w5 ⟨t1, rfl, o5, b5⟩
            obtain ⟨p1, d1, rfl, rp1, -⟩ := own_form o5 BZ.out
            have RP1 := hid rp1
            have B5 := hid (bD.out.trans (b5.mono bD.out.size))
            clear rp1 o5 b5
            go_wp2_with fail
            refine hK.out _ _ ?_ (fun hH2 => ?_)
            · exact HK.out _ B5.out
            clear hK K hHeld
            have hHeld := hH2
            clear hH2
            try simp only [Act.put]
            try simp only [List.setIfInBounds_toArray]
            try simp only [List.set_cons_succ, List.set_cons_zero]
            refine anyK_two (i := 5) (j := 10) (by kernel_rfl) rfl rfl (fun K hK => ?_) (fun K hK => ?_)
            · skip
              have cx := RP1.out.str d1 22 Try.underlying22 Try.underlying5 Try.underlying9
              go_simp
              clear cx
              refine hK.out _ _ ?_ (fun hH2 => ?_)
              · exact HK.out _ B5.out
              clear hK K hHeld
              have hHeld := hH2
              clear hH2
              try simp only [Act.put]
              try simp only [List.setIfInBounds_toArray]
              try simp only [List.set_cons_succ, List.set_cons_zero]
              refine anyK_step (i := 10) (by kernel_rfl) rfl (fun K hK => ?_)
              go_simp
              refine (CB.out _ B5.out a1 q1 RD1.out hn1).mono ?_
              rintro e w6 ⟨t2, rfl, o6, b6⟩
              obtain ⟨p2, d2, rfl, rp2, -⟩ := own_form o6 BZ.out
              have RP2 := hid rp2
              have RP1' := hid (RP1.out.below b6 (Nat.le_refl _))
              have B6 := hid (B5.out.trans (b6.mono B5.out.size))
              clear rp2 o6 b6
              go_wp2_with fail
              refine hK.out _ _ ?_ (fun hH2 => ?_)
              · exact HK.out _ B6.out
              clear hK K hHeld
              have hHeld := hH2
              clear hH2
              try simp only [Act.put]
              try simp only [List.setIfInBounds_toArray]
              try simp only [List.set_cons_succ, List.set_cons_zero]
              refine anyK_step (i := 11) (by kernel_rfl) rfl (fun K hK => ?_)
              have cx := RP2.out.str d2 22 Try.underlying22 Try.underlying5 Try.underlying9
              go_simp
              clear cx
              refine hK.out _ _ ?_ (fun hH2 => ?_)
              · exact HK.out _ B6.out
              clear hK K hHeld
              have hHeld := hH2
              clear hH2
              try simp only [Act.put]
              try simp only [List.setIfInBounds_toArray]
              try simp only [List.set_cons_succ, List.set_cons_zero]
              refine anyK_step (i := 12) (by kernel_rfl) rfl (fun K hK => ?_)
              go_simp
              refine hK.out _ _ ?_ (fun hH2 => ?_)
              · exact HK.out _ B6.out
              clear hK K hHeld
              have hHeld := hH2
              clear hH2
              try simp only [Act.put]
              try simp only [List.setIfInBounds_toArray]
              try simp only [List.set_cons_succ, List.set_cons_zero]
              refine anyK_done (by kernel_rfl) ?_ _
              have HB6 := hid (hBx.out.trans (B6.out.mono hBx.out.size))
              have HL6 := hid (hRL.out.below B6.out (Nat.le_refl _))
              have HK6 := hid (hRK.out.below B6.out (Nat.le_refl _))
              have HR6 := hid (hRB.out.below B6.out (Nat.le_refl _))
              clear HK CB hHeld
              go_wp2_with fail
              go_roundw
              case rel => exact ⟨j + 1, by omega, by go_num, HB6, HL6, HK6, HR6⟩
              case measure => simp [intOf]; omega
            · skip
              go_simp
              refine (CB.out _ B5.out a1 q1 RD1.out hn1).mono ?_
              rintro e w6 ⟨t2, rfl, o6, b6⟩
              obtain ⟨p2, d2, rfl, rp2, -⟩ := own_form o6 BZ.out
              have RP2 := hid rp2
              have RP1' := hid (RP1.out.below b6 (Nat.le_refl _))
              have B6 := hid (B5.out.trans (b6.mono B5.out.size))
              clear rp2 o6 b6
              go_wp2_with fail
              refine hK.out _ _ ?_ (fun hH2 => ?_)
              · exact HK.out _ B6.out
              clear hK K hHeld
              have hHeld := hH2
              clear hH2
              try simp only [Act.put]
              try simp only [List.setIfInBounds_toArray]
              try simp only [List.set_cons_succ, List.set_cons_zero]
              refine anyK_two (i := 5) (j := 11) (by kernel_rfl) rfl rfl (fun K hK => ?_) (fun K hK => ?_)
              · skip
                have cx := RP1'.out.str d1 22 Try.underlying22 Try.underlying5 Try.underlying9
                go_simp
                clear cx
                refine hK.out _ _ ?_ (fun hH2 => ?_)
                · exact HK.out _ B6.out
                clear hK K hHeld
                have hHeld := hH2
                clear hH2
                try simp only [Act.put]
                try simp only [List.setIfInBounds_toArray]
                try simp only [List.set_cons_succ, List.set_cons_zero]
                refine anyK_step (i := 11) (by kernel_rfl) rfl (fun K hK => ?_)
                have cx := RP2.out.str d2 22 Try.underlying22 Try.underlying5 Try.underlying9
                go_simp
                clear cx
                refine hK.out _ _ ?_ (fun hH2 => ?_)
                · exact HK.out _ B6.out
                clear hK K hHeld
                have hHeld := hH2
                clear hH2
                try simp only [Act.put]
                try simp only [List.setIfInBounds_toArray]
                try simp only [List.set_cons_succ, List.set_cons_zero]
                refine anyK_step (i := 12) (by kernel_rfl) rfl (fun K hK => ?_)
                go_simp
                refine hK.out _ _ ?_ (fun hH2 => ?_)
                · exact HK.out _ B6.out
                clear hK K hHeld
                have hHeld := hH2
                clear hH2
                try simp only [Act.put]
                try simp only [List.setIfInBounds_toArray]
                try simp only [List.set_cons_succ, List.set_cons_zero]
                refine anyK_done (by kernel_rfl) ?_ _
                have HB6 := hid (hBx.out.trans (B6.out.mono hBx.out.size))
                have HL6 := hid (hRL.out.below B6.out (Nat.le_refl _))
                have HK6 := hid (hRK.out.below B6.out (Nat.le_refl _))
                have HR6 := hid (hRB.out.below B6.out (Nat.le_refl _))
                clear HK CB hHeld
                go_wp2_with fail
                go_roundw
                case rel => exact ⟨j + 1, by omega, by go_num, HB6, HL6, HK6, HR6⟩
                case measure => simp [intOf]; omega
              · skip
                have cx := RP2.out.str d2 22 Try.underlying22 Try.underlying5 Try.underlying9
                go_simp
                clear cx
                refine hK.out _ _ ?_ (fun hH2 => ?_)
                · exact HK.out _ B6.out
                clear hK K hHeld
                have hHeld := hH2
                clear hH2
                try simp only [Act.put]
                try simp only [List.setIfInBounds_toArray]
                try simp only [List.set_cons_succ, List.set_cons_zero]
                refine anyK_step (i := 5) (by kernel_rfl) rfl (fun K hK => ?_)
                have cx := RP1'.out.str d1 22 Try.underlying22 Try.underlying5 Try.underlying9
                go_simp
                clear cx
                refine hK.out _ _ ?_ (fun hH2 => ?_)
                · exact HK.out _ B6.out
                clear hK K hHeld
                have hHeld := hH2
                clear hH2
                try simp only [Act.put]
                try simp only [List.setIfInBounds_toArray]
                try simp only [List.set_cons_succ, List.set_cons_zero]
                refine anyK_step (i := 12) (by kernel_rfl) rfl (fun K hK => ?_)
                go_simp
                refine hK.out _ _ ?_ (fun hH2 => ?_)
                · exact HK.out _ B6.out
                clear hK K hHeld
                have hHeld := hH2
                clear hH2
                try simp only [Act.put]
                try simp only [List.setIfInBounds_toArray]
                try simp only [List.set_cons_succ, List.set_cons_zero]
                refine anyK_done (by kernel_rfl) ?_ _
                have HB6 := hid (hBx.out.trans (B6.out.mono hBx.out.size))
                have HL6 := hid (hRL.out.below B6.out (Nat.le_refl _))
                have HK6 := hid (hRK.out.below B6.out (Nat.le_refl _))
                have HR6 := hid (hRB.out.below B6.out (Nat.le_refl _))
                clear HK CB hHeld
                go_wp2_with fail
                go_roundw
                case rel => exact ⟨j + 1, by omega, by go_num, HB6, HL6, HK6, HR6⟩
                case measure => simp [intOf]; omega
          · have hlt' : ¬ (j : Int) < (k : Int) := by omega
            by_cases hM0 : M = 0
            · subst hM0
              go_wp2_with fail
              have RC := hid (show Reads wr aB 0 ((bytesL rq).take 0) from hRB.out.take0 HM.out 0 (by omega))
              have hcc : 0 ≤ cB := by omega
              refine (impl_LogScan cB RC.out (by omega) hcc 7 (by omega) (by omega)).mono ?_
              rintro e w5 ⟨vs, rfl, o5, b5⟩
              obtain ⟨aX, cX, rfl, -⟩ := o5.reads
              have SCC := hid (SC.out 0)
              generalize scanL ((bytesL rq).take 0) 7 = sr at *
              obtain ⟨sl, sn⟩ := sr
              replace hBx := hid (hBx.out.trans (b5.mono hBx.out.size))
              replace hRL := hid (hRL.out.below b5 (Nat.le_refl _))
              replace hRB := hid (hRB.out.below b5 (Nat.le_refl _))
              clear o5 b5 RC SC hRK
              simp only at *
              obtain ⟨sN, hsN⟩ : ∃ s, sl.length = s := ⟨_, rfl⟩
              have HSN := hid hsN
              simp only [hsN]
              clear hsN
              go_wp2_with fail
              go_loopw [15, 16] (fun nn wh wr => ∃ m W : Nat, m ≤ k ∧ nn = .int .i64 m ∧ wh = .int .i64 W ∧ W ≤ 0 ∧ Hid ((bytesL (rq.take m)).length = W) ∧ Hid (Below w.heap.size w wr) ∧ Hid (ReadsR wr av rq) ∧ Hid (Reads wr aB 0 (bytesL rq))) (fun nn _ _ => k - (intOf nn).toNat)
              case atStart => exact ⟨0, 0, Nat.zero_le _, rfl, rfl, Nat.zero_le _, hid rfl, hBx, hRL, hRB⟩
              case round =>
                obtain ⟨m, W, hm, rfl, rfl, hWC, hW, hB2, hL2, hR2⟩ := hrel
                clear hBx hRL hRB
                by_cases hlt : m < k
                · have hlt' : (m : Int) < (k : Int) := by omega
                  have hj0 : (0 : Int) ≤ (m : Int) := by omega
                  have hjq : m < rq.length := by have := hq.out; omega
                  obtain ⟨bL, oL, eL, hcL⟩ : ∃ b off, av = some ⟨b, off, none⟩ ∧ ∀ i, i < rq.length → ∃ v, Cells6 wr b (off + i * 6) (rq.getD i r0) v ∧ Row wr v (rq.getD i r0).D := by
                    rcases hL2.out.cells with h0 | h0
                    · omega
                    · exact h0
                  subst eL
                  obtain ⟨v1, x1, r1⟩ := hcL m hjq
                  have bdj := BD.out (rq.getD m r0) (by rw [List.getD_eq_getElem?_getD, List.getElem?_eq_getElem hjq]; exact List.getElem_mem hjq)
                  have BZ := hid (bytesR_bd bdj)
                  have BJ := hid bdj
                  have hst := congrArg List.length (bytesL_step rq m hjq)
                  rw [List.length_append, hW.out] at hst
                  clear hcL bdj
                  generalize rq.getD m r0 = rj at *
                  obtain ⟨K0, L0, X0, P0, S0, D0⟩ := rj
                  obtain ⟨a1, q1, rfl, rd1, hn1, -⟩ := r1
                  simp only at *
                  have CB := hid (fun (Y : World) (b : Below wr.heap.size wr Y) => spec_RecordBytes K0 L0 X0 P0 S0 q1 (rd1.below b (Nat.le_refl _)) hn1)
                  have X1 := hid x1
                  have hbL : (bytesR ⟨K0, L0, X0, P0, S0, D0⟩).length ≤ 1007 := bytesR_length (r := ⟨K0, L0, X0, P0, S0, D0⟩) BJ.out
                  generalize bytesR ⟨K0, L0, X0, P0, S0, D0⟩ = zz at *
                  obtain ⟨e0, e1, e2, e3, e4, e5⟩ : wr.cell? ⟨bL, oL + m * 6, none⟩ = some (.int .i64 K0) ∧ wr.cell? ⟨bL, oL + m * 6 + 1, none⟩ = some (.int .i64 L0) ∧ wr.cell? ⟨bL, oL + m * 6 + 2, none⟩ = some (.int .i64 X0) ∧ wr.cell? ⟨bL, oL + m * 6 + 3, none⟩ = some (.int .i64 P0) ∧ wr.cell? ⟨bL, oL + m * 6 + 4, none⟩ = some (.int .i64 S0) ∧ wr.cell? ⟨bL, oL + m * 6 + 5, none⟩ = some (.slice a1 D0.length q1) := ⟨x1.c0, x1.c1, x1.c2, x1.c3, x1.c4, x1.c5⟩
                  clear x1
                  clear rd1
                  go_wp2_with fail
                  refine (CB.out wr (Below.refl _ _)).mono ?_
                  rintro e w6 ⟨t1, rfl, o6, b6⟩
                  obtain ⟨p1, d1, rfl, -, -⟩ := own_form o6 BZ.out
                  have B6 := hid b6
                  clear o6 b6 e0 e1 e2 e3 e4 e5
                  have HST := hid hst
                  clear hst
                  obtain ⟨zl, hzl⟩ : ∃ z, zz.length = z := ⟨_, rfl⟩
                  have HZL := hid hzl
                  rw [hzl] at hbL
                  simp only [hzl]
                  clear hzl
                  by_cases hfit : (W : Int) + (zl : Int) ≤ (0 : Int)
                  · have y1 := X1.out.below B6.out (Nat.le_refl _)
                    obtain ⟨e0, e1, e2, e3, e4, e5⟩ : w6.cell? ⟨bL, oL + m * 6, none⟩ = some (.int .i64 K0) ∧ w6.cell? ⟨bL, oL + m * 6 + 1, none⟩ = some (.int .i64 L0) ∧ w6.cell? ⟨bL, oL + m * 6 + 2, none⟩ = some (.int .i64 X0) ∧ w6.cell? ⟨bL, oL + m * 6 + 3, none⟩ = some (.int .i64 P0) ∧ w6.cell? ⟨bL, oL + m * 6 + 4, none⟩ = some (.int .i64 S0) ∧ w6.cell? ⟨bL, oL + m * 6 + 5, none⟩ = some (.slice a1 D0.length q1) := ⟨y1.c0, y1.c1, y1.c2, y1.c3, y1.c4, y1.c5⟩
                    clear y1
                    go_wp2_with fail
                    refine (CB.out w6 B6.out).mono ?_
                    rintro e w7 ⟨t2, rfl, o7, b7⟩
                    obtain ⟨p2, d2, rfl, -, -⟩ := own_form o7 BZ.out
                    have B7 := hid (B6.out.trans (b7.mono B6.out.size))
                    clear o7 b7 e0 e1 e2 e3 e4 e5 CB
                    have HB7 := hid (hB2.out.trans (B7.out.mono hB2.out.size))
                    have HL7 := hid (hL2.out.below B7.out (Nat.le_refl _))
                    have HR7 := hid (hR2.out.below B7.out (Nat.le_refl _))
                    simp only [HZL.out]
                    go_wp2_with fail
                    go_roundw
                    case rel => exact ⟨m + 1, W + zl, by omega, by go_num, by go_num, by omega, hid (by rw [HST.out, HZL.out]), HB7, HL7, HR7⟩
                    case measure => simp [intOf]; omega
                  · have HB7 := hid (hB2.out.trans (B6.out.mono hB2.out.size))
                    have HR7 := hid (hR2.out.below B6.out (Nat.le_refl _))
                    have hf := SCC.out m (by have := HM.out; omega) (by have := hq.out; omega) (by have := hW.out; omega) (.inr (by rw [HST.out, HZL.out]; omega))
                    obtain ⟨rfl, hf2⟩ := Prod.mk.inj hf
                    obtain rfl : m = sN := by have h1 := HSN.out; rw [List.length_take] at h1; have := hq.out; omega
                    obtain rfl : sn = (W : Int) := by rw [hf2, hW.out]
                    clear hf hf2 SCC HSN
                    go_wp2_with fail
                    refine (impl_LogScan cB HR7.out (by omega) (by omega) 8 (by omega) (by omega)).mono ?_
                    rintro e w9 ⟨vn, rfl, o9, b9⟩
                    rw [SO.out] at o9
                    rw [SO.out]
                    obtain ⟨aY, cY, rfl, -⟩ := o9.reads
                    have HB9 := hid (HB7.out.trans (b9.mono HB7.out.size))
                    clear o9 b9
                    go_wp2_with fail
                    go_ret
                    exact ⟨by simp, HB9.out⟩
                · have hlt' : ¬ (m : Int) < (k : Int) := by omega
                  have hf := SCC.out m (by have := HM.out; omega) (by have := hq.out; omega) (by have := hW.out; omega) (.inl (by have := hq.out; omega))
                  obtain ⟨rfl, hf2⟩ := Prod.mk.inj hf
                  obtain rfl : m = sN := by have h1 := HSN.out; rw [List.length_take] at h1; have := hq.out; omega
                  obtain rfl : sn = (W : Int) := by rw [hf2, hW.out]
                  clear hf hf2 SCC HSN
                  go_wp2_with fail
                  refine (impl_LogScan cB hR2.out (by omega) (by omega) 8 (by omega) (by omega)).mono ?_
                  rintro e w9 ⟨vn, rfl, o9, b9⟩
                  rw [SO.out] at o9
                  rw [SO.out]
                  obtain ⟨aY, cY, rfl, -⟩ := o9.reads
                  have HB9 := hid (hB2.out.trans (b9.mono hB2.out.size))
                  clear o9 b9
                  go_wp2_with fail
                  go_ret
                  exact ⟨by simp, HB9.out⟩
            · have hM1 : (0 : Int) < (M : Int) := by omega
              go_wp2_with fail
              refine (at_any cap (HR.out.below hBx.out (Nat.le_refl _)) (by omega) 0 (by omega) (by omega)).mono ?_
              rintro e w6 ⟨x, rfl, hx0, hx1, h6⟩
              obtain rfl := h6.symm
              go_wp2_with fail
              refine (at_any cap (HR.out.below hBx.out (Nat.le_refl _)) (by omega) 1 (by omega) (by omega)).mono ?_
              rintro e w7 ⟨y, rfl, hy0, hy1, h7'⟩
              obtain rfl := h7'.symm
              obtain ⟨C, hC, hCM⟩ : ∃ C : Nat, (x * 256 + y) % ((M : Int) + 1) = (C : Int) ∧ C ≤ M := ⟨((x * 256 + y) % ((M : Int) + 1)).toNat, by have := Int.emod_nonneg (x * 256 + y) (show (M : Int) + 1 ≠ 0 by omega); omega, by have := Int.emod_nonneg (x * 256 + y) (show (M : Int) + 1 ≠ 0 by omega); have := Int.emod_lt_of_pos (x * 256 + y) (show 0 < (M : Int) + 1 by omega); omega⟩
              have hCc : (C : Int) ≤ (cB : Int) := by omega
              have hMc : (M : Int) + 1 ≠ 0 := by omega
              clear h6 h7'
              go_wp2_with fail
              have RC := hid (show Reads wr aB C ((bytesL rq).take C) from hRB.out.take0 HM.out C (by omega))
              have hcc : C ≤ cB := by omega
              refine (impl_LogScan cB RC.out (by omega) hcc 7 (by omega) (by omega)).mono ?_
              rintro e w5 ⟨vs, rfl, o5, b5⟩
              obtain ⟨aX, cX, rfl, -⟩ := o5.reads
              have SCC := hid (SC.out C)
              generalize scanL ((bytesL rq).take C) 7 = sr at *
              obtain ⟨sl, sn⟩ := sr
              replace hBx := hid (hBx.out.trans (b5.mono hBx.out.size))
              replace hRL := hid (hRL.out.below b5 (Nat.le_refl _))
              replace hRB := hid (hRB.out.below b5 (Nat.le_refl _))
              clear o5 b5 RC SC hRK
              simp only at *
              obtain ⟨sN, hsN⟩ : ∃ s, sl.length = s := ⟨_, rfl⟩
              have HSN := hid hsN
              simp only [hsN]
              clear hsN
              go_wp2_with fail
              go_loopw [15, 16] (fun nn wh wr => ∃ m W : Nat, m ≤ k ∧ nn = .int .i64 m ∧ wh = .int .i64 W ∧ W ≤ C ∧ Hid ((bytesL (rq.take m)).length = W) ∧ Hid (Below w.heap.size w wr) ∧ Hid (ReadsR wr av rq) ∧ Hid (Reads wr aB M (bytesL rq))) (fun nn _ _ => k - (intOf nn).toNat)
              case atStart => exact ⟨0, 0, Nat.zero_le _, rfl, rfl, Nat.zero_le _, hid rfl, hBx, hRL, hRB⟩
              case round =>
                obtain ⟨m, W, hm, rfl, rfl, hWC, hW, hB2, hL2, hR2⟩ := hrel
                clear hBx hRL hRB
                by_cases hlt : m < k
                · have hlt' : (m : Int) < (k : Int) := by omega
                  have hj0 : (0 : Int) ≤ (m : Int) := by omega
                  have hjq : m < rq.length := by have := hq.out; omega
                  obtain ⟨bL, oL, eL, hcL⟩ : ∃ b off, av = some ⟨b, off, none⟩ ∧ ∀ i, i < rq.length → ∃ v, Cells6 wr b (off + i * 6) (rq.getD i r0) v ∧ Row wr v (rq.getD i r0).D := by
                    rcases hL2.out.cells with h0 | h0
                    · omega
                    · exact h0
                  subst eL
                  obtain ⟨v1, x1, r1⟩ := hcL m hjq
                  have bdj := BD.out (rq.getD m r0) (by rw [List.getD_eq_getElem?_getD, List.getElem?_eq_getElem hjq]; exact List.getElem_mem hjq)
                  have BZ := hid (bytesR_bd bdj)
                  have BJ := hid bdj
                  have hst := congrArg List.length (bytesL_step rq m hjq)
                  rw [List.length_append, hW.out] at hst
                  clear hcL bdj
                  generalize rq.getD m r0 = rj at *
                  obtain ⟨K0, L0, X0, P0, S0, D0⟩ := rj
                  obtain ⟨a1, q1, rfl, rd1, hn1, -⟩ := r1
                  simp only at *
                  have CB := hid (fun (Y : World) (b : Below wr.heap.size wr Y) => spec_RecordBytes K0 L0 X0 P0 S0 q1 (rd1.below b (Nat.le_refl _)) hn1)
                  have X1 := hid x1
                  have hbL : (bytesR ⟨K0, L0, X0, P0, S0, D0⟩).length ≤ 1007 := bytesR_length (r := ⟨K0, L0, X0, P0, S0, D0⟩) BJ.out
                  generalize bytesR ⟨K0, L0, X0, P0, S0, D0⟩ = zz at *
                  obtain ⟨e0, e1, e2, e3, e4, e5⟩ : wr.cell? ⟨bL, oL + m * 6, none⟩ = some (.int .i64 K0) ∧ wr.cell? ⟨bL, oL + m * 6 + 1, none⟩ = some (.int .i64 L0) ∧ wr.cell? ⟨bL, oL + m * 6 + 2, none⟩ = some (.int .i64 X0) ∧ wr.cell? ⟨bL, oL + m * 6 + 3, none⟩ = some (.int .i64 P0) ∧ wr.cell? ⟨bL, oL + m * 6 + 4, none⟩ = some (.int .i64 S0) ∧ wr.cell? ⟨bL, oL + m * 6 + 5, none⟩ = some (.slice a1 D0.length q1) := ⟨x1.c0, x1.c1, x1.c2, x1.c3, x1.c4, x1.c5⟩
                  clear x1
                  clear rd1
                  go_wp2_with fail
                  refine (CB.out wr (Below.refl _ _)).mono ?_
                  rintro e w6 ⟨t1, rfl, o6, b6⟩
                  obtain ⟨p1, d1, rfl, -, -⟩ := own_form o6 BZ.out
                  have B6 := hid b6
                  clear o6 b6 e0 e1 e2 e3 e4 e5
                  have HST := hid hst
                  clear hst
                  obtain ⟨zl, hzl⟩ : ∃ z, zz.length = z := ⟨_, rfl⟩
                  have HZL := hid hzl
                  rw [hzl] at hbL
                  simp only [hzl]
                  clear hzl
                  by_cases hfit : (W : Int) + (zl : Int) ≤ (C : Int)
                  · have y1 := X1.out.below B6.out (Nat.le_refl _)
                    obtain ⟨e0, e1, e2, e3, e4, e5⟩ : w6.cell? ⟨bL, oL + m * 6, none⟩ = some (.int .i64 K0) ∧ w6.cell? ⟨bL, oL + m * 6 + 1, none⟩ = some (.int .i64 L0) ∧ w6.cell? ⟨bL, oL + m * 6 + 2, none⟩ = some (.int .i64 X0) ∧ w6.cell? ⟨bL, oL + m * 6 + 3, none⟩ = some (.int .i64 P0) ∧ w6.cell? ⟨bL, oL + m * 6 + 4, none⟩ = some (.int .i64 S0) ∧ w6.cell? ⟨bL, oL + m * 6 + 5, none⟩ = some (.slice a1 D0.length q1) := ⟨y1.c0, y1.c1, y1.c2, y1.c3, y1.c4, y1.c5⟩
                    clear y1
                    go_wp2_with fail
                    refine (CB.out w6 B6.out).mono ?_
                    rintro e w7 ⟨t2, rfl, o7, b7⟩
                    obtain ⟨p2, d2, rfl, -, -⟩ := own_form o7 BZ.out
                    have B7 := hid (B6.out.trans (b7.mono B6.out.size))
                    clear o7 b7 e0 e1 e2 e3 e4 e5 CB
                    have HB7 := hid (hB2.out.trans (B7.out.mono hB2.out.size))
                    have HL7 := hid (hL2.out.below B7.out (Nat.le_refl _))
                    have HR7 := hid (hR2.out.below B7.out (Nat.le_refl _))
                    simp only [HZL.out]
                    go_wp2_with fail
                    go_roundw
                    case rel => exact ⟨m + 1, W + zl, by omega, by go_num, by go_num, by omega, hid (by rw [HST.out, HZL.out]), HB7, HL7, HR7⟩
                    case measure => simp [intOf]; omega
                  · have HB7 := hid (hB2.out.trans (B6.out.mono hB2.out.size))
                    have HR7 := hid (hR2.out.below B6.out (Nat.le_refl _))
                    have hf := SCC.out m (by have := HM.out; omega) (by have := hq.out; omega) (by have := hW.out; omega) (.inr (by rw [HST.out, HZL.out]; omega))
                    obtain ⟨rfl, hf2⟩ := Prod.mk.inj hf
                    obtain rfl : m = sN := by have h1 := HSN.out; rw [List.length_take] at h1; have := hq.out; omega
                    obtain rfl : sn = (W : Int) := by rw [hf2, hW.out]
                    clear hf hf2 SCC HSN
                    go_wp2_with fail
                    refine (impl_LogScan cB HR7.out (by omega) (by omega) 8 (by omega) (by omega)).mono ?_
                    rintro e w9 ⟨vn, rfl, o9, b9⟩
                    rw [SO.out] at o9
                    rw [SO.out]
                    obtain ⟨aY, cY, rfl, -⟩ := o9.reads
                    have HB9 := hid (HB7.out.trans (b9.mono HB7.out.size))
                    clear o9 b9
                    go_wp2_with fail
                    go_ret
                    exact ⟨by simp, HB9.out⟩
                · have hlt' : ¬ (m : Int) < (k : Int) := by omega
                  have hf := SCC.out m (by have := HM.out; omega) (by have := hq.out; omega) (by have := hW.out; omega) (.inl (by have := hq.out; omega))
                  obtain ⟨rfl, hf2⟩ := Prod.mk.inj hf
                  obtain rfl : m = sN := by have h1 := HSN.out; rw [List.length_take] at h1; have := hq.out; omega
                  obtain rfl : sn = (W : Int) := by rw [hf2, hW.out]
                  clear hf hf2 SCC HSN
                  go_wp2_with fail
                  refine (impl_LogScan cB hR2.out (by omega) (by omega) 8 (by omega) (by omega)).mono ?_
                  rintro e w9 ⟨vn, rfl, o9, b9⟩
                  rw [SO.out] at o9
                  rw [SO.out]
                  obtain ⟨aY, cY, rfl, -⟩ := o9.reads
                  have HB9 := hid (hB2.out.trans (b9.mono hB2.out.size))
                  clear o9 b9
                  go_wp2_with fail
                  go_ret
                  exact ⟨by simp, HB9.out⟩
end Go.Proofs.Ytgdnjpdheghfoaa
