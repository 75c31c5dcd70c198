/- The contract of the program's LogScan. Conditions: at most 2^20 bytes, a number of 64 bits. -/
import Derived.Test.YtgdnjpdheghfoaaRsc
import Derived.Test.YtgdnjpdheghfoaaRai
import Derived.Deep.AppendLies
import Derived.WalkMore
namespace Go.Proofs.Ytgdnjpdheghfoaa
open Go.RowKit
set_option maxRecDepth 100000

set_option maxHeartbeats 12800000 in
theorem impl_LogScan {ad : Option Addr} {n : Nat} (cap : Nat) {zs : List Int} {w : World} (h : Reads w ad n zs) (hn : n ≤ 2097152) (hcap : n ≤ cap) (lsn : Int) (h1 : -9223372036854775808 ≤ lsn) (h2 : lsn ≤ 9223372036854775807) :
    Calls Try.prog 19 #[.slice ad n cap, .int .i64 lsn] w fun e w' => ∃ v, e = .returned (.tuple #[v, .int .i64 (scanL zs lsn).2]) ∧ OwnR w' w.heap.size w'.heap.size v (scanL zs lsn).1 ∧ Below w.heap.size w w' := by
  obtain ⟨i0, hi, hz0, hz1, hz2⟩ := info_parts Try.infoRc
  have hln := h.len
  have H0 := hid h
  have Hbd := hid h.bd
  clear h
  have HL := hid (show scanL zs lsn = scanF zs (n + 1) 0 lsn by unfold scanL; rw [hln])
  generalize scanL zs lsn = RES at *
  go_enter Try.func19, Try.ntmps19
  go_wp2
  go_step3
  go_wp2
  go_step3
  go_wp2
  go_loopw [1, 6, 7] (fun l v a wr => ∃ (k : Nat) (A ls : Int) (va : Option Addr) (vc : Nat) (acc : List Rc), l = .int .i64 ls ∧ v = .slice va k vc ∧ a = .int .i64 A ∧ acc.length = k ∧ (k : Int) ≤ A ∧ A ≤ n ∧ -9223372036854775808 ≤ ls ∧ ls ≤ 9223372036854775807 ∧ Hid (RES = (acc ++ (scanF zs (n + 1 - k) A ls).1, (scanF zs (n + 1 - k) A ls).2)) ∧ Hid (OwnR wr w.heap.size wr.heap.size (.slice va k vc) acc) ∧ Hid (Below w.heap.size w wr)) (fun _ _ a _ => n - (intOf a).toNat)
  case atStart => exact ⟨0, 0, lsn, none, 0, [], rfl, rfl, rfl, rfl, by omega, by omega, h1, h2, hid (by rw [HL.out]; rfl), hid (OwnR.nil _ _ _), hid (Below.refl _ _)⟩
  case round =>
    obtain ⟨k, A, ls, va, vc, acc, rfl, rfl, rfl, hk, hkA, hAn, hl1, hl2, HS, HO, HB⟩ := hrel
    have hr := ra_r_bd Hbd.out A
    have hrl := ra_r_len zs A
    have hrn := ra_n_bd Hbd.out A
    have hrp := fun e => @ra_pos zs A e Hbd.out
    have st := @scan_step zs (n - k) A ls
    have so := @scan_stop zs (n + 1 - k) A ls
    have f1 := impl_RecordAt cap (H0.out.below HB.out (Nat.le_refl _)) hn hcap A (by omega) (by omega)
    generalize raOf zs A = RA0 at *
    obtain ⟨⟨K, L, X, P, S, Dt⟩, NX, CD⟩ := RA0
    simp only at hr hrl hrn hrp st so f1
    obtain ⟨m3, hm3⟩ : ∃ m, Dt.length = m := ⟨_, rfl⟩
    rw [hm3] at f1 hrl
    have HF := hid f1
    clear f1
    go_wp2_with fail
    refine HF.out.mono ?_
    rintro e w1 ⟨v3, rfl, o, b⟩
    obtain ⟨a3, c3, rfl⟩ := own_slice o
    have bU := b.trans ((two w1 (.cells #[.int .i64 K, .int .i64 L, .int .i64 X, .int .i64 P, .int .i64 S, .slice a3 m3 c3] 36) (.cells #[.int .i64 K, .int .i64 L, .int .i64 X, .int .i64 P, .int .i64 S, .slice a3 m3 c3] 36)).mono b.size)
    obtain ⟨ys, hy, hB, ho⟩ := HO.out.own
    rw [hk] at ho
    have P1 := hid (owns_below bU (Nat.le_refl _) ho)
    have P2 := hid (hB.agree (Agree.below bU (Nat.le_refl _)))
    have P3 := hid (owns_below (two w1 (.cells #[.int .i64 K, .int .i64 L, .int .i64 X, .int .i64 P, .int .i64 S, .slice a3 m3 c3] 36) (.cells #[.int .i64 K, .int .i64 L, .int .i64 X, .int .i64 P, .int .i64 S, .slice a3 m3 c3] 36)) (Nat.le_refl _) o)
    have P4 := hid (HB.out.trans (bU.mono HB.out.size))
    have P5 := hid (And.intro HB.out.size bU.size)
    have bV := b.trans ((Below.alloc1 w1 (.cells #[.int .i64 K, .int .i64 L, .int .i64 X, .int .i64 P, .int .i64 S, .slice a3 m3 c3] 36)).mono b.size)
    have P6 := hid (HO.out.below bV (Nat.le_refl _))
    have P7 := hid (HB.out.trans (bV.mono HB.out.size))
    have P8 := hid b.size
    have HY := hid (And.intro hy (And.intro hr hm3))
    clear b bU bV o ho hB hr hm3 hy HF HO HB
    by_cases hc : CD = 0 ∧ L = ls
    · obtain ⟨rfl, rfl⟩ := hc
      have hst := st ⟨rfl, rfl⟩
      obtain ⟨p1, p2, p3, p4, p5⟩ := hrp rfl
      have p6 := (okRn_bd p5).2.1
      simp only at p6
      have HST := hid hst
      have qc : ((0 : Int) == 0) = true := rfl
      have ql : (L == L) = true := by simp
      clear st so hst hrp p5
      have hwr : L + 1 ≤ 9223372036854775807 := by omega
      go_wp2_with (at_builtin; refine wpList_append_own _ rfl _ _ 33 rfl w.heap.size 36 i0 (.agg #[.int .i64 0, .int .i64 0, .int .i64 0, .int .i64 0, .int .i64 0, .slice none 0 0]) 6 64 Try.underlying33 hi hz0 hz1 hz2 rfl (by decide) _ _ _ rfl P1.out ⟨w1.heap.size + 1, 0, none⟩ 1 1 [.int .i64 K, .int .i64 L, .int .i64 X, .int .i64 P, .int .i64 S, .slice a3 m3 c3] rfl rfl ?d2 (by simp [Value.oneCell']) ?d3 ?d4 P4.out.size ?_)
      case d2 =>
        have := World.news_of_block (heap_alloc_new (w1.alloc (.cells #[.int .i64 K, .int .i64 L, .int .i64 X, .int .i64 P, .int .i64 S, .slice a3 m3 c3] 36)) (.cells #[.int .i64 K, .int .i64 L, .int .i64 X, .int .i64 P, .int .i64 S, .slice a3 m3 c3] 36))
        rwa [alloc_size] at this
      case d3 => unfold maxLen; omega
      case d4 => omega
      intro v' w4 o4 g4 _
      obtain ⟨a4, c4, rfl⟩ := own_slice o4
      have N1 := hid (OwnR.push HY.out.1 P2.out P5.out.1 P5.out.2 P1.out (owns_base P3.out (Nat.le_refl _)) HY.out.2.1 HY.out.2.2 hk o4 g4)
      have N2 := hid (P4.out.grown g4 P4.out.size (fun j hj => (P1.out.lt j hj).1))
      have N3 := hid (BoxR.new w1 K L X P S a3 m3 c3 36)
      have N4 := hid (((N3.out.below (Below.alloc1 _ (.cells #[.int .i64 K, .int .i64 L, .int .i64 X, .int .i64 P, .int .i64 S, .slice a3 m3 c3] 36)) (Nat.le_refl _))).other g4 (by intro e; have := P6.out.top _ e.symm; have := P8.out; omega))
      clear o4 g4
      obtain ⟨c0, c1, c2, c3', c4', c5⟩ := N4.out
      go_wp2_with fail
      go_roundw
      case rel => exact ⟨k + 1, NX, L + 1, a4, c4, acc ++ [⟨K, L, X, P, S, Dt⟩], rfl, rfl, rfl, by simp [hk], by omega, by omega, by omega, by omega, hid (by rw [HS.out, show n + 1 - k = n - k + 1 by omega, HST.out, show n + 1 - (k + 1) = n - k by omega]; simp), N1, N2⟩
      case measure => simp [intOf]; omega
    · have HSO := hid (so hc)
      clear st so hrp
      by_cases hc0 : CD = 0
      · have hL : ¬ L = ls := fun e => hc ⟨hc0, e⟩
        have q1 : (CD == 0) = true := by simp [hc0]
        have q2 : (L == ls) = false := by simp [hL]
        clear hc hc0 hL
        go_wp2_with fail
        try rw [Exit.noGoto_ret]
        refine bodyPost_ret (v := .tuple #[.slice va k vc, .int .i64 A]) (by simp [results, Try.results19, go_sem]) rfl ⟨.slice va k vc, ?_, ?_, P7.out⟩
        · rw [HS.out, HSO.out]
        · rw [HS.out, HSO.out, List.append_nil]
          exact P6.out.mono (Nat.le_refl _) (Nat.le_trans P8.out (Below.alloc1 w1 _).size)
      · have q1 : (CD == 0) = false := by simp [hc0]
        clear hc hc0
        go_wp2_with fail
        try rw [Exit.noGoto_ret]
        refine bodyPost_ret (v := .tuple #[.slice va k vc, .int .i64 A]) (by simp [results, Try.results19, go_sem]) rfl ⟨.slice va k vc, ?_, ?_, P7.out⟩
        · rw [HS.out, HSO.out]
        · rw [HS.out, HSO.out, List.append_nil]
          exact P6.out.mono (Nat.le_refl _) (Nat.le_trans P8.out (Below.alloc1 w1 _).size)
end Go.Proofs.Ytgdnjpdheghfoaa
