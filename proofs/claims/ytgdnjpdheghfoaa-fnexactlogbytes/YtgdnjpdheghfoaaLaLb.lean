/- FnExactLogBytes' walk. -/
import Derived.Test.YtgdnjpdheghfoaaLbi
import Derived.Test.YtgdnjpdheghfoaaLbs
import Derived.Test.YtgdnjpdheghfoaaLst
import Derived.Test.YtgdnjpdheghfoaaRts
namespace Go.Proofs.Ytgdnjpdheghfoaa
open Go.RowKit
set_option maxRecDepth 100000

theorem markR' {lo hi n c : Nat} {a : Option Addr} {rs : List Rc} {w : World} (k : Int) (h : Lst w lo hi (.slice a n c) rs) (hl : rs.length = n) (hn : n ≤ 2097152) (ht : tr rs ≤ 20971520) (hk0 : 0 ≤ k) (hk1 : k ≤ 500000000) (hb : ∀ i, (rs.getD i r0).D.length ≤ 2097152) :
    Calls Try.prog 38 #[.slice a n c, .int .i64 k] w fun e w' => e = .returned (.int .i64 (k + tr rs)) ∧ Within lo hi w w' := by
  obtain ⟨ys, hy, hB, o⟩ := h.own.own
  rw [hl] at o
  refine (markRecordS k hl (by omega) hn ht hk0 hk1 hb o hB h.own.top).mono ?_
  rintro e w' ⟨rfl, _, _, hw⟩
  exact ⟨rfl, hw⟩
theorem Within.reads {lo hi : Nat} {w w' : World} (h : Within lo hi w w') {ad : Option Addr} {n a b : Nat} {zs : List Int} (r : Reads w ad n zs) (i : In ad a b) (ho : b ≤ lo ∨ hi ≤ a) : Reads w' ad n zs := by
  refine ⟨r.len, ?_, r.bd⟩
  rcases r.cells with h0 | ⟨g, off, rfl, hc⟩
  · exact .inl h0
  · refine .inr ⟨g, off, rfl, fun j hj => ?_⟩
    rcases i with e | ⟨g', e, h1, h2⟩
    · cases e
    · cases e
      have hc' := hc j hj
      have hl := World.block_lt_of_cell? w _ hc'
      exact (World.cell?_of_block (w := w) (a := ⟨g, 0 + j, none⟩) (h.block g hl (by omega))).trans hc'
theorem Within.owns {lo hi : Nat} {w w' : World} (h : Within lo hi w w') {base n : Nat} {ad : Option Addr} {c a b : Nat} {xs : List Value} (o : w.ownsRow base 5 1 (.slice ad n c) n xs) (i : In ad a b) (hb : b ≤ w.heap.size) (ho : b ≤ lo ∨ hi ≤ a) : w'.ownsRow base 5 1 (.slice ad n c) n xs :=
  owns_agree o (h.agree hb ho) (fun g hg => i.ge g hg)

set_option maxHeartbeats 12800000 in
theorem exactLogBytes {ad : Option Addr} {n : Nat} (cap : Nat) {rs : List Rc} {w : World} (h : ReadsR w ad rs) (hl : rs.length = n) (hm : n ≤ maxLen) :
    Calls Try.prog 9 #[.slice ad n cap] w fun e w' => e = .returned (.bool true) ∧ Below w.heap.size w w' := by
  unfold maxLen at hm
  have H0 := hid h
  have HN := hid hl
  have HW := hid (Below.refl w.heap.size w)
  clear h hl
  go_enter Try.func9, Try.ntmps9
  go_wp2_with fail
  refine (szRecordS cap H0.out HN.out (by omega) 1048576 (by omega) (by omega)).mono ?_
  rintro e w0 ⟨rfl, b⟩
  replace HW := hid (HW.out.trans (b.mono HW.out.size))
  clear b
  by_cases hbig : (1048576 : Int) < ((n + tot (rs.map (·.D)) : Nat) : Int)
  · rw [show lft 1048576 (n + tot (rs.map (·.D))) = -1 by unfold lft; rw [if_pos hbig]]
    go_wp2_with fail
    go_ret
    exact ⟨rfl, HW.out⟩
  obtain ⟨LF, hLF⟩ : ∃ L : Int, (1048576 : Int) - ((n + tot (rs.map (·.D)) : Nat) : Int) = L := ⟨_, rfl⟩
  rw [show lft 1048576 (n + tot (rs.map (·.D))) = LF by unfold lft; rw [if_neg hbig, hLF]]
  have hq : ¬ LF < 0 := by omega
  have hn : n ≤ 1048576 := by omega
  have R3 := hid (fun i => show (rs.getD i r0).D.length ≤ 2097152 by have := tot_at (rs.map (·.D)) i; rw [mapD_getD] at this; omega)
  have R1 := hid (show tr rs ≤ 20971520 by unfold tr; rw [HN.out]; omega)
  obtain ⟨T, hT⟩ : ∃ m, tr rs = m := ⟨_, rfl⟩
  have HT := hid hT
  have hTb : T ≤ 20971520 := by have := R1.out; omega
  have fs := fun (W : World) (x c : Nat) (hr : ReadsR W (some ⟨x, 0, none⟩) rs) => spec_LogBytes c hr HN.out (show n ≤ 2097152 by omega)
  have fi := fun (W : World) (x c : Nat) (hr : ReadsR W (some ⟨x, 0, none⟩) rs) => impl_LogBytes c hr HN.out (show n ≤ 2097152 by omega)
  have hbd : bdL (logB rs).1 := by
    unfold logB
    split
    · refine bytesL_bd (fun r hr => ?_)
      obtain ⟨i, hi, rfl⟩ := List.getElem_of_mem hr
      rcases H0.out.cells with h0 | ⟨b, off, _, hc⟩
      · omega
      obtain ⟨v, _, a, c, _, hrr, _⟩ := hc i hi
      have := hrr.bd
      rw [show rs.getD i r0 = rs[i] by simp [List.getD, hi]] at this
      exact this
    · intro i; simp
  have hbl : (logB rs).1.length ≤ 65536 := by
    unfold logB
    split
    · rename_i hh; exact hh.2
    · simp
  generalize logB rs = RES at *
  obtain ⟨Z, ok⟩ := RES
  simp only at fs fi hbd hbl
  obtain ⟨N, hN⟩ : ∃ m, Z.length = m := ⟨_, rfl⟩
  rw [hN] at fs fi hbl
  have FS := hid fs
  have FI := hid fi
  have HBD := hid hbd
  have q1 : (ok != ok) = false := by cases ok <;> rfl
  clear fs fi hbd hN hT hbig hLF
  go_wp2_with fail
  clear hq
  refine (toRecordS cap (H0.out.below HW.out (Nat.le_refl _)) HN.out (by omega) R3.out).mono ?_
  rintro e w1 ⟨cP1, rfl, o, b⟩
  have P1 := hid (Lst.mk o (Nat.le_refl _))
  clear o
  replace HW := hid (HW.out.trans (b.mono HW.out.size))
  have ZP1 := hid (And.intro HW.out.size b.size)
  clear b
  go_wp2_with fail
  refine (FS.out _ _ _ P1.out.rd).mono ?_
  rintro e w2 ⟨v, rfl, o, b⟩
  obtain ⟨aw, kw, rfl, r, dd, _⟩ := Reads.place o HBD.out
  have Qw := hid r
  have Dw := hid dd
  clear o r dd
  replace P1 := hid (P1.out.below b (Nat.le_refl _))
  replace HW := hid (HW.out.trans (b.mono HW.out.size))
  have Zw := hid (And.intro HW.out.size b.size)
  clear b
  clear P1
  go_wp2_with fail
  refine (toRecordS cap (H0.out.below HW.out (Nat.le_refl _)) HN.out (by omega) R3.out).mono ?_
  rintro e w3 ⟨cP2, rfl, o, b⟩
  have P2 := hid (Lst.mk o (Nat.le_refl _))
  clear o
  replace Qw := hid (Qw.out.below b (Nat.le_refl _))
  replace HW := hid (HW.out.trans (b.mono HW.out.size))
  have ZP2 := hid (And.intro HW.out.size b.size)
  clear b
  go_wp2_with fail
  refine (FI.out _ _ _ P2.out.rd).mono ?_
  rintro e w4 ⟨v, rfl, o, b⟩
  obtain ⟨ag, kg, rfl, r, dd, _⟩ := Reads.place o HBD.out
  have Qg := hid r
  have Dg := hid dd
  have Og := hid o
  clear o r dd
  replace Qw := hid (Qw.out.below b (Nat.le_refl _))
  replace P2 := hid (P2.out.below b (Nat.le_refl _))
  replace HW := hid (HW.out.trans (b.mono HW.out.size))
  have Zg := hid (And.intro HW.out.size b.size)
  clear b
  have ZG := hid (Nat.le_refl w4.heap.size)
  go_wp2_with fail
  refine (eqByteS_any kg kw Qg.out Qw.out (by omega)).mono ?_
  rintro e w5 ⟨rfl, s⟩
  have b := s.below w4.heap.size
  replace Qw := hid (Qw.out.below b (Nat.le_refl _))
  replace P2 := hid (P2.out.below b (Nat.le_refl _))
  replace Qg := hid (Qg.out.below b (Nat.le_refl _))
  replace Og := hid (owns_below b (Nat.le_refl _) Og.out)
  replace ZG := hid (Nat.le_trans ZG.out b.size)
  replace HW := hid (HW.out.trans (b.mono HW.out.size))
  clear b s
  go_wp2_with fail
  refine (toRecordS cap (H0.out.below HW.out (Nat.le_refl _)) HN.out (by omega) R3.out).mono ?_
  rintro e w6 ⟨cP3, rfl, o, b⟩
  have P3 := hid (Lst.mk o (Nat.le_refl _))
  clear o
  replace Qw := hid (Qw.out.below b (Nat.le_refl _))
  replace P2 := hid (P2.out.below b (Nat.le_refl _))
  replace Qg := hid (Qg.out.below b (Nat.le_refl _))
  replace Og := hid (owns_below b (Nat.le_refl _) Og.out)
  replace ZG := hid (Nat.le_trans ZG.out b.size)
  replace HW := hid (HW.out.trans (b.mono HW.out.size))
  have ZP3 := hid (And.intro HW.out.size b.size)
  clear b
  go_wp2_with fail
  refine (eqRecordS cP2 cP3 P2.out.rd P3.out.rd HN.out (by omega) R3.out).mono ?_
  rintro e w7 ⟨rfl, b⟩
  replace Qw := hid (Qw.out.below b (Nat.le_refl _))
  replace P2 := hid (P2.out.below b (Nat.le_refl _))
  replace Qg := hid (Qg.out.below b (Nat.le_refl _))
  replace Og := hid (owns_below b (Nat.le_refl _) Og.out)
  replace ZG := hid (Nat.le_trans ZG.out b.size)
  replace P3 := hid (P3.out.below b (Nat.le_refl _))
  replace HW := hid (HW.out.trans (b.mono HW.out.size))
  clear b
  clear P3
  go_wp2_with fail
  refine (markR' 1 P2.out HN.out (by omega) R1.out (by omega) (by omega) R3.out).mono ?_
  rintro e w8 ⟨rfl, ww⟩
  rw [HT.out]
  have z1 := Zw.out
  have z2 := ZP2.out
  have z4 := Zg.out
  have z5 := P2.out.le
  have ze := HW.out.size
  replace Og := hid (ww.owns Og.out Dg.out ZG.out (.inr (by omega)))
  replace Qw := hid (ww.reads Qw.out Dw.out (.inl (by omega)))
  replace Qg := hid (ww.reads Qg.out Dg.out (.inr (by omega)))
  have bb := ww.below (by omega)
  replace HW := hid (HW.out.trans (bb.mono (by omega)))
  have hT0 : 0 ≤ (T : Int) := by omega
  clear ww bb z1 z2 z4 z5 ze P2
  go_wp2_with fail
  refine (eqByteS_any kg kw Qg.out Qw.out (by omega)).mono ?_
  rintro e w9 ⟨rfl, s⟩
  have b := s.below w8.heap.size
  replace Qw := hid (Qw.out.below b (Nat.le_refl _))
  replace Qg := hid (Qg.out.below b (Nat.le_refl _))
  replace Og := hid (owns_below b (Nat.le_refl _) Og.out)
  replace HW := hid (HW.out.trans (b.mono HW.out.size))
  clear b s
  go_wp2_with fail
  refine (markByteS_any 1 (by omega) (by omega) (by omega) Og.out).mono ?_
  rintro e w10 ⟨rfl, o, g9⟩
  have z1 := Zw.out
  have z2 := ZP2.out
  have z4 := Zg.out
  obtain ⟨_, _, e1, r, _⟩ := Reads.own o (marks_bd 1 N)
  obtain ⟨rfl, _, rfl⟩ := Value.slice.inj e1
  have HM := hid r
  replace Qw := hid (Qw.out.other g9 (Dw.out.ne Dg.out (.inl (by omega))))
  replace HW := hid (HW.out.grown g9 HW.out.size (fun k hk => by have := Dg.out.ge k hk; omega))
  have hN0 : 0 ≤ (N : Int) := by omega
  clear o e1 r g9 z1 z2 z4 Og Qg
  go_wp2_with fail
  refine (heldByteS_any kg 1 HM.out (by omega) (by omega) (by omega)).mono ?_
  rintro e w11 ⟨rfl, rfl⟩
  go_wp2_with fail
  refine (toRecordS cap (H0.out.below HW.out (Nat.le_refl _)) HN.out (by omega) R3.out).mono ?_
  rintro e w12 ⟨cP4, rfl, o, b⟩
  have P4 := hid (Lst.mk o (Nat.le_refl _))
  clear o
  replace Qw := hid (Qw.out.below b (Nat.le_refl _))
  replace HM := hid (HM.out.below b (Nat.le_refl _))
  replace HW := hid (HW.out.trans (b.mono HW.out.size))
  have ZP4 := hid (And.intro HW.out.size b.size)
  clear b
  go_wp2_with fail
  refine (FI.out _ _ _ P4.out.rd).mono ?_
  rintro e w13 ⟨v, rfl, o, b⟩
  obtain ⟨ah, kh, rfl, r, dd, _⟩ := Reads.place o HBD.out
  have Qh := hid r
  have Dh := hid dd
  clear o r dd
  replace Qw := hid (Qw.out.below b (Nat.le_refl _))
  replace HM := hid (HM.out.below b (Nat.le_refl _))
  replace P4 := hid (P4.out.below b (Nat.le_refl _))
  replace HW := hid (HW.out.trans (b.mono HW.out.size))
  have Zh := hid (And.intro HW.out.size b.size)
  clear b
  go_wp2_with fail
  refine (eqByteS_any kh kw Qh.out Qw.out (by omega)).mono ?_
  rintro e w14 ⟨rfl, s⟩
  have b := s.below w13.heap.size
  replace Qw := hid (Qw.out.below b (Nat.le_refl _))
  replace HM := hid (HM.out.below b (Nat.le_refl _))
  replace P4 := hid (P4.out.below b (Nat.le_refl _))
  replace Qh := hid (Qh.out.below b (Nat.le_refl _))
  replace HW := hid (HW.out.trans (b.mono HW.out.size))
  clear b s
  go_wp2_with fail
  refine (heldByteS_any kg 1 HM.out (by omega) (by omega) (by omega)).mono ?_
  rintro e w15 ⟨rfl, rfl⟩
  go_wp2_with fail
  go_ret
  exact ⟨rfl, HW.out⟩
end Go.Proofs.Ytgdnjpdheghfoaa
