/- FnRings' walk, the program's contracts being given. Conditions: none but what the argument's type says. -/
import Derived.Test.YtknloabdfkidiaaWf12
import Derived.Test.YtknloabdfkidiaaWd12
import Derived.Test.YtknloabdfkidiaaHelp
import Derived.Test.YtknloabdfkidiaaSa8
namespace Go.Proofs.Ytknloabdfkidiaa
open Go.RowKit
set_option maxRecDepth 100000

theorem law_big12 (ad : Option Addr) (n cap : Nat) (w : World) :
    Calls Try.prog 9 #[.slice ad n cap] w fun e w' => e = .returned (.bool (decide ((1048576 : Int) < (n : Int)))) ∧ w' = w := by
  go_enter Try.func9, Try.ntmps9
  go_wp2
  go_ret
  exact ⟨rfl, rfl⟩
set_option maxHeartbeats 1600000 in
theorem law_at12 {ad : Option Addr} {nn : Nat} (cap : Nat) {zs : List Int} {w : World} (r : Reads w ad nn zs) (hn : nn ≤ 2097152) (i : Nat) (hi : i ≤ 1000) :
    Calls Try.prog 10 #[.slice ad nn cap, .int .i64 (i : Int)] w fun e w' => w' = w ∧ ∃ x : Nat, e = .returned (.int .i64 (x : Int)) ∧ x ≤ 255 := by
  by_cases h : i < nn
  · have h' : (i : Int) < (nn : Int) := by omega
    have h0 : (0 : Int) ≤ (i : Int) := by omega
    have hb := r.bd i
    rcases r.cells with h1 | ⟨b, off, rfl, hc⟩
    · omega
    have hcx := hc i h
    obtain ⟨x, hx⟩ := Int.eq_ofNat_of_zero_le hb.1
    rw [hx] at hcx hb
    have hw : IntKind.i64.wrap (x : Int) = (x : Int) := by simp [IntKind.wrap, IntKind.bits, IntKind.signed]; omega
    clear hc
    go_enter Try.func10, Try.ntmps10
    go_wp2_with fail
    go_ret
    exact ⟨rfl, x, rfl, by omega⟩
  · have h' : ¬ (i : Int) < (nn : Int) := by omega
    clear r
    go_enter Try.func10, Try.ntmps10
    go_wp2_with fail
    go_ret
    exact ⟨rfl, (i * 7 + nn) % 256, by simp, by omega⟩
theorem ReadsW2.news {w : World} {a : Addr} {n : Nat} {l : List Wt} (h : ReadsW2 w (some a) n l) : ∀ j u, (cellsW l)[j]? = some u → w.cell? (a.add j) = some u := by
  intro j u hu
  have hj : j < (cellsW l).length := (List.getElem?_eq_some_iff.1 hu).1
  rw [cellsW_len] at hj
  have hl := h.len
  rcases h.cells with h0 | ⟨b, off, e, hc⟩
  · omega
  · cases e
    have h1 := hc (j / 2) (by omega)
    have h2 := cellsW_at l (j / 2) (by omega)
    rcases Nat.mod_two_eq_zero_or_one j with hm | hm
    · have e : j / 2 * 2 = j := by omega
      rw [e] at h1 h2
      rw [h2.1] at hu
      rw [show (⟨b, off, none⟩ : Addr).add j = ⟨b, off + j, none⟩ from Go.WideShapes.add_plain b off j, h1.1]; exact hu
    · have e : j / 2 * 2 + 1 = j := by omega
      rw [show off + j / 2 * 2 + 1 = off + j by omega] at h1
      rw [e] at h2
      rw [h2.2] at hu
      rw [show (⟨b, off, none⟩ : Addr).add j = ⟨b, off + j, none⟩ from Go.WideShapes.add_plain b off j, h1.2]; exact hu
theorem cellsW_one : ∀ (l : List Wt), ∀ u ∈ cellsW l, u.oneCell' = true
  | [], u, h => by cases h
  | p :: l, u, h => by
    simp only [cellsW, List.mem_cons] at h
    rcases h with rfl | rfl | h
    · rfl
    · rfl
    · exact cellsW_one l u h
/-- The waits that the law has taken up. -/
structure RgS (wr : World) (a : Option Addr) (p c : Nat) (L : List Wt) : Prop where
  rd : ReadsW2 wr a p L
  nl : a = none → c = 0 ∧ p = 0
  ok : okW L = true
  no : ∀ y, ringW L y = []
theorem RgS.below {wr wr' : World} {a : Option Addr} {p c : Nat} {L : List Wt} (h : RgS wr a p c L) {B : Nat} (hb : Below B wr wr') (hB : wr.heap.size ≤ B) : RgS wr' a p c L := ⟨h.rd.below hb hB, h.nl, h.ok, h.no⟩
theorem okW_nil : okW [] = true := by decide
theorem ring_nil (y : Int) : ringW [] y = [] := by
  have : nextW [] y = none := rfl
  unfold ringW ringF
  rw [this]
theorem free_len (l : List Wt) (x : Int) (h : okW l = true) : (leftW l x).length + (freeW l x).length = l.length := by
  unfold leftW freeW
  rw [if_pos h, if_pos h, List.length_map]
  clear h
  induction l with
  | nil => rfl
  | cons p l ih =>
    by_cases e : p.2 = x
    · simp [e] at ih ⊢; omega
    · simp [e] at ih ⊢; omega
theorem close_fix : closeW [(1, 2)] 2 1 = true := by decide

set_option maxHeartbeats 25600000 in
theorem lawRings
    (hO : ∀ {a : Option Addr} {n : Nat} (c : Nat) {l : List Wt} {w : World}, ReadsW2 w a n l → n ≤ 1048576 → Calls Try.prog 15 #[.slice a n c] w fun e w' => e = .returned (.bool (okW l)) ∧ Below w.heap.size w w')
    (hN : ∀ {a : Option Addr} {n : Nat} (c : Nat) {l : List Wt} {w : World}, ReadsW2 w a n l → n ≤ 1048576 → ∀ (x : Int), i64b x → Calls Try.prog 11 #[.slice a n c, .int .i64 x] w fun e w' => e = .returned (.tuple #[.int .i64 ((nextW l x).getD 0), .bool (nextW l x).isSome]) ∧ Below w.heap.size w w')
    (hC : ∀ {a : Option Addr} {n : Nat} (c : Nat) {l : List Wt} {w : World}, ReadsW2 w a n l → n ≤ 1048576 → ∀ (x y : Int), i64b x → i64b y → Calls Try.prog 12 #[.slice a n c, .int .i64 x, .int .i64 y] w fun e w' => e = .returned (.bool (closeW l x y)) ∧ Below w.heap.size w w')
    (hR : ∀ {a : Option Addr} {n : Nat} (c : Nat) {l : List Wt} {w : World}, ReadsW2 w a n l → n ≤ 1048576 → ∀ (x : Int), i64b x → Calls Try.prog 13 #[.slice a n c, .int .i64 x] w fun e w' => ∃ v, e = .returned v ∧ AnsK w (ringW l x) v w' ∧ (ringW l x).length ≤ n + 2 ∧ Below w.heap.size w w')
    (hF : ∀ {a : Option Addr} {n : Nat} (c : Nat) {l : List Wt} {w : World}, ReadsW2 w a n l → n ≤ 1048576 → ∀ (x : Int), i64b x → Calls Try.prog 14 #[.slice a n c, .int .i64 x] w fun e w' => AnsF w (leftW l x) (freeW l x) e w')
    {ad : Option Addr} {n : Nat} (cap : Nat) {zs : List Int} {w : World} (h : Reads w ad n zs) (hn0 : n ≤ maxLen) :
    Calls Try.prog 3 #[.slice ad n cap] w fun e w' => e = .returned (.bool true) ∧ Below w.heap.size w w' := by
  obtain ⟨j0, hj, hj0, hj1, hj2⟩ := info_parts Try.infoWt
  unfold maxLen at hn0
  by_cases hbig : (1048576 : Int) < (n : Int)
  · go_enter Try.func3, Try.ntmps3
    go_wp2_with fail
    refine (law_big12 ad n cap w).mono ?_
    rintro e w1 ⟨rfl, e1⟩
    subst w1
    rw [decide_eq_true hbig]
    go_wp2_with fail
    go_ret
    exact ⟨rfl, Below.refl _ _⟩
  have hn : n ≤ 1048576 := by omega
  have HR0 := hid h
  clear h
  go_enter Try.func3, Try.ntmps3
  go_wp2_with fail
  refine (law_big12 ad n cap w).mono ?_
  rintro e w1 ⟨rfl, e1⟩
  subst w1
  rw [decide_eq_false (show ¬ (1048576 : Int) < (n : Int) by omega)]
  clear hbig
  go_wp2_with fail
  go_loopw [3, 4] (fun s3 s4 wr => ∃ (j : Nat) (a : Option Addr) (p c : Nat) (L : List Wt), j ≤ 12 ∧ s4 = .int .i64 j ∧ s3 = .slice a p c ∧ p ≤ j ∧ Hid (RgS wr a p c L) ∧ Hid (Below w.heap.size w wr)) (fun _ i _ => 12 - (intOf i).toNat)
  case atStart => exact ⟨0, none, 0, 0, [], Nat.zero_le _, rfl, rfl, Nat.le_refl _, hid ⟨⟨rfl, .inl rfl, bdW_nil⟩, fun _ => ⟨rfl, rfl⟩, okW_nil, ring_nil⟩, hid (Below.refl _ _)⟩
  case round =>
    obtain ⟨j, a, p, c, L, hj12, rfl, rfl, hpj, HS, HB⟩ := hrel
    by_cases hlt : j < 12
    · have hlt' : (j : Int) < 12 := by omega
      have hj0' : (0 : Int) ≤ (j : Int) := by omega
      have hp1 := hid (show ((2 * j : Nat) : Int) = 2 * (j : Int) by omega)
      go_wp2_with fail
      rw [← hp1.out]
      refine (law_at12 cap (HR0.out.below HB.out (Nat.le_refl _)) (by omega) (2 * j) (by omega)).mono ?_
      rintro e w1 ⟨e1, u, rfl, hu⟩
      subst w1
      obtain ⟨x, hx⟩ : ∃ x : Int, 1 + (u : Int) % 9 = x := ⟨_, rfl⟩
      have hx9 : 1 ≤ x ∧ x ≤ 9 := by omega
      have hu0 : (0 : Int) ≤ (u : Int) := by omega
      have HXE := hid hx
      have hp2 := hid (show ((2 * j + 1 : Nat) : Int) = 2 * (j : Int) + 1 by omega)
      go_wp2_with fail
      clear hx hu hu0 HXE
      rw [← hp2.out]
      refine (law_at12 cap (HR0.out.below HB.out (Nat.le_refl _)) (by omega) (2 * j + 1) (by omega)).mono ?_
      rintro e w1 ⟨e1, v, rfl, hv⟩
      subst w1
      obtain ⟨y, hy⟩ : ∃ y : Int, 1 + (v : Int) % 9 = y := ⟨_, rfl⟩
      have hy9 : 1 ≤ y ∧ y ≤ 9 := by omega
      have hv0 : (0 : Int) ≤ (v : Int) := by omega
      have HYE := hid hy
      go_wp2_with fail
      clear hy hv hv0 HYE hp1 hp2
      refine (hN c HS.out.rd (by omega) x ⟨by omega, by omega⟩).mono ?_
      rintro e w1 ⟨rfl, b1⟩
      replace HS := hid (HS.out.below b1 (Nat.le_refl _))
      replace HB := hid (HB.out.trans (b1.mono HB.out.size))
      clear b1
      cases hnx : nextW L x with
      | some z =>
        go_wp2_with fail
        go_roundw
        case rel => exact ⟨j + 1, a, p, c, L, by omega, by go_num, rfl, by omega, HS, HB⟩
        case measure => simp [intOf]; omega
      | none =>
        have HNX := hid hnx
        have hL := HS.out.rd.len
        have B0 := Below.alloc1 w1 (.cells #[] 29)
        have O0 := hid (World.ownsRow_lit (base := w1.heap.size) (e := 29) (size := 2) w1 #[] 0 (Nat.le_refl _) (by unfold maxLen; omega) rfl)
        have HS0 := hid (HS.out.below B0 (Nat.le_refl _))
        have HB0 := hid (HB.out.trans (B0.mono HB.out.size))
        have Z0 := hid (alloc_size w1 (.cells #[] 29))
        have HNW := hid (show (a = none ∧ c = 0) ∨ ∃ q, a = some q ∧ ∀ j u, (cellsW L)[j]? = some u → (w1.alloc (.cells #[] 29)).cell? (q.add j) = some u from by
          cases a with
          | none => exact .inl ⟨rfl, (HS.out.nl rfl).1⟩
          | some q => exact .inr ⟨q, rfl, HS0.out.rd.news⟩)
        have HNL := hid (show a = none → p = 0 from fun e => (HS.out.nl e).2)
        clear B0 hnx
        go_wp2_with (at_builtin; refine wpList_append_row rfl _ _ 24 rfl w1.heap.size 29 j0 (.agg #[.int .i64 0, .int .i64 0]) 2 16 Try.underlying24 hj hj0 hj1 hj2 rfl (by decide) _ 0 [] rfl O0.out a p c (cellsW L) rfl ?r0 HNW.out HNL.out ?r1 ?r2 ?r3 ?r4 ?_)
        case r0 => rw [cellsW_len, hL]
        case r1 => exact cellsW_one L
        case r2 => unfold maxLen; omega
        case r3 => omega
        case r4 => have := Z0.out; omega
        intro a2 c2 w2 o2 g2
        have bG3 := ((Below.refl w1.heap.size w1).alloc (Nat.le_refl _) (.cells #[] 29)).grown g2 (by have := Z0.out; omega) (fun r e => (O0.out.lt r e).1)
        have bA := Below.alloc1 w2 (.cells #[.int .i64 x, .int .i64 y] 29)
        have HN2 := hid (heap_alloc_new w2 (.cells #[.int .i64 x, .int .i64 y] 29))
        have O2 := hid (owns_below bA (Nat.le_refl _) o2)
        have BB := hid (bG3.trans (bA.mono bG3.size))
        clear o2 g2 bG3 bA O0 HS0 HB0 Z0 HNW HNL
        go_wp2_with (at_builtin; refine wpList_append_row rfl _ _ 24 rfl w1.heap.size 29 j0 (.agg #[.int .i64 0, .int .i64 0]) 2 16 Try.underlying24 hj hj0 hj1 hj2 rfl (by decide) _ p (cellsW L) rfl O2.out (some ⟨w2.heap.size, 0, none⟩) 1 1 [.int .i64 x, .int .i64 y] rfl rfl (.inr ⟨_, rfl, World.news_of_block HN2.out⟩) (fun e => by cases e) ?t1 ?t2 ?t3 ?t4 ?_)
        case t1 => intro z hz; simp only [List.mem_cons, List.not_mem_nil, or_false] at hz; rcases hz with rfl | rfl <;> rfl
        case t2 => unfold maxLen; omega
        case t3 => omega
        case t4 => exact BB.out.size
        intro a3 c3 w3 o3 g3
        have o3' : w3.ownsRow w1.heap.size 29 2 (.slice a3 (p + 1) c3) (p + 1) (cellsW (L ++ [(x, y)])) := by rw [cellsW_app]; exact o3
        have hbd : bdW (L ++ [(x, y)]) := bdW_snoc HS.out.rd.bd ⟨⟨by omega, by omega⟩, ⟨by omega, by omega⟩⟩
        have MR := hid (ReadsW2.own o3' hbd)
        have NLM := hid (show a3 = none → c3 = 0 ∧ p + 1 = 0 from fun e => by
          rcases o3'.2 with ⟨_, h0⟩ | ⟨g, cp, cu, e2, _⟩
          · omega
          · rw [e] at e2; cases e2)
        have bW := BB.out.grown g3 BB.out.size (fun r e => (O2.out.lt r e).1)
        replace HS := hid (HS.out.below bW (Nat.le_refl _))
        replace HB := hid (HB.out.trans (bW.mono HB.out.size))
        have hl64 : L.length < 64 := by omega
        have HRC := hid (ring_close (h := y) HS.out.ok HNX.out hl64)
        have HRN := hid (fun hc z => ring_none (h := y) HS.out.ok HNX.out hl64 HS.out.no hc z)
        have HOK := hid (okW_snoc (h := y) HS.out.ok HNX.out hl64)
        obtain ⟨M, hM⟩ : ∃ M, L ++ [(x, y)] = M := ⟨_, rfl⟩
        rw [hM] at MR HRC HRN HOK
        clear o3 o3' g3 bW hbd BB O2 HN2 hM HNX hl64
        go_wp2_with fail
        refine (hC c HS.out.rd (by omega) x y ⟨by omega, by omega⟩ ⟨by omega, by omega⟩).mono ?_
        rintro e w4 ⟨rfl, b1⟩
        replace HS := hid (HS.out.below b1 (Nat.le_refl _))
        replace MR := hid (MR.out.below b1 (Nat.le_refl _))
        replace HB := hid (HB.out.trans (b1.mono HB.out.size))
        clear b1
        go_wp2_with fail
        refine (hR c3 MR.out (by omega) x ⟨by omega, by omega⟩).mono ?_
        rintro e w5 ⟨v5, rfl, an, hlen, b1⟩
        replace HS := hid (HS.out.below b1 (Nat.le_refl _))
        replace MR := hid (MR.out.below b1 (Nat.le_refl _))
        replace HB := hid (HB.out.trans (b1.mono HB.out.size))
        have HNE := hid (fun k hk => ring_next (l := M) (who := x) (k := k) hk)
        obtain ⟨R, hR5⟩ : ∃ R, ringW M x = R := ⟨_, rfl⟩
        rw [hR5] at an hlen HRC HNE
        obtain ⟨m, hm⟩ : ∃ m, R.length = m := ⟨_, rfl⟩
        have oR := an.own
        rw [hm] at oR hlen HNE
        obtain ⟨a5, c5, rfl⟩ := own_sl oR
        have RR := hid (show ReadsI w5 a5 m R from by
          obtain ⟨a', c', e, r, _⟩ := ReadsI.own oR an.bd
          obtain ⟨rfl, _, _⟩ := Value.slice.inj e
          exact r)
        obtain ⟨C, hC5⟩ : ∃ C, closeW L x y = C := ⟨_, rfl⟩
        rw [hC5] at HRC HRN
        rw [hC5]
        have hCm : (C = true ∧ 0 < m) ∨ (C = false ∧ m = 0) := by
          cases C with
          | true =>
            left
            refine ⟨rfl, ?_⟩
            have := HRC.out.2 rfl
            rw [← hm]; exact List.length_pos_iff.2 this
          | false =>
            right
            refine ⟨rfl, ?_⟩
            refine Classical.byContradiction (fun q => ?_)
            have := HRC.out.1 (fun e => q (by rw [← hm, e]; rfl))
            cases this
        have HCm := hid hCm
        have hdec : decide ((0 : Int) < (m : Int)) = C := by
          rcases hCm with ⟨e, q⟩ | ⟨e, q⟩
          · rw [e]; exact decide_eq_true (by omega)
          · rw [e]; exact decide_eq_false (by omega)
        have hdec2 : decide (0 < m) = C := by
          rcases hCm with ⟨e, q⟩ | ⟨e, q⟩
          · rw [e]; exact decide_eq_true (by omega)
          · rw [e]; exact decide_eq_false (by omega)
        have hgt : (C != C) = false := by simp
        clear b1 an oR hR5 hm hC5 HRC hCm
        have hm15 : m ≤ 15 := by omega
        go_wp2_with fail
        clear hgt hdec hdec2
        go_loopw [12] (fun s12 wr => ∃ k : Nat, k ≤ m ∧ s12 = .int .i64 k ∧ Hid (RgS wr a p c L) ∧ Hid (ReadsW2 wr a3 (p + 1) M) ∧ Hid (ReadsI wr a5 m R) ∧ Hid (Below w.heap.size w wr)) (fun i _ => m - (intOf i).toNat)
        case atStart => exact ⟨0, Nat.zero_le _, rfl, HS, MR, RR, HB⟩
        case round =>
          clear HS MR RR HB
          obtain ⟨k, hk, rfl, HS, MR, RR, HB⟩ := hrel
          by_cases hkm : k < m
          · have hkm' : (k : Int) < (m : Int) := by omega
            have hk0 : (0 : Int) ≤ (k : Int) := by omega
            obtain ⟨bb, oo, rfl, cc⟩ := RR.out.at hkm
            have HN1 := hid (HNE.out k hkm)
            have hmod : (k + 1) % m < m := Nat.mod_lt _ (by omega)
            have HRK := hid (show i64b (R.getD k 0) from RR.out.bd k)
            obtain ⟨rk, hrk⟩ : ∃ rk, R.getD k 0 = rk := ⟨_, rfl⟩
            rw [hrk] at cc HN1 HRK
            clear hrk
            have HMM := hid hmod
            go_wp2_with fail
            clear cc
            refine (hN c3 MR.out (by omega) rk HRK.out).mono ?_
            rintro e w6 ⟨rfl, b1⟩
            rw [HN1.out]
            replace HS := hid (HS.out.below b1 (Nat.le_refl _))
            replace MR := hid (MR.out.below b1 (Nat.le_refl _))
            replace RR := hid (RR.out.below b1 (Nat.le_refl _))
            replace HB := hid (HB.out.trans (b1.mono HB.out.size))
            obtain ⟨r', hr'⟩ : ∃ r', (k + 1) % m = r' := ⟨_, rfl⟩
            rw [hr'] at HMM
            have hmod2 : ((k : Int) + 1) % (m : Int) = (r' : Int) := by
              have e : ((k + 1 : Nat) : Int) = (k : Int) + 1 := by omega
              rw [← e, ← Int.natCast_emod, hr']
            obtain ⟨bb', oo', e', cc⟩ := RR.out.at HMM.out
            cases e'
            have hr1 : (r' : Int) < (m : Int) := by have := HMM.out; omega
            have hr0 : (0 : Int) ≤ (r' : Int) := by omega
            have hm0 : (m : Int) ≠ 0 := by omega
            rw [hr']
            obtain ⟨nx, hnx⟩ : ∃ nx, R.getD r' 0 = nx := ⟨_, rfl⟩
            rw [hnx] at cc
            rw [hnx]
            have q1 : (nx != nx) = false := by simp
            clear b1 hmod hr' hnx
            go_wp2_with fail
            go_roundw
            case rel => exact ⟨k + 1, by omega, by go_num, HS, MR, RR, HB⟩
            case measure => simp [intOf]; omega
          · have hkm' : ¬ (k : Int) < (m : Int) := by omega
            rcases HCm.out with ⟨rfl, _⟩ | ⟨rfl, _⟩
            · go_wp2_with fail
              go_roundw
              case rel => exact ⟨j + 1, a, p, c, L, by omega, by go_num, rfl, by omega, HS, HB⟩
              case measure => simp [intOf]; omega
            · have HS2 := hid (show RgS wr a3 (p + 1) c3 M from ⟨MR.out, NLM.out, HOK.out, fun z => HRN.out rfl z⟩)
              go_wp2_with fail
              go_roundw
              case rel => exact ⟨j + 1, a3, p + 1, c3, M, by omega, by go_num, rfl, by omega, HS2, HB⟩
              case measure => simp [intOf]; omega
    · have hlt' : ¬ (j : Int) < 12 := by omega
      go_wp2_with fail
      go_loopw [15] (fun s15 wr => ∃ t : Nat, t ≤ 9 ∧ s15 = .int .i64 ((t : Int) + 1) ∧ Hid (RgS wr a p c L) ∧ Hid (Below w.heap.size w wr)) (fun i _ => 10 - (intOf i).toNat)
      case atStart => exact ⟨0, Nat.zero_le _, rfl, HS, HB⟩
      case round =>
        clear HS HB
        obtain ⟨t, ht, rfl, HS, HB⟩ := hrel
        by_cases ht9 : t < 9
        · have ht' : (t : Int) + 1 ≤ 9 := by omega
          go_wp2_with fail
          refine (hR c HS.out.rd (by omega) ((t : Int) + 1) ⟨by omega, by omega⟩).mono ?_
          rintro e w5 ⟨v5, rfl, an, _, b1⟩
          rw [HS.out.no] at an
          have oR := an.own
          obtain ⟨a5, c5, rfl⟩ := own_sl oR
          replace HS := hid (HS.out.below b1 (Nat.le_refl _))
          replace HB := hid (HB.out.trans (b1.mono HB.out.size))
          clear b1 an oR
          go_wp2_with fail
          go_roundw
          case rel => exact ⟨t + 1, by omega, by go_num, HS, HB⟩
          case measure => simp [intOf]; omega
        · have ht' : ¬ (t : Int) + 1 ≤ 9 := by omega
          go_wp2_with fail
          refine (law_at12 cap (HR0.out.below HB.out (Nat.le_refl _)) (by omega) 40 (by omega)).mono ?_
          rintro e w1 ⟨e1, u, rfl, hu⟩
          subst w1
          obtain ⟨x, hx⟩ : ∃ x : Int, 1 + (u : Int) % 9 = x := ⟨_, rfl⟩
          have hx9 : 1 ≤ x ∧ x ≤ 9 := by omega
          have hu0 : (0 : Int) ≤ (u : Int) := by omega
          go_wp2_with fail
          clear hx hu hu0
          refine (hF c HS.out.rd (by omega) x ⟨by omega, by omega⟩).mono ?_
          rintro e w6 ⟨aL, cL, aF, cF, rfl, _, _, _, _, b1⟩
          have hfl := free_len L x HS.out.ok
          have hLp := HS.out.rd.len
          replace HS := hid (HS.out.below b1 (Nat.le_refl _))
          replace HB := hid (HB.out.trans (b1.mono HB.out.size))
          obtain ⟨p1, hp1⟩ : ∃ p1, (leftW L x).length = p1 := ⟨_, rfl⟩
          obtain ⟨p2, hp2⟩ : ∃ p2, (freeW L x).length = p2 := ⟨_, rfl⟩
          rw [hp1, hp2] at hfl ⊢
          have hsum : (p1 : Int) + (p2 : Int) = (p : Int) := by omega
          clear b1 hp1 hp2 hfl
          go_wp2_with fail
          refine (hO c HS.out.rd (by omega)).mono ?_
          rintro e w7 ⟨rfl, b1⟩
          rw [HS.out.ok]
          replace HB := hid (HB.out.trans (b1.mono HB.out.size))
          have bA := Below.alloc1 w7 (.cells #[.int .i64 1, .int .i64 2] 29)
          have OA := World.ownsRow_lit (base := w7.heap.size) (e := 29) (size := 2) w7 #[.int .i64 1, .int .i64 2] 1 (Nat.le_refl _) (by unfold maxLen; omega) rfl
          have RA := hid (ReadsW2.own (l := [(1, 2)]) (by simpa [cellsW] using OA) (bdW_snoc (L := []) bdW_nil (p := (1, 2)) ⟨⟨by decide, by decide⟩, ⟨by decide, by decide⟩⟩))
          replace HB := hid (HB.out.trans (bA.mono HB.out.size))
          clear b1 bA OA
          go_wp2_with fail
          refine (hC 1 RA.out (by omega) 2 1 ⟨by omega, by omega⟩ ⟨by omega, by omega⟩).mono ?_
          rintro e w8 ⟨rfl, b1⟩
          rw [close_fix]
          replace HB := hid (HB.out.trans (b1.mono HB.out.size))
          clear b1
          go_wp2_with fail
          go_ret
          exact ⟨rfl, HB.out⟩
end Go.Proofs.Ytknloabdfkidiaa
