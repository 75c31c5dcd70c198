/- The contract of the specification's EdgeEnd. Conditions: at most 2^20 tracks, reads and writes, texts of at most 2^21 bytes. -/
import Derived.Test.YtnhlfkffllbpiaaEs13
import Derived.Test.YtnhlfkffllbpiaaEq13
namespace Go.Proofs.Ytnhlfkffllbpiaa
open Go.RowKit
set_option maxRecDepth 100000

theorem left_sm {ts : List Tk} {k0 : Nat} {done : Bool} {now : Int} {P : Tk → Prop} (h : ∀ i, P (ts.getD i tk0)) (he : ∀ t, P t → P (endT t now)) : ∀ j, ∀ t ∈ leftJ ts k0 done now j, P t
  | 0, t, ht => by simp [leftJ] at ht
  | j + 1, t, ht => by
    rw [leftJ_succ, List.mem_append] at ht
    rcases ht with ht | ht
    · exact left_sm h he j t ht
    · unfold stepT at ht
      split at ht
      · split at ht
        · rw [List.mem_singleton.1 ht]; exact he _ (h j)
        · cases ht
      · rw [List.mem_singleton.1 ht]; exact h j
theorem kept_sm {L : List Tk} : smT L → lnT L → smT (keptT L) ∧ lnT (keptT L) := by
  intro h1 h2
  have hm : ∀ i, ∃ j, (keptT L).getD i tk0 = L.getD j tk0 := fun i => by
    rcases getD_mem_or (keptT L) i tk0 with e | e
    · exact ⟨L.length, by rw [e, List.getD_eq_getElem?_getD, List.getElem?_eq_none (Nat.le_refl _)]; rfl⟩
    · have := (List.mem_filter.1 e).1
      obtain ⟨j, hj, ej⟩ := List.getElem_of_mem this
      exact ⟨j, by rw [← ej]; simp [List.getD, hj]⟩
  refine ⟨fun i => ?_, fun i => ?_⟩
  · obtain ⟨j, e⟩ := hm i; rw [e]; exact h1 j
  · obtain ⟨j, e⟩ := hm i; rw [e]; exact h2 j
theorem leftT_sm {ts : List Tk} {k0 : Nat} {done : Bool} {now : Int} (h1 : smT ts) (h2 : lnT ts) : smT (leftT ts k0 done now) ∧ lnT (leftT ts k0 done now) := by
  have q := left_sm (ts := ts) (k0 := k0) (done := done) (now := now) (P := fun t => ((∀ j, ((fl2 t.rs).getD j im0).Z.length ≤ 2097152) ∧ (∀ j, (t.ws.getD j im0).Z.length ≤ 2097152)) ∧ (t.rs.length ≤ 1048576 ∧ t.ws.length ≤ 1048576)) (fun i => ⟨h1 i, h2 i⟩) (fun t ht => ht) ts.length
  have q0 : ((∀ j, ((fl2 tk0.rs).getD j im0).Z.length ≤ 2097152) ∧ (∀ j, (tk0.ws.getD j im0).Z.length ≤ 2097152)) ∧ (tk0.rs.length ≤ 1048576 ∧ tk0.ws.length ≤ 1048576) := ⟨⟨fun j => by simp [tk0, fl2, im0], fun j => by simp [tk0, im0]⟩, by simp [tk0], by simp [tk0]⟩
  have q2 : ∀ i, ((∀ j, ((fl2 ((leftT ts k0 done now).getD i tk0).rs).getD j im0).Z.length ≤ 2097152) ∧ (∀ j, (((leftT ts k0 done now).getD i tk0).ws.getD j im0).Z.length ≤ 2097152)) ∧ (((leftT ts k0 done now).getD i tk0).rs.length ≤ 1048576 ∧ ((leftT ts k0 done now).getD i tk0).ws.length ≤ 1048576) := fun i => by
    rcases getD_mem_or (leftT ts k0 done now) i tk0 with e | e
    · rw [e]; exact q0
    · exact q _ e
  exact ⟨fun i => (q2 i).1, fun i => (q2 i).2⟩

set_option maxHeartbeats 25600000 in
theorem spec_EdgeEnd {ad : Option Addr} {n : Nat} (cap : Nat) {ts : List Tk} {w : World} (h : ReadsT w ad ts) (hl : ts.length = n) (hn : n ≤ 1048576) (hs : smT ts) (hln : lnT ts) (x now : Int) (done : Bool) :
    Calls Try.prog 37 #[.slice ad n cap, .int .i64 x, .int .i64 now, .bool done] w fun e w' => AnsE w' (endS ts x now done (tracksB ts)) (endC ts x now done (tracksB ts)) e ∧ Below w.heap.size w w' := by
  obtain ⟨i0, hi, hz0, hz1, hz2⟩ := info_parts Try.infoTk
  have HR := hid h
  have HSM := hid (And.intro hs hln)
  obtain ⟨OK, hOK⟩ : ∃ OK, tracksB ts = OK := ⟨_, rfl⟩
  have HOK := hid hOK
  rw [hOK]
  clear h hOK
  go_enter Try.func37, Try.ntmps37
  go_wp2_with fail
  refine (spec_l13at cap HR.out hl (by omega) x).mono ?_
  rintro e w0 ⟨rfl, e0⟩
  subst w0
  go_wp2_with fail
  refine (spec_TracksOk cap HR.out hl hs).mono ?_
  rintro e w1 ⟨rfl, b1⟩
  rw [HOK.out]
  have HB := hid b1
  clear b1
  cases OK with
  | false =>
    have HE := hid (show endS ts x now done false = [] ∧ endC ts x now done false = 1 by unfold endS endC; simp)
    go_wp2_with fail
    go_ret2
    refine ⟨?_, HB.out⟩
    rw [HE.out.1, HE.out.2]
    exact ⟨none, 0, rfl, ReadsT.nil _ _⟩
  | true =>
    cases hat : atT ts x with
    | none =>
      have HI := hid (show atI ts x = -1 by unfold atI; rw [hat])
      have HE := hid (show endS ts x now done true = [] ∧ endC ts x now done true = 1 by unfold endS endC; simp [hat])
      rw [HI.out]
      clear hat
      go_wp2_with fail
      go_ret2
      refine ⟨?_, HB.out⟩
      rw [HE.out.1, HE.out.2]
      exact ⟨none, 0, rfl, ReadsT.nil _ _⟩
    | some k0 =>
      have HI := hid (show atI ts x = (k0 : Int) by unfold atI; rw [hat])
      have hka := atT_some hat
      have hk0 : k0 < n := by omega
      have hk0' : (k0 : Int) < (n : Int) := by omega
      have hk00 : (0 : Int) ≤ (k0 : Int) := by omega
      have hk01 : ¬ (k0 : Int) < 0 := by omega
      rw [HI.out]
      obtain ⟨b, off, pa, pc, qa, qc, rfl, bk, rp, mp, rw', mw⟩ := HR.out.at (k := k0) (by omega)
      have bk1 := bk.below HB.out (Nat.le_refl _)
      have kb := bk1.c1
      have ki := bk1.c6
      have ko := bk1.c7
      have HES := hid (show endS ts x now done true = (if now ≤ (ts.getD k0 tk0).begun then [] else if (done && ((ts.getD k0 tk0).inn && (ts.getD k0 tk0).out)) = true then ts else keptT (leftT ts k0 done now)) by unfold endS; simp [hat])
      have HEC := hid (show endC ts x now done true = (if now ≤ (ts.getD k0 tk0).begun then 1 else if (done && ((ts.getD k0 tk0).inn && (ts.getD k0 tk0).out)) = true then 2 else 0) by unfold endC; simp [hat])
      obtain ⟨BG, hBG⟩ : ∃ BG, (ts.getD k0 tk0).begun = BG := ⟨_, rfl⟩
      obtain ⟨IN, hIN⟩ : ∃ IN, (ts.getD k0 tk0).inn = IN := ⟨_, rfl⟩
      obtain ⟨OU, hOU⟩ : ∃ OU, (ts.getD k0 tk0).out = OU := ⟨_, rfl⟩
      rw [hBG] at kb HES HEC
      rw [hIN] at ki HES HEC
      rw [hOU] at ko HES HEC
      clear bk bk1 rp mp rw' mw hat hka hBG hIN hOU
      by_cases hnb : now ≤ BG
      · have HE := hid (show endS ts x now done true = [] ∧ endC ts x now done true = 1 by rw [HES.out, HEC.out, if_pos hnb, if_pos hnb]; exact ⟨rfl, rfl⟩)
        go_wp2_with fail
        go_ret2
        refine ⟨?_, HB.out⟩
        rw [HE.out.1, HE.out.2]
        exact ⟨none, 0, rfl, ReadsT.nil _ _⟩
      rw [if_neg hnb] at HES HEC
      by_cases hdg : (done && (IN && OU)) = true
      · rw [if_pos hdg] at HES HEC
        have hd1 : done = true ∧ IN = true ∧ OU = true := by
          rw [Bool.and_eq_true, Bool.and_eq_true] at hdg
          exact hdg
        obtain ⟨rfl, rfl, rfl⟩ := hd1
        clear hdg
        go_wp2_with fail
        clear kb ki ko
        refine (spec_l13copy cap (HR.out.below HB.out (Nat.le_refl _)) hl hn HSM.out.1 HSM.out.2).mono ?_
        rintro e w2 ⟨v, rfl, oT, b2⟩
        obtain ⟨aC, cC, rfl⟩ := oT.slice
        have HF := hid oT.rd
        replace HB := hid (HB.out.trans (b2.mono HB.out.size))
        clear oT b2
        go_wp2_with fail
        go_ret2
        refine ⟨?_, HB.out⟩
        rw [HES.out, HEC.out]
        exact ⟨aC, cC, by first | rfl | (rw [hl]; rfl), HF.out⟩
      rw [if_neg hdg] at HES HEC
      have hd3 : done = false ∨ (done = true ∧ IN = false) ∨ (done = true ∧ IN = true ∧ OU = false) := by
        cases done with
        | false => exact .inl rfl
        | true =>
          cases IN with
          | false => exact .inr (.inl ⟨rfl, rfl⟩)
          | true =>
            cases OU with
            | false => exact .inr (.inr ⟨rfl, rfl, rfl⟩)
            | true => exact absurd rfl hdg
      clear hdg
      have HD3 := hid hd3
      clear hd3
      rcases HD3.out with rfl | ⟨rfl, rfl⟩ | ⟨rfl, rfl, rfl⟩
      · go_wp2_with fail
        clear kb ki ko
        go_loopw [11, 12] (fun s11 s12 wr => ∃ (i : Nat) (a : Option Addr) (c p : Nat), i ≤ n ∧ s12 = .int .i64 i ∧ s11 = .slice a p c ∧ p ≤ i ∧ Hid (ShT w wr w.heap.size (.slice a p c) p (leftJ ts k0 false now i)) ∧ Hid (Below w.heap.size w wr)) (fun _ s _ => n - (intOf s).toNat)
        case atStart => exact ⟨0, none, 0, 0, Nat.zero_le _, rfl, rfl, Nat.le_refl _, hid (ShT.nil _ _ _), HB⟩
        case round =>
          clear HB
          obtain ⟨i, a, c, p, hin, rfl, rfl, hpi, HO, HB⟩ := hrel
          by_cases hlt : i < n
          · have hlt' : (i : Int) < (n : Int) := by omega
            have hi00 : (0 : Int) ≤ (i : Int) := by omega
            obtain ⟨b', off', a1, c1, a2, c2, e', bx0, r1, m1, r2, m2⟩ := HR.out.at (k := i) (by omega)
            obtain ⟨rfl, rfl⟩ : b = b' ∧ off = off' := by simpa using e'
            have bx := bx0.below HB.out (Nat.le_refl _)
            have HPp := hid (PartT.of (c1 := c1) (c2 := c2) r1 m1 r2 m2)
            obtain ⟨t, ht⟩ : ∃ t, ts.getD i tk0 = t := ⟨_, rfl⟩
            have HTi := hid ht
            rw [ht] at bx HPp
            obtain ⟨xi, be, en, al, rs, ws, inn, ou⟩ := t
            simp only at bx HPp
            obtain ⟨n1, hn1⟩ : ∃ n1, rs.length = n1 := ⟨_, rfl⟩
            obtain ⟨n2, hn2⟩ : ∃ n2, ws.length = n2 := ⟨_, rfl⟩
            rw [hn1, hn2] at bx HPp
            obtain ⟨x0, x1, x2, x3, x4, x5, x6, x7⟩ := bx
            simp only at x0 x1 x2 x3 x6 x7
            clear bx0 r1 m1 r2 m2 ht e'
            by_cases hik : i = k0
            · skip
              have hqi : ((i : Int) == (k0 : Int)) = true := by simp [hik]
              have HLn := hid (show leftJ ts k0 false now (i + 1) = leftJ ts k0 false now i by rw [leftJ_succ]; unfold stepT; rw [if_pos hik]; simp)
              have b0 := Below.alloc1 wr (.cells #[.int .i64 xi, .int .i64 be, .int .i64 en, .bool al, .slice a1 n1 c1, .slice a2 n2 c2, .bool inn, .bool ou] 46)
              have N1 := hid (show ShT w (wr.alloc (.cells #[.int .i64 xi, .int .i64 be, .int .i64 en, .bool al, .slice a1 n1 c1, .slice a2 n2 c2, .bool inn, .bool ou] 46)) w.heap.size (.slice a p c) p (leftJ ts k0 false now (i + 1)) by rw [HLn.out]; exact HO.out.below b0 (Nat.le_refl _))
              have N2 := hid (HB.out.trans (b0.mono HB.out.size))
              clear b0 hik
              go_wp2_with fail
              go_roundw
              case rel => exact ⟨i + 1, a, c, p, by omega, by go_num, rfl, by omega, N1, N2⟩
              case measure => simp [intOf]; omega
            · skip
              have hqi : ((i : Int) == (k0 : Int)) = false := by simp; omega
              have HPt := hid (show PartT w ⟨.slice a1 n1 c1, [], .slice a2 n2 c2, []⟩ ⟨xi, be, en, al, rs, ws, inn, ou⟩ from by obtain ⟨e1, e2, e3, e4, r⟩ := HPp.out.ex; exact ⟨e1, e2, e3, e4, r⟩)
              have HLn := hid (show leftJ ts k0 false now (i + 1) = leftJ ts k0 false now i ++ [⟨xi, be, en, al, rs, ws, inn, ou⟩] by rw [leftJ_succ]; congr 1; unfold stepT; rw [if_neg hik, HTi.out])
              obtain ⟨ms, hml, oR, hpt⟩ := HO.out.ex
              have hLp := HO.out.len
              have b0 := Below.alloc1 wr (.cells #[.int .i64 xi, .int .i64 be, .int .i64 en, .bool al, .slice a1 n1 c1, .slice a2 n2 c2, .bool inn, .bool ou] 46)
              have b1 := Below.alloc1 (wr.alloc (.cells #[.int .i64 xi, .int .i64 be, .int .i64 en, .bool al, .slice a1 n1 c1, .slice a2 n2 c2, .bool inn, .bool ou] 46)) (.cells #[.int .i64 xi, .int .i64 be, .int .i64 en, .bool al, .slice a1 n1 c1, .slice a2 n2 c2, .bool inn, .bool ou] 46)
              have z0 := alloc_size wr (.cells #[.int .i64 xi, .int .i64 be, .int .i64 en, .bool al, .slice a1 n1 c1, .slice a2 n2 c2, .bool inn, .bool ou] 46)
              have hnw := heap_alloc_new (wr.alloc (.cells #[.int .i64 xi, .int .i64 be, .int .i64 en, .bool al, .slice a1 n1 c1, .slice a2 n2 c2, .bool inn, .bool ou] 46)) (.cells #[.int .i64 xi, .int .i64 be, .int .i64 en, .bool al, .slice a1 n1 c1, .slice a2 n2 c2, .bool inn, .bool ou] 46)
              rw [z0] at hnw
              have HN := hid hnw
              have HOA := hid (owns_below b1 (by omega) (owns_below b0 (Nat.le_refl _) oR))
              have HBA := hid ((HB.out.trans (b0.mono HB.out.size)).trans (b1.mono (by have := HB.out.size; omega)))
              have HPS := hid (And.intro hml (And.intro hLp hpt))
              clear b0 b1 z0 hnw oR hml hLp hpt hik
              go_wp2_with (at_builtin; refine wpList_append_row rfl _ _ 55 rfl w.heap.size 46 i0 (.agg #[.int .i64 0, .int .i64 0, .int .i64 0, .bool false, .slice none 0 0, .slice none 0 0, .bool false, .bool false]) 8 88 Try.underlying55 hi hz0 hz1 hz2 rfl (by decide) _ p (cellsT (leftJ ts k0 false now i) ms) rfl HOA.out (some ⟨wr.heap.size + 1, 0, none⟩) 1 1 [.int .i64 xi, .int .i64 be, .int .i64 en, .bool al, .slice a1 n1 c1, .slice a2 n2 c2, .bool inn, .bool ou] rfl rfl (.inr ⟨_, rfl, World.news_of_block HN.out⟩) (fun e => by cases e) ?oa1 ?oa2 ?oa3 ?oa4 ?_)
              case oa1 => intro z hz; simp only [List.mem_cons, List.not_mem_nil, or_false] at hz; rcases hz with rfl | rfl | rfl | rfl | rfl | rfl | rfl | rfl <;> rfl
              case oa2 => unfold maxLen; omega
              case oa3 => omega
              case oa4 => exact HBA.out.size
              intro a5 c5 w5 o5 g5
              have N1 := hid (show ShT w w5 w.heap.size (.slice a5 (p + 1) c5) (p + 1) (leftJ ts k0 false now (i + 1)) by rw [HLn.out]; exact ShT.push HPS.out.1 HPS.out.2.1 HPS.out.2.2 HPt.out o5)
              have N2 := hid (HBA.out.grown g5 HBA.out.size (fun r e => (HOA.out.lt r e).1))
              clear o5 g5 HOA HBA HN x0 x1 x2 x3 x4 x5 x6 x7
              go_wp2_with fail
              go_roundw
              case rel => exact ⟨i + 1, a5, c5, p + 1, by omega, by go_num, rfl, by omega, N1, N2⟩
              case measure => simp [intOf]; omega
          · have hlt' : ¬ (i : Int) < (n : Int) := by omega
            have hie : i = n := by omega
            subst hie
            obtain ⟨LL, hLL⟩ : ∃ LL, leftJ ts k0 false now i = LL := ⟨_, rfl⟩
            have HLL := hid (show leftT ts k0 false now = LL by unfold leftT; rw [hl]; exact hLL)
            rw [hLL] at HO
            have HLS := hid (show smT LL ∧ lnT LL by rw [← HLL.out]; exact leftT_sm HSM.out.1 HSM.out.2)
            have hLlen := HO.out.len
            have HV := hid (fun b hb => (HO.out.ex.choose_spec.2.1.lt b hb).2)
            have BW := hid (Below.refl wr.heap.size wr)
            obtain ⟨WL, hWL⟩ : ∃ WL, wr = WL := ⟨_, rfl⟩
            have HOL := hid (show ShT w WL w.heap.size (.slice a p c) p LL from hWL ▸ HO.out)
            have HBL := hid (show Below w.heap.size w WL from hWL ▸ HB.out)
            have HVL := hid (show ∀ b, (Value.slice a p c).ownBlock = some b → b < WL.heap.size from hWL ▸ HV.out)
            have BWL := hid (show Below WL.heap.size WL wr from hWL ▸ Below.refl WL.heap.size WL)
            clear hLL HO HB HV BW hWL
            go_wp2_with fail
            go_loopw [14, 15] (fun s14 s15 wr => ∃ (i : Nat) (a' : Option Addr) (c' q : Nat), i ≤ p ∧ s15 = .int .i64 i ∧ s14 = .slice a' q c' ∧ q ≤ i ∧ Hid (ShT w wr WL.heap.size (.slice a' q c') q ((LL.take i).filter (needB LL))) ∧ Hid (Below WL.heap.size WL wr)) (fun _ s _ => p - (intOf s).toNat)
            case atStart => exact ⟨0, none, 0, 0, Nat.zero_le _, rfl, rfl, Nat.le_refl _, hid (by simpa using ShT.nil _ _ _), BWL⟩
            case round =>
              clear BWL
              obtain ⟨i2, a', c', q, hi2, rfl, rfl, hqi2, HO2, HB2⟩ := hrel
              have HBF := hid (HBL.out.trans (HB2.out.mono HBL.out.size))
              by_cases hlt2 : i2 < p
              · have hlt2' : (i2 : Int) < (p : Int) := by omega
                have hi20 : (0 : Int) ≤ (i2 : Int) := by omega
                obtain ⟨gL, cL, p1, d1, p2, d2, eL, hgl, hgs, bx0, hPt⟩ := HOL.out.at (i := i2) hlt2
                have ea : a = some ⟨gL, 0, none⟩ := by injection eL
                subst ea
                have bx := bx0.below HB2.out (Nat.le_refl _)
                have HKs := hid (kept_step LL (k := i2) (by omega))
                have HND := hid (show needB LL (LL.getD i2 tk0) = (decide ((LL.getD i2 tk0).ended = 0) || LL.any (fun u => holdB u (LL.getD i2 tk0).ended)) from rfl)
                have HPp := hid hPt
                obtain ⟨t2, ht2⟩ : ∃ t, LL.getD i2 tk0 = t := ⟨_, rfl⟩
                rw [ht2] at bx HKs HND HPp
                have HT2 := hid ht2
                clear ht2 hPt bx0
                obtain ⟨xi, be, en, al, rs, ws, inn, ou⟩ := t2
                simp only at bx HPp HND
                obtain ⟨n1, hn1⟩ : ∃ n1, rs.length = n1 := ⟨_, rfl⟩
                obtain ⟨n2, hn2⟩ : ∃ n2, ws.length = n2 := ⟨_, rfl⟩
                rw [hn1, hn2] at bx HPp
                have HBx := hid bx
                have x2 := bx.c2
                clear bx
                obtain ⟨E0, hE0⟩ : ∃ E0, decide (en = 0) = E0 := ⟨_, rfl⟩
                have hq0 : (en == 0) = E0 := by rw [← hE0]; rfl
                rw [hE0] at HND
                have HE0 := hid hE0
                clear hE0
                go_wp2_with fail
                clear x2 hq0
                go_loopw [16, 17] (fun s16 s17 wr => ∃ (k : Nat), k ≤ p ∧ s17 = .int .i64 k ∧ s16 = .bool (E0 || (LL.take k).any (fun u => holdB u en)) ∧ Hid (ShT w wr WL.heap.size (.slice a' q c') q ((LL.take i2).filter (needB LL))) ∧ Hid (Below WL.heap.size WL wr)) (fun _ s _ => p - (intOf s).toNat)
                case atStart => exact ⟨0, Nat.zero_le _, rfl, by simp, HO2, HB2⟩
                case round =>
                  clear HO2 HB2 HBF HBx
                  obtain ⟨k3, hk3, rfl, rfl, HO2, HB2⟩ := hrel
                  have HBF := hid (HBL.out.trans (HB2.out.mono HBL.out.size))
                  obtain ⟨gM, _, p1', d1', p2', d2', eM, _, _, bxi, hPt'⟩ := HOL.out.at (i := i2) hlt2
                  obtain rfl : gL = gM := by injection eM with e1; injection e1 with e1; injection e1
                  have bi := bxi.below HB2.out (Nat.le_refl _)
                  rw [HT2.out] at bi hPt'
                  simp only at bi hPt'
                  rw [hn1, hn2] at bi hPt'
                  have HP2 := hid hPt'
                  clear hPt'
                  by_cases hlt3 : k3 < p
                  · have hlt3' : (k3 : Int) < (p : Int) := by omega
                    have hk30 : (0 : Int) ≤ (k3 : Int) := by omega
                    have hi2p : (i2 : Int) < (p : Int) := by omega
                    have hi2z : (0 : Int) ≤ (i2 : Int) := by omega
                    obtain ⟨gK, _, _, _, _, _, eK, _, _, bxk, _⟩ := HOL.out.at (i := k3) hlt3
                    obtain rfl : gL = gK := by injection eK with e1; injection e1 with e1; injection e1
                    have bk := bxk.below HB2.out (Nat.le_refl _)
                    have HSt := hid (need_step LL en (k := k3) (by omega))
                    have y2 := bk.c2
                    have y1 := bk.c1
                    have z2 := bi.c2
                    have hHd : holdB (LL.getD k3 tk0) en = (decide ((LL.getD k3 tk0).ended = 0) && decide ((LL.getD k3 tk0).begun < en)) := rfl
                    rw [hHd] at HSt
                    generalize (LL.getD k3 tk0).ended = ek at *
                    generalize (LL.getD k3 tk0).begun = bk' at *
                    obtain ⟨U, hU⟩ : ∃ U, (E0 || (LL.take k3).any (fun u => holdB u en)) = U := ⟨_, rfl⟩
                    rw [hU]
                    have HUU := hid hU
                    clear hU bk bi bxi bxk eM eK hHd
                    go_wp2_with fail
                    cases U with
                    | true =>
                      have HNw := hid (show (E0 || (LL.take (k3 + 1)).any (fun u => holdB u en)) = true by
                        rw [HSt.out, ← Bool.or_assoc, HUU.out]; rfl)
                      go_quiet (fail)
                      go_wp2_with fail
                      go_roundw
                      case rel => exact ⟨k3 + 1, by omega, by go_num, by rw [HNw.out], by first | exact hid (HO2.out.below (Below.drewN _ _) (Nat.le_refl _)) | exact hid (HO2.out.below ((Still.drew _).below _) (Nat.le_refl _)), by first | exact hid (bel_dN HB2.out _) | exact hid (HB2.out.trans ((Still.drew _).below _))⟩
                      case measure => simp [intOf]; omega
                    | false =>
                      by_cases he0 : ek = 0
                      · have qe : (ek == 0) = true := by simpa using he0
                        by_cases hbe : bk' < en
                        · have HNw := hid (show (E0 || (LL.take (k3 + 1)).any (fun u => holdB u en)) = true by
                            rw [HSt.out, ← Bool.or_assoc, HUU.out, decide_eq_true he0, decide_eq_true hbe]; rfl)
                          clear he0
                          go_quiet (fail)
                          go_wp2_with fail
                          go_roundw
                          case rel => exact ⟨k3 + 1, by omega, by go_num, by rw [HNw.out], by first | exact hid (HO2.out.below (Below.drewN _ _) (Nat.le_refl _)) | exact hid (HO2.out.below ((Still.drew _).below _) (Nat.le_refl _)), by first | exact hid (bel_dN HB2.out _) | exact hid (HB2.out.trans ((Still.drew _).below _))⟩
                          case measure => simp [intOf]; omega
                        · have HNw := hid (show (E0 || (LL.take (k3 + 1)).any (fun u => holdB u en)) = false by
                            rw [HSt.out, ← Bool.or_assoc, HUU.out, decide_eq_false hbe]; simp)
                          clear he0
                          go_quiet (fail)
                          go_wp2_with fail
                          go_roundw
                          case rel => exact ⟨k3 + 1, by omega, by go_num, by rw [HNw.out], by first | exact hid (HO2.out.below (Below.drewN _ _) (Nat.le_refl _)) | exact hid (HO2.out.below ((Still.drew _).below _) (Nat.le_refl _)), by first | exact hid (bel_dN HB2.out _) | exact hid (HB2.out.trans ((Still.drew _).below _))⟩
                          case measure => simp [intOf]; omega
                      · have qe : (ek == 0) = false := by simpa using he0
                        have HNw := hid (show (E0 || (LL.take (k3 + 1)).any (fun u => holdB u en)) = false by
                          rw [HSt.out, ← Bool.or_assoc, HUU.out, decide_eq_false he0]; simp)
                        clear he0
                        go_quiet (fail)
                        go_wp2_with fail
                        go_roundw
                        case rel => exact ⟨k3 + 1, by omega, by go_num, by rw [HNw.out], by first | exact hid (HO2.out.below (Below.drewN _ _) (Nat.le_refl _)) | exact hid (HO2.out.below ((Still.drew _).below _) (Nat.le_refl _)), by first | exact hid (bel_dN HB2.out _) | exact hid (HB2.out.trans ((Still.drew _).below _))⟩
                        case measure => simp [intOf]; omega
                  · have hlt3' : ¬ (k3 : Int) < (p : Int) := by omega
                    have hke : k3 = p := by omega
                    subst hke
                    have HEN := hid (show (E0 || (LL.take k3).any (fun u => holdB u en)) = needB LL ⟨xi, be, en, al, rs, ws, inn, ou⟩ by rw [HND.out, List.take_of_length_le (by omega)])
                    rw [HEN.out]
                    cases hnd : needB LL ⟨xi, be, en, al, rs, ws, inn, ou⟩ with
                    | false =>
                      have HNx := hid (show (LL.take (i2 + 1)).filter (needB LL) = (LL.take i2).filter (needB LL) by rw [HKs.out, hnd]; simp)
                      have N1 := hid (show ShT w wr WL.heap.size (.slice a' q c') q ((LL.take (i2 + 1)).filter (needB LL)) by rw [HNx.out]; exact HO2.out)
                      clear hnd bi bxi eM
                      go_wp2_with fail
                      go_roundw
                      case rel => exact ⟨i2 + 1, a', c', q, by omega, by go_num, rfl, by omega, N1, HB2⟩
                      case measure => simp [intOf]; omega
                    | true =>
                      have HNx := hid (show (LL.take (i2 + 1)).filter (needB LL) = (LL.take i2).filter (needB LL) ++ [⟨xi, be, en, al, rs, ws, inn, ou⟩] by rw [HKs.out, hnd]; simp)
                      obtain ⟨x0, x1, x2, x3, x4, x5, x6, x7⟩ := bi
                      simp only at x0 x1 x2 x3 x6 x7
                      obtain ⟨ms, hml, oR, hpt⟩ := HO2.out.ex
                      have hLp := HO2.out.len
                      have hi2p : (i2 : Int) < (k3 : Int) := by omega
                      have hi2z : (0 : Int) ≤ (i2 : Int) := by omega
                      have b0 := Below.alloc1 wr (.cells #[.int .i64 xi, .int .i64 be, .int .i64 en, .bool al, .slice p1' n1 d1', .slice p2' n2 d2', .bool inn, .bool ou] 46)
                      have HN := hid (heap_alloc_new wr (.cells #[.int .i64 xi, .int .i64 be, .int .i64 en, .bool al, .slice p1' n1 d1', .slice p2' n2 d2', .bool inn, .bool ou] 46))
                      have HOA := hid (owns_below b0 (Nat.le_refl _) oR)
                      have HBA := hid (HB2.out.trans (b0.mono HB2.out.size))
                      have HPS := hid (And.intro hml (And.intro hLp hpt))
                      clear b0 oR hml hLp hpt hnd bxi eM
                      go_wp2_with (at_builtin; refine wpList_append_row rfl _ _ 55 rfl WL.heap.size 46 i0 (.agg #[.int .i64 0, .int .i64 0, .int .i64 0, .bool false, .slice none 0 0, .slice none 0 0, .bool false, .bool false]) 8 88 Try.underlying55 hi hz0 hz1 hz2 rfl (by decide) _ q (cellsT ((LL.take i2).filter (needB LL)) ms) rfl HOA.out (some ⟨wr.heap.size, 0, none⟩) 1 1 [.int .i64 xi, .int .i64 be, .int .i64 en, .bool al, .slice p1' n1 d1', .slice p2' n2 d2', .bool inn, .bool ou] rfl rfl (.inr ⟨_, rfl, World.news_of_block HN.out⟩) (fun e => by cases e) ?na1 ?na2 ?na3 ?na4 ?_)
                      case na1 => first | exact ⟨rfl, rfl, rfl, rfl, rfl, rfl, rfl, rfl⟩ | (intro z hz; simp only [List.mem_cons, List.not_mem_nil, or_false] at hz; rcases hz with rfl | rfl | rfl | rfl | rfl | rfl | rfl | rfl <;> rfl)
                      case na2 => unfold maxLen; omega
                      case na3 => omega
                      case na4 => first | exact HBA.out.size | (have := HB2.out.size; omega)
                      intro a5 c5 w5 o5 g5
                      have N1 := hid (show ShT w w5 WL.heap.size (.slice a5 (q + 1) c5) (q + 1) ((LL.take (i2 + 1)).filter (needB LL)) by rw [HNx.out]; exact ShT.push HPS.out.1 HPS.out.2.1 HPS.out.2.2 HP2.out o5)
                      have N2 := hid (HBA.out.grown g5 HBA.out.size (fun r e => (HOA.out.lt r e).1))
                      clear o5 g5 HOA HBA HN x0 x1 x2 x3 x4 x5 x6 x7
                      go_wp2_with fail
                      go_roundw
                      case rel => exact ⟨i2 + 1, a5, c5, q + 1, by omega, by go_num, rfl, by omega, N1, N2⟩
                      case measure => simp [intOf]; omega
              · have hlt2' : ¬ (i2 : Int) < (p : Int) := by omega
                have hie2 : i2 = p := by omega
                subst hie2
                have HKE := hid (show (LL.take i2).filter (needB LL) = keptT LL by unfold keptT; rw [List.take_of_length_le (by omega)])
                rw [HKE.out] at HO2
                have HSK := hid (kept_sm HLS.out.1 HLS.out.2)
                have hqk := HO2.out.len
                go_wp2_with fail
                refine (spec_l13copy c' (HO2.out.rd HBF.out) hqk (by omega) HSK.out.1 HSK.out.2).mono ?_
                rintro e w2 ⟨v, rfl, oT, b2⟩
                obtain ⟨aC, cC, rfl⟩ := oT.slice
                have HF := hid oT.rd
                have HBE := hid (HBF.out.trans (b2.mono HBF.out.size))
                clear oT b2
                go_wp2_with fail
                go_ret2
                refine ⟨?_, HBE.out⟩
                rw [HES.out, HEC.out, HLL.out]
                exact ⟨aC, cC, by first | rfl | (rw [hqk]; rfl), HF.out⟩
      · go_wp2_with fail
        clear kb ki ko
        go_loopw [11, 12] (fun s11 s12 wr => ∃ (i : Nat) (a : Option Addr) (c p : Nat), i ≤ n ∧ s12 = .int .i64 i ∧ s11 = .slice a p c ∧ p ≤ i ∧ Hid (ShT w wr w.heap.size (.slice a p c) p (leftJ ts k0 true now i)) ∧ Hid (Below w.heap.size w wr)) (fun _ s _ => n - (intOf s).toNat)
        case atStart => exact ⟨0, none, 0, 0, Nat.zero_le _, rfl, rfl, Nat.le_refl _, hid (ShT.nil _ _ _), HB⟩
        case round =>
          clear HB
          obtain ⟨i, a, c, p, hin, rfl, rfl, hpi, HO, HB⟩ := hrel
          by_cases hlt : i < n
          · have hlt' : (i : Int) < (n : Int) := by omega
            have hi00 : (0 : Int) ≤ (i : Int) := by omega
            obtain ⟨b', off', a1, c1, a2, c2, e', bx0, r1, m1, r2, m2⟩ := HR.out.at (k := i) (by omega)
            obtain ⟨rfl, rfl⟩ : b = b' ∧ off = off' := by simpa using e'
            have bx := bx0.below HB.out (Nat.le_refl _)
            have HPp := hid (PartT.of (c1 := c1) (c2 := c2) r1 m1 r2 m2)
            obtain ⟨t, ht⟩ : ∃ t, ts.getD i tk0 = t := ⟨_, rfl⟩
            have HTi := hid ht
            rw [ht] at bx HPp
            obtain ⟨xi, be, en, al, rs, ws, inn, ou⟩ := t
            simp only at bx HPp
            obtain ⟨n1, hn1⟩ : ∃ n1, rs.length = n1 := ⟨_, rfl⟩
            obtain ⟨n2, hn2⟩ : ∃ n2, ws.length = n2 := ⟨_, rfl⟩
            rw [hn1, hn2] at bx HPp
            obtain ⟨x0, x1, x2, x3, x4, x5, x6, x7⟩ := bx
            simp only at x0 x1 x2 x3 x6 x7
            clear bx0 r1 m1 r2 m2 ht e'
            by_cases hik : i = k0
            · skip
              have hqi : ((i : Int) == (k0 : Int)) = true := by simp [hik]
              have HPt := hid (show PartT w ⟨.slice a1 n1 c1, [], .slice a2 n2 c2, []⟩ ⟨xi, be, now, al, rs, ws, inn, ou⟩ from by obtain ⟨e1, e2, e3, e4, r⟩ := HPp.out.ex; exact ⟨e1, e2, e3, e4, r⟩)
              have HLn := hid (show leftJ ts k0 true now (i + 1) = leftJ ts k0 true now i ++ [⟨xi, be, now, al, rs, ws, inn, ou⟩] by rw [leftJ_succ]; congr 1; unfold stepT; rw [if_pos hik, HTi.out]; rfl)
              obtain ⟨ms, hml, oR, hpt⟩ := HO.out.ex
              have hLp := HO.out.len
              have b0 := Below.alloc1 wr (.cells #[.int .i64 xi, .int .i64 be, .int .i64 now, .bool al, .slice a1 n1 c1, .slice a2 n2 c2, .bool inn, .bool ou] 46)
              have b1 := Below.alloc1 (wr.alloc (.cells #[.int .i64 xi, .int .i64 be, .int .i64 now, .bool al, .slice a1 n1 c1, .slice a2 n2 c2, .bool inn, .bool ou] 46)) (.cells #[.int .i64 xi, .int .i64 be, .int .i64 now, .bool al, .slice a1 n1 c1, .slice a2 n2 c2, .bool inn, .bool ou] 46)
              have z0 := alloc_size wr (.cells #[.int .i64 xi, .int .i64 be, .int .i64 now, .bool al, .slice a1 n1 c1, .slice a2 n2 c2, .bool inn, .bool ou] 46)
              have hnw := heap_alloc_new (wr.alloc (.cells #[.int .i64 xi, .int .i64 be, .int .i64 now, .bool al, .slice a1 n1 c1, .slice a2 n2 c2, .bool inn, .bool ou] 46)) (.cells #[.int .i64 xi, .int .i64 be, .int .i64 now, .bool al, .slice a1 n1 c1, .slice a2 n2 c2, .bool inn, .bool ou] 46)
              rw [z0] at hnw
              have HN := hid hnw
              have HOA := hid (owns_below b1 (by omega) (owns_below b0 (Nat.le_refl _) oR))
              have HBA := hid ((HB.out.trans (b0.mono HB.out.size)).trans (b1.mono (by have := HB.out.size; omega)))
              have HPS := hid (And.intro hml (And.intro hLp hpt))
              clear b0 b1 z0 hnw oR hml hLp hpt hik
              go_wp2_with (at_builtin; refine wpList_append_row rfl _ _ 55 rfl w.heap.size 46 i0 (.agg #[.int .i64 0, .int .i64 0, .int .i64 0, .bool false, .slice none 0 0, .slice none 0 0, .bool false, .bool false]) 8 88 Try.underlying55 hi hz0 hz1 hz2 rfl (by decide) _ p (cellsT (leftJ ts k0 true now i) ms) rfl HOA.out (some ⟨wr.heap.size + 1, 0, none⟩) 1 1 [.int .i64 xi, .int .i64 be, .int .i64 now, .bool al, .slice a1 n1 c1, .slice a2 n2 c2, .bool inn, .bool ou] rfl rfl (.inr ⟨_, rfl, World.news_of_block HN.out⟩) (fun e => by cases e) ?eb1 ?eb2 ?eb3 ?eb4 ?_)
              case eb1 => intro z hz; simp only [List.mem_cons, List.not_mem_nil, or_false] at hz; rcases hz with rfl | rfl | rfl | rfl | rfl | rfl | rfl | rfl <;> rfl
              case eb2 => unfold maxLen; omega
              case eb3 => omega
              case eb4 => exact HBA.out.size
              intro a5 c5 w5 o5 g5
              have N1 := hid (show ShT w w5 w.heap.size (.slice a5 (p + 1) c5) (p + 1) (leftJ ts k0 true now (i + 1)) by rw [HLn.out]; exact ShT.push HPS.out.1 HPS.out.2.1 HPS.out.2.2 HPt.out o5)
              have N2 := hid (HBA.out.grown g5 HBA.out.size (fun r e => (HOA.out.lt r e).1))
              clear o5 g5 HOA HBA HN x0 x1 x2 x3 x4 x5 x6 x7
              go_wp2_with fail
              go_roundw
              case rel => exact ⟨i + 1, a5, c5, p + 1, by omega, by go_num, rfl, by omega, N1, N2⟩
              case measure => simp [intOf]; omega
            · skip
              have hqi : ((i : Int) == (k0 : Int)) = false := by simp; omega
              have HPt := hid (show PartT w ⟨.slice a1 n1 c1, [], .slice a2 n2 c2, []⟩ ⟨xi, be, en, al, rs, ws, inn, ou⟩ from by obtain ⟨e1, e2, e3, e4, r⟩ := HPp.out.ex; exact ⟨e1, e2, e3, e4, r⟩)
              have HLn := hid (show leftJ ts k0 true now (i + 1) = leftJ ts k0 true now i ++ [⟨xi, be, en, al, rs, ws, inn, ou⟩] by rw [leftJ_succ]; congr 1; unfold stepT; rw [if_neg hik, HTi.out])
              obtain ⟨ms, hml, oR, hpt⟩ := HO.out.ex
              have hLp := HO.out.len
              have b0 := Below.alloc1 wr (.cells #[.int .i64 xi, .int .i64 be, .int .i64 en, .bool al, .slice a1 n1 c1, .slice a2 n2 c2, .bool inn, .bool ou] 46)
              have b1 := Below.alloc1 (wr.alloc (.cells #[.int .i64 xi, .int .i64 be, .int .i64 en, .bool al, .slice a1 n1 c1, .slice a2 n2 c2, .bool inn, .bool ou] 46)) (.cells #[.int .i64 xi, .int .i64 be, .int .i64 en, .bool al, .slice a1 n1 c1, .slice a2 n2 c2, .bool inn, .bool ou] 46)
              have z0 := alloc_size wr (.cells #[.int .i64 xi, .int .i64 be, .int .i64 en, .bool al, .slice a1 n1 c1, .slice a2 n2 c2, .bool inn, .bool ou] 46)
              have hnw := heap_alloc_new (wr.alloc (.cells #[.int .i64 xi, .int .i64 be, .int .i64 en, .bool al, .slice a1 n1 c1, .slice a2 n2 c2, .bool inn, .bool ou] 46)) (.cells #[.int .i64 xi, .int .i64 be, .int .i64 en, .bool al, .slice a1 n1 c1, .slice a2 n2 c2, .bool inn, .bool ou] 46)
              rw [z0] at hnw
              have HN := hid hnw
              have HOA := hid (owns_below b1 (by omega) (owns_below b0 (Nat.le_refl _) oR))
              have HBA := hid ((HB.out.trans (b0.mono HB.out.size)).trans (b1.mono (by have := HB.out.size; omega)))
              have HPS := hid (And.intro hml (And.intro hLp hpt))
              clear b0 b1 z0 hnw oR hml hLp hpt hik
              go_wp2_with (at_builtin; refine wpList_append_row rfl _ _ 55 rfl w.heap.size 46 i0 (.agg #[.int .i64 0, .int .i64 0, .int .i64 0, .bool false, .slice none 0 0, .slice none 0 0, .bool false, .bool false]) 8 88 Try.underlying55 hi hz0 hz1 hz2 rfl (by decide) _ p (cellsT (leftJ ts k0 true now i) ms) rfl HOA.out (some ⟨wr.heap.size + 1, 0, none⟩) 1 1 [.int .i64 xi, .int .i64 be, .int .i64 en, .bool al, .slice a1 n1 c1, .slice a2 n2 c2, .bool inn, .bool ou] rfl rfl (.inr ⟨_, rfl, World.news_of_block HN.out⟩) (fun e => by cases e) ?ob1 ?ob2 ?ob3 ?ob4 ?_)
              case ob1 => intro z hz; simp only [List.mem_cons, List.not_mem_nil, or_false] at hz; rcases hz with rfl | rfl | rfl | rfl | rfl | rfl | rfl | rfl <;> rfl
              case ob2 => unfold maxLen; omega
              case ob3 => omega
              case ob4 => exact HBA.out.size
              intro a5 c5 w5 o5 g5
              have N1 := hid (show ShT w w5 w.heap.size (.slice a5 (p + 1) c5) (p + 1) (leftJ ts k0 true now (i + 1)) by rw [HLn.out]; exact ShT.push HPS.out.1 HPS.out.2.1 HPS.out.2.2 HPt.out o5)
              have N2 := hid (HBA.out.grown g5 HBA.out.size (fun r e => (HOA.out.lt r e).1))
              clear o5 g5 HOA HBA HN x0 x1 x2 x3 x4 x5 x6 x7
              go_wp2_with fail
              go_roundw
              case rel => exact ⟨i + 1, a5, c5, p + 1, by omega, by go_num, rfl, by omega, N1, N2⟩
              case measure => simp [intOf]; omega
          · have hlt' : ¬ (i : Int) < (n : Int) := by omega
            have hie : i = n := by omega
            subst hie
            obtain ⟨LL, hLL⟩ : ∃ LL, leftJ ts k0 true now i = LL := ⟨_, rfl⟩
            have HLL := hid (show leftT ts k0 true now = LL by unfold leftT; rw [hl]; exact hLL)
            rw [hLL] at HO
            have HLS := hid (show smT LL ∧ lnT LL by rw [← HLL.out]; exact leftT_sm HSM.out.1 HSM.out.2)
            have hLlen := HO.out.len
            have HV := hid (fun b hb => (HO.out.ex.choose_spec.2.1.lt b hb).2)
            have BW := hid (Below.refl wr.heap.size wr)
            obtain ⟨WL, hWL⟩ : ∃ WL, wr = WL := ⟨_, rfl⟩
            have HOL := hid (show ShT w WL w.heap.size (.slice a p c) p LL from hWL ▸ HO.out)
            have HBL := hid (show Below w.heap.size w WL from hWL ▸ HB.out)
            have HVL := hid (show ∀ b, (Value.slice a p c).ownBlock = some b → b < WL.heap.size from hWL ▸ HV.out)
            have BWL := hid (show Below WL.heap.size WL wr from hWL ▸ Below.refl WL.heap.size WL)
            clear hLL HO HB HV BW hWL
            go_wp2_with fail
            go_loopw [14, 15] (fun s14 s15 wr => ∃ (i : Nat) (a' : Option Addr) (c' q : Nat), i ≤ p ∧ s15 = .int .i64 i ∧ s14 = .slice a' q c' ∧ q ≤ i ∧ Hid (ShT w wr WL.heap.size (.slice a' q c') q ((LL.take i).filter (needB LL))) ∧ Hid (Below WL.heap.size WL wr)) (fun _ s _ => p - (intOf s).toNat)
            case atStart => exact ⟨0, none, 0, 0, Nat.zero_le _, rfl, rfl, Nat.le_refl _, hid (by simpa using ShT.nil _ _ _), BWL⟩
            case round =>
              clear BWL
              obtain ⟨i2, a', c', q, hi2, rfl, rfl, hqi2, HO2, HB2⟩ := hrel
              have HBF := hid (HBL.out.trans (HB2.out.mono HBL.out.size))
              by_cases hlt2 : i2 < p
              · have hlt2' : (i2 : Int) < (p : Int) := by omega
                have hi20 : (0 : Int) ≤ (i2 : Int) := by omega
                obtain ⟨gL, cL, p1, d1, p2, d2, eL, hgl, hgs, bx0, hPt⟩ := HOL.out.at (i := i2) hlt2
                have ea : a = some ⟨gL, 0, none⟩ := by injection eL
                subst ea
                have bx := bx0.below HB2.out (Nat.le_refl _)
                have HKs := hid (kept_step LL (k := i2) (by omega))
                have HND := hid (show needB LL (LL.getD i2 tk0) = (decide ((LL.getD i2 tk0).ended = 0) || LL.any (fun u => holdB u (LL.getD i2 tk0).ended)) from rfl)
                have HPp := hid hPt
                obtain ⟨t2, ht2⟩ : ∃ t, LL.getD i2 tk0 = t := ⟨_, rfl⟩
                rw [ht2] at bx HKs HND HPp
                have HT2 := hid ht2
                clear ht2 hPt bx0
                obtain ⟨xi, be, en, al, rs, ws, inn, ou⟩ := t2
                simp only at bx HPp HND
                obtain ⟨n1, hn1⟩ : ∃ n1, rs.length = n1 := ⟨_, rfl⟩
                obtain ⟨n2, hn2⟩ : ∃ n2, ws.length = n2 := ⟨_, rfl⟩
                rw [hn1, hn2] at bx HPp
                have HBx := hid bx
                have x2 := bx.c2
                clear bx
                obtain ⟨E0, hE0⟩ : ∃ E0, decide (en = 0) = E0 := ⟨_, rfl⟩
                have hq0 : (en == 0) = E0 := by rw [← hE0]; rfl
                rw [hE0] at HND
                have HE0 := hid hE0
                clear hE0
                go_wp2_with fail
                clear x2 hq0
                go_loopw [16, 17] (fun s16 s17 wr => ∃ (k : Nat), k ≤ p ∧ s17 = .int .i64 k ∧ s16 = .bool (E0 || (LL.take k).any (fun u => holdB u en)) ∧ Hid (ShT w wr WL.heap.size (.slice a' q c') q ((LL.take i2).filter (needB LL))) ∧ Hid (Below WL.heap.size WL wr)) (fun _ s _ => p - (intOf s).toNat)
                case atStart => exact ⟨0, Nat.zero_le _, rfl, by simp, HO2, HB2⟩
                case round =>
                  clear HO2 HB2 HBF HBx
                  obtain ⟨k3, hk3, rfl, rfl, HO2, HB2⟩ := hrel
                  have HBF := hid (HBL.out.trans (HB2.out.mono HBL.out.size))
                  obtain ⟨gM, _, p1', d1', p2', d2', eM, _, _, bxi, hPt'⟩ := HOL.out.at (i := i2) hlt2
                  obtain rfl : gL = gM := by injection eM with e1; injection e1 with e1; injection e1
                  have bi := bxi.below HB2.out (Nat.le_refl _)
                  rw [HT2.out] at bi hPt'
                  simp only at bi hPt'
                  rw [hn1, hn2] at bi hPt'
                  have HP2 := hid hPt'
                  clear hPt'
                  by_cases hlt3 : k3 < p
                  · have hlt3' : (k3 : Int) < (p : Int) := by omega
                    have hk30 : (0 : Int) ≤ (k3 : Int) := by omega
                    have hi2p : (i2 : Int) < (p : Int) := by omega
                    have hi2z : (0 : Int) ≤ (i2 : Int) := by omega
                    obtain ⟨gK, _, _, _, _, _, eK, _, _, bxk, _⟩ := HOL.out.at (i := k3) hlt3
                    obtain rfl : gL = gK := by injection eK with e1; injection e1 with e1; injection e1
                    have bk := bxk.below HB2.out (Nat.le_refl _)
                    have HSt := hid (need_step LL en (k := k3) (by omega))
                    have y2 := bk.c2
                    have y1 := bk.c1
                    have z2 := bi.c2
                    have hHd : holdB (LL.getD k3 tk0) en = (decide ((LL.getD k3 tk0).ended = 0) && decide ((LL.getD k3 tk0).begun < en)) := rfl
                    rw [hHd] at HSt
                    generalize (LL.getD k3 tk0).ended = ek at *
                    generalize (LL.getD k3 tk0).begun = bk' at *
                    obtain ⟨U, hU⟩ : ∃ U, (E0 || (LL.take k3).any (fun u => holdB u en)) = U := ⟨_, rfl⟩
                    rw [hU]
                    have HUU := hid hU
                    clear hU bk bi bxi bxk eM eK hHd
                    go_wp2_with fail
                    cases U with
                    | true =>
                      have HNw := hid (show (E0 || (LL.take (k3 + 1)).any (fun u => holdB u en)) = true by
                        rw [HSt.out, ← Bool.or_assoc, HUU.out]; rfl)
                      go_quiet (fail)
                      go_wp2_with fail
                      go_roundw
                      case rel => exact ⟨k3 + 1, by omega, by go_num, by rw [HNw.out], by first | exact hid (HO2.out.below (Below.drewN _ _) (Nat.le_refl _)) | exact hid (HO2.out.below ((Still.drew _).below _) (Nat.le_refl _)), by first | exact hid (bel_dN HB2.out _) | exact hid (HB2.out.trans ((Still.drew _).below _))⟩
                      case measure => simp [intOf]; omega
                    | false =>
                      by_cases he0 : ek = 0
                      · have qe : (ek == 0) = true := by simpa using he0
                        by_cases hbe : bk' < en
                        · have HNw := hid (show (E0 || (LL.take (k3 + 1)).any (fun u => holdB u en)) = true by
                            rw [HSt.out, ← Bool.or_assoc, HUU.out, decide_eq_true he0, decide_eq_true hbe]; rfl)
                          clear he0
                          go_quiet (fail)
                          go_wp2_with fail
                          go_roundw
                          case rel => exact ⟨k3 + 1, by omega, by go_num, by rw [HNw.out], by first | exact hid (HO2.out.below (Below.drewN _ _) (Nat.le_refl _)) | exact hid (HO2.out.below ((Still.drew _).below _) (Nat.le_refl _)), by first | exact hid (bel_dN HB2.out _) | exact hid (HB2.out.trans ((Still.drew _).below _))⟩
                          case measure => simp [intOf]; omega
                        · have HNw := hid (show (E0 || (LL.take (k3 + 1)).any (fun u => holdB u en)) = false by
                            rw [HSt.out, ← Bool.or_assoc, HUU.out, decide_eq_false hbe]; simp)
                          clear he0
                          go_quiet (fail)
                          go_wp2_with fail
                          go_roundw
                          case rel => exact ⟨k3 + 1, by omega, by go_num, by rw [HNw.out], by first | exact hid (HO2.out.below (Below.drewN _ _) (Nat.le_refl _)) | exact hid (HO2.out.below ((Still.drew _).below _) (Nat.le_refl _)), by first | exact hid (bel_dN HB2.out _) | exact hid (HB2.out.trans ((Still.drew _).below _))⟩
                          case measure => simp [intOf]; omega
                      · have qe : (ek == 0) = false := by simpa using he0
                        have HNw := hid (show (E0 || (LL.take (k3 + 1)).any (fun u => holdB u en)) = false by
                          rw [HSt.out, ← Bool.or_assoc, HUU.out, decide_eq_false he0]; simp)
                        clear he0
                        go_quiet (fail)
                        go_wp2_with fail
                        go_roundw
                        case rel => exact ⟨k3 + 1, by omega, by go_num, by rw [HNw.out], by first | exact hid (HO2.out.below (Below.drewN _ _) (Nat.le_refl _)) | exact hid (HO2.out.below ((Still.drew _).below _) (Nat.le_refl _)), by first | exact hid (bel_dN HB2.out _) | exact hid (HB2.out.trans ((Still.drew _).below _))⟩
                        case measure => simp [intOf]; omega
                  · have hlt3' : ¬ (k3 : Int) < (p : Int) := by omega
                    have hke : k3 = p := by omega
                    subst hke
                    have HEN := hid (show (E0 || (LL.take k3).any (fun u => holdB u en)) = needB LL ⟨xi, be, en, al, rs, ws, inn, ou⟩ by rw [HND.out, List.take_of_length_le (by omega)])
                    rw [HEN.out]
                    cases hnd : needB LL ⟨xi, be, en, al, rs, ws, inn, ou⟩ with
                    | false =>
                      have HNx := hid (show (LL.take (i2 + 1)).filter (needB LL) = (LL.take i2).filter (needB LL) by rw [HKs.out, hnd]; simp)
                      have N1 := hid (show ShT w wr WL.heap.size (.slice a' q c') q ((LL.take (i2 + 1)).filter (needB LL)) by rw [HNx.out]; exact HO2.out)
                      clear hnd bi bxi eM
                      go_wp2_with fail
                      go_roundw
                      case rel => exact ⟨i2 + 1, a', c', q, by omega, by go_num, rfl, by omega, N1, HB2⟩
                      case measure => simp [intOf]; omega
                    | true =>
                      have HNx := hid (show (LL.take (i2 + 1)).filter (needB LL) = (LL.take i2).filter (needB LL) ++ [⟨xi, be, en, al, rs, ws, inn, ou⟩] by rw [HKs.out, hnd]; simp)
                      obtain ⟨x0, x1, x2, x3, x4, x5, x6, x7⟩ := bi
                      simp only at x0 x1 x2 x3 x6 x7
                      obtain ⟨ms, hml, oR, hpt⟩ := HO2.out.ex
                      have hLp := HO2.out.len
                      have hi2p : (i2 : Int) < (k3 : Int) := by omega
                      have hi2z : (0 : Int) ≤ (i2 : Int) := by omega
                      have b0 := Below.alloc1 wr (.cells #[.int .i64 xi, .int .i64 be, .int .i64 en, .bool al, .slice p1' n1 d1', .slice p2' n2 d2', .bool inn, .bool ou] 46)
                      have HN := hid (heap_alloc_new wr (.cells #[.int .i64 xi, .int .i64 be, .int .i64 en, .bool al, .slice p1' n1 d1', .slice p2' n2 d2', .bool inn, .bool ou] 46))
                      have HOA := hid (owns_below b0 (Nat.le_refl _) oR)
                      have HBA := hid (HB2.out.trans (b0.mono HB2.out.size))
                      have HPS := hid (And.intro hml (And.intro hLp hpt))
                      clear b0 oR hml hLp hpt hnd bxi eM
                      go_wp2_with (at_builtin; refine wpList_append_row rfl _ _ 55 rfl WL.heap.size 46 i0 (.agg #[.int .i64 0, .int .i64 0, .int .i64 0, .bool false, .slice none 0 0, .slice none 0 0, .bool false, .bool false]) 8 88 Try.underlying55 hi hz0 hz1 hz2 rfl (by decide) _ q (cellsT ((LL.take i2).filter (needB LL)) ms) rfl HOA.out (some ⟨wr.heap.size, 0, none⟩) 1 1 [.int .i64 xi, .int .i64 be, .int .i64 en, .bool al, .slice p1' n1 d1', .slice p2' n2 d2', .bool inn, .bool ou] rfl rfl (.inr ⟨_, rfl, World.news_of_block HN.out⟩) (fun e => by cases e) ?nb1 ?nb2 ?nb3 ?nb4 ?_)
                      case nb1 => first | exact ⟨rfl, rfl, rfl, rfl, rfl, rfl, rfl, rfl⟩ | (intro z hz; simp only [List.mem_cons, List.not_mem_nil, or_false] at hz; rcases hz with rfl | rfl | rfl | rfl | rfl | rfl | rfl | rfl <;> rfl)
                      case nb2 => unfold maxLen; omega
                      case nb3 => omega
                      case nb4 => first | exact HBA.out.size | (have := HB2.out.size; omega)
                      intro a5 c5 w5 o5 g5
                      have N1 := hid (show ShT w w5 WL.heap.size (.slice a5 (q + 1) c5) (q + 1) ((LL.take (i2 + 1)).filter (needB LL)) by rw [HNx.out]; exact ShT.push HPS.out.1 HPS.out.2.1 HPS.out.2.2 HP2.out o5)
                      have N2 := hid (HBA.out.grown g5 HBA.out.size (fun r e => (HOA.out.lt r e).1))
                      clear o5 g5 HOA HBA HN x0 x1 x2 x3 x4 x5 x6 x7
                      go_wp2_with fail
                      go_roundw
                      case rel => exact ⟨i2 + 1, a5, c5, q + 1, by omega, by go_num, rfl, by omega, N1, N2⟩
                      case measure => simp [intOf]; omega
              · have hlt2' : ¬ (i2 : Int) < (p : Int) := by omega
                have hie2 : i2 = p := by omega
                subst hie2
                have HKE := hid (show (LL.take i2).filter (needB LL) = keptT LL by unfold keptT; rw [List.take_of_length_le (by omega)])
                rw [HKE.out] at HO2
                have HSK := hid (kept_sm HLS.out.1 HLS.out.2)
                have hqk := HO2.out.len
                go_wp2_with fail
                refine (spec_l13copy c' (HO2.out.rd HBF.out) hqk (by omega) HSK.out.1 HSK.out.2).mono ?_
                rintro e w2 ⟨v, rfl, oT, b2⟩
                obtain ⟨aC, cC, rfl⟩ := oT.slice
                have HF := hid oT.rd
                have HBE := hid (HBF.out.trans (b2.mono HBF.out.size))
                clear oT b2
                go_wp2_with fail
                go_ret2
                refine ⟨?_, HBE.out⟩
                rw [HES.out, HEC.out, HLL.out]
                exact ⟨aC, cC, by first | rfl | (rw [hqk]; rfl), HF.out⟩
      · go_wp2_with fail
        clear kb ki ko
        go_loopw [11, 12] (fun s11 s12 wr => ∃ (i : Nat) (a : Option Addr) (c p : Nat), i ≤ n ∧ s12 = .int .i64 i ∧ s11 = .slice a p c ∧ p ≤ i ∧ Hid (ShT w wr w.heap.size (.slice a p c) p (leftJ ts k0 true now i)) ∧ Hid (Below w.heap.size w wr)) (fun _ s _ => n - (intOf s).toNat)
        case atStart => exact ⟨0, none, 0, 0, Nat.zero_le _, rfl, rfl, Nat.le_refl _, hid (ShT.nil _ _ _), HB⟩
        case round =>
          clear HB
          obtain ⟨i, a, c, p, hin, rfl, rfl, hpi, HO, HB⟩ := hrel
          by_cases hlt : i < n
          · have hlt' : (i : Int) < (n : Int) := by omega
            have hi00 : (0 : Int) ≤ (i : Int) := by omega
            obtain ⟨b', off', a1, c1, a2, c2, e', bx0, r1, m1, r2, m2⟩ := HR.out.at (k := i) (by omega)
            obtain ⟨rfl, rfl⟩ : b = b' ∧ off = off' := by simpa using e'
            have bx := bx0.below HB.out (Nat.le_refl _)
            have HPp := hid (PartT.of (c1 := c1) (c2 := c2) r1 m1 r2 m2)
            obtain ⟨t, ht⟩ : ∃ t, ts.getD i tk0 = t := ⟨_, rfl⟩
            have HTi := hid ht
            rw [ht] at bx HPp
            obtain ⟨xi, be, en, al, rs, ws, inn, ou⟩ := t
            simp only at bx HPp
            obtain ⟨n1, hn1⟩ : ∃ n1, rs.length = n1 := ⟨_, rfl⟩
            obtain ⟨n2, hn2⟩ : ∃ n2, ws.length = n2 := ⟨_, rfl⟩
            rw [hn1, hn2] at bx HPp
            obtain ⟨x0, x1, x2, x3, x4, x5, x6, x7⟩ := bx
            simp only at x0 x1 x2 x3 x6 x7
            clear bx0 r1 m1 r2 m2 ht e'
            by_cases hik : i = k0
            · skip
              have hqi : ((i : Int) == (k0 : Int)) = true := by simp [hik]
              have HPt := hid (show PartT w ⟨.slice a1 n1 c1, [], .slice a2 n2 c2, []⟩ ⟨xi, be, now, al, rs, ws, inn, ou⟩ from by obtain ⟨e1, e2, e3, e4, r⟩ := HPp.out.ex; exact ⟨e1, e2, e3, e4, r⟩)
              have HLn := hid (show leftJ ts k0 true now (i + 1) = leftJ ts k0 true now i ++ [⟨xi, be, now, al, rs, ws, inn, ou⟩] by rw [leftJ_succ]; congr 1; unfold stepT; rw [if_pos hik, HTi.out]; rfl)
              obtain ⟨ms, hml, oR, hpt⟩ := HO.out.ex
              have hLp := HO.out.len
              have b0 := Below.alloc1 wr (.cells #[.int .i64 xi, .int .i64 be, .int .i64 now, .bool al, .slice a1 n1 c1, .slice a2 n2 c2, .bool inn, .bool ou] 46)
              have b1 := Below.alloc1 (wr.alloc (.cells #[.int .i64 xi, .int .i64 be, .int .i64 now, .bool al, .slice a1 n1 c1, .slice a2 n2 c2, .bool inn, .bool ou] 46)) (.cells #[.int .i64 xi, .int .i64 be, .int .i64 now, .bool al, .slice a1 n1 c1, .slice a2 n2 c2, .bool inn, .bool ou] 46)
              have z0 := alloc_size wr (.cells #[.int .i64 xi, .int .i64 be, .int .i64 now, .bool al, .slice a1 n1 c1, .slice a2 n2 c2, .bool inn, .bool ou] 46)
              have hnw := heap_alloc_new (wr.alloc (.cells #[.int .i64 xi, .int .i64 be, .int .i64 now, .bool al, .slice a1 n1 c1, .slice a2 n2 c2, .bool inn, .bool ou] 46)) (.cells #[.int .i64 xi, .int .i64 be, .int .i64 now, .bool al, .slice a1 n1 c1, .slice a2 n2 c2, .bool inn, .bool ou] 46)
              rw [z0] at hnw
              have HN := hid hnw
              have HOA := hid (owns_below b1 (by omega) (owns_below b0 (Nat.le_refl _) oR))
              have HBA := hid ((HB.out.trans (b0.mono HB.out.size)).trans (b1.mono (by have := HB.out.size; omega)))
              have HPS := hid (And.intro hml (And.intro hLp hpt))
              clear b0 b1 z0 hnw oR hml hLp hpt hik
              go_wp2_with (at_builtin; refine wpList_append_row rfl _ _ 55 rfl w.heap.size 46 i0 (.agg #[.int .i64 0, .int .i64 0, .int .i64 0, .bool false, .slice none 0 0, .slice none 0 0, .bool false, .bool false]) 8 88 Try.underlying55 hi hz0 hz1 hz2 rfl (by decide) _ p (cellsT (leftJ ts k0 true now i) ms) rfl HOA.out (some ⟨wr.heap.size + 1, 0, none⟩) 1 1 [.int .i64 xi, .int .i64 be, .int .i64 now, .bool al, .slice a1 n1 c1, .slice a2 n2 c2, .bool inn, .bool ou] rfl rfl (.inr ⟨_, rfl, World.news_of_block HN.out⟩) (fun e => by cases e) ?ec1 ?ec2 ?ec3 ?ec4 ?_)
              case ec1 => intro z hz; simp only [List.mem_cons, List.not_mem_nil, or_false] at hz; rcases hz with rfl | rfl | rfl | rfl | rfl | rfl | rfl | rfl <;> rfl
              case ec2 => unfold maxLen; omega
              case ec3 => omega
              case ec4 => exact HBA.out.size
              intro a5 c5 w5 o5 g5
              have N1 := hid (show ShT w w5 w.heap.size (.slice a5 (p + 1) c5) (p + 1) (leftJ ts k0 true now (i + 1)) by rw [HLn.out]; exact ShT.push HPS.out.1 HPS.out.2.1 HPS.out.2.2 HPt.out o5)
              have N2 := hid (HBA.out.grown g5 HBA.out.size (fun r e => (HOA.out.lt r e).1))
              clear o5 g5 HOA HBA HN x0 x1 x2 x3 x4 x5 x6 x7
              go_wp2_with fail
              go_roundw
              case rel => exact ⟨i + 1, a5, c5, p + 1, by omega, by go_num, rfl, by omega, N1, N2⟩
              case measure => simp [intOf]; omega
            · skip
              have hqi : ((i : Int) == (k0 : Int)) = false := by simp; omega
              have HPt := hid (show PartT w ⟨.slice a1 n1 c1, [], .slice a2 n2 c2, []⟩ ⟨xi, be, en, al, rs, ws, inn, ou⟩ from by obtain ⟨e1, e2, e3, e4, r⟩ := HPp.out.ex; exact ⟨e1, e2, e3, e4, r⟩)
              have HLn := hid (show leftJ ts k0 true now (i + 1) = leftJ ts k0 true now i ++ [⟨xi, be, en, al, rs, ws, inn, ou⟩] by rw [leftJ_succ]; congr 1; unfold stepT; rw [if_neg hik, HTi.out])
              obtain ⟨ms, hml, oR, hpt⟩ := HO.out.ex
              have hLp := HO.out.len
              have b0 := Below.alloc1 wr (.cells #[.int .i64 xi, .int .i64 be, .int .i64 en, .bool al, .slice a1 n1 c1, .slice a2 n2 c2, .bool inn, .bool ou] 46)
              have b1 := Below.alloc1 (wr.alloc (.cells #[.int .i64 xi, .int .i64 be, .int .i64 en, .bool al, .slice a1 n1 c1, .slice a2 n2 c2, .bool inn, .bool ou] 46)) (.cells #[.int .i64 xi, .int .i64 be, .int .i64 en, .bool al, .slice a1 n1 c1, .slice a2 n2 c2, .bool inn, .bool ou] 46)
              have z0 := alloc_size wr (.cells #[.int .i64 xi, .int .i64 be, .int .i64 en, .bool al, .slice a1 n1 c1, .slice a2 n2 c2, .bool inn, .bool ou] 46)
              have hnw := heap_alloc_new (wr.alloc (.cells #[.int .i64 xi, .int .i64 be, .int .i64 en, .bool al, .slice a1 n1 c1, .slice a2 n2 c2, .bool inn, .bool ou] 46)) (.cells #[.int .i64 xi, .int .i64 be, .int .i64 en, .bool al, .slice a1 n1 c1, .slice a2 n2 c2, .bool inn, .bool ou] 46)
              rw [z0] at hnw
              have HN := hid hnw
              have HOA := hid (owns_below b1 (by omega) (owns_below b0 (Nat.le_refl _) oR))
              have HBA := hid ((HB.out.trans (b0.mono HB.out.size)).trans (b1.mono (by have := HB.out.size; omega)))
              have HPS := hid (And.intro hml (And.intro hLp hpt))
              clear b0 b1 z0 hnw oR hml hLp hpt hik
              go_wp2_with (at_builtin; refine wpList_append_row rfl _ _ 55 rfl w.heap.size 46 i0 (.agg #[.int .i64 0, .int .i64 0, .int .i64 0, .bool false, .slice none 0 0, .slice none 0 0, .bool false, .bool false]) 8 88 Try.underlying55 hi hz0 hz1 hz2 rfl (by decide) _ p (cellsT (leftJ ts k0 true now i) ms) rfl HOA.out (some ⟨wr.heap.size + 1, 0, none⟩) 1 1 [.int .i64 xi, .int .i64 be, .int .i64 en, .bool al, .slice a1 n1 c1, .slice a2 n2 c2, .bool inn, .bool ou] rfl rfl (.inr ⟨_, rfl, World.news_of_block HN.out⟩) (fun e => by cases e) ?oc1 ?oc2 ?oc3 ?oc4 ?_)
              case oc1 => intro z hz; simp only [List.mem_cons, List.not_mem_nil, or_false] at hz; rcases hz with rfl | rfl | rfl | rfl | rfl | rfl | rfl | rfl <;> rfl
              case oc2 => unfold maxLen; omega
              case oc3 => omega
              case oc4 => exact HBA.out.size
              intro a5 c5 w5 o5 g5
              have N1 := hid (show ShT w w5 w.heap.size (.slice a5 (p + 1) c5) (p + 1) (leftJ ts k0 true now (i + 1)) by rw [HLn.out]; exact ShT.push HPS.out.1 HPS.out.2.1 HPS.out.2.2 HPt.out o5)
              have N2 := hid (HBA.out.grown g5 HBA.out.size (fun r e => (HOA.out.lt r e).1))
              clear o5 g5 HOA HBA HN x0 x1 x2 x3 x4 x5 x6 x7
              go_wp2_with fail
              go_roundw
              case rel => exact ⟨i + 1, a5, c5, p + 1, by omega, by go_num, rfl, by omega, N1, N2⟩
              case measure => simp [intOf]; omega
          · have hlt' : ¬ (i : Int) < (n : Int) := by omega
            have hie : i = n := by omega
            subst hie
            obtain ⟨LL, hLL⟩ : ∃ LL, leftJ ts k0 true now i = LL := ⟨_, rfl⟩
            have HLL := hid (show leftT ts k0 true now = LL by unfold leftT; rw [hl]; exact hLL)
            rw [hLL] at HO
            have HLS := hid (show smT LL ∧ lnT LL by rw [← HLL.out]; exact leftT_sm HSM.out.1 HSM.out.2)
            have hLlen := HO.out.len
            have HV := hid (fun b hb => (HO.out.ex.choose_spec.2.1.lt b hb).2)
            have BW := hid (Below.refl wr.heap.size wr)
            obtain ⟨WL, hWL⟩ : ∃ WL, wr = WL := ⟨_, rfl⟩
            have HOL := hid (show ShT w WL w.heap.size (.slice a p c) p LL from hWL ▸ HO.out)
            have HBL := hid (show Below w.heap.size w WL from hWL ▸ HB.out)
            have HVL := hid (show ∀ b, (Value.slice a p c).ownBlock = some b → b < WL.heap.size from hWL ▸ HV.out)
            have BWL := hid (show Below WL.heap.size WL wr from hWL ▸ Below.refl WL.heap.size WL)
            clear hLL HO HB HV BW hWL
            go_wp2_with fail
            go_loopw [14, 15] (fun s14 s15 wr => ∃ (i : Nat) (a' : Option Addr) (c' q : Nat), i ≤ p ∧ s15 = .int .i64 i ∧ s14 = .slice a' q c' ∧ q ≤ i ∧ Hid (ShT w wr WL.heap.size (.slice a' q c') q ((LL.take i).filter (needB LL))) ∧ Hid (Below WL.heap.size WL wr)) (fun _ s _ => p - (intOf s).toNat)
            case atStart => exact ⟨0, none, 0, 0, Nat.zero_le _, rfl, rfl, Nat.le_refl _, hid (by simpa using ShT.nil _ _ _), BWL⟩
            case round =>
              clear BWL
              obtain ⟨i2, a', c', q, hi2, rfl, rfl, hqi2, HO2, HB2⟩ := hrel
              have HBF := hid (HBL.out.trans (HB2.out.mono HBL.out.size))
              by_cases hlt2 : i2 < p
              · have hlt2' : (i2 : Int) < (p : Int) := by omega
                have hi20 : (0 : Int) ≤ (i2 : Int) := by omega
                obtain ⟨gL, cL, p1, d1, p2, d2, eL, hgl, hgs, bx0, hPt⟩ := HOL.out.at (i := i2) hlt2
                have ea : a = some ⟨gL, 0, none⟩ := by injection eL
                subst ea
                have bx := bx0.below HB2.out (Nat.le_refl _)
                have HKs := hid (kept_step LL (k := i2) (by omega))
                have HND := hid (show needB LL (LL.getD i2 tk0) = (decide ((LL.getD i2 tk0).ended = 0) || LL.any (fun u => holdB u (LL.getD i2 tk0).ended)) from rfl)
                have HPp := hid hPt
                obtain ⟨t2, ht2⟩ : ∃ t, LL.getD i2 tk0 = t := ⟨_, rfl⟩
                rw [ht2] at bx HKs HND HPp
                have HT2 := hid ht2
                clear ht2 hPt bx0
                obtain ⟨xi, be, en, al, rs, ws, inn, ou⟩ := t2
                simp only at bx HPp HND
                obtain ⟨n1, hn1⟩ : ∃ n1, rs.length = n1 := ⟨_, rfl⟩
                obtain ⟨n2, hn2⟩ : ∃ n2, ws.length = n2 := ⟨_, rfl⟩
                rw [hn1, hn2] at bx HPp
                have HBx := hid bx
                have x2 := bx.c2
                clear bx
                obtain ⟨E0, hE0⟩ : ∃ E0, decide (en = 0) = E0 := ⟨_, rfl⟩
                have hq0 : (en == 0) = E0 := by rw [← hE0]; rfl
                rw [hE0] at HND
                have HE0 := hid hE0
                clear hE0
                go_wp2_with fail
                clear x2 hq0
                go_loopw [16, 17] (fun s16 s17 wr => ∃ (k : Nat), k ≤ p ∧ s17 = .int .i64 k ∧ s16 = .bool (E0 || (LL.take k).any (fun u => holdB u en)) ∧ Hid (ShT w wr WL.heap.size (.slice a' q c') q ((LL.take i2).filter (needB LL))) ∧ Hid (Below WL.heap.size WL wr)) (fun _ s _ => p - (intOf s).toNat)
                case atStart => exact ⟨0, Nat.zero_le _, rfl, by simp, HO2, HB2⟩
                case round =>
                  clear HO2 HB2 HBF HBx
                  obtain ⟨k3, hk3, rfl, rfl, HO2, HB2⟩ := hrel
                  have HBF := hid (HBL.out.trans (HB2.out.mono HBL.out.size))
                  obtain ⟨gM, _, p1', d1', p2', d2', eM, _, _, bxi, hPt'⟩ := HOL.out.at (i := i2) hlt2
                  obtain rfl : gL = gM := by injection eM with e1; injection e1 with e1; injection e1
                  have bi := bxi.below HB2.out (Nat.le_refl _)
                  rw [HT2.out] at bi hPt'
                  simp only at bi hPt'
                  rw [hn1, hn2] at bi hPt'
                  have HP2 := hid hPt'
                  clear hPt'
                  by_cases hlt3 : k3 < p
                  · have hlt3' : (k3 : Int) < (p : Int) := by omega
                    have hk30 : (0 : Int) ≤ (k3 : Int) := by omega
                    have hi2p : (i2 : Int) < (p : Int) := by omega
                    have hi2z : (0 : Int) ≤ (i2 : Int) := by omega
                    obtain ⟨gK, _, _, _, _, _, eK, _, _, bxk, _⟩ := HOL.out.at (i := k3) hlt3
                    obtain rfl : gL = gK := by injection eK with e1; injection e1 with e1; injection e1
                    have bk := bxk.below HB2.out (Nat.le_refl _)
                    have HSt := hid (need_step LL en (k := k3) (by omega))
                    have y2 := bk.c2
                    have y1 := bk.c1
                    have z2 := bi.c2
                    have hHd : holdB (LL.getD k3 tk0) en = (decide ((LL.getD k3 tk0).ended = 0) && decide ((LL.getD k3 tk0).begun < en)) := rfl
                    rw [hHd] at HSt
                    generalize (LL.getD k3 tk0).ended = ek at *
                    generalize (LL.getD k3 tk0).begun = bk' at *
                    obtain ⟨U, hU⟩ : ∃ U, (E0 || (LL.take k3).any (fun u => holdB u en)) = U := ⟨_, rfl⟩
                    rw [hU]
                    have HUU := hid hU
                    clear hU bk bi bxi bxk eM eK hHd
                    go_wp2_with fail
                    cases U with
                    | true =>
                      have HNw := hid (show (E0 || (LL.take (k3 + 1)).any (fun u => holdB u en)) = true by
                        rw [HSt.out, ← Bool.or_assoc, HUU.out]; rfl)
                      go_quiet (fail)
                      go_wp2_with fail
                      go_roundw
                      case rel => exact ⟨k3 + 1, by omega, by go_num, by rw [HNw.out], by first | exact hid (HO2.out.below (Below.drewN _ _) (Nat.le_refl _)) | exact hid (HO2.out.below ((Still.drew _).below _) (Nat.le_refl _)), by first | exact hid (bel_dN HB2.out _) | exact hid (HB2.out.trans ((Still.drew _).below _))⟩
                      case measure => simp [intOf]; omega
                    | false =>
                      by_cases he0 : ek = 0
                      · have qe : (ek == 0) = true := by simpa using he0
                        by_cases hbe : bk' < en
                        · have HNw := hid (show (E0 || (LL.take (k3 + 1)).any (fun u => holdB u en)) = true by
                            rw [HSt.out, ← Bool.or_assoc, HUU.out, decide_eq_true he0, decide_eq_true hbe]; rfl)
                          clear he0
                          go_quiet (fail)
                          go_wp2_with fail
                          go_roundw
                          case rel => exact ⟨k3 + 1, by omega, by go_num, by rw [HNw.out], by first | exact hid (HO2.out.below (Below.drewN _ _) (Nat.le_refl _)) | exact hid (HO2.out.below ((Still.drew _).below _) (Nat.le_refl _)), by first | exact hid (bel_dN HB2.out _) | exact hid (HB2.out.trans ((Still.drew _).below _))⟩
                          case measure => simp [intOf]; omega
                        · have HNw := hid (show (E0 || (LL.take (k3 + 1)).any (fun u => holdB u en)) = false by
                            rw [HSt.out, ← Bool.or_assoc, HUU.out, decide_eq_false hbe]; simp)
                          clear he0
                          go_quiet (fail)
                          go_wp2_with fail
                          go_roundw
                          case rel => exact ⟨k3 + 1, by omega, by go_num, by rw [HNw.out], by first | exact hid (HO2.out.below (Below.drewN _ _) (Nat.le_refl _)) | exact hid (HO2.out.below ((Still.drew _).below _) (Nat.le_refl _)), by first | exact hid (bel_dN HB2.out _) | exact hid (HB2.out.trans ((Still.drew _).below _))⟩
                          case measure => simp [intOf]; omega
                      · have qe : (ek == 0) = false := by simpa using he0
                        have HNw := hid (show (E0 || (LL.take (k3 + 1)).any (fun u => holdB u en)) = false by
                          rw [HSt.out, ← Bool.or_assoc, HUU.out, decide_eq_false he0]; simp)
                        clear he0
                        go_quiet (fail)
                        go_wp2_with fail
                        go_roundw
                        case rel => exact ⟨k3 + 1, by omega, by go_num, by rw [HNw.out], by first | exact hid (HO2.out.below (Below.drewN _ _) (Nat.le_refl _)) | exact hid (HO2.out.below ((Still.drew _).below _) (Nat.le_refl _)), by first | exact hid (bel_dN HB2.out _) | exact hid (HB2.out.trans ((Still.drew _).below _))⟩
                        case measure => simp [intOf]; omega
                  · have hlt3' : ¬ (k3 : Int) < (p : Int) := by omega
                    have hke : k3 = p := by omega
                    subst hke
                    have HEN := hid (show (E0 || (LL.take k3).any (fun u => holdB u en)) = needB LL ⟨xi, be, en, al, rs, ws, inn, ou⟩ by rw [HND.out, List.take_of_length_le (by omega)])
                    rw [HEN.out]
                    cases hnd : needB LL ⟨xi, be, en, al, rs, ws, inn, ou⟩ with
                    | false =>
                      have HNx := hid (show (LL.take (i2 + 1)).filter (needB LL) = (LL.take i2).filter (needB LL) by rw [HKs.out, hnd]; simp)
                      have N1 := hid (show ShT w wr WL.heap.size (.slice a' q c') q ((LL.take (i2 + 1)).filter (needB LL)) by rw [HNx.out]; exact HO2.out)
                      clear hnd bi bxi eM
                      go_wp2_with fail
                      go_roundw
                      case rel => exact ⟨i2 + 1, a', c', q, by omega, by go_num, rfl, by omega, N1, HB2⟩
                      case measure => simp [intOf]; omega
                    | true =>
                      have HNx := hid (show (LL.take (i2 + 1)).filter (needB LL) = (LL.take i2).filter (needB LL) ++ [⟨xi, be, en, al, rs, ws, inn, ou⟩] by rw [HKs.out, hnd]; simp)
                      obtain ⟨x0, x1, x2, x3, x4, x5, x6, x7⟩ := bi
                      simp only at x0 x1 x2 x3 x6 x7
                      obtain ⟨ms, hml, oR, hpt⟩ := HO2.out.ex
                      have hLp := HO2.out.len
                      have hi2p : (i2 : Int) < (k3 : Int) := by omega
                      have hi2z : (0 : Int) ≤ (i2 : Int) := by omega
                      have b0 := Below.alloc1 wr (.cells #[.int .i64 xi, .int .i64 be, .int .i64 en, .bool al, .slice p1' n1 d1', .slice p2' n2 d2', .bool inn, .bool ou] 46)
                      have HN := hid (heap_alloc_new wr (.cells #[.int .i64 xi, .int .i64 be, .int .i64 en, .bool al, .slice p1' n1 d1', .slice p2' n2 d2', .bool inn, .bool ou] 46))
                      have HOA := hid (owns_below b0 (Nat.le_refl _) oR)
                      have HBA := hid (HB2.out.trans (b0.mono HB2.out.size))
                      have HPS := hid (And.intro hml (And.intro hLp hpt))
                      clear b0 oR hml hLp hpt hnd bxi eM
                      go_wp2_with (at_builtin; refine wpList_append_row rfl _ _ 55 rfl WL.heap.size 46 i0 (.agg #[.int .i64 0, .int .i64 0, .int .i64 0, .bool false, .slice none 0 0, .slice none 0 0, .bool false, .bool false]) 8 88 Try.underlying55 hi hz0 hz1 hz2 rfl (by decide) _ q (cellsT ((LL.take i2).filter (needB LL)) ms) rfl HOA.out (some ⟨wr.heap.size, 0, none⟩) 1 1 [.int .i64 xi, .int .i64 be, .int .i64 en, .bool al, .slice p1' n1 d1', .slice p2' n2 d2', .bool inn, .bool ou] rfl rfl (.inr ⟨_, rfl, World.news_of_block HN.out⟩) (fun e => by cases e) ?nc1 ?nc2 ?nc3 ?nc4 ?_)
                      case nc1 => first | exact ⟨rfl, rfl, rfl, rfl, rfl, rfl, rfl, rfl⟩ | (intro z hz; simp only [List.mem_cons, List.not_mem_nil, or_false] at hz; rcases hz with rfl | rfl | rfl | rfl | rfl | rfl | rfl | rfl <;> rfl)
                      case nc2 => unfold maxLen; omega
                      case nc3 => omega
                      case nc4 => first | exact HBA.out.size | (have := HB2.out.size; omega)
                      intro a5 c5 w5 o5 g5
                      have N1 := hid (show ShT w w5 WL.heap.size (.slice a5 (q + 1) c5) (q + 1) ((LL.take (i2 + 1)).filter (needB LL)) by rw [HNx.out]; exact ShT.push HPS.out.1 HPS.out.2.1 HPS.out.2.2 HP2.out o5)
                      have N2 := hid (HBA.out.grown g5 HBA.out.size (fun r e => (HOA.out.lt r e).1))
                      clear o5 g5 HOA HBA HN x0 x1 x2 x3 x4 x5 x6 x7
                      go_wp2_with fail
                      go_roundw
                      case rel => exact ⟨i2 + 1, a5, c5, q + 1, by omega, by go_num, rfl, by omega, N1, N2⟩
                      case measure => simp [intOf]; omega
              · have hlt2' : ¬ (i2 : Int) < (p : Int) := by omega
                have hie2 : i2 = p := by omega
                subst hie2
                have HKE := hid (show (LL.take i2).filter (needB LL) = keptT LL by unfold keptT; rw [List.take_of_length_le (by omega)])
                rw [HKE.out] at HO2
                have HSK := hid (kept_sm HLS.out.1 HLS.out.2)
                have hqk := HO2.out.len
                go_wp2_with fail
                refine (spec_l13copy c' (HO2.out.rd HBF.out) hqk (by omega) HSK.out.1 HSK.out.2).mono ?_
                rintro e w2 ⟨v, rfl, oT, b2⟩
                obtain ⟨aC, cC, rfl⟩ := oT.slice
                have HF := hid oT.rd
                have HBE := hid (HBF.out.trans (b2.mono HBF.out.size))
                clear oT b2
                go_wp2_with fail
                go_ret2
                refine ⟨?_, HBE.out⟩
                rw [HES.out, HEC.out, HLL.out]
                exact ⟨aC, cC, by first | rfl | (rw [hqk]; rfl), HF.out⟩
end Go.Proofs.Ytnhlfkffllbpiaa
