/- The contract of the specification's GraphRing. Conditions: texts of at most 2^21 bytes. -/
import Derived.Test.YtnbpblephmjfnaaGreatXa14
import Derived.Test.YtnbpblephmjfnaaGreatWk14
import Derived.Test.YtnbpblephmjfnaaGreatXb14
namespace Go.Proofs.YtnbpblephmjfnaaGreat
open Go.RowKit
set_option maxRecDepth 100000
theorem rgF_bd (nx : Nat → Nat) (L : List Nat) (h : ∀ x ∈ L, nx x ∈ L) : ∀ (f : Nat) (W : List Nat) (p : Nat), (∀ x ∈ W, x ∈ L) → p ∈ L → W.Nodup → (∀ x ∈ rgF nx f W p, x ∈ L) ∧ (rgF nx f W p).Nodup
 | 0, W, p, _, _, _ => ⟨fun x hx => (by cases hx), List.nodup_nil⟩
 | f + 1, W, p, hW, hp, hd => by
  unfold rgF
  split
  · exact ⟨fun x hx => hW x (List.mem_of_mem_drop hx), hd.sublist (List.drop_sublist _ _)⟩
  · rename_i hn
    refine rgF_bd nx L h f (W ++ [p]) (nx p) (fun x hx => ?_) (h p hp) ?_
    · rcases List.mem_append.1 hx with q | q
      · exact hW x q
      · have : x = p := by simpa using q
        rw [this]; exact hp
    · rw [List.nodup_append]
      refine ⟨hd, by simp, fun y hy z hz => ?_⟩
      have : z = p := by simpa using hz
      subst this
      exact fun e => hn (e ▸ hy)
theorem nx_left (ts : List Tk) : ∀ x ∈ leftL ts, nxE ts (lfS ts) x ∈ leftL ts ∧ (ahV (prE ts ts.length ts.length) (lfS ts) x).1 = ((nxE ts (lfS ts) x : Nat) : Int) := by
 intro x hx
 obtain ⟨R, _, h2, h3⟩ := inv_end ts
 have hf := h3 x hx
 have hl : ∃ r, leastP R ts.length ((x : Nat) : Int) r := by
  unfold firstB at hf
  have hf' := of_decide_eq_false hf
  by_cases h : ∃ k, k < ts.length ∧ ((x : Nat) : Int) ∈ R k
  · obtain ⟨k, hk⟩ := h
    have : ∀ n, (n < ts.length ∧ ((x : Nat) : Int) ∈ R n) → ∃ m, m < ts.length ∧ ((x : Nat) : Int) ∈ R m ∧ ∀ j, j < m → ((x : Nat) : Int) ∉ R j := by
     intro n
     induction n using Nat.strongRecOn with
     | _ n ih =>
      intro hn
      by_cases hx : ∃ j, j < n ∧ ((x : Nat) : Int) ∈ R j
      · obtain ⟨j, h1, h2⟩ := hx
        exact ih j h1 ⟨by omega, h2⟩
      · exact ⟨n, hn.1, hn.2, fun j hj z => hx ⟨j, hj, z⟩⟩
    obtain ⟨m, h1, h2, h3⟩ := this k hk
    exact ⟨(m : Int), .inr ⟨m, rfl, h1, h2, h3⟩⟩
  · exact absurd (fun j hj z => h ⟨j, hj, z⟩) hf'
 obtain ⟨r, hr⟩ := hl
 exact (nx_least h2 hf hr).2
theorem left_lt (ts : List Tk) : ∀ x ∈ leftL ts, x < ts.length := by
 obtain ⟨R, _, h2, _⟩ := inv_end ts
 exact fun x hx => ((h2.mem x).1 hx).1
theorem ringL_bd (ts : List Tk) : (ringL ts).length ≤ 100 ∧ ∀ x ∈ ringL ts, x < 1048576 := by
 unfold ringL
 split
 · rename_i hdb
   have hok := (deedsB_ok hdb).1
   cases hl : leftL ts with
   | nil => exact ⟨by simp, fun x hx => by cases hx⟩
   | cons p L =>
    have h := rgF_bd (nxE ts (lfS ts)) (leftL ts) (fun x hx => (nx_left ts x hx).1) (ts.length + 1) [] p (fun x hx => by cases hx) (by rw [hl]; exact List.mem_cons.2 (.inl rfl)) List.nodup_nil
    have h2 : ∀ x ∈ rgF (nxE ts (lfS ts)) (ts.length + 1) [] p, x < ts.length := fun x hx => left_lt ts x (h.1 x hx)
    have h3 := nodup_le ts.length _ h.2 h2
    exact ⟨by simp only; omega, fun x hx => by have := h2 x hx; omega⟩
 · exact ⟨by simp, fun x hx => by cases hx⟩
theorem left_first {ts : List Tk} {p : Nat} {L : List Nat} (h : leftL ts = p :: L) : p < ts.length ∧ (lfS ts).getD p false = true ∧ (lfS ts).length = ts.length ∧ ∀ j, j < ts.length → (lfS ts).getD j false = true → p ≤ j := by
 obtain ⟨R, _, h2, _⟩ := inv_end ts
 rw [h] at h2
 have h3 := (h2.mem p).1 (List.mem_cons.2 (.inl rfl))
 refine ⟨h3.1, h3.2, h2.len, fun j hj hl => ?_⟩
 have hm := (h2.mem j).2 ⟨hj, hl⟩
 rcases List.mem_cons.1 hm with e | e
 · omega
 · have := (List.pairwise_cons.1 h2.asc).1 j e
   omega
set_option maxHeartbeats 12800000 in
theorem spec_GraphRing {a : Option Addr} {n : Nat} (c : Nat) {ts : List Tk} {w : World} (h : ReadsV w a ts) (hl : ts.length = n) (hsm : smT ts) :
 Calls Tryz.prog 17 #[.slice a n c] w fun e w' => ∃ g cg, e = .returned (.slice g (ringL ts).length cg) ∧ ReadsI w' g (ringL ts).length (nI (ringL ts)) ∧ Below w.heap.size w w' := by
 obtain ⟨V, hV⟩ : ∃ V, ringL ts = V := ⟨_, rfl⟩
 have HVb := hid (show (∀ i, -9223372036854775808 ≤ (nI V).getD i 0 ∧ (nI V).getD i 0 ≤ 9223372036854775807) by rw [← hV]; exact nI_bd (ringL_bd ts).2)
 rw [hV]
 have HL := hid hl
 have HSm := hid hsm
 have HNo := hid (fun (q : deedsB ts = false ∨ leftL ts = []) => show V = [] by
  rw [← hV]
  unfold ringL
  rcases q with q | q
  · rw [q]; rfl
  · rw [q]; split <;> rfl)
 have HYe := hid (fun (q : deedsB ts = true) (p : Nat) (L : List Nat) (e : leftL ts = p :: L) => show V = rgF (nxE ts (lfS ts)) (n + 1) [] p by
  rw [← hV]
  unfold ringL
  rw [if_pos q, e, hl])
 have HNil := hid (fun (q : V = []) (w' : World) (b : Below w.heap.size w w') => show ∃ g cg, Ending.returned (.slice none 0 0) = .returned (.slice g V.length cg) ∧ ReadsI w' g V.length (nI V) ∧ Below w.heap.size w w' from by
  rw [q]
  exact ⟨none, 0, rfl, ⟨rfl, .inl rfl, fun i => by simp [nI]⟩, b⟩)
 obtain ⟨i0, hinf, hz0, hz1, hz2⟩ := infoI14
 obtain ⟨B0, hB0⟩ : ∃ B0, w.heap.size = B0 := ⟨_, rfl⟩
 have HB0 := hid hB0
 rw [hB0] at HNil
 rw [hB0]
 clear hV
 go_enter Tryz.func17, Tryz.ntmps17
 go_wp2_with fail
 refine (spec_DeedsOk c h hl hsm).mono ?_
 rintro e w1 ⟨rfl, b1⟩
 have B1 := hid (show Below B0 w w1 by rw [← hB0]; exact b1)
 have HZ1 := hid (show B0 ≤ w1.heap.size by rw [← hB0]; exact b1.size)
 have HR := hid (h.below b1 (Nat.le_refl _))
 clear b1 h hl hsm
 cases hdb : deedsB ts with
 | false =>
  have HF := hid (HNo.out (.inl hdb))
  clear hdb
  go_wp2_with fail
  go_ret
  exact HNil.out HF.out _ B1.out
 | true =>
 have HDb := hid hdb
 have HOk := hid (deedsB_ok hdb)
 have hn : n ≤ 100 := by have := HOk.out.1; have := HL.out; omega
 have HEp := hid (show edP ts = prE ts n n by unfold edP; rw [if_pos hdb, HL.out])
 clear hdb
 go_wp2_with fail
 refine (spec_GraphEdges c HR.out HL.out HSm.out).mono ?_
 rintro e w2 ⟨gE, cE, rfl, oE, b2⟩
 rw [HEp.out] at oE
 rw [HEp.out]
 have HEl := hid (show (prE ts n n).length ≤ 2097152 by have := prE_le ts n n; have := Nat.mul_le_mul hn hn; omega)
 obtain ⟨E, hE⟩ : ∃ E, prE ts n n = E := ⟨_, rfl⟩
 have HEE := hid hE
 have HLt := hid (show ∀ p ∈ E, p.1 < n from fun p hp => by rw [← hE] at hp; obtain ⟨i, j⟩ := p; exact ((prE_mem ts n n i j).1 hp).1)
 rw [hE] at oE HEl
 rw [hE]
 obtain ⟨m, hm⟩ : ∃ m, E.length = m := ⟨_, rfl⟩
 have HM := hid hm
 rw [hm] at oE HEl
 rw [hm]
 rw [fP_ins] at oE
 have HP := hid (own_readsP oE)
 have B2 := hid (B1.out.trans (b2.mono HZ1.out))
 have HZ2 := hid (Nat.le_trans HZ1.out b2.size)
 clear oE b2 hE hm
 go_wp2_with fail
 refine (spec_l14take a c cE hn HP.out HM.out HEl.out HLt.out).mono ?_
 rintro e w3 ⟨g, cg, gl, T, lf, htk, rfl, oT, oL, b3⟩
 have hs := take_same ts
 have hlf : lf = lfS ts := by unfold lfS; rw [HL.out, HEE.out, htk]
 rw [HL.out, HEE.out, htk] at hs
 have HT := hid (show T = takenL ts from hs.1)
 have HLe := hid hs.2
 have HTl := hid (show T.length ≤ n by
  have h2 := (tk_same (ts := ts) ts.length (T := []) (inv_start ts)).2.2
  rw [List.length_range, List.length_nil, Nat.zero_add] at h2
  have h3 : (takenL ts).length + (leftL ts).length = ts.length := h2
  rw [HT.out, ← HL.out]; omega)
 have HP3 := hid (HP.out.below b3 (Nat.le_refl _))
 have B3 := hid (B2.out.trans (b3.mono HZ2.out))
 have HZ3 := hid (Nat.le_trans HZ2.out b3.size)
 have OL := hid (show w3.ownsRow B0 4 1 (.slice (some ⟨gl, 0, none⟩) n n) n (bls lf) from owns_lower oL HZ2.out)
 clear htk oT oL b3 hs HP B1 B2
 by_cases hlt : T.length < n
 case neg =>
  have hq : ((T.length : Int) == (n : Int)) = true := by have := HTl.out; simp; omega
  have HF := hid (HNo.out (.inr (HLe.out.2 (by rw [← HT.out]; exact hlt))))
  clear hlt
  go_wp2_with fail
  go_ret
  exact HNil.out HF.out _ B3.out
 have hq : ((T.length : Int) == (n : Int)) = false := by simp; omega
 obtain ⟨p, L', hpl⟩ : ∃ p L', leftL ts = p :: L' := by
  cases hc : leftL ts with
  | nil => exact absurd (by rw [← HT.out]; exact hlt) (HLe.out.1 hc)
  | cons p L' => exact ⟨p, L', rfl⟩
 have HF := hid (HYe.out HDb.out p L' hpl)
 have hpf := left_first hpl
 rw [← hlf, HL.out] at hpf
 have HPf := hid hpf
 have HPL := hid (show p ∈ leftL ts by rw [hpl]; exact List.mem_cons.2 (.inl rfl))
 have HNx := hid (nx_left ts)
 rw [HL.out, HEE.out, ← hlf] at HNx
 rw [← hlf] at HF
 have HLL := hid (left_lt ts)
 rw [HL.out] at HLL
 have hn0 : 0 < n := by omega
 have HBc := hid (fun d (hd : d < n) => show w3.cell? ⟨gl, 0 + d, none⟩ = some (.bool (lf.getD d false)) by
  rw [Nat.zero_add, OL.out.cellAt d (by omega), bls_at (by have := HPf.out.2.2.1; omega)])
 clear hlt hpf hpl hlf HYe HNo HNil HLe HT
 go_wp2_with fail
 clear hq
 go_loopw [6] (fun s wr => ∃ j : Nat, j < n ∧ s = .int .i64 j ∧ Hid (∀ i, i < j → lf.getD i false = false) ∧ wr = w3) (fun s _ => n - (intOf s).toNat)
 case atStart => exact ⟨0, hn0, rfl, hid (fun i hi => by omega), rfl⟩
 case round =>
  obtain ⟨j, hj, rfl, HFa, rfl⟩ := hrel
  have hj0 : (0 : Int) ≤ (j : Int) := by omega
  have hjn : (j : Int) < (n : Int) := by omega
  have hcd := HBc.out j hj
  rw [Nat.zero_add] at hcd
  have hwr : IntKind.i64.wrap ((n : Int) - 1) = (n : Int) - 1 := by simp [IntKind.wrap, IntKind.bits, IntKind.signed]; omega
  by_cases hgo : j + 1 < n ∧ lf.getD j false = false
  · obtain ⟨hgo1, hgo2⟩ := hgo
    have hlt' : (j : Int) < (n : Int) - 1 := by omega
    have HFa2 := hid (fun i (hi : i < j + 1) => show lf.getD i false = false by
     by_cases hc : i < j
     · exact HFa.out i hc
     · have : i = j := by omega
       subst this; exact hgo2)
    rw [hgo2] at hcd
    clear hgo2
    go_wp2_with fail
    go_roundw
    case rel => exact ⟨j + 1, by omega, by go_num, HFa2, by first | trivial | rfl⟩
    case measure => simp [intOf]; omega
  · have hjp : j = p := by
     have h1 := HPf.out
     have h2 : ¬ p < j := fun q => by have := HFa.out p q; rw [h1.2.1] at this; cases this
     by_cases hc : lf.getD j false = true
     · have := h1.2.2.2 j hj hc; omega
     · have hc' : lf.getD j false = false := by simpa using hc
       have : ¬ j + 1 < n := fun q => hgo ⟨q, hc'⟩
       have := h1.1
       omega
    subst hjp
    have hcd2 : lf.getD j false = true := HPf.out.2.1
    rw [hcd2] at hcd
    clear hgo hcd2
    obtain ⟨wo, hwo⟩ : ∃ wo, wo = wr := ⟨_, rfl⟩
    subst hwo
    have HPj := hid (show V = rgF (nxE ts lf) (n + 1) [] j from HF.out)
    by_cases hlt' : (j : Int) < (n : Int) - 1
    all_goals
     go_wp2_with fail
     clear hlt' hcd hwr hj0 hjn HFa
     go_loopw [6, 7, 8] (fun s6 s7 s8 wq => ∃ (W : List Nat) (x i : Nat) (a : Option Addr) (c : Nat), s6 = .int .i64 (x : Int) ∧ s7 = .slice a i c ∧ s8 = .int .i64 i ∧ i ≤ n + 1 ∧ Hid (W.length = i) ∧ Hid W.Nodup ∧ Hid (∀ y ∈ W, y ∈ leftL ts) ∧ Hid (x ∈ leftL ts) ∧ Hid (V = rgF (nxE ts lf) (n + 1 - i) W x) ∧ Hid (wq.ownsRow wo.heap.size 3 1 (.slice a i c) i (ins (nI W))) ∧ Hid (Below wo.heap.size wo wq)) (fun _ _ s _ => n + 1 - (intOf s).toNat)
     case atStart => exact ⟨[], j, 0, none, 0, rfl, rfl, rfl, by omega, hid rfl, hid List.nodup_nil, hid (fun y hy => by cases hy), HPL, HPj, hid (World.ownsRow_nil _ _ _ _), hid (Below.refl _ _)⟩
     case round =>
      obtain ⟨W, x, i, a5, c5, rfl, rfl, rfl, hi, HWl, HNd, HWL, HXL, HVr, HO, HW⟩ := hrel
      obtain ⟨wv, hwv⟩ : ∃ wv, wv = wr := ⟨_, rfl⟩
      subst hwv
      have HWt := hid (fun y (hy : y ∈ W) => HLL.out y (HWL.out y hy))
      have hin : i ≤ n := by
       have := nodup_le n W HNd.out HWt.out
       rw [HWl.out] at this; exact this
      have hin' : (i : Int) ≤ (n : Int) := by omega
      have hxn := HLL.out x HXL.out
      have HBd := hid (fun t => show -9223372036854775808 ≤ (nI W).getD t 0 ∧ (nI W).getD t 0 ≤ 9223372036854775807 by have := nI_bd14 HWt.out hn t; omega)
      have HBw := hid (B3.out.trans (HW.out.mono HZ3.out))
      have HZv := hid HW.out.size
      clear hi
      go_wp2_with fail
      clear hin'
      go_loopw [9] (fun s wq => ∃ k : Nat, k ≤ i ∧ s = .int .i64 k ∧ Hid (∀ t, t < k → (nI W).getD t 0 ≠ (x : Int)) ∧ wq = wv) (fun s _ => i - (intOf s).toNat)
      case atStart => exact ⟨0, Nat.zero_le _, rfl, hid (fun t ht => by omega), rfl⟩
      case round =>
       obtain ⟨k, hk, rfl, HNn, rfl⟩ := hrel
       have hk0 : (0 : Int) ≤ (k : Int) := by omega
       by_cases hki : k < i
       · have hki' : (k : Int) < (i : Int) := by omega
         obtain ⟨g0, rfl, hmc⟩ : ∃ g0, a5 = some ⟨g0, 0, none⟩ ∧ i ≤ c5 := by
          rcases HO.out.2 with ⟨e, hz⟩ | ⟨gl, cap, cur, e, _, _, hnc, _⟩
          · omega
          · have e1 := Value.slice.inj e
            exact ⟨gl, e1.1, by rw [e1.2.2]; exact hnc⟩
         have hck : wr.cell? ⟨g0, k, none⟩ = some (.int .i64 ((nI W).getD k 0)) := by
          rw [HO.out.cellAt k (by omega), getD_ins, List.getD_eq_getElem?_getD]
          have hl : k < (nI W).length := by rw [nI_len, HWl.out]; exact hki
          rw [List.getElem?_eq_getElem hl]; rfl
         have HYe := hid (fun (e : (nI W).getD k 0 = (x : Int)) => idx_of (W := W) (p := x) (k := k) (by rw [HWl.out]; exact hki) e HNn.out)
         have HNx2 := hid (fun (e : (nI W).getD k 0 ≠ (x : Int)) t (ht : t < k + 1) => show (nI W).getD t 0 ≠ (x : Int) from by
          by_cases hc : t < k
          · exact HNn.out t hc
          · have : t = k := by omega
            subst this; exact e)
         obtain ⟨z, hz⟩ : ∃ z, (nI W).getD k 0 = z := ⟨_, rfl⟩
         rw [hz] at hck HYe HNx2
         clear hz
         by_cases hzx : z = (x : Int)
         · have hq : (z == (x : Int)) = true := by simp [hzx]
           obtain ⟨hxW, hix⟩ := HYe.out hzx
           have hVd : V = W.drop k := by
            have e := HVr.out
            rw [show n + 1 - i = (n - i) + 1 by omega, rgF_in hxW, hix] at e
            exact e
           obtain ⟨q, hqq⟩ : ∃ q, i = k + q := ⟨i - k, by omega⟩
           subst hqq
           have HVl := hid (show V.length = q by rw [hVd, List.length_drop, HWl.out]; omega)
           have HT := hid (TailI.own (g := g0) (k := k) (m := q) (cap := c5) (ys := nI (W.take k)) (zs := nI V) (by rw [nI_len, List.length_take, HWl.out]; omega) (by rw [nI_len]; exact HVl.out) (by rw [← nI_app, hVd, List.take_append_drop]; exact HO.out))
           have O0 := hid (World.ownsRow_lit (base := wr.heap.size) (e := 3) (size := 1) wr #[] 0 (Nat.le_refl _) (Nat.zero_le _) rfl)
           have bA := Below.alloc1 wr (.cells #[] 3)
           have RT := hid ((HT.out.below bA (Nat.le_refl _)).reads HVb.out)
           have HBA := hid (HBw.out.trans (bA.mono (Nat.le_trans HZ3.out HZv.out)))
           have ZA := hid bA.size
           have k1 : (k : Int) ≤ ((k + q : Nat) : Int) := by omega
           have k1' : (k : Int) ≤ (k : Int) + (q : Int) := by omega
           have k2 : ¬ c5 = k := by omega
           have k3 : k < c5 := by omega
           clear hzx HYe HNx2 hxW hix hVd bA HO HVr HT
           go_wp2_with (at_builtin; refine wpList_append_own _ rfl _ _ 29 rfl wr.heap.size 3 i0 (.int .i64 0) 1 8 Tryz.underlying29 hinf hz0 hz1 hz2 rfl (by decide) _ _ _ rfl O0.out ⟨g0, k, none⟩ _ _ (ins (nI V)) rfl (by first | (rw [ins_length, nI_len, HVl.out]; done) | (rw [ins_length, nI_len, HVl.out]; omega)) RT.out.news (ins_one _) (by unfold maxLen; first | omega | (rw [ins_length, nI_len, HVl.out]; omega)) (by first | omega | (rw [ins_length, nI_len, HVl.out]; omega)) (by first | exact ZA.out | (have := ZA.out; have := alloc_size wr (.cells #[] 3); omega)) ?_)
           intro v7 w7 o7 g7 _
           have o8 : w7.ownsRow wr.heap.size 3 1 v7 V.length (ins (nI V)) := by
            have := o7
            rw [HVl.out]
            first | exact this | simpa using this
           obtain ⟨a7, c7, rfl, r7, -⟩ := ReadsI.own o8 HVb.out
           have R7 := hid r7
           have B7 := hid (HBA.out.grown g7 (Nat.le_trans (Nat.le_trans HZ3.out HZv.out) ZA.out) (fun b hb => Nat.le_trans (Nat.le_trans HZ3.out HZv.out) (O0.out.lt b hb).1))
           clear o7 o8 r7 g7 O0 RT HBA
           go_wp2_with fail
           go_ret
           exact ⟨a7, c7, rfl, R7.out, B7.out⟩
         · have hq : (z == (x : Int)) = false := by simpa using hzx
           have HN2 := hid (HNx2.out hzx)
           clear hzx HYe HNx2
           go_wp2_with fail
           go_roundw
           case rel => exact ⟨k + 1, by omega, by go_num, HN2, by first | trivial | rfl⟩
           case measure => simp [intOf]; omega
       · obtain rfl : k = i := by omega
         have hki' : ¬ (k : Int) < (k : Int) := by omega
         have HNo := hid (idx_no (W := W) (p := x) (fun t ht => HNn.out t (by rw [HWl.out] at ht; exact ht)))
         have HNd2 := hid (show (W ++ [x]).Nodup by
          rw [List.nodup_append]
          refine ⟨HNd.out, by simp, fun y hy z hz => ?_⟩
          have : z = x := by simpa using hz
          subst this
          exact fun e => HNo.out (e ▸ hy))
         have HWL2 := hid (show ∀ y ∈ W ++ [x], y ∈ leftL ts from fun y hy => by
          rcases List.mem_append.1 hy with q | q
          · exact HWL.out y q
          · have : y = x := by simpa using q
            rw [this]; exact HXL.out)
         have HVr2 := hid (show V = rgF (nxE ts lf) (n + 1 - (k + 1)) (W ++ [x]) (nxE ts lf x) by rw [HVr.out, show n + 1 - k = (n + 1 - (k + 1)) + 1 by omega]; exact rgF_on HNo.out)
         have HV1 := hid (HNx.out x HXL.out).2
         have HIn := hid (HNx.out x HXL.out).1
         have bA := Below.alloc1 wr (.cells #[.int .i64 (x : Int)] 3)
         have HA1 := hid (heap_alloc_new wr (.cells #[.int .i64 (x : Int)] 3))
         have OA := hid (owns_below bA (Nat.le_refl _) HO.out)
         have BA := hid (HW.out.trans (bA.mono HZv.out))
         have ZA := hid (show wo.heap.size ≤ (wr.alloc (.cells #[.int .i64 (x : Int)] 3)).heap.size from Nat.le_trans HZv.out bA.size)
         clear bA HO HVr hki
         go_wp2_with (at_builtin; refine wpList_append_row rfl _ _ 29 rfl wo.heap.size 3 i0 (.int .i64 0) 1 8 Tryz.underlying29 hinf hz0 hz1 hz2 rfl (by decide) _ k _ rfl OA.out (some ⟨wr.heap.size, 0, none⟩) 1 1 [.int .i64 (x : Int)] rfl rfl (.inr ⟨_, rfl, World.news_of_block HA1.out⟩) (fun e => by cases e) (by simp [Value.oneCell']) (by unfold maxLen; omega) (by omega) (by first | exact ZA.out | (have := ZA.out; have := alloc_size wr (.cells #[.int .i64 (x : Int)] 3); omega)) ?_)
         intro a6 c6 w6 o6 hg6
         have O6 := hid (show w6.ownsRow wo.heap.size 3 1 (.slice a6 (k + 1) c6) (k + 1) (ins (nI (W ++ [x]))) by rw [nI_snoc]; exact o6)
         have B6 := hid (BA.out.grown hg6 ZA.out (fun r e => (OA.out.lt r e).1))
         clear o6 hg6 OA BA
         go_wp2_with fail
         refine (spec_l14ahead cE n x (HP3.out.below B6.out (Nat.le_refl _)) HM.out HEl.out (fun d hd => (B6.out.cell (p := ⟨gl, 0 + d, none⟩) (World.block_lt_of_cell? wo _ (HBc.out d hd))).trans (HBc.out d hd)) HLt.out).mono ?_
         rintro e w7 ⟨rfl, rfl⟩
         rw [HV1.out]
         obtain ⟨Q2, hQ2⟩ : ∃ Q, (ahV E lf x).2 = Q := ⟨_, rfl⟩
         rw [hQ2]
         clear hQ2
         go_wp2_with fail
         go_roundw
         case rel => exact ⟨W ++ [x], nxE ts lf x, k + 1, a6, c6, rfl, rfl, by go_num, by omega, hid (by rw [List.length_append, HWl.out]; rfl), HNd2, HWL2, HIn, HVr2, O6, B6⟩
         case measure => simp [intOf]; omega
end Go.Proofs.YtnbpblephmjfnaaGreat
