/- The contract of the specification's l14take. Conditions: at most 100 deeds, 2^21 edges among them. -/
import Derived.Test.YtnbpblephmjfnaaGreatWh14
namespace Go.Proofs.YtnbpblephmjfnaaGreat
open Go.RowKit
set_option maxRecDepth 100000
theorem nI_snocS (P : List Nat) (x : Nat) : ins (nI (P ++ [x])) = ins (nI P) ++ [.int .i64 (x : Int)] := by simp [nI, ins]
theorem rep_set (n i : Nat) (h : i < n) : (List.replicate i true ++ List.replicate (n - i) false).set i true = List.replicate (i + 1) true ++ List.replicate (n - (i + 1)) false := by
 rw [List.set_append_right _ _ (by simp), List.length_replicate, Nat.sub_self, show n - i = (n - (i + 1)) + 1 by omega, List.replicate_succ, List.set_cons_zero, List.replicate_succ' (n := i), List.append_assoc]
 rfl
set_option maxHeartbeats 12800000 in
theorem spec_l14take (a : Option Addr) {n : Nat} (c : Nat) {aE : Option Addr} {m : Nat} (cE : Nat) {E : List Pr} {w : World} (hn : n ≤ 100) (hE : ReadsP w aE m (fI E)) (hm : E.length = m) (hm2 : m ≤ 2097152) (hlt : ∀ p ∈ E, p.1 < n) :
 Calls Tryz.prog 55 #[.slice a n c, .slice aE m cE] w fun e w' => ∃ (g : Option Addr) (cg gl : Nat) (T : List Nat) (lf : List Bool), tkS n E n [] (List.replicate n true) = (T, lf) ∧ e = .returned (.tuple #[.slice g T.length cg, .slice (some ⟨gl, 0, none⟩) n n]) ∧ w'.ownsRow w.heap.size 3 1 (.slice g T.length cg) T.length (ins (nI T)) ∧ w'.ownsRow w.heap.size 4 1 (.slice (some ⟨gl, 0, none⟩) n n) n (bls lf) ∧ Below w.heap.size w w' := by
 have HE := hid hE
 have HM := hid hm
 have HLt := hid hlt
 obtain ⟨i0, hinf, hz0, hz1, hz2⟩ := infoI14
 obtain ⟨j0, hj, hj0, hj1, hj2⟩ := infoB
 clear hE hm hlt
 go_enter Tryz.func55, Tryz.ntmps55
 go_wp2_with (at_make; refine wpList_make_full _ rfl _ _ 101 rfl w.heap.size 4 j0 (.bool false) 1 Tryz.underlying101 hj hj0 hj1 _ _ _ _ n rfl rfl (by omega) (by omega) ?b2 ?b3 (Nat.le_refl _) ?_)
 case b2 => rw [hj2]; omega
 case b3 => unfold maxLen; omega
 intro w1 hown0 hgrow0
 obtain ⟨gl, hg⟩ : ∃ g, w.heap.size = g := ⟨_, rfl⟩
 have HGe := hid hg
 have HO0 := hid (show w1.ownsRow gl 4 1 (.slice (some ⟨gl, 0, none⟩) n n) n (bls (List.replicate 0 true ++ List.replicate (n - 0) false)) by
  rw [← hg]
  have e : List.replicate 0 true ++ List.replicate (n - 0) false = List.replicate n false := by simp
  rw [e, ← made_bool]; exact hown0)
 have HB0 := hid (show Below gl w w1 by rw [← hg]; exact (Below.refl w.heap.size w).grown hgrow0 (Nat.le_refl _) (fun k h => by cases h))
 clear hown0 hgrow0
 try simp only [hg]
 go_wp2_with fail
 go_loopw [8] (fun s wr => ∃ i : Nat, i ≤ n ∧ s = .int .i64 i ∧ Hid (wr.ownsRow gl 4 1 (.slice (some ⟨gl, 0, none⟩) n n) n (bls (List.replicate i true ++ List.replicate (n - i) false))) ∧ Hid (Below gl w wr)) (fun s _ => n - (intOf s).toNat)
 case atStart => exact ⟨0, Nat.zero_le _, rfl, HO0, HB0⟩
 case round =>
  clear HO0 HB0
  obtain ⟨i, hi, rfl, HO, HW⟩ := hrel
  by_cases hlt : i < n
  · have hlt' : (i : Int) < (n : Int) := by omega
    have hi0 : (0 : Int) ≤ (i : Int) := by omega
    have hcy : ∃ v, wr.cell? ⟨gl, i, none⟩ = some v := by
     rw [HO.out.cellAt i (by omega)]
     exact ⟨_, List.getElem?_eq_getElem (by simp [bls]; omega)⟩
    obtain ⟨v, hcy⟩ := hcy
    have hfr : wr.frozen? ⟨gl, i, none⟩ = false := HO.out.frozenAt i
    have R := HO.out.stored i (.bool true)
    rw [← bls_set, rep_set n i hlt] at R
    have R1 := hid R
    have B1 := hid (HW.out.grown R.2 (by rw [← hg]; exact HW.out.size) (fun b e => by cases e; exact Nat.le_refl _))
    clear R HO
    go_wp2_with fail
    go_roundw
    case rel => exact ⟨i + 1, by omega, by go_num, hid R1.out.1, B1⟩
    case measure => simp [intOf]; omega
  · have hlt' : ¬ (i : Int) < (n : Int) := by omega
    obtain rfl : i = n := by omega
    have HO1 := hid (show wr.ownsRow gl 4 1 (.slice (some ⟨gl, 0, none⟩) i i) i (bls (List.replicate i true)) by have := HO.out; rw [Nat.sub_self, List.replicate_zero, List.append_nil] at this; exact this)
    clear HO hlt hi
    go_wp2_with fail
    clear hlt'
    go_loopw [6, 9] (fun s6 s9 wq => ∃ (t : Nat) (T : List Nat) (lf : List Bool) (a : Option Addr) (c : Nat), t ≤ i ∧ s9 = .int .i64 t ∧ s6 = .slice a t c ∧ Hid (T.length = t) ∧ Hid (lf.length = i) ∧ Hid (tkS i E i [] (List.replicate i true) = tkS i E (i - t) T lf) ∧ Hid (wq.ownsRow gl 3 1 (.slice a t c) t (ins (nI T))) ∧ Hid (wq.ownsRow gl 4 1 (.slice (some ⟨gl, 0, none⟩) i i) i (bls lf)) ∧ Hid (Below gl w wq)) (fun _ s _ => i - (intOf s).toNat)
    case atStart => exact ⟨0, [], List.replicate i true, none, 0, Nat.zero_le _, rfl, rfl, hid rfl, hid (by simp), hid (by rw [Nat.sub_zero]), hid (World.ownsRow_nil _ _ _ _), HO1, HW⟩
    case round =>
     clear HO1 HW
     obtain ⟨t, T, lf, a, c, ht, rfl, rfl, HTl, HLl, HTk, HOT, HOL, HW⟩ := hrel
     obtain ⟨wo, hwo⟩ : ∃ wo, wo = wr := ⟨_, rfl⟩
     subst hwo
     have hsz : gl ≤ wo.heap.size := by rw [← hg]; exact HW.out.size
     have HSz := hid hsz
     clear hsz
     by_cases htn : t < i
     · have htn' : (t : Int) < (i : Int) := by omega
       have ht0 : (0 : Int) ≤ (t : Int) := by omega
       have HBc := hid (fun d (hd : d < i) => show wo.cell? ⟨gl, 0 + d, none⟩ = some (.bool (lf.getD d false)) by
        rw [Nat.zero_add, HOL.out.cellAt d (by omega), bls_at (by have := HLl.out; omega)])
       have HEo := hid (HE.out.below HW.out (by rw [hg]; exact Nat.le_refl _))
       go_wp2_with fail
       go_loopw [10, 11] (fun s10 s11 wq => ∃ (d : Nat) (p : Int), d ≤ i ∧ s11 = .int .i64 d ∧ s10 = .int .i64 p ∧ Hid ((p = -1 ∧ ∀ e, e < d → canB E lf e = false) ∨ ∃ k : Nat, p = (k : Int) ∧ k < i ∧ canB E lf k = true ∧ ∀ e, e < k → canB E lf e = false) ∧ wq = wo) (fun _ s _ => i - (intOf s).toNat)
       case atStart => exact ⟨0, -1, Nat.zero_le _, rfl, rfl, hid (.inl ⟨rfl, fun e he => by omega⟩), rfl⟩
       case round =>
        obtain ⟨d, p, hd, rfl, rfl, HP, rfl⟩ := hrel
        by_cases hgo : d < i ∧ p < 0
        · obtain ⟨hdi, hp0⟩ := hgo
          have hdi' : (d : Int) < (i : Int) := by omega
          have hd0 : (0 : Int) ≤ (d : Int) := by omega
          have HNo := hid (show ∀ e, e < d → canB E lf e = false by
           rcases HP.out with ⟨_, q⟩ | ⟨k, e, _⟩
           · exact q
           · omega)
          have hpm : p = -1 := by
           rcases HP.out with ⟨q, _⟩ | ⟨k, e, _⟩
           · exact q
           · omega
          subst hpm
          have hcd := HBc.out d hdi
          rw [Nat.zero_add] at hcd
          have HCan := hid (show canB E lf d = (lf.getD d false && !(ahV E lf d).2) from rfl)
          go_wp2_with fail
          refine (spec_l14ahead cE i d HEo.out HM.out hm2 HBc.out HLt.out).mono ?_
          rintro e w5 ⟨rfl, rfl⟩
          obtain ⟨V, hV⟩ : ∃ V, ahV E lf d = V := ⟨_, rfl⟩
          rw [hV] at HCan
          rw [hV]
          obtain ⟨V1, V2⟩ := V
          simp only at HCan
          clear hV
          obtain ⟨G, hG⟩ : ∃ G, lf.getD d false = G := ⟨_, rfl⟩
          rw [hG] at hcd HCan
          clear hG
          cases G with
          | true =>
           cases V2 with
           | false =>
            have HN2 := hid (show ∃ k : Nat, (d : Int) = (k : Int) ∧ k < i ∧ canB E lf k = true ∧ ∀ e, e < k → canB E lf e = false from ⟨d, rfl, hdi, by rw [HCan.out]; rfl, HNo.out⟩)
            go_wp2_with fail
            go_roundw
            case rel => exact ⟨d + 1, (d : Int), by omega, by go_num, rfl, hid (.inr HN2.out), by first | trivial | rfl⟩
            case measure => simp [intOf]; omega
           | true =>
            have HN2 := hid (show ∀ e, e < d + 1 → canB E lf e = false from fun e he => by
             by_cases hc : e < d
             · exact HNo.out e hc
             · have : e = d := by omega
               subst this; rw [HCan.out]; rfl)
            go_wp2_with fail
            go_roundw
            case rel => exact ⟨d + 1, -1, by omega, by go_num, rfl, hid (.inl ⟨rfl, HN2.out⟩), by first | trivial | rfl⟩
            case measure => simp [intOf]; omega
          | false =>
           have HN2 := hid (show ∀ e, e < d + 1 → canB E lf e = false from fun e he => by
            by_cases hc : e < d
            · exact HNo.out e hc
            · have : e = d := by omega
              subst this; rw [HCan.out]; rfl)
           go_wp2_with fail
           go_roundw
           case rel => exact ⟨d + 1, -1, by omega, by go_num, rfl, hid (.inl ⟨rfl, HN2.out⟩), by first | trivial | rfl⟩
           case measure => simp [intOf]; omega
        · rcases HP.out with ⟨rfl, hno⟩ | ⟨k, rfl, hki, hc1, hc2⟩
          · have hdi : ¬ (d : Int) < (i : Int) := by omega
            have HEnd := hid (show tkS i E i [] (List.replicate i true) = (T, lf) by rw [HTk.out]; exact tkS_none (fun e he => hno e (by omega)) _)
            have HTl2 := HTl.out
            subst HTl2
            clear hno hgo HP
            go_wp2_with fail
            go_ret2
            exact ⟨a, c, gl, T, lf, HEnd.out, rfl, HOT.out, HOL.out, HW.out⟩
          · have hk0 : ¬ (k : Int) < 0 := by omega
            have hk1 : (0 : Int) ≤ (k : Int) := by omega
            have hki' : (k : Int) < (i : Int) := by omega
            have HTk2 := hid (show tkS i E i [] (List.replicate i true) = tkS i E (i - (t + 1)) (T ++ [k]) (lf.set k false) by rw [HTk.out, show i - t = (i - (t + 1)) + 1 by omega]; exact tkS_some hki hc1 hc2 _)
            clear hc1 hc2 hgo HP
            have bA := Below.alloc1 wr (.cells #[.int .i64 (k : Int)] 3)
            have HA1 := hid (heap_alloc_new wr (.cells #[.int .i64 (k : Int)] 3))
            have T3 := hid (owns_below bA (Nat.le_refl _) HOT.out)
            have L3 := hid (owns_below bA (Nat.le_refl _) HOL.out)
            have W3 := hid (HW.out.trans (bA.mono HSz.out))
            have Z3 := hid (Nat.le_trans HSz.out bA.size)
            clear bA
            by_cases hdi : (d : Int) < (i : Int)
            all_goals
             go_wp2_with (at_builtin; refine wpList_append_row rfl _ _ 29 rfl gl 3 i0 (.int .i64 0) 1 8 Tryz.underlying29 hinf hz0 hz1 hz2 rfl (by decide) _ t _ rfl T3.out (some ⟨wr.heap.size, 0, none⟩) 1 1 [.int .i64 (k : Int)] rfl rfl (.inr ⟨_, rfl, World.news_of_block HA1.out⟩) (fun e => by cases e) ?q1 ?q2 ?q3 ?q4 ?_)
             case q1 => simp [Value.oneCell']
             case q2 => unfold maxLen; omega
             case q3 => omega
             case q4 => first | exact Z3.out | (have := Z3.out; have := alloc_size wr (.cells #[.int .i64 (k : Int)] 3); omega) | (have := HSz.out; omega)
             intro a5 c5 w5 o5 hg5
             have ne : (Value.slice a t c).ownBlock ≠ some gl := fun e => by
              obtain ⟨x1, x2, h1⟩ : ∃ cc fz, (wr.alloc (.cells #[.int .i64 (k : Int)] 3)).heap[gl]? = some (.cells cc 3 fz) := by
               rcases T3.out.2 with ⟨e0, _⟩ | ⟨g', cap, cur, e0, _, hh, _⟩
               · rw [e0] at e; cases e
               · rw [e0] at e; cases e; exact ⟨_, _, hh⟩
              obtain ⟨y1, h2⟩ : ∃ cc, (wr.alloc (.cells #[.int .i64 (k : Int)] 3)).heap[gl]? = some (.cells cc 4) := by
               rcases L3.out.2 with ⟨e0, _⟩ | ⟨g', cap, cur, e0, _, hh, _⟩
               · cases e0
               · have := (Value.slice.inj e0).1; cases this; exact ⟨_, hh⟩
              rw [h1] at h2
              cases h2
             have L5 := hid (L3.out.kept hg5 (.inr (fun e => ne e.symm)))
             have T5 := hid (show w5.ownsRow gl 3 1 (.slice a5 (t + 1) c5) (t + 1) (ins (nI (T ++ [k]))) by rw [nI_snocS]; exact o5)
             have W5 := hid (W3.out.grown hg5 Z3.out (fun r e => (T3.out.lt r e).1))
             have hcy : ∃ v, w5.cell? ⟨gl, k, none⟩ = some v := by
              rw [L5.out.cellAt k (by omega)]
              exact ⟨_, List.getElem?_eq_getElem (by simp [bls]; have := HLl.out; omega)⟩
             obtain ⟨v, hcy⟩ := hcy
             have hfr : w5.frozen? ⟨gl, k, none⟩ = false := L5.out.frozenAt k
             have R := L5.out.stored k (.bool false)
             rw [← bls_set] at R
             have R1 := hid R
             have ne5 : (Value.slice a5 (t + 1) c5).ownBlock ≠ some gl := fun e => by
              obtain ⟨x1, x2, h1⟩ : ∃ cc fz, w5.heap[gl]? = some (.cells cc 3 fz) := by
               rcases T5.out.2 with ⟨e0, _⟩ | ⟨g', cap, cur, e0, _, hh, _⟩
               · rw [e0] at e; cases e
               · rw [e0] at e; cases e; exact ⟨_, _, hh⟩
              obtain ⟨y1, h2⟩ : ∃ cc, w5.heap[gl]? = some (.cells cc 4) := by
               rcases L5.out.2 with ⟨e0, _⟩ | ⟨g', cap, cur, e0, _, hh, _⟩
               · cases e0
               · have := (Value.slice.inj e0).1; cases this; exact ⟨_, hh⟩
              rw [h1] at h2
              cases h2
             have T6 := hid (T5.out.kept R.2 (.inr ne5))
             have W6 := hid (W5.out.grown R.2 (Nat.le_trans Z3.out hg5.size) (fun b e => by cases e; exact Nat.le_refl _))
             clear o5 hg5 ne ne5 R
             go_wp2_with fail
             go_roundw
             case rel => exact ⟨t + 1, T ++ [k], lf.set k false, a5, c5, by omega, by go_num, rfl, hid (by rw [List.length_append, HTl.out]; rfl), hid (by rw [List.length_set]; exact HLl.out), HTk2, T6, hid R1.out.1, W6⟩
             case measure => simp [intOf]; omega
     · have htn' : ¬ (t : Int) < (i : Int) := by omega
       obtain rfl : t = i := by omega
       have HEnd := hid (show tkS t E t [] (List.replicate t true) = (T, lf) by rw [HTk.out, Nat.sub_self]; rfl)
       have HTl2 := HTl.out
       go_wp2_with fail
       go_ret2
       refine ⟨a, c, gl, T, lf, HEnd.out, by rw [HTl2]; rfl, ?_, HOL.out, HW.out⟩
       rw [HTl2]; exact HOT.out
end Go.Proofs.YtnbpblephmjfnaaGreat
