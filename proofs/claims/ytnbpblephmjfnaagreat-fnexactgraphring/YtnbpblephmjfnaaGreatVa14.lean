/- Edges kept as maps: plain, in memory, and the contract of the program's add. Conditions: at most 100 deeds. -/
import Derived.Test.YtnbpblephmjfnaaGreatHv14
namespace Go.Proofs.YtnbpblephmjfnaaGreat
open Go.RowKit Go.Maps
set_option maxRecDepth 100000
abbrev Eds := Nat → List Int
def stW (ts : List Tk) (p : Nat) (R : Eds) (o : Nat) : Eds := if (ts.getD p tk0).ended < (ts.getD o tk0).ended then upd R p (R p ++ [(o : Int)]) else R
def stR (ts : List Tk) (p : Nat) (R : Eds) (r : Nat) : Eds := if (ts.getD p tk0).ended < (ts.getD r tk0).begun then upd R p (R p ++ [(r : Int)]) else if p ≠ r then upd R r (R r ++ [(p : Int)]) else R
def adW (ts : List Tk) (W Rd : List Nat) (R : Eds) (p : Nat) : Eds := Rd.foldl (stR ts p) (W.foldl (stW ts p) R)
def adK (ts : List Tk) (W Rd : List Nat) (R : Eds) : Eds := W.foldl (adW ts W Rd) R
theorem fold_nat {β : Type} (f : β → Nat → β) (b : β) (W : List Nat) {k : Nat} (h : k < W.length) : (W.take (k + 1)).foldl f b = f ((W.take k).foldl f b) (W.getD k 0) := by
 rw [take_nat W h, List.foldl_append]; rfl
theorem upd_len (R : Eds) (p : Nat) (x : Int) (i : Nat) : (upd R p (R p ++ [x]) i).length ≤ (R i).length + 1 := by
 unfold upd
 split
 · rename_i h; subst h; simp
 · omega
theorem stW_len (ts : List Tk) (p : Nat) (R : Eds) (o i : Nat) : (stW ts p R o i).length ≤ (R i).length + 1 := by
 unfold stW
 split
 · exact upd_len _ _ _ _
 · omega
theorem stR_len (ts : List Tk) (p : Nat) (R : Eds) (o i : Nat) : (stR ts p R o i).length ≤ (R i).length + 1 := by
 unfold stR
 split
 · exact upd_len _ _ _ _
 · split
   · exact upd_len _ _ _ _
   · omega
theorem fold_len (f : Eds → Nat → Eds) (c : Nat) (hf : ∀ R o i, (f R o i).length ≤ (R i).length + c) : ∀ (W : List Nat) (R : Eds) (i : Nat), (W.foldl f R i).length ≤ (R i).length + W.length * c
 | [], R, i => by simp
 | o :: W, R, i => by
  have h1 := fold_len f c hf W (f R o) i
  have h2 := hf R o i
  rw [List.foldl_cons, List.length_cons, Nat.succ_mul]
  omega
theorem adW_len (ts : List Tk) (W Rd : List Nat) (R : Eds) (p i : Nat) : (adW ts W Rd R p i).length ≤ (R i).length + (W.length + Rd.length) := by
 have h1 := fold_len (stW ts p) 1 (stW_len ts p) W R i
 have h2 := fold_len (stR ts p) 1 (stR_len ts p) Rd (W.foldl (stW ts p) R) i
 unfold adW
 omega
theorem adK_len (ts : List Tk) (W Rd V : List Nat) (R : Eds) (i : Nat) : (V.foldl (adW ts W Rd) R i).length ≤ (R i).length + V.length * (W.length + Rd.length) :=
 fold_len (adW ts W Rd) (W.length + Rd.length) (fun R p i => adW_len ts W Rd R p i) V R i
structure CK (w w' : World) : Prop where
 size : w.heap.size ≤ w'.heap.size
 cells : ∀ (k : Nat) (c : Array Value) (t : TypeId) (f : Nat × Nat), w.heap[k]? = some (.cells c t f) → w'.heap[k]? = some (.cells c t f)
theorem CK.refl (w : World) : CK w w := ⟨Nat.le_refl _, fun _ _ _ _ h => h⟩
theorem CK.trans {a b c : World} (h : CK a b) (k : CK b c) : CK a c := ⟨Nat.le_trans h.size k.size, fun i c t f e => k.cells i c t f (h.cells i c t f e)⟩
theorem CK.below {w w' : World} (h : Below w.heap.size w w') : CK w w' := ⟨h.size, fun k _ _ _ e => (h.block k (Array.getElem?_eq_some_iff.1 e).1).trans e⟩
theorem CK.map {w w' : World} {b : Nat} {es : Array MapEntry} {cl : Nat} (hb : w.heap[b]? = some (.map es cl)) (h : w.grownBy w' (some b)) : CK w w' :=
 ⟨h.size, fun k _ _ _ e => (h.block k (Array.getElem?_eq_some_iff.1 e).1 (fun q => by
  obtain rfl := Option.some.inj q
  rw [hb] at e; cases e)).trans e⟩
theorem CK.cell {w w' : World} (h : CK w w') {a : Addr} {v : Value} (hc : w.cell? a = some v) : w'.cell? a = some v := by
 unfold World.cell? at hc ⊢
 cases hh : w.heap[a.block]? with
 | none => rw [hh] at hc; cases hc
 | some o =>
  cases o with
  | cells c t f => rw [hh] at hc; rw [h.cells _ _ _ _ hh]; exact hc
  | _ => rw [hh] at hc; cases hc
theorem ReadsI.ck {w w' : World} {ad : Option Addr} {n : Nat} {zs : List Int} (h : ReadsI w ad n zs) (k : CK w w') : ReadsI w' ad n zs := by
 refine ⟨h.len, ?_, h.bd⟩
 rcases h.cells with h0 | ⟨b, off, rfl, hc⟩
 · exact .inl h0
 · exact .inr ⟨b, off, rfl, fun i hi => k.cell (hc i hi)⟩
theorem owns_ck {w w' : World} {base : Nat} {e : TypeId} {s n : Nat} {v : Value} {xs : List Value} (o : w.ownsRow base e s v n xs) (k : CK w w') : w'.ownsRow base e s v n xs := by
 refine ⟨o.1, ?_⟩
 rcases o.2 with h | ⟨g, cap, cur, e1, hb, hh, r⟩
 · exact .inl h
 · exact .inr ⟨g, cap, cur, e1, hb, k.cells _ _ _ _ hh, r⟩
structure EdM (w : World) (base g n : Nat) (M : Nat → Nat) (R : Eds) : Prop where
 row : w.ownsRow base 80 1 (.slice (some ⟨g, 0, none⟩) n n) n ((List.range n).map (fun i => Value.map (some (M i))))
 map : ∀ i, i < n → w.ownsMap Tryz.prog 3 (unitElem (H := Unit)) (M i) (R i).length (momS (R i))
 low : ∀ i, i < n → base ≤ M i
 inj : ∀ i j, i < n → j < n → i ≠ j → M i ≠ M j
section
variable {w w' : World} {base g n : Nat} {M : Nat → Nat} {R : Eds}
theorem EdM.below (h : EdM w base g n M R) (hb : Below w.heap.size w w') : EdM w' base g n M R :=
 ⟨owns_below hb (Nat.le_refl _) h.row, fun i hi => (h.map i hi).kept (row := none) ⟨hb.os, hb.tape, hb.output, hb.size, fun k hk _ => hb.block k hk⟩ (by simp), h.low, h.inj⟩
theorem EdM.cell (h : EdM w base g n M R) {i : Nat} (hi : i < n) : w.cell? ⟨g, i, none⟩ = some (.map (some (M i))) := by
 rw [h.row.cellAt i (by omega)]; simp [hi]
theorem EdM.isMap (h : EdM w base g n M R) {i : Nat} (hi : i < n) : ∃ es cl, w.heap[M i]? = some (.map es cl) := by
 obtain ⟨es, clock, hb, _⟩ := h.map i hi
 exact ⟨es, clock, hb⟩
theorem EdM.ck (h : EdM w base g n M R) {i : Nat} (hi : i < n) (gr : w.grownBy w' (some (M i))) : CK w w' := by
 obtain ⟨es, cl, hb⟩ := h.isMap hi
 exact CK.map hb gr
theorem EdM.put (h : EdM w base g n M R) {i : Nat} (hi : i < n) {x : Int} (o : w'.ownsMap Tryz.prog 3 (unitElem (H := Unit)) (M i) ((R i).length + 1) ((momS (R i)).put (.int .i64 x) (.agg []))) (gr : w.grownBy w' (some (M i))) : EdM w' base g n M (upd R i (R i ++ [x])) := by
 refine ⟨owns_ck h.row (h.ck hi gr), fun j hj => ?_, h.low, h.inj⟩
 by_cases e : j = i
 · subst e
   rw [upd_same, List.length_append, mom_snoc]
   exact o
 · rw [upd_other _ _ e]
   exact (h.map j hj).kept gr (fun q => h.inj j i hj hi e (Option.some.inj q))
end
theorem nI_at {P : List Nat} {k : Nat} (h : k < P.length) : (nI P).getD k 0 = ((P.getD k 0 : Nat) : Int) := by simp [nI, List.getD, h]
theorem getD_nat {P : List Nat} {k : Nat} (h : k < P.length) : P.getD k 0 ∈ P := by
 rw [show P.getD k 0 = P[k] by simp [List.getD, h]]; exact List.getElem_mem h
set_option maxHeartbeats 25600000 in
theorem impl_add {w0 w : World} {a : Option Addr} {n : Nat} (c : Nat) {ts : List Tk} (h : RdV w0 a ts) (hl : ts.length = n) (hn : n ≤ 100) (hb0 : Below w0.heap.size w0 w) {g : Nat} {M : Nat → Nat} {R : Eds} (hE : EdM w w0.heap.size g n M R) {W Rd : List Nat} {aw ar : Option Addr} {nw nr : Nat} (cw cr : Nat) (hW : ReadsI w aw nw (nI W)) (hR : ReadsI w ar nr (nI Rd)) (hWb : ∀ p ∈ W, p < n) (hRb : ∀ p ∈ Rd, p < n) (hnw : nw ≤ 100) (hnr : nr ≤ 100) (B : Nat) (hB : B ≤ 1000000000) (hRl : ∀ i, (R i).length ≤ B) :
 Calls Tryz.prog 87 #[.slice (some ⟨g, 0, none⟩) n n, .slice a n c, .agg #[.slice aw nw cw, .slice ar nr cr]] w fun e w' => e = .returned (.tuple #[]) ∧ EdM w' w0.heap.size g n M (adK ts W Rd R) ∧ CK w w' ∧ Below w0.heap.size w0 w' := by
 have hWl : W.length = nw := by rw [← nI_len]; exact hW.len
 have hRln : Rd.length = nr := by rw [← nI_len]; exact hR.len
 obtain ⟨gb, hgb⟩ : ∃ gb, w.heap.size = gb := ⟨_, rfl⟩
 have bA := Below.alloc1 w (.cells #[.slice aw nw cw, .slice ar nr cr] 91)
 have HD := hid h
 have HL := hid hl
 have HWr := hid (hW.below bA (Nat.le_refl _))
 have HRr := hid (hR.below bA (Nat.le_refl _))
 have HWb := hid hWb
 have HRb := hid hRb
 have HRl := hid hRl
 have HE0 := hid (hE.below bA)
 have HC0 := hid (CK.below bA)
 have HB0 := hid (hb0.trans (bA.mono hb0.size))
 have HX0 := hid (show (w.alloc (.cells #[.slice aw nw cw, .slice ar nr cr] 91)).heap[gb]? = some (.cells #[.slice aw nw cw, .slice ar nr cr] 91) by rw [← hgb]; exact heap_alloc_new w _)
 have HGb := hid hgb
 have HEn := hid (fun p (hp : p < n) (W' : World) (hb : Below w0.heap.size w0 W') => show ∃ b off, a = some ⟨b, off, none⟩ ∧ W'.cell? ⟨b, off + p * 5 + 1, none⟩ = some (.int .i64 (ts.getD p tk0).begun) ∧ W'.cell? ⟨b, off + p * 5 + 2, none⟩ = some (.int .i64 (ts.getD p tk0).ended) by
  obtain ⟨b, off, _, _, _, _, e, bx, _⟩ := h p (by omega)
  have q := bx.below hb (Nat.le_refl _)
  exact ⟨b, off, e, q.c1, q.c2⟩)
 clear bA h hl hb0 hE hW hR hWb hRb hRl hgb
 go_enter Tryz.func87, Tryz.ntmps87
 go_wp2_with fail
 try simp only [HGb.out]
 obtain ⟨w1, hw1⟩ : ∃ w1, w.alloc (.cells #[.slice aw nw cw, .slice ar nr cr] 91) = w1 := ⟨_, rfl⟩
 rw [hw1] at HWr HRr HE0 HC0 HB0 HX0
 try rw [hw1]
 clear hw1
 go_loopw [15] (fun s wr => ∃ t : Nat, t ≤ nw ∧ s = .int .i64 t ∧ Hid (EdM wr w0.heap.size g n M ((W.take t).foldl (adW ts W Rd) R)) ∧ Hid (CK w1 wr) ∧ Hid (Below w0.heap.size w0 wr)) (fun s _ => nw - (intOf s).toNat)
 case atStart => exact ⟨0, Nat.zero_le _, rfl, hid (by simpa using HE0.out), hid (CK.refl _), HB0⟩
 case round =>
  clear HE0 HB0
  obtain ⟨t, ht, rfl, HE, HC, HB⟩ := hrel
  obtain ⟨hx0, hx1⟩ : wr.cell? ⟨gb, 0, none⟩ = some (.slice aw nw cw) ∧ wr.cell? ⟨gb, 1, none⟩ = some (.slice ar nr cr) := by
   have r := HC.out.cells _ _ _ _ HX0.out
   exact ⟨by rw [cell_of_row _ _ _ _ _ _ r]; rfl, by rw [cell_of_row _ _ _ _ _ _ r]; rfl⟩
  by_cases hlt : t < nw
  · have hlt' : (t : Int) < (nw : Int) := by omega
    have ht0 : (0 : Int) ≤ (t : Int) := by omega
    have htW : t < W.length := by omega
    obtain ⟨bw, ow, ew, hcw⟩ := readsI_at (HWr.out.ck HC.out) hlt
    rw [nI_at htW] at hcw
    have hpn := HWb.out _ (getD_nat htW)
    have HFo := hid (fold_nat (adW ts W Rd) R W htW)
    have HLn := hid (fun i => adK_len ts W Rd (W.take t) R i)
    generalize W.getD t 0 = p at *
    subst ew
    obtain ⟨bd, od, ed, -, -⟩ := HEn.out p hpn wr HB.out
    subst ed
    have HCl := hid (fun q (hq : q < n) (W' : World) (hb : Below w0.heap.size w0 W') => show W'.cell? ⟨bd, od + q * 5 + 1, none⟩ = some (.int .i64 (ts.getD q tk0).begun) ∧ W'.cell? ⟨bd, od + q * 5 + 2, none⟩ = some (.int .i64 (ts.getD q tk0).ended) by
     obtain ⟨b2, o2, e2, h1, h2⟩ := HEn.out q hq W' hb
     obtain ⟨rfl, rfl⟩ : bd = b2 ∧ od = o2 := by simpa using e2
     exact ⟨h1, h2⟩)
    have hp' : (p : Int) < (n : Int) := by omega
    have hp0 : (0 : Int) ≤ (p : Int) := by omega
    obtain ⟨R1, hR1⟩ : ∃ R1, (W.take t).foldl (adW ts W Rd) R = R1 := ⟨_, rfl⟩
    rw [hR1] at HE HFo HLn
    have HB1 := hid (fun i => show (R1 i).length ≤ B + 20000 by
     have h1 := HLn.out i
     have h2 := HRl.out i
     have h3 : (W.take t).length * (W.length + Rd.length) ≤ 100 * 200 := Nat.mul_le_mul (by rw [List.length_take]; omega) (by omega)
     omega)
    clear hR1 HLn
    go_wp2_with fail
    clear hx0 hx1 hcw
    go_loopw [22] (fun s wq => ∃ k : Nat, k ≤ nw ∧ s = .int .i64 k ∧ Hid (EdM wq w0.heap.size g n M ((W.take k).foldl (stW ts p) R1)) ∧ Hid (CK w1 wq) ∧ Hid (Below w0.heap.size w0 wq)) (fun s _ => nw - (intOf s).toNat)
    case atStart => exact ⟨0, Nat.zero_le _, rfl, hid (by simpa using HE.out), HC, HB⟩
    case round =>
     clear HE HC HB
     obtain ⟨k, hk, rfl, HE, HC, HB⟩ := hrel
     obtain ⟨wo, hwo⟩ : ∃ wo, wo = wr := ⟨_, rfl⟩
     subst hwo
     by_cases hkw : k < nw
     · have hkw' : (k : Int) < (nw : Int) := by omega
       have hk0 : (0 : Int) ≤ (k : Int) := by omega
       have hkW : k < W.length := by omega
       obtain ⟨b2, o2, e2, hck⟩ := readsI_at (HWr.out.ck HC.out) hkw
       obtain ⟨rfl, rfl⟩ : bw = b2 ∧ ow = o2 := by simpa using e2
       rw [nI_at hkW] at hck
       have hon := HWb.out _ (getD_nat hkW)
       have HF2 := hid (fold_nat (stW ts p) R1 W hkW)
       have HLn := hid (fun i => fold_len (stW ts p) 1 (stW_len ts p) (W.take k) R1 i)
       generalize W.getD k 0 = q at *
       have hq' : (q : Int) < (n : Int) := by omega
       have hq0 : (0 : Int) ≤ (q : Int) := by omega
       obtain ⟨-, hcp⟩ := HCl.out p hpn wo HB.out
       obtain ⟨-, hcq⟩ := HCl.out q hon wo HB.out
       obtain ⟨R2, hR2⟩ : ∃ R2, (W.take k).foldl (stW ts p) R1 = R2 := ⟨_, rfl⟩
       rw [hR2] at HE HF2 HLn
       have HBl := hid (show (R2 p).length < 2000000000 by
        have h1 := HLn.out p
        have h2 := HB1.out p
        rw [List.length_take] at h1
        omega)
       have HSt := hid (show stW ts p R2 q = if (ts.getD p tk0).ended < (ts.getD q tk0).ended then upd R2 p (R2 p ++ [(q : Int)]) else R2 from rfl)
       generalize (ts.getD p tk0).ended = xp at *
       generalize (ts.getD q tk0).ended = xq at *
       clear e2 hR2 HLn
       by_cases hlx : xp < xq
       · have hlx' : decide (xp < xq) = true := decide_eq_true hlx
         have hkey : keyOf Tryz.prog 3 (.int .i64 (q : Int)) = some (.int .i64 (q : Int)) := keyOf_int_mk Tryz.underlying3 (wf_bd14 (by omega))
         have HED := hid (HE.out.below ((Below.refl wo.heap.size wo).drew))
         have hcm := HE.out.cell hpn
         have HSu := hid (show (W.take (k + 1)).foldl (stW ts p) R1 = upd R2 p (R2 p ++ [(q : Int)]) by rw [HF2.out, HSt.out, if_pos hlx])
         clear hlx
         go_wp2_with fail
         go_quiet (fail)
         go_wp2_with (at_mapUpdate; refine wpList_mapUpdate_own _ rfl _ _ _ 80 rfl 3 82 law14 Tryz.underlying80 (unitElem (H := Unit)) (M p) (R2 p).length _ rfl ((HE.out.below (bel_dN (Below.refl wo.heap.size wo) _)).map p hpn) (by unfold maxLen; have := HBl.out; omega) _ _ _ rfl rfl hkey _ [] unitElem_mk ?_; intro w5 hown1 hgrow1)
         have HEq := hid (HE.out.below (bel_dN (Below.refl wo.heap.size wo) nq))
         have HCq := hid (HC.out.trans (CK.below (bel_dN (Below.refl wo.heap.size wo) nq)))
         have HBq := hid (bel_dN HB.out nq)
         have HE5 := hid (show EdM w5 w0.heap.size g n M ((W.take (k + 1)).foldl (stW ts p) R1) by rw [HSu.out]; exact HEq.out.put hpn hown1 hgrow1)
         have HC5 := hid (HCq.out.trans (HEq.out.ck hpn hgrow1))
         have HB5 := hid (HBq.out.grown hgrow1 HBq.out.size (fun r e => by cases e; exact HEq.out.low p hpn))
         clear hown1 hgrow1
         go_wp2_with fail
         go_roundw
         case rel => exact ⟨k + 1, by omega, by go_num, HE5, HC5, HB5⟩
         case measure => simp [intOf]; omega
       · have hlx' : decide (xp < xq) = false := decide_eq_false hlx
         have HSu := hid (show (W.take (k + 1)).foldl (stW ts p) R1 = R2 by rw [HF2.out, HSt.out, if_neg hlx])
         clear hlx
         go_wp2_with fail
         go_quiet (fail)
         go_wp2_with fail
         go_roundw
         case rel => exact ⟨k + 1, by omega, by go_num, hid (by rw [HSu.out]; exact HE.out.below (bel_dN (Below.refl _ _) _)), hid (HC.out.trans (CK.below (bel_dN (Below.refl _ _) _))), hid (bel_dN HB.out _)⟩
         case measure => simp [intOf]; omega
     · have hkw' : ¬ (k : Int) < (nw : Int) := by omega
       have HEf := hid (show EdM wo w0.heap.size g n M (W.foldl (stW ts p) R1) by have := HE.out; rwa [List.take_of_length_le (by omega)] at this)
       obtain ⟨R3, hR3⟩ : ∃ R3, W.foldl (stW ts p) R1 = R3 := ⟨_, rfl⟩
       have HB3 := hid (fun i => show (R3 i).length ≤ B + 20100 by
        have h1 := fold_len (stW ts p) 1 (stW_len ts p) W R1 i
        rw [hR3] at h1
        have h2 := HB1.out i
        omega)
       rw [hR3] at HEf
       have HR3 := hid (show adW ts W Rd R1 p = Rd.foldl (stR ts p) R3 by rw [← hR3]; rfl)
       have hx1 : wo.cell? ⟨gb, 1, none⟩ = some (.slice ar nr cr) := by
        have r := HC.out.cells _ _ _ _ HX0.out
        rw [cell_of_row _ _ _ _ _ _ r]; rfl
       clear hR3 HE
       go_wp2_with fail
       clear hx1
       go_loopw [47] (fun s wq => ∃ k : Nat, k ≤ nr ∧ s = .int .i64 k ∧ Hid (EdM wq w0.heap.size g n M ((Rd.take k).foldl (stR ts p) R3)) ∧ Hid (CK w1 wq) ∧ Hid (Below w0.heap.size w0 wq)) (fun s _ => nr - (intOf s).toNat)
       case atStart => exact ⟨0, Nat.zero_le _, rfl, hid (by simpa using HEf.out), HC, HB⟩
       case round =>
        clear HEf HC HB
        obtain ⟨k2, hk2, rfl, HE, HC, HB⟩ := hrel
        obtain ⟨wp, hwp⟩ : ∃ wp, wp = wr := ⟨_, rfl⟩
        subst hwp
        by_cases hkr : k2 < nr
        · have hkr' : (k2 : Int) < (nr : Int) := by omega
          have hk0 : (0 : Int) ≤ (k2 : Int) := by omega
          have hkR : k2 < Rd.length := by omega
          obtain ⟨br, or', er, hck⟩ := readsI_at (HRr.out.ck HC.out) hkr
          rw [nI_at hkR] at hck
          have hon := HRb.out _ (getD_nat hkR)
          have HF2 := hid (fold_nat (stR ts p) R3 Rd hkR)
          have HLn := hid (fun i => fold_len (stR ts p) 1 (stR_len ts p) (Rd.take k2) R3 i)
          generalize Rd.getD k2 0 = q at *
          obtain ⟨ar', har⟩ : ∃ x, ar = x := ⟨_, rfl⟩
          have hq' : (q : Int) < (n : Int) := by omega
          have hq0 : (0 : Int) ≤ (q : Int) := by omega
          obtain ⟨-, hcp⟩ := HCl.out p hpn wp HB.out
          obtain ⟨hcq, -⟩ := HCl.out q hon wp HB.out
          obtain ⟨R2, hR2⟩ : ∃ R2, (Rd.take k2).foldl (stR ts p) R3 = R2 := ⟨_, rfl⟩
          rw [hR2] at HE HF2 HLn
          have HBl := hid (fun i => show (R2 i).length < 2000000000 by
           have h1 := HLn.out i
           have h2 := HB3.out i
           rw [List.length_take] at h1
           omega)
          have HSt := hid (show stR ts p R2 q = if (ts.getD p tk0).ended < (ts.getD q tk0).begun then upd R2 p (R2 p ++ [(q : Int)]) else if p ≠ q then upd R2 q (R2 q ++ [(p : Int)]) else R2 from rfl)
          generalize (ts.getD p tk0).ended = xp at *
          generalize (ts.getD q tk0).begun = xq at *
          subst er
          clear hR2 HLn har
          by_cases hlx : xp < xq
          · have hlx' : decide (xp < xq) = true := decide_eq_true hlx
            have hkey : keyOf Tryz.prog 3 (.int .i64 (q : Int)) = some (.int .i64 (q : Int)) := keyOf_int_mk Tryz.underlying3 (wf_bd14 (by omega))
            have hcm := HE.out.cell hpn
            have HSu := hid (show (Rd.take (k2 + 1)).foldl (stR ts p) R3 = upd R2 p (R2 p ++ [(q : Int)]) by rw [HF2.out, HSt.out, if_pos hlx])
            clear hlx
            go_wp2_with fail
            go_quiet (fail)
            go_wp2_with (at_mapUpdate; refine wpList_mapUpdate_own _ rfl _ _ _ 80 rfl 3 82 law14 Tryz.underlying80 (unitElem (H := Unit)) (M p) (R2 p).length _ rfl ((HE.out.below (bel_dN (Below.refl wp.heap.size wp) _)).map p hpn) (by unfold maxLen; have := HBl.out p; omega) _ _ _ rfl rfl hkey _ [] unitElem_mk ?_; intro w5 hown1 hgrow1)
            have HEq := hid (HE.out.below (bel_dN (Below.refl wp.heap.size wp) nq))
            have HCq := hid (HC.out.trans (CK.below (bel_dN (Below.refl wp.heap.size wp) nq)))
            have HBq := hid (bel_dN HB.out nq)
            have HE5 := hid (show EdM w5 w0.heap.size g n M ((Rd.take (k2 + 1)).foldl (stR ts p) R3) by rw [HSu.out]; exact HEq.out.put hpn hown1 hgrow1)
            have HC5 := hid (HCq.out.trans (HEq.out.ck hpn hgrow1))
            have HB5 := hid (HBq.out.grown hgrow1 HBq.out.size (fun r e => by cases e; exact HEq.out.low p hpn))
            clear hown1 hgrow1
            go_wp2_with fail
            go_roundw
            case rel => exact ⟨k2 + 1, by omega, by go_num, HE5, HC5, HB5⟩
            case measure => simp [intOf]; omega
          · have hlx' : decide (xp < xq) = false := decide_eq_false hlx
            by_cases hpq : p = q
            · have hne : ((p : Int) != (q : Int)) = false := by simpa using (show (p : Int) = (q : Int) by omega)
              have HSu := hid (show (Rd.take (k2 + 1)).foldl (stR ts p) R3 = R2 by rw [HF2.out, HSt.out, if_neg hlx, if_neg (by simpa using hpq)])
              clear hlx hpq
              go_wp2_with fail
              go_quiet (fail)
              go_wp2_with fail
              go_roundw
              case rel => exact ⟨k2 + 1, by omega, by go_num, hid (by rw [HSu.out]; exact HE.out.below (bel_dN (Below.refl _ _) _)), hid (HC.out.trans (CK.below (bel_dN (Below.refl _ _) _))), hid (bel_dN HB.out _)⟩
              case measure => simp [intOf]; omega
            · have hne : ((p : Int) != (q : Int)) = true := by simpa using (show ¬ (p : Int) = (q : Int) by omega)
              have hkey : keyOf Tryz.prog 3 (.int .i64 (p : Int)) = some (.int .i64 (p : Int)) := keyOf_int_mk Tryz.underlying3 (wf_bd14 (by omega))
              have hcm := HE.out.cell hon
              have HSu := hid (show (Rd.take (k2 + 1)).foldl (stR ts p) R3 = upd R2 q (R2 q ++ [(p : Int)]) by rw [HF2.out, HSt.out, if_neg hlx, if_pos hpq])
              clear hlx hpq
              go_wp2_with fail
              go_quiet (fail)
              go_wp2_with (at_mapUpdate; refine wpList_mapUpdate_own _ rfl _ _ _ 80 rfl 3 82 law14 Tryz.underlying80 (unitElem (H := Unit)) (M q) (R2 q).length _ rfl ((HE.out.below (bel_dN (Below.refl wp.heap.size wp) _)).map q hon) (by unfold maxLen; have := HBl.out q; omega) _ _ _ rfl rfl hkey _ [] unitElem_mk ?_; intro w5 hown1 hgrow1)
              have HEq := hid (HE.out.below (bel_dN (Below.refl wp.heap.size wp) nq))
              have HCq := hid (HC.out.trans (CK.below (bel_dN (Below.refl wp.heap.size wp) nq)))
              have HBq := hid (bel_dN HB.out nq)
              have HE5 := hid (show EdM w5 w0.heap.size g n M ((Rd.take (k2 + 1)).foldl (stR ts p) R3) by rw [HSu.out]; exact HEq.out.put hon hown1 hgrow1)
              have HC5 := hid (HCq.out.trans (HEq.out.ck hon hgrow1))
              have HB5 := hid (HBq.out.grown hgrow1 HBq.out.size (fun r e => by cases e; exact HEq.out.low q hon))
              clear hown1 hgrow1
              go_wp2_with fail
              go_roundw
              case rel => exact ⟨k2 + 1, by omega, by go_num, HE5, HC5, HB5⟩
              case measure => simp [intOf]; omega
        · have hkr' : ¬ (k2 : Int) < (nr : Int) := by omega
          have HEn2 := hid (show EdM wp w0.heap.size g n M ((W.take (t + 1)).foldl (adW ts W Rd) R) by
           rw [HFo.out, HR3.out]
           have := HE.out
           rwa [List.take_of_length_le (by omega)] at this)
          go_wp2_with fail
          go_roundw
          case rel => exact ⟨t + 1, by omega, by go_num, HEn2, HC, HB⟩
          case measure => simp [intOf]; omega
  · have hlt' : ¬ (t : Int) < (nw : Int) := by omega
    have HEf := hid (show EdM wr w0.heap.size g n M (adK ts W Rd R) by have := HE.out; rwa [List.take_of_length_le (by omega)] at this)
    go_wp2_with fail
    go_end0
    exact ⟨rfl, HEf.out, HC0.out.trans HC.out, HB.out⟩
end Go.Proofs.YtnbpblephmjfnaaGreat
