/- Trees of the program in memory: what is kept, a node's form, nodes that are linked, heights. Conditions: heights of at most 2^31. -/
import Derived.Test.YtphmlndkjgldkaaMgd
namespace Go.Proofs.Ytphmlndkjgldkaa
open Go.RowKit
set_option maxRecDepth 100000
structure Kept (X : Nat → Prop) (w w' : World) : Prop where
 os : w'.os = w.os
 tape : w'.tape = w.tape
 output : w'.output = w.output
 size : w.heap.size ≤ w'.heap.size
 block : ∀ k, k < w.heap.size → ¬ X k → w'.heap[k]? = w.heap[k]?
theorem Kept.refl (X : Nat → Prop) (w : World) : Kept X w w := ⟨rfl, rfl, rfl, Nat.le_refl _, fun _ _ _ => rfl⟩
theorem Kept.trans {X Y : Nat → Prop} {a b c : World} (h : Kept X a b) (k : Kept Y b c) (hY : ∀ i, i < a.heap.size → Y i → X i) : Kept X a c :=
 ⟨k.os.trans h.os, k.tape.trans h.tape, k.output.trans h.output, Nat.le_trans h.size k.size, fun i hi hx => (k.block i (Nat.lt_of_lt_of_le hi h.size) (fun y => hx (hY i hi y))).trans (h.block i hi hx)⟩
theorem Kept.of_below {X : Nat → Prop} {w w' : World} (h : Below w.heap.size w w') : Kept X w w' := ⟨h.os, h.tape, h.output, h.size, fun k hk _ => h.block k hk⟩
theorem Kept.below {X : Nat → Prop} {w w' : World} (h : Kept X w w') {B : Nat} (hB : B ≤ w.heap.size) (hX : ∀ k, k < B → ¬ X k) : Below B w w' := ⟨h.os, h.tape, h.output, h.size, fun k hk => h.block k (Nat.lt_of_lt_of_le hk hB) (hX k hk)⟩
theorem Kept.set {X : Nat → Prop} (w : World) {p : Addr} (hp : X p.block) (u : Value) : Kept X w (w.setCell p u) :=
 ⟨rfl, rfl, rfl, by simp [World.setCell], fun k _ hx => Below.heap_setCell _ _ _ _ (fun e => hx (e ▸ hp))⟩
theorem Kept.mono {X Y : Nat → Prop} {w w' : World} (h : Kept X w w') (hX : ∀ k, k < w.heap.size → X k → Y k) : Kept Y w w' := ⟨h.os, h.tape, h.output, h.size, fun k hk hy => h.block k hk (fun x => hy (hX k hk x))⟩
def formB (lf : Bool) (n m : Nat) : Bool := if lf then decide (n ≤ 4 ∧ m = 0) else decide (1 ≤ n ∧ n ≤ 4 ∧ m = n + 1)
set_option maxHeartbeats 1600000 in
theorem impl_hasForm (lf : Bool) (ad : Option Addr) (n c : Nat) (ad' : Option Addr) (m c' : Nat) (w : World) :
 Calls Try.prog 106 #[.agg #[.bool lf, .slice ad n c, .slice ad' m c']] w fun e w' => e = .returned (.bool (formB lf n m)) ∧ Below w.heap.size w w' := by
 have HB := hid (Below.alloc1 w (.cells #[.bool lf, .slice ad n c, .slice ad' m c'] 67))
 have hR := heap_alloc_new w (.cells #[.bool lf, .slice ad n c, .slice ad' m c'] 67)
 have k0 : (w.alloc (.cells #[.bool lf, .slice ad n c, .slice ad' m c'] 67)).cell? ⟨w.heap.size, 0, none⟩ = some (.bool lf) := by rw [cell_of_row _ _ _ _ _ _ hR]; rfl
 have k1 : (w.alloc (.cells #[.bool lf, .slice ad n c, .slice ad' m c'] 67)).cell? ⟨w.heap.size, 1, none⟩ = some (.slice ad n c) := by rw [cell_of_row _ _ _ _ _ _ hR]; rfl
 have k2 : (w.alloc (.cells #[.bool lf, .slice ad n c, .slice ad' m c'] 67)).cell? ⟨w.heap.size, 2, none⟩ = some (.slice ad' m c') := by rw [cell_of_row _ _ _ _ _ _ hR]; rfl
 clear hR
 have HE := hid (show formB lf n m = if lf then decide (n ≤ 4 ∧ m = 0) else decide (1 ≤ n ∧ n ≤ 4 ∧ m = n + 1) from rfl)
 go_enter Try.func106, Try.ntmps106
 cases lf with
 | true =>
  by_cases hn : n ≤ 4
  · have hn' : (n : Int) ≤ 4 := by omega
    by_cases hm : m = 0
    · subst hm
      go_wp2_with fail
      go_ret
      exact ⟨by rw [HE.out]; simp [hn], HB.out⟩
    · have hm' : ((m : Int) == 0) = false := by simp [hm]
      go_wp2_with fail
      go_ret
      exact ⟨by rw [HE.out]; simp [hm], HB.out⟩
  · have hn' : ¬ (n : Int) ≤ 4 := by omega
    go_wp2_with fail
    go_ret
    exact ⟨by rw [HE.out]; simp [hn], HB.out⟩
 | false =>
  go_wp2_with fail
  refine (impl_in11 n 1 4 _).mono ?_
  rintro e w1 ⟨rfl, e1⟩
  subst w1
  by_cases hn : 1 ≤ n ∧ n ≤ 4
  · have hd : decide ((1 : Int) ≤ n ∧ (n : Int) ≤ 4) = true := decide_eq_true ⟨by omega, by omega⟩
    rw [hd]
    have hx : (n : Int) + 1 ≤ 9223372036854775807 := by omega
    have hx0 : (-9223372036854775808 : Int) ≤ (n : Int) + 1 := by omega
    by_cases hm : m = n + 1
    · have hm' : ((m : Int) == (n : Int) + 1) = true := by simp; omega
      have HM := hid hm
      clear hd hm
      go_wp2_with fail
      go_ret
      refine ⟨?_, HB.out⟩
      rw [HE.out, if_neg (by simp), decide_eq_true ⟨hn.1, hn.2, HM.out⟩]; rfl
    · have hm' : ((m : Int) == (n : Int) + 1) = false := by simp; omega
      have HM := hid hm
      clear hd hm
      go_wp2_with fail
      go_ret
      refine ⟨?_, HB.out⟩
      rw [HE.out, if_neg (by simp), decide_eq_false (fun q => HM.out q.2.2)]; rfl
  · have hd : decide ((1 : Int) ≤ n ∧ (n : Int) ≤ 4) = false := decide_eq_false (fun q => hn ⟨by omega, by omega⟩)
    rw [hd]
    clear hd
    go_wp2_with fail
    go_ret
    refine ⟨?_, HB.out⟩
    rw [HE.out, if_neg (by simp), decide_eq_false (fun q => hn ⟨q.1, q.2.1⟩)]; rfl
def ptrs (gs : List Nat) : List Value := gs.map (fun g => .pointer (some ⟨g, 0, none⟩))
theorem ptrs_at (gs : List Nat) (i : Nat) (h : i < gs.length) : (ptrs gs)[i]? = some (.pointer (some ⟨gs.getD i 0, 0, none⟩)) := by simp [ptrs, h, List.getD]
structure KidR (w : World) (lo hi : Nat) (kv : Value) (gs : List Nat) : Prop where
 own : w.ownsRow lo 78 1 kv gs.length (ptrs gs)
 top : ∀ g, kv.ownBlock = some g → g < hi
theorem KidR.agree {w w' : World} {lo hi : Nat} {kv : Value} {gs : List Nat} (h : KidR w lo hi kv gs) (ha : Agree lo hi w w') : KidR w' lo hi kv gs := ⟨owns_agree h.own ha (fun g hg => ⟨(h.own.lt g hg).1, h.top g hg⟩), h.top⟩
theorem KidR.mono {w : World} {lo hi lo' hi' : Nat} {kv : Value} {gs : List Nat} (h : KidR w lo hi kv gs) (hl : lo' ≤ lo) (hh : hi ≤ hi') : KidR w lo' hi' kv gs := ⟨owns_lower h.own hl, fun g hg => Nat.lt_of_lt_of_le (h.top g hg) hh⟩
theorem KidR.at {w : World} {lo hi : Nat} {kv : Value} {gs : List Nat} (h : KidR w lo hi kv gs) (h0 : 0 < gs.length) : ∃ kb kc, kv = .slice (some ⟨kb, 0, none⟩) gs.length kc ∧ lo ≤ kb ∧ kb < hi ∧ ∀ i, i < gs.length → w.cell? ⟨kb, i, none⟩ = some (.pointer (some ⟨gs.getD i 0, 0, none⟩)) := by
 have o := h.own
 rcases o.2 with ⟨e, h1⟩ | ⟨g, cap, cur, e, _⟩
 · omega
 · subst e
   refine ⟨g, cap, rfl, (o.lt g rfl).1, h.top g rfl, fun i hi => ?_⟩
   exact (o.cellAt i (by omega)).trans (ptrs_at gs i hi)
def Lk (w0 w : World) (ns : List Nd) (lo hi : Nat) : Nat → Int → Nat → Prop
 | 0, _, _ => False
 | f + 1, x, g => lo ≤ g ∧ g < hi ∧ formOk (ns.getD x.toNat nd0) = true ∧ ∃ (a : Option Addr) (c : Nat) (kv : Value) (gs : List Nat), w.heap[g]? = some (.cells #[.int .i64 x, .bool (ns.getD x.toNat nd0).leaf, .slice a (ns.getD x.toNat nd0).es.length c, kv] 86) ∧ ReadsE w0 a (ns.getD x.toNat nd0).es ∧ gs.length = (ns.getD x.toNat nd0).ks.length ∧ KidR w lo hi kv gs ∧ ∀ i, i < gs.length → Lk w0 w ns lo hi f ((ns.getD x.toNat nd0).ks.getD i 0) (gs.getD i 0)
theorem Lk.agree {w0 w w' : World} {ns : List Nd} {lo hi : Nat} (ha : Agree lo hi w w') : ∀ (f : Nat) (x : Int) (g : Nat), Lk w0 w ns lo hi f x g → Lk w0 w' ns lo hi f x g
 | 0, _, _, h => h
 | f + 1, _, g, ⟨h1, h2, h3, a, c, kv, gs, h4, h5, h6, h7, h8⟩ => ⟨h1, h2, h3, a, c, kv, gs, (ha g h1 h2).trans h4, h5, h6, h7.agree ha, fun i hi => Lk.agree ha f _ _ (h8 i hi)⟩
theorem form_kids {d : Nd} (h : formOk d = true) (hl : d.leaf = false) : 1 ≤ d.es.length ∧ d.es.length ≤ 4 ∧ d.ks.length = d.es.length + 1 := by
 unfold formOk at h
 rw [hl, if_neg (by simp)] at h
 exact of_decide_eq_true h
theorem form_leaf {d : Nd} (h : formOk d = true) (hl : d.leaf = true) : d.es.length ≤ 4 ∧ d.ks.length = 0 := by
 unfold formOk at h
 rw [hl, if_pos rfl] at h
 exact of_decide_eq_true h
set_option maxHeartbeats 1600000 in
theorem impl_height {w0 w : World} {ns : List Nd} {lo hi : Nat} {f : Nat} {x : Int} {g : Nat} (hf : f ≤ 1000000) (h : Lk w0 w ns lo hi f x g) :
 Calls Try.prog 61 #[.pointer (some ⟨g, 0, none⟩)] w fun e w' => e = .returned (.int .i64 (hgt ns f x)) ∧ w' = w := by
 have HL := hid h
 clear h
 go_enter Try.func61, Try.ntmps61
 go_wp2_with fail
 go_loopw [0, 3] (fun p t wr => ∃ (f' : Nat) (x' : Int) (g' : Nat) (y : Int), p = .pointer (some ⟨g', 0, none⟩) ∧ t = .int .i64 y ∧ 1 ≤ y ∧ y + f' ≤ f + 1 ∧ Hid (Lk w0 w ns lo hi f' x' g') ∧ Hid (y - 1 + hgt ns f' x' = hgt ns f x) ∧ wr = w) (fun _ t _ => f + 1 - (intOf t).toNat)
 case atStart => exact ⟨f, x, g, 1, rfl, rfl, by omega, by omega, HL, hid (by omega), rfl⟩
 case round =>
  obtain ⟨f', x', g', y, rfl, rfl, hy0, hy1, HK, HG, rfl⟩ := hrel
  cases f' with
  | zero => exact absurd HK.out (by simp [Lk])
  | succ f' =>
   obtain ⟨h1, h2, h3, a, c, kv, gs, h4, h5, h6, h7, h8⟩ := HK.out
   have hh : hgt ns (f' + 1) x' = if (ns.getD x'.toNat nd0).leaf = true then 1 else 1 + hgt ns f' ((ns.getD x'.toNat nd0).ks.getD 0 0) := by rw [hgt]
   generalize ns.getD x'.toNat nd0 = d at *
   have k1 : wr.cell? ⟨g', 1, none⟩ = some (.bool d.leaf) := by rw [cell_of_row _ _ _ _ _ _ h4]; rfl
   have H8 := hid h8
   have HH := hid hh
   cases hl : d.leaf with
   | true =>
    rw [hl] at k1
    rw [hl, if_pos rfl] at hh
    have HE := hid hh
    clear h1 h2 h3 h4 h5 h6 h7 h8 hh HH H8 HK hl
    go_wp2_with fail
    go_ret
    exact ⟨by have := HG.out; have := HE.out; rw [show hgt ns f x = y by omega]; rfl, rfl⟩
   | false =>
    rw [hl] at k1
    rw [hl, if_neg (by simp)] at hh
    have HE := hid hh
    have hk := form_kids h3 hl
    obtain ⟨kb, kc, rfl, _, _, hc⟩ := h7.at (by omega)
    have k3 : wr.cell? ⟨g', 3, none⟩ = some (.slice (some ⟨kb, 0, none⟩) gs.length kc) := by rw [cell_of_row _ _ _ _ _ _ h4]; rfl
    have k5 := hc 0 (by omega)
    have hgl : (0 : Int) < (gs.length : Int) := by omega
    have hgl0 : 0 < gs.length := by omega
    generalize gs.length = q at *
    clear h1 h2 h3 h4 h5 h6 h7 h8 hh HH HK hl hk hc
    go_wp2_with fail
    go_roundw
    case rel => exact ⟨f', _, _, y + 1, rfl, by go_num, by omega, by omega, hid (H8.out 0 hgl0), hid (by have := HG.out; have := HE.out; omega), by trivial⟩
    case measure => simp [intOf]; omega
set_option maxHeartbeats 1600000 in
theorem impl_hasLeavesAt {w0 w : World} {ns : List Nd} {lo hi : Nat} : ∀ (f : Nat) (x : Int) (g : Nat) (y : Int), (-1000000000 : Int) + f ≤ y → y ≤ 1000000000 → Lk w0 w ns lo hi f x g →
 Calls Try.prog 87 #[.pointer (some ⟨g, 0, none⟩), .int .i64 y] w fun e w' => e = .returned (.bool (lvs ns f x y)) ∧ w' = w
 | 0, _, _, _, _, _, h => absurd h (by simp [Lk])
 | f + 1, x, g, y, hy0, hy1, h => by
  have IH := hid (fun x g y a b c => impl_hasLeavesAt (w0 := w0) (w := w) (ns := ns) (lo := lo) (hi := hi) f x g y a b c)
  obtain ⟨h1, h2, h3, a, c, kv, gs, h4, h5, h6, h7, h8⟩ := h
  have hv : lvs ns (f + 1) x y = if (ns.getD x.toNat nd0).leaf = true then decide (y = 1) else (ns.getD x.toNat nd0).ks.all (fun k => lvs ns f k (y - 1)) := by rw [lvs]
  generalize ns.getD x.toNat nd0 = d at *
  have k1 : w.cell? ⟨g, 1, none⟩ = some (.bool d.leaf) := by rw [cell_of_row _ _ _ _ _ _ h4]; rfl
  have k3 : w.cell? ⟨g, 3, none⟩ = some kv := by rw [cell_of_row _ _ _ _ _ _ h4]; rfl
  have H8 := hid h8
  cases hl : d.leaf with
  | true =>
   rw [hl] at k1
   rw [hl, if_pos rfl] at hv
   have HE := hid hv
   clear h1 h2 h3 h4 h5 h6 h7 h8 hv H8 hl IH k3
   by_cases hy : y = 1
   · subst hy
     go_enter Try.func87, Try.ntmps87
     go_wp2_with fail
     go_ret
     exact ⟨by rw [HE.out]; rfl, rfl⟩
   · have hyb : (y == 1) = false := by simp [hy]
     go_enter Try.func87, Try.ntmps87
     go_wp2_with fail
     go_ret
     exact ⟨by rw [HE.out]; simp [hy], rfl⟩
  | false =>
   rw [hl] at k1
   rw [hl, if_neg (by simp)] at hv
   have HE := hid hv
   have hk := form_kids h3 hl
   obtain ⟨kb, kc, rfl, _, _, hc⟩ := h7.at (by omega)
   have HC := hid hc
   have HQ := hid h6
   obtain ⟨q, hq⟩ : ∃ q, gs.length = q := ⟨_, rfl⟩
   rw [hq] at k3
   have HQ2 := hid hq
   have hq5 : q ≤ 5 := by omega
   clear h1 h2 h3 h4 h5 h6 h7 h8 hv hl hk hc hq
   go_enter Try.func87, Try.ntmps87
   go_wp2_with fail
   go_loopw [18] (fun i wr => ∃ k : Nat, k ≤ q ∧ i = .int .i64 k ∧ Hid (∀ j, j < k → lvs ns f (d.ks.getD j 0) (y - 1) = true) ∧ wr = w) (fun i _ => q - (intOf i).toNat)
   case atStart => exact ⟨0, by omega, rfl, hid (fun j hj => by omega), rfl⟩
   case round =>
    obtain ⟨k, hk, rfl, HA, rfl⟩ := hrel
    by_cases hlt : k < q
    · have hlt' : (k : Int) < (q : Int) := by omega
      have hk0 : (0 : Int) ≤ (k : Int) := by omega
      have hlt2 : k < gs.length := by rw [HQ2.out]; exact hlt
      have k5 := HC.out k hlt2
      have HS := hid (H8.out k hlt2)
      clear hlt2
      go_wp2_with fail
      refine (IH.out _ _ (y - 1) (by omega) (by omega) HS.out).mono ?_
      rintro e w1 ⟨rfl, e1⟩
      subst w1
      cases hb : lvs ns f (d.ks.getD k 0) (y - 1) with
      | false =>
       have HF := hid hb
       clear hb
       go_wp2_with fail
       go_ret
       have hkl : k < d.ks.length := by rw [← HQ.out, HQ2.out]; exact hlt
       have hmem : d.ks.getD k 0 ∈ d.ks := by rw [List.getD_eq_getElem?_getD, List.getElem?_eq_getElem hkl]; exact List.getElem_mem hkl
       have e0 : d.ks.all (fun k => lvs ns f k (y - 1)) = false := List.all_eq_false.2 ⟨_, hmem, by rw [HF.out]; simp⟩
       refine ⟨?_, rfl⟩
       rw [HE.out, e0]
       rfl
      | true =>
       have HF := hid hb
       clear hb
       go_wp2_with fail
       go_roundw
       case rel => exact ⟨k + 1, by omega, by go_num, hid (fun j hj => by by_cases e : j = k; exact e ▸ HF.out; exact HA.out j (by omega)), by trivial⟩
       case measure => simp [intOf]; omega
    · obtain rfl : k = q := by omega
      go_wp2_with fail
      go_ret
      have e0 : d.ks.all (fun k => lvs ns f k (y - 1)) = true := by
       rw [List.all_eq_true]
       intro z hz
       obtain ⟨j, hj, rfl⟩ := List.mem_iff_getElem.1 hz
       have := HA.out j (by rw [← HQ2.out, HQ.out]; exact hj)
       rw [List.getD_eq_getElem?_getD, List.getElem?_eq_getElem hj] at this
       exact this
      refine ⟨?_, rfl⟩
      rw [HE.out, e0]
      rfl
end Go.Proofs.Ytphmlndkjgldkaa
