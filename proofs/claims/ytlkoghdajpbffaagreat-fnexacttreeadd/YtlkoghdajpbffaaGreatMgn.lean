/- Texts of this proof in one: Na11 Nb11 Isp Mc11. -/
import Derived.Test.YtlkoghdajpbffaaGreatMgm
import Derived.Maps.AppendAt
import Derived.Test.YtlkoghdajpbffaaGreatMgh
import Derived.Test.YtlkoghdajpbffaaGreatMgf
import Derived.Deep.DeepCutAuto
/- The program links nodes, the row of them told: which pointer stands for which number. Conditions: at most 300 nodes. -/


namespace Go.Proofs.YtlkoghdajpbffaaGreat
open Go.RowKit
set_option maxRecDepth 100000
def CapD (w : World) (ad : Option Addr) (N : Nat) : Prop := ∀ (k : Nat), k < N → ∀ {b off n c : Nat} {a : Option Addr}, ad = some ⟨b, off, none⟩ → w.cell? ⟨b, off + k * 3 + 1, none⟩ = some (.slice a n c) → n ≤ c ∧ c ≤ maxLen ∧ ((a = none ∧ c = 0) ∨ ∃ b o, a = some ⟨b, o, none⟩)
structure NRowP (w : World) (r N : Nat) (sd : List Bool) (ps : List (Option Addr)) : Prop where
 len : ps.length = N
 row : w.heap[r]? = some (.cells (ps.map Value.pointer).toArray 70)
 sd : ps.map (·.isSome) = sd
theorem NRowP.nr {w : World} {r N : Nat} {sd : List Bool} {ps : List (Option Addr)} (h : NRowP w r N sd ps) : NRow w r N sd := ⟨ps, h.len, h.row, h.sd⟩
theorem NRowP.agree {w w' : World} {r N : Nat} {sd : List Bool} {ps : List (Option Addr)} (h : NRowP w r N sd ps) (e : w'.heap[r]? = w.heap[r]?) : NRowP w' r N sd ps := ⟨h.len, e.trans h.row, h.sd⟩
theorem NRowP.at {w : World} {r N : Nat} {sd : List Bool} {ps : List (Option Addr)} (h : NRowP w r N sd ps) {i : Nat} (hi : i < N) : ∃ o : Option Addr, w.cell? ⟨r, i, none⟩ = some (.pointer o) ∧ sd.getD i true = o.isSome ∧ ps.getD i none = o := by
 obtain ⟨h1, h2, rfl⟩ := h
 have hi' : i < ps.length := by omega
 refine ⟨ps[i], ?_, ?_, ?_⟩
 · rw [cell_of_row _ _ _ _ _ _ h2]; simp [hi']
 · simp [List.getD, hi']
 · simp [List.getD, hi']
theorem NRowP.set {w : World} {r N : Nat} {sd : List Bool} {ps : List (Option Addr)} (h : NRowP w r N sd ps) (i : Nat) (a : Addr) : NRowP (w.setCell ⟨r, i, none⟩ (.pointer (some a))) r N (sd.set i true) (ps.set i (some a)) := by
 obtain ⟨h1, h2, rfl⟩ := h
 refine ⟨by simpa using h1, ?_, ?_⟩
 · rw [heap_setCell_same _ _ _ _ _ _ h2]
   simp [List.map_set]
 · simp [List.map_set]
def ExtP (ps qs : List (Option Addr)) : Prop := ∀ i a, ps.getD i none = some a → qs.getD i none = some a
def LkT (tb : List (Option Addr)) (w0 w : World) (ns : List Nd) (lo hi : Nat) : Nat → Int → Nat → Prop
 | 0, _, _ => False
 | f + 1, x, g => tb.getD x.toNat none = some ⟨g, 0, none⟩ ∧ lo ≤ g ∧ g < hi ∧ formOk (ns.getD x.toNat nd0) = true ∧ ∃ (a : Option Addr) (c : Nat) (kv : Value) (gs : List Nat), ((ns.getD x.toNat nd0).es.length ≤ c ∧ c ≤ maxLen ∧ ((a = none ∧ c = 0) ∨ ∃ b o, a = some ⟨b, o, none⟩)) ∧ w.heap[g]? = some (.cells #[.int .i64 x, .bool (ns.getD x.toNat nd0).leaf, .slice a (ns.getD x.toNat nd0).es.length c, kv] 112) ∧ ReadsE w0 a (ns.getD x.toNat nd0).es ∧ gs.length = (ns.getD x.toNat nd0).ks.length ∧ KidR w lo hi kv gs ∧ ∀ i, i < gs.length → LkT tb w0 w ns lo hi f ((ns.getD x.toNat nd0).ks.getD i 0) (gs.getD i 0)
theorem LkT.lk {tb : List (Option Addr)} {w0 w : World} {ns : List Nd} {lo hi : Nat} : ∀ (f : Nat) (x : Int) (g : Nat), LkT tb w0 w ns lo hi f x g → Lk w0 w ns lo hi f x g
 | 0, _, _, h => h.elim
 | f + 1, _, _, ⟨_, h1, h2, h3, a, c, kv, gs, _, h4, h5, h6, h7, h8⟩ => ⟨h1, h2, h3, a, c, kv, gs, h4, h5, h6, h7, fun i hi => LkT.lk f _ _ (h8 i hi)⟩
theorem LkT.agree {tb : List (Option Addr)} {w0 w w' : World} {ns : List Nd} {lo hi : Nat} (ha : Agree lo hi w w') : ∀ (f : Nat) (x : Int) (g : Nat), LkT tb w0 w ns lo hi f x g → LkT tb w0 w' ns lo hi f x g
 | 0, _, _, h => h
 | f + 1, _, g, ⟨h0, h1, h2, h3, a, c, kv, gs, hc, h4, h5, h6, h7, h8⟩ => ⟨h0, h1, h2, h3, a, c, kv, gs, hc, (ha g h1 h2).trans h4, h5, h6, h7.agree ha, fun i hi => LkT.agree ha f _ _ (h8 i hi)⟩
theorem LkT.mono {tb : List (Option Addr)} {w0 w : World} {ns : List Nd} {lo hi lo' hi' : Nat} (hl : lo' ≤ lo) (hh : hi ≤ hi') : ∀ (f : Nat) (x : Int) (g : Nat), LkT tb w0 w ns lo hi f x g → LkT tb w0 w ns lo' hi' f x g
 | 0, _, _, h => h
 | f + 1, _, g, ⟨h0, h1, h2, h3, a, c, kv, gs, hc, h4, h5, h6, h7, h8⟩ => ⟨h0, by omega, by omega, h3, a, c, kv, gs, hc, h4, h5, h6, h7.mono hl hh, fun i hi => LkT.mono hl hh f _ _ (h8 i hi)⟩
theorem LkT.ext {tb tb' : List (Option Addr)} (he : ExtP tb tb') {w0 w : World} {ns : List Nd} {lo hi : Nat} : ∀ (f : Nat) (x : Int) (g : Nat), LkT tb w0 w ns lo hi f x g → LkT tb' w0 w ns lo hi f x g
 | 0, _, _, h => h
 | f + 1, _, _, ⟨h0, h1, h2, h3, a, c, kv, gs, hc, h4, h5, h6, h7, h8⟩ => ⟨he _ _ h0, h1, h2, h3, a, c, kv, gs, hc, h4, h5, h6, h7, fun i hi => LkT.ext he f _ _ (h8 i hi)⟩
structure KinT (tb : List (Option Addr)) (w0 w : World) (ns : List Nd) (f lo gn : Nat) (kv : Value) (ks : List Int) (gs : List Nat) : Prop where
 own : w.ownsRow lo 70 1 kv gs.length (ptrs gs)
 ne : kv.ownBlock ≠ some gn
 kid : ∀ i, i < gs.length → ∃ l h, gn < l ∧ h ≤ w.heap.size ∧ (∀ b, kv.ownBlock = some b → b < l ∨ h ≤ b) ∧ LkT tb w0 w ns l h f (ks.getD i 0) (gs.getD i 0)
theorem KinT.keep {tb : List (Option Addr)} {w0 w w' : World} {ns : List Nd} {f lo gn : Nat} {kv : Value} {ks : List Int} {gs : List Nat} {X : Nat → Prop} (h : KinT tb w0 w ns f lo gn kv ks gs) (hk : Kept X w w') (hlo : lo ≤ gn) (hX : ∀ k, lo ≤ k → X k → k = gn) : KinT tb w0 w' ns f lo gn kv ks gs := by
 refine ⟨?_, h.ne, fun i hi => ?_⟩
 · cases e : kv.ownBlock with
   | none => exact owns_agree (lo := 0) (hi := 0) h.own (fun k _ k2 => by omega) (fun g hg => by rw [e] at hg; cases hg)
   | some g =>
    have h1 := h.own.lt g e
    refine owns_agree (lo := g) (hi := g + 1) h.own (fun k k1 k2 => ?_) (fun g' hg => by rw [e] at hg; cases hg; omega)
    obtain rfl : k = g := by omega
    exact hk.block k h1.2 (fun x => h.ne (by rw [e, hX k h1.1 x]))
 · obtain ⟨l, u, h1, h2, h3, h4⟩ := h.kid i hi
   exact ⟨l, u, h1, Nat.le_trans h2 hk.size, h3, LkT.agree (fun k k1 k2 => hk.block k (by omega) (fun x => by have := hX k (by omega) x; omega)) f _ _ h4⟩
theorem KinT.push {tb : List (Option Addr)} {w0 w w' : World} {ns : List Nd} {f lo gn : Nat} {kv : Value} {ks : List Int} {gs : List Nat} (h : KinT tb w0 w ns f lo gn kv ks gs) {l u g : Nat} (hl : gn < l) (hu : u ≤ w.heap.size) (hb : ∀ b, kv.ownBlock = some b → b < l ∨ u ≤ b) (hg : LkT tb w0 w ns l u f (ks.getD gs.length 0) g) {kv' : Value}
 (o' : w'.ownsRow lo 70 1 kv' (gs.length + 1) (ptrs gs ++ [.pointer (some ⟨g, 0, none⟩)])) (gr : w.grownBy w' kv.ownBlock) (hne : kv'.ownBlock = kv.ownBlock ∨ ∀ b, kv'.ownBlock = some b → w.heap.size ≤ b) (hgn : gn < w.heap.size) : KinT tb w0 w' ns f lo gn kv' ks (gs ++ [g]) := by
 have hin : ∀ l u, u ≤ w.heap.size → (∀ b, kv.ownBlock = some b → b < l ∨ u ≤ b) → ∀ b, kv'.ownBlock = some b → b < l ∨ u ≤ b := fun l u hu hh b e => by
  rcases hne with q | q
  · exact hh b (q ▸ e)
  · have := q b e; omega
 have hag : ∀ l u, u ≤ w.heap.size → (∀ b, kv.ownBlock = some b → b < l ∨ u ≤ b) → Agree l u w w' := fun l u hu hh k k1 k2 => gr.block k (by omega) (fun e => by have := hh k e.symm; omega)
 refine ⟨by simpa [ptrs] using o', ?_, fun i hi => ?_⟩
 · rcases hne with q | q
   · rw [q]; exact h.ne
   · intro e; have := q gn e; omega
 · simp only [List.length_append, List.length_singleton] at hi
   by_cases hc : i < gs.length
   · obtain ⟨l', u', h1, h2, h3, h4⟩ := h.kid i hc
     refine ⟨l', u', h1, Nat.le_trans h2 gr.size, hin l' u' h2 h3, ?_⟩
     rw [getD_app, if_pos hc]
     exact LkT.agree (hag l' u' h2 h3) f _ _ h4
   · obtain rfl : i = gs.length := by omega
     refine ⟨l, u, hl, Nat.le_trans hu gr.size, hin l u hu hb, ?_⟩
     rw [getD_app, if_neg hc, Nat.sub_self]
     exact LkT.agree (hag l u hu hb) f _ _ hg
theorem KinT.ext {tb tb' : List (Option Addr)} (he : ExtP tb tb') {w0 w : World} {ns : List Nd} {f lo gn : Nat} {kv : Value} {ks : List Int} {gs : List Nat} (h : KinT tb w0 w ns f lo gn kv ks gs) : KinT tb' w0 w ns f lo gn kv ks gs :=
 ⟨h.own, h.ne, fun i hi => by obtain ⟨l, u, h1, h2, h3, h4⟩ := h.kid i hi; exact ⟨l, u, h1, h2, h3, LkT.ext he f _ _ h4⟩⟩
def LinkT (w0 w w' : World) (ns : List Nd) (r N f : Nat) (sd : List Bool) (ps : List (Option Addr)) (x : Int) (e : Ending) : Prop :=
 (lnk ns f sd x = none → e = .returned (.tuple #[.pointer none, .bool false])) ∧ (∀ sd', lnk ns f sd x = some sd' → ∃ g ps', e = .returned (.tuple #[.pointer (some ⟨g, 0, none⟩), .bool true]) ∧ NRowP w' r N sd' ps' ∧ ExtP ps ps' ∧ LkT ps' w0 w' ns w.heap.size w'.heap.size f x g)
theorem LinkT.no {w0 w w' : World} {ns : List Nd} {r N f : Nat} {sd : List Bool} {ps : List (Option Addr)} {x : Int} {e : Ending} (h : lnk ns f sd x = none) (he : e = .returned (.tuple #[.pointer none, .bool false])) : LinkT w0 w w' ns r N f sd ps x e := ⟨fun _ => he, fun sd' q => absurd (h.symm.trans q) (by simp)⟩
set_option maxHeartbeats 6400000 in
theorem impl_linkT {w0 : World} {ns : List Nd} {ad : Option Addr} {N : Nat} (cap : Nat) (root : Int) (hns : ns.length = N) (hR : ReadsD w0 ad ns) (hN : N ≤ 300) (q r : Nat) (hqr : q ≠ r) (hr0 : w0.heap.size ≤ r) (hcap : CapD w0 ad N) : ∀ (f : Nat) (sd : List Bool) (ps : List (Option Addr)) (x : Int) (w : World), unseen sd < f → Below w0.heap.size w0 w → w.cell? ⟨q, 0, none⟩ = some (.slice (some ⟨r, 0, none⟩) N N) → NRowP w r N sd ps →
 Calls Tryz.prog 48 #[.pointer (some ⟨q, 0, none⟩), .agg #[.slice ad N cap, .int .i64 root], .int .i64 x] w fun e w' => LinkT w0 w w' ns r N f sd ps x e ∧ Kept (fun b => b = r) w w'
 | 0, _, _, _, _, h, _, _, _ => absurd h (by omega)
 | f + 1, sd, ps, x, w, hu, hw, hq, hrow => by
  have IH := hid (fun sd ps x w a b c d => impl_linkT (w0 := w0) (ns := ns) (ad := ad) cap root hns hR hN q r hqr hr0 hcap f sd ps x w a b c d)
  have HLn := hid (show lnk ns (f + 1) sd x = if (outB ns sd x || !formOk (ns.getD x.toNat nd0)) = true then none else (ns.getD x.toNat nd0).ks.foldlM (fun s k => lnk ns f s k) (sd.set x.toNat true) by rw [lnk])
  have hB := Below.alloc1 w (.cells #[.slice ad N cap, .int .i64 root] 33)
  have HR4 := hid (heap_alloc_new w (.cells #[.slice ad N cap, .int .i64 root] 33))
  have hz := alloc_size w (.cells #[.slice ad N cap, .int .i64 root] 33)
  have hql := World.block_lt_of_cell? w _ hq
  simp only at hql
  have hrp := hrow.row
  have hrl : r < w.heap.size := by
   rcases Nat.lt_or_ge r w.heap.size with h | h
   · exact h
   · rw [Array.getElem?_eq_none h] at hrp; cases hrp
  clear hrp
  have kq := (hB.cell (p := ⟨q, 0, none⟩) hql).trans hq
  have HROW := hid (hrow.agree (hB.block r hrl))
  have HB := hid hB
  have HW := hid hw
  have HU := hid hu
  have HZ := hid (show r < w.heap.size ∧ q < w.heap.size ∧ (w.alloc (.cells #[.slice ad N cap, .int .i64 root] 33)).heap.size = w.heap.size + 1 from ⟨hrl, hql, hz⟩)
  have HQ := hid hq
  have hrne : r ≠ w.heap.size := by omega
  clear hB hw hu hz hrl hql hrow hq
  go_enter Tryz.func48, Tryz.ntmps48
  have k4 : (w.alloc (.cells #[.slice ad N cap, .int .i64 root] 33)).cell? ⟨w.heap.size, 0, none⟩ = some (.slice ad N cap) := qC HR4.out
  go_wp2_with fail
  generalize w.alloc (.cells #[.slice ad N cap, .int .i64 root] 33) = V at *
  obtain ⟨p4, hp4⟩ : ∃ p4, w.heap.size = p4 := ⟨_, rfl⟩
  have HP4 := hid hp4
  rw [hp4] at HR4 k4 hrne
  try simp only [hp4]
  clear hp4
  refine (impl_in11 x 0 _ _).mono ?_
  rintro e w1 ⟨rfl, e1⟩
  subst w1
  by_cases hin : 0 ≤ x ∧ x ≤ (N : Int) - 1
  · have hd : decide (0 ≤ x ∧ x ≤ (N : Int) - 1) = true := decide_eq_true hin
    obtain ⟨k, rfl⟩ : ∃ k : Nat, x = (k : Int) := ⟨x.toNat, by omega⟩
    rw [hd]
    have hkN : k < N := by omega
    have hkN' : (k : Int) < (N : Int) := by omega
    have hk0 : (0 : Int) ≤ (k : Int) := by omega
    rw [Int.toNat_natCast] at HLn
    obtain ⟨o, hco, hso, hpk⟩ := HROW.out.at hkN
    have HLp := hid HROW.out.len
    clear hd hin
    cases o with
    | some a0 =>
     have HNo := hid (show lnk ns (f + 1) sd (k : Int) = none by
      rw [HLn.out, show outB ns sd (k : Int) = true by (unfold outB; rw [Int.toNat_natCast, hso, Option.isSome_some, Bool.or_true]), Bool.true_or, if_pos rfl])
     clear hso hpk
     go_wp2_with fail
     go_ret2
     exact ⟨LinkT.no HNo.out rfl, Kept.of_below HB.out⟩
    | none =>
     have HBW := hid (HW.out.trans (HB.out.mono HW.out.size))
     have HNon := hid hpk
     clear hpk
     obtain ⟨b, off, a, c, a', c', rfl, n0, n1, n2, re, hml, ri, hmk⟩ := hR.at (k := k) (by omega)
     have hcp := hcap k hkN rfl n1
     have bl := World.block_lt_of_cell? w0 _ n0
     have N0 := (HBW.out.cell (p := ⟨b, off + k * 3, none⟩) bl).trans n0
     have N1 := (HBW.out.cell (p := ⟨b, off + k * 3 + 1, none⟩) bl).trans n1
     have N2 := (HBW.out.cell (p := ⟨b, off + k * 3 + 2, none⟩) bl).trans n2
     have HRe := hid re
     have HRi := hid ri
     have HSo := hid (show sd.getD k true = false from hso)
     have HOut := hid (show outB ns sd (k : Int) = false by
      unfold outB
      rw [Int.toNat_natCast, hso, decide_eq_false (by rw [hns]; omega)]
      rfl)
     rw [HOut.out, Bool.false_or] at HLn
     clear n0 n1 n2 re ri bl hso
     obtain ⟨d, hdd⟩ : ∃ d, ns.getD k nd0 = d := ⟨_, rfl⟩
     rw [hdd] at N0 N1 N2 HRe HRi HLn hml hmk hcp
     have HDD := hid hdd
     obtain ⟨n, hn⟩ : ∃ n, d.es.length = n := ⟨_, rfl⟩
     obtain ⟨m, hm⟩ : ∃ m, d.ks.length = m := ⟨_, rfl⟩
     rw [hn] at N1 hml hcp
     have HCp := hid hcp
     clear hcp
     rw [hm] at N2 HRi hmk
     have HF := hid (show formB d.leaf n m = formOk d by rw [← hn, ← hm]; rfl)
     have HN := hid hn
     have HM := hid hm
     clear hdd hn hm
     go_wp2_with fail
     refine (impl_hasForm _ _ _ _ _ _ _ _).mono ?_
     rintro e w1 ⟨rfl, b1⟩
     rw [HF.out]
     replace HB := hid (HB.out.trans (b1.mono HB.out.size))
     replace HBW := hid (HBW.out.trans (b1.mono HBW.out.size))
     cases hfo : formOk d with
     | false =>
      have HNo := hid (show lnk ns (f + 1) sd (k : Int) = none by rw [HLn.out, hfo, Bool.not_false, if_pos rfl])
      clear hfo b1
      go_wp2_with fail
      go_ret2
      exact ⟨LinkT.no HNo.out rfl, Kept.of_below HB.out⟩
     | true =>
      rw [hfo, Bool.not_true, if_neg (by simp)] at HLn
      have HFo := hid hfo
      have hrn : NRowP w1 r N sd ps := HROW.out.agree (b1.block r (by have := HZ.out; omega))
      have k4' := (b1.cell (p := ⟨p4, 0, none⟩) (by have := HZ.out; have := HP4.out; simp only; omega)).trans k4
      have N0' := (b1.cell (p := ⟨b, off + k * 3, none⟩) (World.block_lt_of_cell? V _ N0)).trans N0
      have N1' := (b1.cell (p := ⟨b, off + k * 3 + 1, none⟩) (World.block_lt_of_cell? V _ N1)).trans N1
      have N2' := (b1.cell (p := ⟨b, off + k * 3 + 2, none⟩) (World.block_lt_of_cell? V _ N2)).trans N2
      have kqw := (b1.cell (p := ⟨q, 0, none⟩) (World.block_lt_of_cell? V _ kq)).trans kq
      have hq1 := World.block_lt_of_cell? w1 _ kqw
      have hz1 : w.heap.size < w1.heap.size := by have := HZ.out; have := b1.size; omega
      have hr1 : r < w1.heap.size := by have := HZ.out; omega
      have kq2 : ∀ o1 o2, ((w1.alloc o1).alloc o2).cell? ⟨q, 0, none⟩ = some (.slice (some ⟨r, 0, none⟩) N N) := fun o1 o2 => ((two w1 o1 o2).cell (p := ⟨q, 0, none⟩) hq1).trans kqw
      have hrne1 : w1.heap.size ≠ r := by omega
      have hrne2 : r ≠ w1.heap.size := by omega
      have hrne3 : r ≠ w1.heap.size + 1 := by omega
      have hfr : w1.frozen? ⟨r, k, none⟩ = false := frozen_of_row _ _ _ _ _ hrn.row
      have hcw := (b1.cell (p := ⟨r, k, none⟩) (World.block_lt_of_cell? V _ hco)).trans hco
      have hzs : (w1.setCell ⟨r, k, none⟩ (.pointer (some ⟨w1.heap.size + 1, 0, none⟩))).heap.size = w1.heap.size := set_size _ _ _
      have hRR := two_rows11 (w1.setCell ⟨r, k, none⟩ (.pointer (some ⟨w1.heap.size + 1, 0, none⟩))) (.cells #[.bool d.leaf, .slice a n c, .slice a' m c'] 61) (.cells #[.int .i64 (k : Int), .bool d.leaf, .slice a n c, .slice none 0 0] 112)
      have hBB := two (w1.setCell ⟨r, k, none⟩ (.pointer (some ⟨w1.heap.size + 1, 0, none⟩))) (.cells #[.bool d.leaf, .slice a n c, .slice a' m c'] 61) (.cells #[.int .i64 (k : Int), .bool d.leaf, .slice a n c, .slice none 0 0] 112)
      rw [hzs] at hRR hBB
      have HSet := hid (show NRowP (((w1.setCell ⟨r, k, none⟩ (.pointer (some ⟨w1.heap.size + 1, 0, none⟩))).alloc (.cells #[.bool d.leaf, .slice a n c, .slice a' m c'] 61)).alloc (.cells #[.int .i64 (k : Int), .bool d.leaf, .slice a n c, .slice none 0 0] 112)) r N (sd.set k true) (ps.set k (some ⟨w1.heap.size + 1, 0, none⟩)) from (hrn.set k _).agree (hBB.block r hr1))
      have HK1 := hid (show Kept (fun b => b = r) w (((w1.setCell ⟨r, k, none⟩ (.pointer (some ⟨w1.heap.size + 1, 0, none⟩))).alloc (.cells #[.bool d.leaf, .slice a n c, .slice a' m c'] 61)).alloc (.cells #[.int .i64 (k : Int), .bool d.leaf, .slice a n c, .slice none 0 0] 112)) from ((Kept.of_below HB.out).trans (Kept.set (X := fun b => b = r) w1 (p := ⟨r, k, none⟩) rfl _) (fun _ _ h => h)).trans (Kept.of_below (X := fun b => b = r) (by rw [hzs]; exact hBB)) (fun _ _ h => h))
      have HG9 := hid hRR.2.1
      have HG4 := hid (show (((w1.setCell ⟨r, k, none⟩ (.pointer (some ⟨w1.heap.size + 1, 0, none⟩))).alloc (.cells #[.bool d.leaf, .slice a n c, .slice a' m c'] 61)).alloc (.cells #[.int .i64 (k : Int), .bool d.leaf, .slice a n c, .slice none 0 0] 112)).heap[p4]? = some (.cells #[.slice (some ⟨b, off, none⟩) N cap, .int .i64 root] 33) from (hBB.block p4 (by have := HP4.out; omega)).trans ((heap_set_ne _ r k _ _ (fun e => hrne e.symm)).trans ((b1.block p4 (by have := HP4.out; have := HZ.out; omega)).trans HR4.out)))
      have HSz := hid hRR.2.2
      clear b1 N0 N1 N2 k4 kq hfo hco hBB hRR hrn HROW HR4 hzs
      go_wp2_with fail
      generalize (((w1.setCell ⟨r, k, none⟩ (.pointer (some ⟨w1.heap.size + 1, 0, none⟩))).alloc (.cells #[.bool d.leaf, .slice a n c, .slice a' m c'] 61)).alloc (.cells #[.int .i64 (k : Int), .bool d.leaf, .slice a n c, .slice none 0 0] 112)) = W1 at *
      obtain ⟨gn, hgn⟩ : ∃ gn, w1.heap.size + 1 = gn := ⟨_, rfl⟩
      rw [hgn] at HG9
      rw [hgn] at HSet
      have HTk := hid (show (ps.set k (some (⟨gn, 0, none⟩ : Addr))).getD k none = some ⟨gn, 0, none⟩ by simp [List.getD, show k < ps.length by have := HLp.out; omega])
      have HExS := hid (show ExtP ps (ps.set k (some (⟨gn, 0, none⟩ : Addr))) from fun i a h => by
       by_cases e : i = k
       · subst e; rw [HNon.out] at h; cases h
       · simp only [List.getD, List.getElem?_set_ne (fun e2 => e e2.symm)]; exact h)
      try simp only [hgn]
      have HGn := hid (show w.heap.size < gn ∧ gn < W1.heap.size ∧ p4 < gn ∧ p4 < W1.heap.size ∧ p4 ≠ r by have := HSz.out; have := HP4.out; omega)
      have hm5 : m ≤ 5 := by
       rw [← HM.out]
       cases hl : d.leaf with
       | true => have := form_leaf HFo.out hl; omega
       | false => have := form_kids HFo.out hl; omega
      have HUn := hid (unseen_set sd k HSo.out)
      have HBW1 := hid (HW.out.trans (HK1.out.below HW.out.size (fun j hj => by omega)))
      have HQ1 := hid (show W1.cell? ⟨q, 0, none⟩ = some (.slice (some ⟨r, 0, none⟩) N N) from (World.cell?_of_block (w := w) (a := ⟨q, 0, none⟩) (HK1.out.block q HZ.out.2.1 hqr)).trans HQ.out)
      clear hcw hfr kq2 N0' N1' N2' k4' kqw hq1 hz1 hr1 hrne1 hrne2 hrne3 hgn HSz
      obtain ⟨i0, hi, hz0, hz1, hz2⟩ := info_parts Tryz.infoPn
      go_loopw [62] (fun i wr => ∃ (kk : Nat) (sdk : List Bool) (tb : List (Option Addr)) (gs : List Nat) (kv : Value), kk ≤ m ∧ i = .int .i64 kk ∧ Hid ((d.ks.take kk).foldlM (fun s k => lnk ns f s k) (sd.set k true) = some sdk) ∧ Hid (gs.length = kk) ∧ Hid (NRowP wr r N sdk tb ∧ ExtP (ps.set k (some ⟨gn, 0, none⟩)) tb) ∧ Hid (wr.heap[gn]? = some (.cells #[.int .i64 (k : Int), .bool d.leaf, .slice a n c, kv] 112)) ∧ Hid (KinT tb w0 wr ns f w.heap.size gn kv d.ks gs) ∧ Hid (Kept (fun b => b = r ∨ b = gn) W1 wr) ∧ Hid (∀ b, kv.ownBlock = some b → W1.heap.size ≤ b)) (fun i _ => m - (intOf i).toNat)
      case atStart => exact ⟨0, _, _, [], _, Nat.zero_le _, rfl, hid rfl, hid rfl, hid ⟨HSet.out, fun _ _ h => h⟩, HG9, hid ⟨World.ownsRow_nil _ _ _ _, (fun e => by cases e), (fun i hi => by cases hi)⟩, hid (Kept.refl _ _), hid (fun b hb => by cases hb)⟩
      case round =>
       obtain ⟨kk, sdk, tb, gs, kv, hkk, rfl, HFd, HGs, HNE, HGo, HKi, HKe, HKb⟩ := hrel
       have HNr := hid HNE.out.1
       obtain ⟨ka, kc, rfl⟩ := own_sl HKi.out.own
       have HBr := hid (HBW1.out.trans (HKe.out.below HBW1.out.size (fun j hj => by have := HGn.out; have := HW.out.size; omega)))
       have HKw := hid (HK1.out.trans HKe.out (fun i hi h => by have := HGn.out; omega))
       by_cases hlt : kk < m
       · have hlt' : (kk : Int) < (m : Int) := by omega
         have hkk0 : (0 : Int) ≤ (kk : Int) := by omega
         obtain ⟨bk, ok, rfl⟩ := HRi.out.pos (by omega)
         have hkd : kk < d.ks.length := by rw [HM.out]; exact hlt
         have c5 : wr.cell? ⟨bk, ok + kk, none⟩ = some (.int .i64 (d.ks.getD kk 0)) := by
          rcases (HRi.out.below HBr.out qN).cells with h0 | ⟨b', o', e', hc⟩
          · omega
          · obtain ⟨rfl, rfl⟩ : bk = b' ∧ ok = o' := by simpa using e'
            exact hc kk hlt
         have r4 : wr.heap[p4]? = some (.cells #[.slice (some ⟨b, off, none⟩) N cap, .int .i64 root] 33) := (HKe.out.block p4 HGn.out.2.2.2.1 (fun h => by have := HGn.out; omega)).trans HG4.out
         have c40 : wr.cell? ⟨p4, 0, none⟩ = some (.slice (some ⟨b, off, none⟩) N cap) := qC r4
         have c41 : wr.cell? ⟨p4, 1, none⟩ = some (.int .i64 root) := qC r4
         have HQr := hid ((World.cell?_of_block (w := W1) (a := ⟨q, 0, none⟩) (HKe.out.block q (by have := HGn.out; have := HZ.out; omega) (fun h => by have := HGn.out; have := HZ.out; omega))).trans HQ1.out)
         have hus : unseen sdk < f := by
          have h1 := foldM_mono (fun s k => lnk ns f s k) (fun s k s' => lnk_mono ns f s k s') _ _ _ HFd.out
          have h2 := HUn.out
          have h3 := HU.out
          omega
         have HUs := hid hus
         have HKd := hid hkd
         clear hus hkd r4
         go_wp2_with fail
         refine (IH.out sdk tb _ wr HUs.out HBr.out HQr.out HNr.out).mono ?_
         rintro e w2 ⟨hp, kp⟩
         cases hx : lnk ns f sdk (d.ks.getD kk 0) with
         | none =>
          obtain rfl := hp.1 hx
          have HNo := hid (show lnk ns (f + 1) sd (k : Int) = none by rw [HLn.out]; exact foldM_bad (fun s k => lnk ns f s k) _ _ _ _ HKd.out HFd.out hx)
          have HKF := hid (HKw.out.trans kp (fun _ _ h => h))
          clear hx hp kp c5 c40 c41
          go_wp2_with fail
          go_ret2
          exact ⟨LinkT.no HNo.out rfl, HKF.out⟩
         | some sd2 =>
          obtain ⟨g2, tb2, rfl, hn2, hx2, hl2⟩ := hp.2 _ hx
          have HX2 := hid hx2
          have HFd2 := hid (foldM_step (fun s k => lnk ns f s k) _ _ _ _ _ HKd.out HFd.out hx)
          have HN2 := hid hn2
          have HL2 := hid hl2
          have HKP := hid kp
          have hsz := HKe.out.size
          have hz2' := kp.size
          have rg : w2.heap[gn]? = some (.cells #[.int .i64 (k : Int), .bool d.leaf, .slice a n c, .slice ka gs.length kc] 112) := (kp.block gn (by have := HGn.out; omega) (by have := HGn.out; have := HZ.out; omega)).trans HGo.out
          have g3 : w2.cell? ⟨gn, 3, none⟩ = some (.slice ka gs.length kc) := qC rg
          have HRg := hid rg
          have HKn := hid ((HKi.out.keep kp (by have := HGn.out; omega) (fun j hj e => by have := HZ.out; have : j = r := e; omega)).ext hx2)
          have HOw := hid HKn.out.own
          have HOr := hid HKi.out.own
          have HGl := hid (show gn < w2.heap.size ∧ r < w.heap.size ∧ wr.heap.size ≤ w2.heap.size ∧ w.heap.size ≤ w2.heap.size ∧ gn < wr.heap.size by have := HGn.out; have := HZ.out; omega)
          have HNw := hid (HKn.out.keep (Kept.of_below (X := fun _ => False) (Below.alloc1 w2 (.cells #[.pointer (some ⟨g2, 0, none⟩)] 70))) (by have := HGn.out; omega) (fun _ _ h => h.elim))
          have hgl : gs.length ≤ 5 := by rw [HGs.out]; omega
          clear hx hp kp c5 c40 c41 hn2 hx2 hl2 hsz hz2' rg HKi
          go_wp2_with (at_builtin; refine wpList_append_own_at _ rfl _ _ 75 rfl w.heap.size 70 i0 (.pointer none) 1 8 Tryz.underlying75 hi hz0 hz1 hz2 rfl (by decide) _ _ _ rfl (HOw.out.alloc _) ⟨w2.heap.size, 0, none⟩ 1 1 [.pointer (some ⟨g2, 0, none⟩)] rfl rfl (cell_one_new _ _ _) (by intro u hu; simp at hu; subst hu; rfl) (by unfold maxLen; omega) (by omega) (by have := HGl.out; simp; omega) ?_)
          intro kv' w3 o3 gr3 _ hat
          obtain ⟨ka', kc', rfl⟩ := own_sl o3
          have HRg3 := hid (show w3.heap[gn]? = some (.cells #[.int .i64 (k : Int), .bool d.leaf, .slice a n c, .slice ka gs.length kc] 112) from (gr3.block gn (by have := HGl.out; simp; omega) (fun e => HKn.out.ne e.symm)).trans (((Below.alloc1 w2 (.cells #[.pointer (some ⟨g2, 0, none⟩)] 70)).block gn HGl.out.1).trans HRg.out))
          have g3' : w3.cell? ⟨gn, 3, none⟩ = some (.slice ka gs.length kc) := qC HRg3.out
          have fr3 : w3.frozen? ⟨gn, 3, none⟩ = false := frozen_of_row _ _ _ _ _ HRg3.out
          have HKin := hid (HNw.out.push (l := wr.heap.size) (u := w2.heap.size) (g := g2) HGl.out.2.2.2.2 (by simp) (fun b hb => .inl (HOr.out.lt b hb).2) (by
           have e0 := HGs.out
           rw [e0]
           exact LkT.agree (Agree.below (Below.alloc1 w2 _) qN) f _ _ HL2.out) o3 gr3 (by
           rcases hat with h | h
           · exact .inl h
           · exact .inr (fun b hb => by rw [h] at hb; rw [alloc_size]; exact Nat.le_of_eq (Option.some.inj hb))) (by have := HGl.out; simp; omega))
          have HKin2 := hid (HKin.out.keep (Kept.set (X := fun b => b = gn) w3 (p := ⟨gn, 3, none⟩) rfl (.slice ka' (gs.length + 1) kc')) (by have := HGl.out; have := HGn.out; omega) (fun j hj e => e))
          have HNf := hid (show NRowP (w3.setCell ⟨gn, 3, none⟩ (.slice ka' (gs.length + 1) kc')) r N sd2 tb2 from HN2.out.agree ((heap_set_ne _ gn 3 r _ (by have := HGn.out; have := HGl.out; omega)).trans ((gr3.block r (by have := HGl.out; simp; omega) (fun e => by have := (HOw.out.lt r e.symm).1; have := HGl.out; omega)).trans ((Below.alloc1 w2 (.cells #[.pointer (some ⟨g2, 0, none⟩)] 70)).block r (by have := HGl.out; omega)))))
          have HGf := hid (show (w3.setCell ⟨gn, 3, none⟩ (.slice ka' (gs.length + 1) kc')).heap[gn]? = some (.cells #[.int .i64 (k : Int), .bool d.leaf, .slice a n c, .slice ka' (gs.length + 1) kc'] 112) by rw [heap_setCell_same _ _ _ _ _ _ HRg3.out]; rfl)
          have HKf := hid (show Kept (fun b => b = r ∨ b = gn) W1 (w3.setCell ⟨gn, 3, none⟩ (.slice ka' (gs.length + 1) kc')) from
           (((HKe.out.trans HKP.out (fun i hi h => .inl h)).trans (Kept.of_below (X := fun _ => False) (Below.alloc1 w2 (.cells #[.pointer (some ⟨g2, 0, none⟩)] 70))) (fun _ _ h => h.elim)).trans (Kept.of_grown gr3) (fun i hi h => by exfalso; have := HKb.out i h.symm; omega)).trans (Kept.set (X := fun b => b = gn) w3 (p := ⟨gn, 3, none⟩) rfl _) (fun i hi h => .inr h))
          have HKb2 := hid (show ∀ b, (Value.slice ka' (gs.length + 1) kc').ownBlock = some b → W1.heap.size ≤ b from fun b hb => by
           rcases hat with h | h
           · exact HKb.out b (h ▸ hb)
           · rw [h] at hb
             have h9 := Option.some.inj hb
             have := HKe.out.size
             have := HGl.out
             omega)
          clear g3 o3 gr3 hat
          go_wp2_with fail
          go_roundw
          case rel => exact ⟨kk + 1, sd2, tb2, gs ++ [g2], _, by omega, by go_num, HFd2, hid (by rw [List.length_append, HGs.out]; rfl), hid ⟨HNf.out, fun i a h => HX2.out i a (HNE.out.2 i a h)⟩, HGf, HKin2, HKf, HKb2⟩
          case measure => simp [intOf]; omega
       · obtain rfl : kk = m := by omega
         have HExt := hid (show ExtP ps tb from fun i a h => HNE.out.2 i a (HExS.out i a h))
         have HYes := hid (show lnk ns (f + 1) sd (k : Int) = some sdk by rw [HLn.out, ← HFd.out, List.take_of_length_le (by rw [HM.out]; exact Nat.le_refl _)])
         have HLk := hid (show LkT tb w0 wr ns w.heap.size wr.heap.size (f + 1) (k : Int) gn from by
          have hpl := HNE.out.1.len
          have hg1 := HGn.out
          have hg2 := HKe.out.size
          refine ⟨by rw [Int.toNat_natCast]; exact HNE.out.2 k _ HTk.out, by omega, by omega, by rw [Int.toNat_natCast, HDD.out]; exact HFo.out, a, c, .slice ka gs.length kc, gs, by rw [Int.toNat_natCast, HDD.out, HN.out]; exact HCp.out, ?_, ?_, ?_, ⟨HKi.out.own, fun g hg => (HKi.out.own.lt g hg).2⟩, fun i hi => ?_⟩
          · rw [Int.toNat_natCast, HDD.out, HN.out]; exact HGo.out
          · rw [Int.toNat_natCast, HDD.out]; exact HRe.out
          · rw [Int.toNat_natCast, HDD.out, HGs.out, HM.out]
          · rw [Int.toNat_natCast, HDD.out]
            obtain ⟨l, h, l1, l2, _, l4⟩ := HKi.out.kid i hi
            exact LkT.mono (by omega) l2 f _ _ l4)
         go_wp2_with fail
         go_ret2
         exact ⟨⟨fun e => absurd (e.symm.trans HYes.out) (by simp), fun sd' e => ⟨gn, tb, rfl, by have := e.symm.trans HYes.out; simp at this; subst this; exact HNr.out, HExt.out, HLk.out⟩⟩, HKw.out⟩
  · have hd : decide (0 ≤ x ∧ x ≤ (N : Int) - 1) = false := decide_eq_false hin
    have HNo := hid (show lnk ns (f + 1) sd x = none by rw [HLn.out, show outB ns sd x = true by (unfold outB; rw [decide_eq_true (by omega), Bool.true_or]), Bool.true_or, if_pos rfl])
    clear hin
    go_wp2_with fail
    go_ret2
    exact ⟨LinkT.no HNo.out rfl, Kept.of_below HB.out⟩
end Go.Proofs.YtlkoghdajpbffaaGreat
/- The program's linkedOf, the row of nodes told. Conditions: texts of at most 2^21 bytes. -/

namespace Go.Proofs.YtlkoghdajpbffaaGreat
open Go.RowKit
set_option maxRecDepth 100000
theorem NRowP.new {w : World} {r : Nat} (N : Nat) (h : w.heap[r]? = some (rowN N)) : NRowP w r N (List.replicate N false) (List.replicate N none) :=
 ⟨by simp, by rw [h]; simp [rowN], by simp⟩
structure LinkedT (w w' : World) (ns : List Nd) (N : Nat) (root : Int) (q : Nat) : Prop where
 ex : ∃ r g tb lo hi sd, w'.heap[q]? = some (.cells #[.slice (some ⟨r, 0, none⟩) N N, .pointer (some ⟨g, 0, none⟩)] 77) ∧ NRowP w' r N sd tb ∧ w.heap.size ≤ r ∧ r < q ∧ q < lo ∧ hi ≤ w'.heap.size ∧ r < lo ∧ LkT tb w w' ns lo hi (N + 1) root g
def LinkedPT (w w' : World) (ns : List Nd) (N : Nat) (root : Int) (e : Ending) : Prop :=
 (treeIs ns root = false → e = .returned (.tuple #[.pointer none, .bool false])) ∧ (treeIs ns root = true → ∃ q, e = .returned (.tuple #[.pointer (some ⟨q, 0, none⟩), .bool true]) ∧ LinkedT w w' ns N root q)
theorem LinkedPT.no {w w' : World} {ns : List Nd} {N : Nat} {root : Int} {e : Ending} (h : treeIs ns root = false) (he : e = .returned (.tuple #[.pointer none, .bool false])) : LinkedPT w w' ns N root e := ⟨fun _ => he, fun q => absurd (h.symm.trans q) (by simp)⟩
set_option maxHeartbeats 3200000 in
theorem impl_linkedOfT {ad : Option Addr} {N : Nat} (cap : Nat) (root : Int) {ns : List Nd} {w : World} (hR : ReadsD w ad ns) (hns : ns.length = N) (hm : ∀ i j, ((ns.getD i nd0).es.getD j en0).Z.length ≤ 2097152) (hcap : CapD w ad N) :
 Calls Tryz.prog 27 #[.agg #[.slice ad N cap, .int .i64 root]] w fun e w' => LinkedPT w w' ns N root e ∧ Below w.heap.size w w' := by
 have hB := Below.alloc1 w (.cells #[.slice ad N cap, .int .i64 root] 33)
 have hR4 := heap_alloc_new w (.cells #[.slice ad N cap, .int .i64 root] 33)
 have hz := alloc_size w (.cells #[.slice ad N cap, .int .i64 root] 33)
 have k0 : (w.alloc (.cells #[.slice ad N cap, .int .i64 root] 33)).cell? ⟨w.heap.size, 0, none⟩ = some (.slice ad N cap) := qC hR4
 have HT := hid (show treeIs ns root = (decide (1 ≤ ns.length ∧ ns.length ≤ 300) && (match lnk ns (ns.length + 1) (List.replicate ns.length false) root with
  | none => false
  | some sd => sd.all id && (lvs ns (ns.length + 1) root (hgt ns (ns.length + 1) root) && ino ns (ns.length + 1) root none none))) from rfl)
 rw [hns] at HT
 have HB := hid hB
 have HR4 := hid hR4
 have HZ := hid hz
 have HRD := hid hR
 have HM := hid hm
 have HNs := hid hns
 clear hB hR4 hz hR hns hm
 go_enter Tryz.func27, Tryz.ntmps27
 go_wp2_with fail
 generalize w.alloc (.cells #[.slice ad N cap, .int .i64 root] 33) = V at *
 obtain ⟨p4, hp4⟩ : ∃ p4, w.heap.size = p4 := ⟨_, rfl⟩
 have HP4 := hid hp4
 rw [hp4] at HR4 k0
 try simp only [hp4]
 clear hp4
 refine (impl_in11 N 1 300 V).mono ?_
 rintro e w1 ⟨rfl, e1⟩
 subst w1
 by_cases hin : 1 ≤ N ∧ N ≤ 300
 · have hd : decide ((1 : Int) ≤ (N : Int) ∧ (N : Int) ≤ 300) = true := decide_eq_true ⟨by omega, by omega⟩
   rw [hd]
   rw [decide_eq_true hin, Bool.true_and] at HT
   have hmk := mkN N hin.2
   have hz0 : ∀ o, (V.alloc o).heap.size = V.heap.size + 1 := fun o => alloc_size V o
   have hRR := two_rows11 V (rowN N) (.cells #[.slice (some ⟨V.heap.size, 0, none⟩) N N, .pointer none] 77)
   have hBB := two V (rowN N) (.cells #[.slice (some ⟨V.heap.size, 0, none⟩) N N, .pointer none] 77)
   have HRR := hid hRR
   have HBB := hid hBB
   have zV := HZ.out
   have z4 := HP4.out
   have c1 : ((V.alloc (rowN N)).alloc (.cells #[.slice (some ⟨V.heap.size, 0, none⟩) N N, .pointer none] 77)).cell? ⟨p4, 1, none⟩ = some (.int .i64 root) := by rw [cell_of_row _ _ _ _ _ _ ((hBB.block p4 (by omega)).trans HR4.out)]; rfl
   have c0 : ((V.alloc (rowN N)).alloc (.cells #[.slice (some ⟨V.heap.size, 0, none⟩) N N, .pointer none] 77)).cell? ⟨p4, 0, none⟩ = some (.slice ad N cap) := by rw [cell_of_row _ _ _ _ _ _ ((hBB.block p4 (by omega)).trans HR4.out)]; rfl
   have HC0 := hid c0
   clear hd hRR hBB zV z4
   go_wp2_with fail
   clear c0 c1
   generalize (V.alloc (rowN N)).alloc (.cells #[.slice (some ⟨V.heap.size, 0, none⟩) N N, .pointer none] 77) = W at *
   refine (impl_linkT cap root HNs.out HRD.out hin.2 (V.heap.size + 1) V.heap.size (by omega) HB.out.size hcap (N + 1) (List.replicate N false) (List.replicate N none) root _ (by rw [unseen_rep]; omega) (HB.out.trans (HBB.out.mono HB.out.size)) (qC HRR.out.2.1) (NRowP.new N HRR.out.1)).mono ?_
   rintro e w2 ⟨hp, kp⟩
   have HBw := hid (show Below w.heap.size w w2 from (HB.out.trans (HBB.out.mono HB.out.size)).trans (kp.below (by have := HB.out.size; have := HBB.out.size; omega) (fun k hk e => by have := HB.out.size; have : k = V.heap.size := e; omega)))
   have rq : w2.heap[V.heap.size + 1]? = some (.cells #[.slice (some ⟨V.heap.size, 0, none⟩) N N, .pointer none] 77) := (kp.block _ (by have := HRR.out.2.2; omega) (fun e => by have : V.heap.size + 1 = V.heap.size := e; omega)).trans HRR.out.2.1
   have q0 : w2.cell? ⟨V.heap.size + 1, 0, none⟩ = some (.slice (some ⟨V.heap.size, 0, none⟩) N N) := qC rq
   have HRq := hid rq
   have HSz := hid (show w.heap.size ≤ V.heap.size ∧ V.heap.size + 2 = W.heap.size ∧ W.heap.size ≤ w2.heap.size by have := HB.out.size; have := HRR.out.2.2; have := kp.size; omega)
   clear rq
   cases hx : lnk ns (N + 1) (List.replicate N false) root with
   | none =>
    obtain rfl := hp.1 hx
    rw [hx] at HT
    clear hx hp kp q0
    go_wp2_with fail
    go_ret2
    exact ⟨LinkedPT.no HT.out rfl, HBw.out⟩
   | some sd =>
    obtain ⟨g, tb, rfl, hn2, -, hl2⟩ := hp.2 _ hx
    rw [hx] at HT
    have HN2 := hid hn2
    have HL2 := hid hl2
    clear hx hp kp hn2 hl2
    go_wp2_with fail
    refine (impl_Contains HN2.out.nr hin.2).mono ?_
    rintro e w3 ⟨rfl, e1⟩
    subst w3
    cases hall : sd.all id with
    | false =>
     replace HT := hid (show treeIs ns root = false by rw [HT.out]; simp only [hall, Bool.false_and])
     clear hall q0
     go_wp2_with fail
     go_ret2
     exact ⟨LinkedPT.no HT.out rfl, HBw.out⟩
    | true =>
     replace HT := hid (show treeIs ns root = (lvs ns (N + 1) root (hgt ns (N + 1) root) && ino ns (N + 1) root none none) by rw [HT.out]; simp only [hall, Bool.true_and])
     clear hall q0
     go_wp2_with fail
     refine (impl_height (by omega) (LkT.lk _ _ _ HL2.out)).mono ?_
     rintro e w3 ⟨rfl, e1⟩
     subst w3
     have HH := hid (And.intro (hgt_pos ns (N + 1) root) (hgt_le ns (N + 1) root))
     go_wp2_with fail
     refine (impl_hasLeavesAt (N + 1) root g (hgt ns (N + 1) root) (by have := HH.out; omega) (by have := HH.out; omega) (LkT.lk _ _ _ HL2.out)).mono ?_
     rintro e w3 ⟨rfl, e1⟩
     subst w3
     cases hlv : lvs ns (N + 1) root (hgt ns (N + 1) root) with
     | false =>
      rw [hlv, Bool.false_and] at HT
      clear hlv
      go_wp2_with fail
      go_ret2
      exact ⟨LinkedPT.no HT.out rfl, HBw.out⟩
     | true =>
      rw [hlv, Bool.true_and] at HT
      clear hlv
      go_wp2_with fail
      refine (impl_isInOrder HM.out (N + 1) root g none none _ _ w2 W.heap.size w2.heap.size qN HBw.out (LkT.lk _ _ _ HL2.out) rfl rfl).mono ?_
      rintro e w3 ⟨rfl, b3⟩
      cases hio : ino ns (N + 1) root none none with
      | false =>
       rw [hio] at HT
       replace HBw := hid (HBw.out.trans (b3.mono HBw.out.size))
       clear hio b3
       go_wp2_with fail
       go_ret2
       exact ⟨LinkedPT.no HT.out rfl, HBw.out⟩
      | true =>
       rw [hio] at HT
       have rq3 : w3.heap[V.heap.size + 1]? = some (.cells #[.slice (some ⟨V.heap.size, 0, none⟩) N N, .pointer none] 77) := (b3.block _ (by have := HSz.out; omega)).trans HRq.out
       have q1 : w3.cell? ⟨V.heap.size + 1, 1, none⟩ = some (.pointer none) := qC rq3
       have qf : w3.frozen? ⟨V.heap.size + 1, 1, none⟩ = false := frozen_of_row _ _ _ _ _ rq3
       have HFin := hid (show LinkedT w (w3.setCell ⟨V.heap.size + 1, 1, none⟩ (.pointer (some ⟨g, 0, none⟩))) ns N root (V.heap.size + 1) from by
        have hs := HSz.out
        have hb := b3.size
        refine ⟨V.heap.size, g, tb, W.heap.size, w2.heap.size, sd, by rw [heap_setCell_same _ _ _ _ _ _ rq3]; rfl, HN2.out.agree ((heap_set_ne _ _ 1 _ _ (by omega)).trans (b3.block _ (by omega))), by omega, by omega, by omega, by rw [set_size]; omega, by omega, ?_⟩
        exact LkT.agree (fun k k1 k2 => (heap_set_ne _ _ 1 k _ (by omega)).trans (b3.block k k2)) _ _ _ HL2.out)
       replace HBw := hid ((HBw.out.trans (b3.mono HBw.out.size)).setCell (p := ⟨V.heap.size + 1, 1, none⟩) (by have := HSz.out; simp only; omega) (.pointer (some ⟨g, 0, none⟩)))
       clear hio b3 rq3
       go_wp2_with fail
       go_ret2
       exact ⟨⟨fun e => absurd (e.symm.trans HT.out) (by simp), fun _ => ⟨_, rfl, HFin.out⟩⟩, HBw.out⟩
 · have hd : decide ((1 : Int) ≤ (N : Int) ∧ (N : Int) ≤ 300) = false := decide_eq_false (fun q => hin ⟨by omega, by omega⟩)
   rw [hd]
   rw [decide_eq_false hin, Bool.false_and] at HT
   clear hd hin
   go_wp2_with fail
   go_ret2
   exact ⟨LinkedPT.no HT.out rfl, HB.out⟩
end Go.Proofs.YtlkoghdajpbffaaGreat
/- InSpan, the specification's and the program's. -/


namespace Go.Proofs.YtlkoghdajpbffaaGreat
open Go.RowKit
end Go.Proofs.YtlkoghdajpbffaaGreat
/- Entries picked out of entries, in a slice of its own; the program's TreeSpan. Conditions: texts of at most 2^21 bytes. -/



namespace Go.Proofs.YtlkoghdajpbffaaGreat
open Go.RowKit
set_option maxRecDepth 100000
section
variable {w w' : World} {lo mid : Nat} {ad : Option Addr} {m c : Nat} {qs : List En} {xs : List Value} {k : Nat}
end
end Go.Proofs.YtlkoghdajpbffaaGreat
