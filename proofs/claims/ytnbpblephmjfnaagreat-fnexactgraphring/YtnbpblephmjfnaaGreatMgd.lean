/- Texts of this proof in one: Hj14 Hk14 Hl14 Hm14 Hn14 Ho14 Hp14 Hq14. -/
import Derived.Test.YtnbpblephmjfnaaGreatHi14
import Derived.Test.YtnbpblephmjfnaaGreatHa14
import Derived.Test.YtnbpblephmjfnaaGreatMga
import Derived.Maps.AppendAt
/- The keys that deeds write, ascending, each once: plain, and the contract of the program's writtenKeys. Conditions: at most 100 deeds of at most 200 writes that are keys. -/



namespace Go.Proofs.YtnbpblephmjfnaaGreat
open Go.RowKit
set_option maxRecDepth 100000
theorem getD_q (d : List Qi) {i : Nat} (h : i < d.length) : d.getD i qi0 ∈ d := by
 rw [show d.getD i qi0 = d[i] by simp [List.getD, h]]; exact List.getElem_mem h
theorem mem_q {d : List Qi} {x : Qi} (h : x ∈ d) : ∃ i, i < d.length ∧ d.getD i qi0 = x := by
 obtain ⟨i, hi, rfl⟩ := List.getElem_of_mem h
 exact ⟨i, hi, by simp [List.getD, hi]⟩
theorem cpQ_sub {d : List Qi} {m : Nat} (hm : m ≤ d.length) : ∀ y ∈ cpQ d m, y ∈ d := by
 intro y hy
 unfold cpQ at hy
 obtain ⟨i, hi, rfl⟩ := List.mem_map.1 hy
 rw [List.mem_filter, List.mem_range] at hi
 exact getD_q d (by omega)
theorem sorted_at {d : List Qi} (hs : d.Pairwise (fun x y => cmpM x.e y.e ≤ 0)) {i j : Nat} (hij : i < j) (hj : j < d.length) : cmpM (d.getD i qi0).e (d.getD j qi0).e ≤ 0 := by
 have := (List.pairwise_iff_getElem.1 hs) i j (by omega) hj hij
 simpa [List.getD, hj, show i < d.length by omega] using this
theorem cpQ_good {d : List Qi} (ok : ∀ q ∈ d, okM q.e = true) (hs : d.Pairwise (fun x y => cmpM x.e y.e ≤ 0)) : ∀ m, m ≤ d.length →
 (cpQ d m).Pairwise (fun x y => cmpM x.e y.e < 0) ∧ (∀ i, i < m → ∃ y ∈ cpQ d m, cmpM y.e (d.getD i qi0).e = 0) ∧ ∀ y ∈ cpQ d m, cmpM y.e (d.getD (m - 1) qi0).e ≤ 0
 | 0, _ => ⟨by unfold cpQ; simp, fun i hi => by omega, fun y hy => by unfold cpQ at hy; simp at hy⟩
 | m + 1, hm => by
  obtain ⟨h1, h2, h3⟩ := cpQ_good ok hs m (by omega)
  have om := ok _ (getD_q d (i := m) (by omega))
  rw [cpQ_succ, Nat.add_sub_cancel]
  have hle : ∀ y ∈ cpQ d m, cmpM y.e (d.getD m qi0).e ≤ 0 := by
   intro y hy
   have oy := ok _ (cpQ_sub (by omega) y hy)
   by_cases m0 : m = 0
   · subst m0; unfold cpQ at hy; simp at hy
   · exact cmpM_le_trans oy (ok _ (getD_q d (i := m - 1) (by omega))) om (h3 y hy) (sorted_at hs (by omega) (by omega))
  by_cases hk : kpQ d m = true
  · rw [if_pos hk]
    refine ⟨?_, ?_, ?_⟩
    · rw [List.pairwise_append]
      refine ⟨h1, List.pairwise_singleton _ _, fun y hy z hz => ?_⟩
      obtain rfl : z = d.getD m qi0 := by simpa using hz
      have oy := ok _ (cpQ_sub (by omega) y hy)
      unfold kpQ at hk
      rw [Bool.or_eq_true, decide_eq_true_iff, decide_eq_true_iff] at hk
      have m0 : m ≠ 0 := fun e => by subst e; unfold cpQ at hy; simp at hy
      have hne : cmpM (d.getD m qi0).e (d.getD (m - 1) qi0).e ≠ 0 := hk.resolve_left m0
      have op := ok _ (getD_q d (i := m - 1) (by omega))
      have h5 := sorted_at hs (i := m - 1) (j := m) (by omega) (by omega)
      have h6 := cmpM_anti op om
      exact cmpM_le_lt oy op om (h3 y hy) (by omega)
    · intro i hi
      by_cases e : i = m
      · subst e; exact ⟨_, by simp, cmpM_self om⟩
      · obtain ⟨y, hy, e⟩ := h2 i (by omega)
        exact ⟨y, List.mem_append.2 (.inl hy), e⟩
    · intro y hy
      rcases List.mem_append.1 hy with hy | hy
      · exact hle y hy
      · obtain rfl : y = d.getD m qi0 := by simpa using hy
        rw [cmpM_self om]; omega
  · rw [if_neg hk, List.append_nil]
    refine ⟨h1, ?_, hle⟩
    intro i hi
    by_cases e : i = m
    · subst e
      unfold kpQ at hk
      rw [Bool.or_eq_true, decide_eq_true_iff, decide_eq_true_iff] at hk
      have m0 : i ≠ 0 := fun e => hk (.inl e)
      have hz : cmpM (d.getD i qi0).e (d.getD (i - 1) qi0).e = 0 := by
       by_cases q : cmpM (d.getD i qi0).e (d.getD (i - 1) qi0).e = 0
       · exact q
       · exact absurd (.inr q) hk
      obtain ⟨y, hy, e⟩ := h2 (i - 1) (by omega)
      have oy := ok _ (cpQ_sub (by omega) y hy)
      have op := ok _ (getD_q d (i := i - 1) (by omega))
      refine ⟨y, hy, ?_⟩
      rw [cmpM_eq oy op om e]
      have := cmpM_anti om op
      omega
    · exact h2 i (by omega)
structure KeysOf (ts : List Tk) (ks : List Im) : Prop where
 ok : ∀ x ∈ ks, okM x = true
 asc : ks.Pairwise (fun x y => cmpM x y < 0)
 cov : ∀ t ∈ ts, ∀ x ∈ t.ws, ∃ y ∈ ks, cmpM y x = 0
 frm : ∀ y ∈ ks, ∃ t ∈ ts, y ∈ t.ws
theorem keys_of {ts : List Tk} {q d : List Qi} (hq : q.map (·.e) = ts.flatMap (·.ws)) (ok : ∀ x ∈ q, okM x.e = true) (hp : d.Perm q) (hs : d.Pairwise (fun x y => cmpM x.e y.e ≤ 0)) : KeysOf ts ((cpQ d d.length).map (·.e)) := by
 have okd : ∀ x ∈ d, okM x.e = true := fun x hx => ok x (hp.mem_iff.1 hx)
 obtain ⟨h1, h2, -⟩ := cpQ_good okd hs d.length (Nat.le_refl _)
 refine ⟨?_, ?_, ?_, ?_⟩
 · intro x hx
   obtain ⟨y, hy, rfl⟩ := List.mem_map.1 hx
   exact okd _ (cpQ_sub (Nat.le_refl _) y hy)
 · rw [List.pairwise_map]; exact h1
 · intro t ht x hx
   have : x ∈ q.map (·.e) := by rw [hq]; exact List.mem_flatMap.2 ⟨t, ht, hx⟩
   obtain ⟨y, hy, rfl⟩ := List.mem_map.1 this
   obtain ⟨i, hi, e⟩ := mem_q (hp.mem_iff.2 hy)
   obtain ⟨z, hz, e2⟩ := h2 i hi
   rw [e] at e2
   exact ⟨z.e, List.mem_map.2 ⟨z, hz, rfl⟩, e2⟩
 · intro y hy
   obtain ⟨z, hz, rfl⟩ := List.mem_map.1 hy
   have h5 : z ∈ q := hp.mem_iff.1 (cpQ_sub (Nat.le_refl _) z hz)
   have : z.e ∈ ts.flatMap (·.ws) := by rw [← hq]; exact List.mem_map.2 ⟨z, h5, rfl⟩
   exact List.mem_flatMap.1 this
def RdV (w : World) (ad : Option Addr) (ts : List Tk) : Prop := ∀ k, k < ts.length → ∃ b off a c a' c', ad = some ⟨b, off, none⟩ ∧ Box5 w b (off + k * 5) (ts.getD k tk0) (.slice a (ts.getD k tk0).rs.length c) (.slice a' (ts.getD k tk0).ws.length c') ∧ ReadsM w a (fl2 (ts.getD k tk0).rs) ∧ ReadsM w a' (ts.getD k tk0).ws ∧ (a = none → c = 0) ∧ (a' = none → c' = 0)
theorem RdV.below {w w' : World} {ad : Option Addr} {ts : List Tk} (h : RdV w ad ts) {B : Nat} (hb : Below B w w') (hB : w.heap.size ≤ B) : RdV w' ad ts := by
 intro k hk
 obtain ⟨b, off, a, c, a', c', e, q, r1, r2, n1, n2⟩ := h k hk
 exact ⟨b, off, a, c, a', c', e, q.below hb hB, r1.below hb hB, r2.below hb hB, n1, n2⟩
theorem own_nil14 {w : World} {base : Nat} {e : TypeId} {s n m c : Nat} {a : Option Addr} {xs : List Value} (o : w.ownsRow base e s (.slice a m c) n xs) : a = none → c = 0 := by
 intro h
 rcases o.2 with ⟨q, _⟩ | ⟨g, cp, cur, q, _⟩
 · obtain ⟨-, -, rfl⟩ := Value.slice.inj q; rfl
 · obtain ⟨rfl, -, -⟩ := Value.slice.inj q; cases h
theorem OwnV.rdv {w : World} {lo hi : Nat} {a : Option Addr} {n c : Nat} {ts : List Tk} (h : OwnV w lo hi (.slice a n c) ts) : RdV w a ts := by
 obtain ⟨ms, hm, o, h1, _⟩ := h.own
 intro i hi
 rcases o.2 with ⟨e, h0⟩ | ⟨g, cap, cur, e, _⟩
 · omega
 · cases e
   have hc := fun j (hj : j < 5) => (o.cellAt (i * 5 + j) (by omega)).trans (cellsV_at ts ms i j hm hi hj)
   have q := h1 i hi
   obtain ⟨a1, c1, e1⟩ := q.rd.slice
   obtain ⟨a2, c2, e2⟩ := q.wr.slice
   have q1 := q.rd
   have q2 := q.wr
   rw [e1] at q1
   rw [e2] at q2
   refine ⟨g, 0, a1, c1, a2, c2, rfl, ⟨?_, ?_, ?_, ?_, ?_⟩, q1.rd, q2.rd, ?_, ?_⟩
   · rw [Nat.zero_add]; exact hc 0 (by omega)
   · rw [Nat.zero_add]; exact hc 1 (by omega)
   · rw [Nat.zero_add]; exact hc 2 (by omega)
   · rw [Nat.zero_add]; have := hc 3 (by omega); simp only [cellsV1, e1] at this; exact this
   · rw [Nat.zero_add]; have := hc 4 (by omega); simp only [cellsV1, e2] at this; exact this
   · exact own_nil14 q1.row
   · exact own_nil14 q2.row
structure RdQ (w : World) (q : Qi) : Prop where
 rd : Reads w q.a q.e.Z.length q.e.Z
 fl : q.e.F < 18446744073709551616
 nil : q.a = none → q.c = 0
 max : q.e.Z.length ≤ maxLen
theorem RdQ.below {w w' : World} {q : Qi} (h : RdQ w q) {B : Nat} (hb : Below B w w') (hB : w.heap.size ≤ B) : RdQ w' q := ⟨h.rd.below hb hB, h.fl, h.nil, h.max⟩
theorem ReadsM.qs {w : World} {ad : Option Addr} : ∀ {es : List Im}, ReadsM w ad es → ∃ qs : List Qi, qs.map (·.e) = es ∧ (∀ q ∈ qs, RdQ w q) ∧ (es.length = 0 ∨ ∃ b off, ad = some ⟨b, off, none⟩ ∧ ∀ j u, (fQ qs)[j]? = some u → w.cell? ⟨b, off + j, none⟩ = some u) := by
 intro es h
 have hex : ∀ k, ∃ q : Qi, k < es.length → ∃ b off, ad = some ⟨b, off, none⟩ ∧ q.e = es.getD k im0 ∧ Box4 w b (off + k * 4) q.e.K q.e.N q.e.F (.slice q.a q.e.Z.length q.c) ∧ RdQ w q := by
  intro k
  by_cases hk : k < es.length
  · obtain ⟨b, off, a, c, e, bx, r, hnl, hmx, hf⟩ := h.at hk
    exact ⟨⟨es.getD k im0, a, c⟩, fun _ => ⟨b, off, e, rfl, bx, r, hf, hnl, hmx⟩⟩
  · exact ⟨qi0, fun q => absurd q hk⟩
 obtain ⟨f, hf⟩ := Classical.axiomOfChoice hex
 have hl : ((List.range es.length).map f).length = es.length := by simp
 refine ⟨(List.range es.length).map f, ?_, ?_, ?_⟩
 · apply List.ext_getElem?
   intro i
   by_cases hi : i < es.length
   · obtain ⟨b, off, _, e, _⟩ := hf i hi
     simp [hi, e, List.getD]
   · simp [hi]
 · intro q hq
   obtain ⟨i, hi, rfl⟩ := List.mem_map.1 hq
   obtain ⟨b, off, _, _, _, r⟩ := hf i (List.mem_range.1 hi)
   exact r
 · by_cases h0 : es.length = 0
   · exact .inl h0
   · obtain ⟨b, off, rfl, -⟩ := hf 0 (by omega)
     refine .inr ⟨b, off, rfl, fun j u hu => ?_⟩
     have hj : j < es.length * 4 := by
      by_cases q : j < (fQ ((List.range es.length).map f)).length
      · rwa [fQ_len, hl] at q
      · rw [List.getElem?_eq_none (by omega)] at hu; cases hu
     have h4 := flat_at encQ 4 encQ_len ((List.range es.length).map f) j (by rw [hl]; exact hj)
     have hq : j / 4 < es.length := by omega
     rw [show ((List.range es.length).map f).getD (j / 4) default = f (j / 4) by simp [List.getD, hq]] at h4
     obtain ⟨b', off', e', _, bx, _⟩ := hf (j / 4) hq
     obtain ⟨rfl, rfl⟩ : b = b' ∧ off = off' := by simpa using e'
     have hu' : (encQ (f (j / 4)))[j % 4]? = some u := by rw [← h4]; exact hu
     have hm : j % 4 < 4 := Nat.mod_lt _ (by omega)
     have hsum : j = j / 4 * 4 + j % 4 := by omega
     generalize j % 4 = r at *
     rw [hsum, ← Nat.add_assoc]
     rcases r with _ | _ | _ | _ | r
     · exact bx.c0.trans hu'
     · exact bx.c1.trans hu'
     · exact bx.c2.trans hu'
     · exact bx.c3.trans hu'
     · omega
theorem own_readsM {w : World} {base : Nat} {t : TypeId} {s n c : Nat} {a : Option Addr} {qs : List Qi} (o : w.ownsRow base t s (.slice a n c) n (fQ qs)) (h : ∀ q ∈ qs, RdQ w q) (hn : qs.length * 4 = n * s) : ReadsM w a (qs.map (·.e)) := by
 refine ⟨?_⟩
 rcases o.2 with ⟨e, h0⟩ | ⟨g, cap, cur, e, _⟩
 · left
   rw [List.length_map]
   rw [h0, Nat.zero_mul] at hn
   omega
 · obtain ⟨rfl, -, rfl⟩ := Value.slice.inj e
   right
   refine ⟨g, 0, rfl, fun i hi => ?_⟩
   rw [List.length_map] at hi
   have hq := h _ (getD_q qs hi)
   have hm : (qs.map (·.e)).getD i im0 = (qs.getD i qi0).e := by simp [List.getD, hi]
   rw [hm]
   obtain ⟨rest, hrow, _⟩ := owns_blk o
   have bx := own_two hrow hi
   rw [Nat.zero_add]
   exact ⟨_, bx, ⟨_, _, rfl, hq.rd, hq.nil, hq.max⟩, hq.fl⟩
end Go.Proofs.YtnbpblephmjfnaaGreat
/- The contract of the program's writtenKeys. Conditions: the deeds are right. -/

namespace Go.Proofs.YtnbpblephmjfnaaGreat
open Go.RowKit
set_option maxRecDepth 100000
theorem Tryz.infoIm14 : (Tryz.prog.info? 72).map (fun i => (i.zero, i.size, i.bytes)) = some (some (.agg #[.int .i64 0, .int .i64 0, .float .f64 0, .slice none 0 0]), 4, 48) := by kernel_rfl
theorem fQ_one (l : List Qi) : ∀ u ∈ fQ l, u.oneCell' = true := by
 intro u hu
 obtain ⟨q, _, hq⟩ := List.mem_flatMap.1 hu
 exact encQ_one q u hq
theorem good_of {w wr : World} {blk : Nat} {q : Qi} (h : Reads w q.a q.e.Z.length q.e.Z) (hf : q.e.F < 18446744073709551616) (hok : okM q.e = true) (hb : Below w.heap.size w wr) (hle : w.heap.size ≤ blk) : GoodQ wr blk q := by
 refine ⟨h.below hb (Nat.le_refl _), fun a e hn => ?_, hf, hok⟩
 rcases h.cells with h0 | ⟨b, off, e', hc⟩
 · exact absurd h0 hn
 · rw [e] at e'
   obtain rfl := Option.some.inj e'
   have := World.block_lt_of_cell? w _ (hc 0 (by omega))
   simp only at this ⊢
   omega
theorem readsM_nil {w : World} {es : List Im} (h : ReadsM w none es) : es.length = 0 := by
 rcases h.cells with h0 | ⟨b, off, e, _⟩
 · exact h0
 · cases e
set_option maxHeartbeats 1600000 in
theorem compact_nil (c : Nat) (w : World) : Calls Tryz.prog 144 #[.slice none 0 c, .func (.func 145) #[] #[]] w fun e w' => e = .returned (.slice none 0 c) ∧ w' = w := by
 go_enter Tryz.func144, Tryz.ntmps144
 go_wp2_with fail
 go_ret
 exact ⟨rfl, rfl⟩
theorem take_flat (ts : List Tk) {k : Nat} (h : k < ts.length) : (ts.take (k + 1)).flatMap (·.ws) = (ts.take k).flatMap (·.ws) ++ (ts.getD k tk0).ws := by
 rw [take_tk ts h, List.flatMap_append]; simp
theorem okDs_at {ts : List Tk} (h : okDs ts) {k : Nat} (hk : k < ts.length) : (ts.getD k tk0).rs.length ≤ 200 ∧ (ts.getD k tk0).ws.length ≤ 200 ∧ (∀ p ∈ (ts.getD k tk0).rs, spB p = true) ∧ ∀ x ∈ (ts.getD k tk0).ws, okM x = true := by
 have := h.2.1 k hk
 unfold deedB at this
 simp only [Bool.and_eq_true, decide_eq_true_iff, List.all_eq_true] at this
 exact ⟨this.2.2.1, this.2.2.2.1, this.2.2.2.2.1, this.2.2.2.2.2⟩
theorem okDs_flat {ts : List Tk} (h : okDs ts) : ∀ x ∈ ts.flatMap (·.ws), okM x = true := by
 intro x hx
 obtain ⟨t, ht, hx⟩ := List.mem_flatMap.1 hx
 obtain ⟨i, hi, rfl⟩ := List.getElem_of_mem ht
 have := (okDs_at h hi).2.2.2
 rw [show ts.getD i tk0 = ts[i] by simp [List.getD, hi]] at this
 exact this x hx
set_option maxHeartbeats 6400000 in
theorem impl_writtenKeys {a : Option Addr} {n : Nat} (c : Nat) {ts : List Tk} {w : World} (h : RdV w a ts) (hl : ts.length = n) (hok : okDs ts) :
 Calls Tryz.prog 104 #[.slice a n c] w fun e w' => ∃ (b : Option Addr) (k c' : Nat) (ks : List Qi), e = .returned (.slice b k c') ∧ ks.length = k ∧ k ≤ 20000 ∧ KeysOf ts (ks.map (·.e)) ∧ w'.ownsRow w.heap.size 72 4 (.slice b k c') k (fQ ks) ∧ (∀ q ∈ ks, RdQ w q) ∧ Below w.heap.size w w' := by
 have hn : n ≤ 100 := by have := hok.1; omega
 have HR := hid h
 have HL := hid hl
 have HK := hid hok
 clear h hl hok
 obtain ⟨i0, hinf, hz0, hz1, hz2⟩ : ∃ i, Tryz.prog.info? 72 = some i ∧ i.zero = some (.agg #[.int .i64 0, .int .i64 0, .float .f64 0, .slice none 0 0]) ∧ i.size = 4 ∧ i.bytes = 48 := by
  have := Tryz.infoIm14
  cases hh : Tryz.prog.info? 72 with
  | none => rw [hh] at this; cases this
  | some i => rw [hh] at this; simp at this; exact ⟨i, rfl, this.1, this.2.1, this.2.2⟩
 go_enter Tryz.func104, Tryz.ntmps104
 go_wp2_with fail
 go_loopw [3, 8] (fun s3 s8 wr => ∃ (k : Nat) (b : Option Addr) (p c' : Nat) (Q : List Qi), k ≤ n ∧ s8 = .int .i64 k ∧ s3 = .slice b p c' ∧ p ≤ 200 * k ∧ Hid (Q.length = p) ∧ Hid (Q.map (·.e) = (ts.take k).flatMap (·.ws)) ∧ Hid (∀ q ∈ Q, RdQ w q) ∧ Hid (wr.ownsRow w.heap.size 72 4 (.slice b p c') p (fQ Q)) ∧ Hid (Below w.heap.size w wr)) (fun _ i _ => n - (intOf i).toNat)
 case atStart => exact ⟨0, none, 0, 0, [], Nat.zero_le _, rfl, rfl, by omega, hid rfl, hid (by simp), hid (fun q hq => by cases hq), hid (World.ownsRow_nil _ _ _ _), hid (Below.refl _ _)⟩
 case round =>
  obtain ⟨k, b, p, c', Q, hk, rfl, rfl, hp, HQl, HQm, HQr, HO, HB⟩ := hrel
  by_cases hlt : k < n
  · have hlt' : (k : Int) < (n : Int) := by omega
    have hk0 : (0 : Int) ≤ (k : Int) := by omega
    obtain ⟨bb, off, a1, c1, a2, c2, rfl, bx, r1, r2, nl1, nl2⟩ := HR.out k (by have := HL.out; omega)
    obtain ⟨y0, y1, y2, y4, y5⟩ := bx.below HB.out (Nat.le_refl _)
    have hsz := okDs_at HK.out (k := k) (by have := HL.out; omega)
    obtain ⟨qs, hqs, hqr, hqc⟩ := r2.qs
    have HTf := hid (take_flat ts (k := k) (by have := HL.out; omega))
    have hnl := fun e : a2 = none => by subst e; exact readsM_nil r2
    generalize ts.getD k tk0 = t at *
    obtain ⟨xi, be, en, al, rs, ws, inn, ou⟩ := t
    simp only at y0 y1 y2 y4 y5 hsz hqs hqc HTf hnl
    obtain ⟨n1, hn1⟩ : ∃ m, rs.length = m := ⟨_, rfl⟩
    obtain ⟨n2, hn2⟩ : ∃ m, ws.length = m := ⟨_, rfl⟩
    rw [hn1] at y4
    rw [hn2] at y5 hqc hnl
    have hw2 : n2 ≤ 200 := by have := hsz.2.1; omega
    have HQn := hid (show qs.length = n2 by rw [← hn2, ← hqs, List.length_map])
    have bA := Below.alloc1 wr (.cells #[.int .i64 xi, .int .i64 be, .int .i64 en, .slice a1 n1 c1, .slice a2 n2 c2] 68)
    have HBA := hid (HB.out.trans (bA.mono HB.out.size))
    have OA := hid (owns_below bA (Nat.le_refl _) HO.out)
    have HNw := hid (show (a2 = none ∧ c2 = 0) ∨ ∃ p, a2 = some p ∧ ∀ j u, (fQ qs)[j]? = some u → (wr.alloc (.cells #[.int .i64 xi, .int .i64 be, .int .i64 en, .slice a1 n1 c1, .slice a2 n2 c2] 68)).cell? (p.add j) = some u by
     cases a2 with
     | none => exact .inl ⟨rfl, nl2 rfl⟩
     | some pp =>
      refine .inr ⟨pp, rfl, fun j u hu => ?_⟩
      rcases hqc with h0 | ⟨b', off', e', hc⟩
      · have : fQ qs = [] := by
         have := fQ_len qs
         rw [HQn.out, h0] at this
         exact List.length_eq_zero_iff.1 (by omega)
        rw [this] at hu; cases hu
      · obtain rfl := Option.some.inj e'
        have hcell := hc j u hu
        have ea : (⟨b', off', none⟩ : Addr).add j = ⟨b', off' + j, none⟩ := by simp [Addr.add]
        rw [ea]
        exact (HBA.out.cell (p := ⟨b', off' + j, none⟩) (World.block_lt_of_cell? w _ hcell)).trans hcell)
    have HQs := hid (And.intro hqs hqr)
    clear bx r1 r2 bA hn1 hn2 hqs hqr hqc hsz HO
    go_wp2_with (at_builtin; refine wpList_append_row rfl _ _ 66 rfl w.heap.size 72 i0 (.agg #[.int .i64 0, .int .i64 0, .float .f64 0, .slice none 0 0]) 4 48 Tryz.underlying66 hinf hz0 hz1 hz2 rfl (by decide) _ p (fQ Q) rfl OA.out a2 n2 c2 (fQ qs) rfl ?k0 HNw.out hnl (fQ_one qs) ?k2 ?k3 ?k4 ?_)
    case k0 => rw [fQ_len, HQn.out]
    case k2 => unfold maxLen; omega
    case k3 => omega
    case k4 => exact HBA.out.size
    intro a5 c5 w5 o5 hg5
    have O5 := hid (show w5.ownsRow w.heap.size 72 4 (.slice a5 (p + n2) c5) (p + n2) (fQ (Q ++ qs)) by rw [fQ_app]; exact o5)
    have B5 := hid (HBA.out.grown hg5 HBA.out.size (fun r e => (OA.out.lt r e).1))
    clear o5 hg5 y0 y1 y2 y4 y5
    go_wp2_with fail
    go_roundw
    case rel =>
     refine ⟨k + 1, a5, p + n2, c5, Q ++ qs, by omega, by go_num, rfl, by omega, hid (by rw [List.length_append, HQl.out, HQn.out]), hid ?_, hid ?_, O5, B5⟩
     · rw [List.map_append, HQm.out, HQs.out.1, HTf.out]
     · intro q hq
       rcases List.mem_append.1 hq with hq | hq
       · exact HQr.out q hq
       · exact HQs.out.2 q hq
    case measure => simp [intOf]; omega
  · have hlt' : ¬ (k : Int) < (n : Int) := by omega
    obtain rfl : k = n := by omega
    have hqm := HQm.out
    rw [List.take_of_length_le (by have := HL.out; omega)] at hqm
    have hqok : ∀ q ∈ Q, okM q.e = true := fun q hq => okDs_flat HK.out q.e (by rw [← hqm]; exact List.mem_map.2 ⟨q, hq, rfl⟩)
    have HQk := hid (And.intro hqm hqok)
    clear hqm hqok
    go_wp2_with fail
    refine (sort_items Q HQl.out wr HO.out (fun blk e q hq => good_of (HQr.out q hq).rd (HQr.out q hq).fl (HQk.out.2 q hq) HB.out (by subst e; exact (HO.out.lt blk rfl).1)) HQk.out.2 (by omega)).mono ?_
    rintro e w1 ⟨rfl, d, hp1, hs1, o1, g1⟩
    have B1 := hid (HB.out.grown g1 HB.out.size (fun r e => (HO.out.lt r e).1))
    have HP := hid hp1
    have HS := hid hs1
    have O1 := hid o1
    have HDl := hid (show d.length = p by rw [hp1.length_eq, HQl.out])
    have HKs := hid (keys_of (d := d) HQk.out.1 HQk.out.2 hp1 hs1)
    have HDr := hid (fun q (hq : q ∈ d) => HQr.out q (hp1.mem_iff.1 hq))
    have HDk := hid (fun q (hq : q ∈ d) => HQk.out.2 q (hp1.mem_iff.1 hq))
    clear hp1 hs1 o1 g1 HO HB
    go_wp2_with fail
    cases b with
    | none =>
     have hp0 : p = 0 := by
      rcases O1.out.2 with ⟨_, q⟩ | ⟨_, _, _, q, _⟩
      · exact q
      · cases q
     subst hp0
     refine (compact_nil c' w1).mono ?_
     rintro e w2 ⟨rfl, rfl⟩
     have HDn := hid (show d = [] from List.length_eq_zero_iff.1 HDl.out)
     go_wp2_with fail
     go_ret
     refine ⟨none, 0, c', [], rfl, rfl, by omega, ?_, ?_, (fun q hq => by cases hq), B1.out⟩
     · have := HKs.out; rw [HDn.out] at this; exact this
     · have := O1.out; rw [HDn.out] at this; exact this
    | some ad =>
     obtain ⟨g, rfl⟩ : ∃ g, ad = ⟨g, 0, none⟩ := by
      rcases O1.out.2 with ⟨q, _⟩ | ⟨g, _, _, q, _⟩
      · cases q
      · obtain ⟨q1, -, -⟩ := Value.slice.inj q
        exact ⟨g, Option.some.inj q1⟩
     have hgl := (O1.out.lt g rfl)
     refine (compact_items (base := w.heap.size) (g := g) (c := c') (n := p) d HDl.out O1.out (fun i hi => good_of (HDr.out _ (getD_q d (by have := HDl.out; omega))).rd (HDr.out _ (getD_q d (by have := HDl.out; omega))).fl (HDk.out _ (getD_q d (by have := HDl.out; omega))) B1.out hgl.1) (by omega)).mono ?_
     rintro e w2 ⟨m, rfl, hm, o2, k2⟩
     have B2 := hid (show Below w.heap.size w w2 from B1.out.grown (row := some g) ⟨k2.os, k2.tape, k2.output, k2.size, fun i hi hne => k2.block i hi (fun e => hne (by rw [e]))⟩ B1.out.size (fun r e => by cases e; exact hgl.1))
     have O2 := hid o2
     have HM := hid hm
     have HKs2 := hid (show KeysOf ts ((cpQ d p).map (·.e)) by have := HKs.out; rwa [HDl.out] at this)
     clear o2 k2 hm hgl
     go_wp2_with fail
     go_ret
     refine ⟨some ⟨g, 0, none⟩, m, c', cpQ d p, rfl, HM.out, ?_, HKs2.out, O2.out, fun q hq => HDr.out q (cpQ_sub (by have := HDl.out; omega) q hq), B2.out⟩
     have := cpQ_le d p
     have := HM.out
     omega
end Go.Proofs.YtnbpblephmjfnaaGreat
/- slices.BinarySearchFunc over ascending keys. Conditions: at most 2^20 keys, all right, the one that is looked for too. -/

namespace Go.Proofs.YtnbpblephmjfnaaGreat
open Go.RowKit
set_option maxRecDepth 100000
structure LB (ks : List Im) (x : Im) (i : Nat) : Prop where
 le : i ≤ ks.length
 lt : ∀ j, j < i → cmpM (ks.getD j im0) x < 0
 ge : ∀ j, i ≤ j → j < ks.length → 0 ≤ cmpM (ks.getD j im0) x
theorem asc_at {ks : List Im} (h : ks.Pairwise (fun x y => cmpM x y < 0)) {i j : Nat} (hij : i < j) (hj : j < ks.length) : cmpM (ks.getD i im0) (ks.getD j im0) < 0 := by
 have := (List.pairwise_iff_getElem.1 h) i j (by omega) hj hij
 simpa [List.getD, hj, show i < ks.length by omega] using this
theorem ok_at {ks : List Im} (h : ∀ x ∈ ks, okM x = true) {i : Nat} (hi : i < ks.length) : okM (ks.getD i im0) = true := by
 rw [show ks.getD i im0 = ks[i] by simp [List.getD, hi]]; exact h _ (List.getElem_mem hi)
theorem lb_low {ks : List Im} {x : Im} (ok : ∀ x ∈ ks, okM x = true) (hx : okM x = true) (h : ks.Pairwise (fun x y => cmpM x y < 0)) {k : Nat} (hk : k < ks.length) (hc : cmpM (ks.getD k im0) x < 0) : ∀ j, j < k + 1 → cmpM (ks.getD j im0) x < 0 := by
 intro j hj
 by_cases e : j = k
 · subst e; exact hc
 · exact cmpM_trans (ok_at ok (by omega)) (ok_at ok hk) hx (asc_at h (by omega) hk) hc
theorem lb_high {ks : List Im} {x : Im} (ok : ∀ x ∈ ks, okM x = true) (hx : okM x = true) (h : ks.Pairwise (fun x y => cmpM x y < 0)) {k : Nat} (hk : k < ks.length) (hc : ¬ cmpM (ks.getD k im0) x < 0) : ∀ j, k ≤ j → j < ks.length → 0 ≤ cmpM (ks.getD j im0) x := by
 intro j hj hjl
 by_cases e : j = k
 · subst e; omega
 · by_cases q : cmpM (ks.getD j im0) x < 0
   · exact absurd (cmpM_trans (ok_at ok hk) (ok_at ok hjl) hx (asc_at h (by omega) hjl) q) hc
   · omega
theorem half (i j : Nat) (hi : i ≤ 1048576) (hj : j ≤ 1048576) : IntKind.i64.wrap ((i : Int) + (j : Int)) = ((i + j : Nat) : Int) := by simp [IntKind.wrap, IntKind.bits, IntKind.signed]; omega
set_option maxHeartbeats 6400000 in
theorem search_items {a : Option Addr} {n : Nat} (c : Nat) {ks : List Im} (K N : Int) (F : Nat) {p : Option Addr} {m : Nat} (d : Nat) {Z : List Int} {w : World} (h : ReadsM w a ks) (hl : ks.length = n) (hn : n ≤ 1048576) (ok : ∀ x ∈ ks, okM x = true) (asc : ks.Pairwise (fun x y => cmpM x y < 0)) (hx : Reads w p m Z) (hf : F < 18446744073709551616) (hm : Z.length = m) (okx : okM ⟨K, N, F, Z⟩ = true) :
 Calls Tryz.prog 149 #[.slice a n c, .agg #[.int .i64 K, .int .i64 N, .float .f64 F, .slice p m d], .func (.func 73) #[] #[]] w fun e w' => ∃ i : Nat, e = .returned (.tuple #[.int .i64 i, .bool (decide (i < n ∧ cmpM (ks.getD i im0) ⟨K, N, F, Z⟩ = 0))]) ∧ LB ks ⟨K, N, F, Z⟩ i ∧ Below w.heap.size w w' := by
 have HRM := hid h
 have HL := hid hl
 have HOK := hid ok
 have HAs := hid asc
 have HXr := hid hx
 have HXm := hid hm
 have HXo := hid okx
 have hm2 : m ≤ 40 := by have := okM_len okx; simp only at this; omega
 have HB := hid (Below.alloc1 w (.cells #[.int .i64 K, .int .i64 N, .float .f64 F, .slice p m d] 72))
 have HBx := hid (show Box4 (w.alloc (.cells #[.int .i64 K, .int .i64 N, .float .f64 F, .slice p m d] 72)) w.heap.size 0 K N F (.slice p m d) from ⟨by rw [cell_of_row _ _ _ _ _ _ (heap_alloc_new w _)]; rfl, by rw [cell_of_row _ _ _ _ _ _ (heap_alloc_new w _)]; rfl, by rw [cell_of_row _ _ _ _ _ _ (heap_alloc_new w _)]; rfl, by rw [cell_of_row _ _ _ _ _ _ (heap_alloc_new w _)]; rfl⟩)
 have HZ := hid (alloc_size w (.cells #[.int .i64 K, .int .i64 N, .float .f64 F, .slice p m d] 72))
 clear h hl ok asc hx hm okx
 go_enter Tryz.func149, Tryz.ntmps149
 go_wp2_with fail
 obtain ⟨w1, hw1⟩ : ∃ w1, w.alloc (.cells #[.int .i64 K, .int .i64 N, .float .f64 F, .slice p m d] 72) = w1 := ⟨_, rfl⟩
 rw [hw1] at HB HBx HZ
 try rw [hw1]
 clear hw1
 go_loopw [9, 10] (fun s9 s10 wr => ∃ i j : Nat, s9 = .int .i64 i ∧ s10 = .int .i64 j ∧ i ≤ j ∧ j ≤ n ∧ Hid (∀ t, t < i → cmpM (ks.getD t im0) ⟨K, N, F, Z⟩ < 0) ∧ Hid (∀ t, j ≤ t → t < ks.length → 0 ≤ cmpM (ks.getD t im0) ⟨K, N, F, Z⟩) ∧ Hid (Below w1.heap.size w1 wr)) (fun i j _ => (intOf j).toNat - (intOf i).toNat)
 case atStart => exact ⟨0, n, rfl, rfl, Nat.zero_le _, Nat.le_refl _, hid (fun t ht => by omega), hid (fun t h1 h2 => by have := HL.out; omega), hid (Below.refl _ _)⟩
 case round =>
  obtain ⟨i, j, rfl, rfl, hij, hjn, HLo, HHi, HW⟩ := hrel
  by_cases hlt : i < j
  · have hlt' : (i : Int) < (j : Int) := by omega
    obtain ⟨z, hz⟩ : ∃ z, (i + j) / 2 = z := ⟨_, rfl⟩
    have hzi : i ≤ z ∧ z < j := by omega
    have hzn : (z : Int) < (n : Int) := by omega
    have hz0 : (0 : Int) ≤ (z : Int) := by omega
    have hw1 : IntKind.i64.wrap ((i : Int) + (j : Int)) = ((i + j : Nat) : Int) := half i j (by omega) (by omega)
    have hw2 : IntKind.u64.wrap ((i + j : Nat) : Int) = ((i + j : Nat) : Int) := by simp [IntKind.wrap, IntKind.bits, IntKind.signed]; omega
    have hzz : ((i : Int) + (j : Int)) / 2 = (z : Int) := by omega
    clear hw1 hw2 hz
    obtain ⟨bk, off, p', b', rfl, bx, gr1, _, _, gf1⟩ := HRM.out.at (k := z) (by have := HL.out; omega)
    have HLow := hid (fun (q : cmpM (ks.getD z im0) ⟨K, N, F, Z⟩ < 0) => lb_low HOK.out HXo.out HAs.out (k := z) (by have := HL.out; omega) q)
    have HHig := hid (fun (q : ¬ cmpM (ks.getD z im0) ⟨K, N, F, Z⟩ < 0) => lb_high HOK.out HXo.out HAs.out (k := z) (by have := HL.out; omega) q)
    have hzk := okM_len (ok_at HOK.out (i := z) (by have := HL.out; omega))
    have HCm := hid (show cmpM (ks.getD z im0) ⟨K, N, F, Z⟩ = cmpI (ks.getD z im0).K (ks.getD z im0).N (ks.getD z im0).F (ks.getD z im0).Z.length (ks.getD z im0).Z K N F m Z by unfold cmpM; simp only [HXm.out])
    generalize ks.getD z im0 = e0 at bx gr1 gf1 hzk HCm HLow HHig
    obtain ⟨K', N', F', Z'⟩ := e0
    simp only at bx gr1 gf1 hzk HCm
    obtain ⟨m', hm'⟩ : ∃ m, Z'.length = m := ⟨_, rfl⟩
    rw [hm'] at bx gr1 hzk HCm
    clear hm'
    have bD := (Below.refl wr.heap.size wr).drew
    have HBW := hid (HB.out.trans (HW.out.mono HB.out.size))
    have HSD := hid (show (fun W => Box4 W bk (off + z * 4) K' N' F' (.slice p' m' b') ∧ Box4 W w.heap.size 0 K N F (.slice p m d)) wr.drew from ⟨(bx.below HBW.out (Nat.le_refl _)).below bD (Nat.le_refl _), (HBx.out.below HW.out (Nat.le_refl _)).below bD (Nat.le_refl _)⟩)
    have HR1 := hid ((gr1.below HBW.out (Nat.le_refl _)).below bD (Nat.le_refl _))
    have HR2 := hid ((HXr.out.below HBW.out (Nat.le_refl _)).below bD (Nat.le_refl _))
    have HWD := hid (HW.out.trans (bD.mono HW.out.size))
    clear bx gr1 bD HBW
    go_wp2
    refine region_K 99 (fun W => Box4 W bk (off + z * 4) K' N' F' (.slice p' m' b') ∧ Box4 W w.heap.size 0 K N F (.slice p m d)) (by kernel_rfl) ?_ (fun hHeld => ?_)
    · exact HSD.out
    generalize wr.drew = v0 at *
    refine anyK_take2 (i := 0) (v := ?v0_1) rfl (by kernel_rfl) (by kernel_rfl) (by kernel_rfl) (by rfl) (fun _ _ _ h => h) (by rfl) hHeld ?hy0_1 (some 24) (by rfl) ?rest0_1
    case hy0_1 => (intro W hSw; obtain ⟨⟨x0, x1, x2, x3⟩, x4, x5, x6, x7⟩ := hSw; go_simp; (try with_reducible rfl))
    try simp only [Act.put, List.setIfInBounds_toArray, List.set_cons_succ, List.set_cons_zero]
    refine anyK_take2 (i := 1) (v := ?v1_2) rfl (by kernel_rfl) (by kernel_rfl) (by kernel_rfl) (by rfl) (fun _ _ _ h => h) (by rfl) hHeld ?hy1_2 (some 25) (by rfl) ?rest1_2
    case hy1_2 => (intro W hSw; obtain ⟨⟨x0, x1, x2, x3⟩, x4, x5, x6, x7⟩ := hSw; go_simp; (try with_reducible rfl))
    try simp only [Act.put, List.setIfInBounds_toArray, List.set_cons_succ, List.set_cons_zero]
    refine anyK_take2 (i := 2) (v := ?v2_3) rfl (by kernel_rfl) (by kernel_rfl) (by kernel_rfl) (by rfl) (fun _ _ _ h => h) (by rfl) hHeld ?hy2_3 (some 26) (by rfl) ?rest2_3
    case hy2_3 => (intro W hSw; obtain ⟨⟨x0, x1, x2, x3⟩, x4, x5, x6, x7⟩ := hSw; go_simp; (try with_reducible rfl))
    try simp only [Act.put, List.setIfInBounds_toArray, List.set_cons_succ, List.set_cons_zero]
    refine anyK_take2 (i := 3) (v := ?v3_4) rfl (by kernel_rfl) (by kernel_rfl) (by kernel_rfl) (by rfl) (fun _ _ _ h => h) (by rfl) hHeld ?hy3_4 (some 27) (by rfl) ?rest3_4
    case hy3_4 => (intro W hSw; obtain ⟨⟨x0, x1, x2, x3⟩, x4, x5, x6, x7⟩ := hSw; go_simp; (try with_reducible rfl))
    try simp only [Act.put, List.setIfInBounds_toArray, List.set_cons_succ, List.set_cons_zero]
    refine anyK_take2 (i := 4) (v := ?v4_5) rfl (by kernel_rfl) (by kernel_rfl) (by kernel_rfl) (by rfl) (fun _ _ _ h => h) (by rfl) hHeld ?hy4_5 (some 28) (by rfl) ?rest4_5
    case hy4_5 => (intro W hSw; obtain ⟨⟨x0, x1, x2, x3⟩, x4, x5, x6, x7⟩ := hSw; go_simp; (try with_reducible rfl))
    try simp only [Act.put, List.setIfInBounds_toArray, List.set_cons_succ, List.set_cons_zero]
    refine anyK_take2 (i := 5) (v := ?v5_6) rfl (by kernel_rfl) (by kernel_rfl) (by kernel_rfl) (by rfl) (fun _ _ _ h => h) (by rfl) hHeld ?hy5_6 (some 29) (by rfl) ?rest5_6
    case hy5_6 => (intro W hSw; obtain ⟨⟨x0, x1, x2, x3⟩, x4, x5, x6, x7⟩ := hSw; go_simp; (try with_reducible rfl))
    try simp only [Act.put, List.setIfInBounds_toArray, List.set_cons_succ, List.set_cons_zero]
    refine anyK_step (i := 6) (by kernel_rfl) rfl (fun KP hK => ?_)
    go_simp
    refine (impl_ItemCompare K' N' K N F' F b' d gf1 hf HR1.out HR2.out (by omega) (by omega)).mono ?_
    rintro e u1 ⟨rfl, bb⟩
    have HSE := hid (show (fun W => Box4 W bk (off + z * 4) K' N' F' (.slice p' m' b') ∧ Box4 W w.heap.size 0 K N F (.slice p m d)) u1 from ⟨HSD.out.1.below bb (Nat.le_refl _), HSD.out.2.below bb (Nat.le_refl _)⟩)
    have HWE := hid (HWD.out.trans (bb.mono HWD.out.size))
    clear bb
    generalize cmpI K' N' F' m' Z' K N F m Z = v at *
    go_wp2_with fail
    clear hHeld
    refine hK.out _ _ HSE.out (fun hHeld => ?_)
    clear hK KP
    try simp only [Act.put, List.setIfInBounds_toArray, List.set_cons_succ, List.set_cons_zero]
    by_cases hv : v < 0
    · have HF := hid (HLow.out (by rw [HCm.out]; exact hv))
      refine anyK_take2 (i := 7) (v := ?v7_7) rfl (by kernel_rfl) (by kernel_rfl) (by kernel_rfl) (by rfl) (fun _ _ _ h => h) (by rfl) hHeld ?hy7_7 (some 31) (by rfl) ?rest7_7
      case hy7_7 => (intro W hSw; obtain ⟨⟨x0, x1, x2, x3⟩, x4, x5, x6, x7⟩ := hSw; go_simp; (try with_reducible rfl))
      try simp only [Act.put, List.setIfInBounds_toArray, List.set_cons_succ, List.set_cons_zero]
      refine anyK_done (by kernel_rfl) ?_ _
      clear hHeld
      go_wp2_with fail
      go_roundw
      case rel => exact ⟨z + 1, j, by go_num, rfl, by omega, by omega, HF, HHi, HWE⟩
      case measure => simp [intOf]; omega
    · have HF := hid (HHig.out (by have := HCm.out; omega))
      have hv' : decide (v < 0) = false := decide_eq_false hv
      clear hv
      refine anyK_take2 (i := 7) (v := ?v7_8) rfl (by kernel_rfl) (by kernel_rfl) (by kernel_rfl) (by rfl) (fun _ _ _ h => h) (by rfl) hHeld ?hy7_8 (some 31) (by rfl) ?rest7_8
      case hy7_8 => (intro W hSw; obtain ⟨⟨x0, x1, x2, x3⟩, x4, x5, x6, x7⟩ := hSw; go_simp; (try with_reducible rfl))
      try simp only [Act.put, List.setIfInBounds_toArray, List.set_cons_succ, List.set_cons_zero]
      refine anyK_done (by kernel_rfl) ?_ _
      clear hHeld
      go_wp2_with fail
      go_roundw
      case rel => exact ⟨i, z, rfl, rfl, by omega, by omega, HLo, HF, HWE⟩
      case measure => simp [intOf]; omega
  · have hlt' : ¬ (i : Int) < (j : Int) := by omega
    obtain rfl : i = j := by omega
    have HLB := hid (show LB ks ⟨K, N, F, Z⟩ i from ⟨by have := HL.out; omega, HLo.out, HHi.out⟩)
    clear HLo HHi
    by_cases hin : i < n
    · have hin' : (i : Int) < (n : Int) := by omega
      have hi0 : (0 : Int) ≤ (i : Int) := by omega
      obtain ⟨z, hz⟩ : ∃ z, i = z := ⟨_, rfl⟩
      obtain ⟨bk, off, p', b', rfl, bx, gr1, _, _, gf1⟩ := HRM.out.at (k := i) (by have := HL.out; omega)
      have hzk := okM_len (ok_at HOK.out (i := i) (by have := HL.out; omega))
      obtain ⟨V, hV⟩ : ∃ V, decide (i < n ∧ cmpM (ks.getD i im0) ⟨K, N, F, Z⟩ = 0) = V := ⟨_, rfl⟩
      have HV := hid (show V = decide (cmpM (ks.getD i im0) ⟨K, N, F, Z⟩ = 0) by
       rw [← hV]
       by_cases q : cmpM (ks.getD i im0) ⟨K, N, F, Z⟩ = 0
       · rw [decide_eq_true q, decide_eq_true ⟨hin, q⟩]
       · rw [decide_eq_false q, decide_eq_false (fun x => q x.2)])
      have HVV := hid hV
      clear hV
      subst hz
      have HCm := hid (show cmpM (ks.getD i im0) ⟨K, N, F, Z⟩ = cmpI (ks.getD i im0).K (ks.getD i im0).N (ks.getD i im0).F (ks.getD i im0).Z.length (ks.getD i im0).Z K N F m Z by unfold cmpM; simp only [HXm.out])
      generalize ks.getD i im0 = e0 at bx gr1 gf1 hzk HCm HV
      obtain ⟨K', N', F', Z'⟩ := e0
      simp only at bx gr1 gf1 hzk HCm
      obtain ⟨m', hm'⟩ : ∃ m, Z'.length = m := ⟨_, rfl⟩
      rw [hm'] at bx gr1 hzk HCm
      clear hm'
      have bD := (Below.refl wr.heap.size wr).drew
      have HBW := hid (HB.out.trans (HW.out.mono HB.out.size))
      have HSD := hid (show (fun W => Box4 W bk (off + i * 4) K' N' F' (.slice p' m' b') ∧ Box4 W w.heap.size 0 K N F (.slice p m d)) wr.drew from ⟨(bx.below HBW.out (Nat.le_refl _)).below bD (Nat.le_refl _), (HBx.out.below HW.out (Nat.le_refl _)).below bD (Nat.le_refl _)⟩)
      have HR1 := hid ((gr1.below HBW.out (Nat.le_refl _)).below bD (Nat.le_refl _))
      have HR2 := hid ((HXr.out.below HBW.out (Nat.le_refl _)).below bD (Nat.le_refl _))
      have HWD := hid (HW.out.trans (bD.mono HW.out.size))
      clear bx gr1 bD HBW
      go_wp2
      refine region_K 99 (fun W => Box4 W bk (off + i * 4) K' N' F' (.slice p' m' b') ∧ Box4 W w.heap.size 0 K N F (.slice p m d)) (by kernel_rfl) ?_ (fun hHeld => ?_)
      · exact HSD.out
      generalize wr.drew = v0 at *
      refine anyK_take2 (i := 0) (v := ?v0_9) rfl (by kernel_rfl) (by kernel_rfl) (by kernel_rfl) (by rfl) (fun _ _ _ h => h) (by rfl) hHeld ?hy0_9 (some 35) (by rfl) ?rest0_9
      case hy0_9 => (intro W hSw; obtain ⟨⟨x0, x1, x2, x3⟩, x4, x5, x6, x7⟩ := hSw; go_simp; (try with_reducible rfl))
      try simp only [Act.put, List.setIfInBounds_toArray, List.set_cons_succ, List.set_cons_zero]
      refine anyK_take2 (i := 1) (v := ?v1_10) rfl (by kernel_rfl) (by kernel_rfl) (by kernel_rfl) (by rfl) (fun _ _ _ h => h) (by rfl) hHeld ?hy1_10 (some 36) (by rfl) ?rest1_10
      case hy1_10 => (intro W hSw; obtain ⟨⟨x0, x1, x2, x3⟩, x4, x5, x6, x7⟩ := hSw; go_simp; (try with_reducible rfl))
      try simp only [Act.put, List.setIfInBounds_toArray, List.set_cons_succ, List.set_cons_zero]
      refine anyK_take2 (i := 2) (v := ?v2_11) rfl (by kernel_rfl) (by kernel_rfl) (by kernel_rfl) (by rfl) (fun _ _ _ h => h) (by rfl) hHeld ?hy2_11 (some 37) (by rfl) ?rest2_11
      case hy2_11 => (intro W hSw; obtain ⟨⟨x0, x1, x2, x3⟩, x4, x5, x6, x7⟩ := hSw; go_simp; (try with_reducible rfl))
      try simp only [Act.put, List.setIfInBounds_toArray, List.set_cons_succ, List.set_cons_zero]
      refine anyK_take2 (i := 3) (v := ?v3_12) rfl (by kernel_rfl) (by kernel_rfl) (by kernel_rfl) (by rfl) (fun _ _ _ h => h) (by rfl) hHeld ?hy3_12 (some 38) (by rfl) ?rest3_12
      case hy3_12 => (intro W hSw; obtain ⟨⟨x0, x1, x2, x3⟩, x4, x5, x6, x7⟩ := hSw; go_simp; (try with_reducible rfl))
      try simp only [Act.put, List.setIfInBounds_toArray, List.set_cons_succ, List.set_cons_zero]
      refine anyK_take2 (i := 4) (v := ?v4_13) rfl (by kernel_rfl) (by kernel_rfl) (by kernel_rfl) (by rfl) (fun _ _ _ h => h) (by rfl) hHeld ?hy4_13 (some 39) (by rfl) ?rest4_13
      case hy4_13 => (intro W hSw; obtain ⟨⟨x0, x1, x2, x3⟩, x4, x5, x6, x7⟩ := hSw; go_simp; (try with_reducible rfl))
      try simp only [Act.put, List.setIfInBounds_toArray, List.set_cons_succ, List.set_cons_zero]
      refine anyK_take2 (i := 5) (v := ?v5_14) rfl (by kernel_rfl) (by kernel_rfl) (by kernel_rfl) (by rfl) (fun _ _ _ h => h) (by rfl) hHeld ?hy5_14 (some 40) (by rfl) ?rest5_14
      case hy5_14 => (intro W hSw; obtain ⟨⟨x0, x1, x2, x3⟩, x4, x5, x6, x7⟩ := hSw; go_simp; (try with_reducible rfl))
      try simp only [Act.put, List.setIfInBounds_toArray, List.set_cons_succ, List.set_cons_zero]
      refine anyK_take2 (i := 6) (v := ?v6_15) rfl (by kernel_rfl) (by kernel_rfl) (by kernel_rfl) (by rfl) (fun _ _ _ h => h) (by rfl) hHeld ?hy6_15 (some 41) (by rfl) ?rest6_15
      case hy6_15 => (intro W hSw; obtain ⟨⟨x0, x1, x2, x3⟩, x4, x5, x6, x7⟩ := hSw; go_simp; (try with_reducible rfl))
      try simp only [Act.put, List.setIfInBounds_toArray, List.set_cons_succ, List.set_cons_zero]
      refine anyK_take2 (i := 7) (v := ?v7_16) rfl (by kernel_rfl) (by kernel_rfl) (by kernel_rfl) (by rfl) (fun _ _ _ h => h) (by rfl) hHeld ?hy7_16 (some 42) (by rfl) ?rest7_16
      case hy7_16 => (intro W hSw; obtain ⟨⟨x0, x1, x2, x3⟩, x4, x5, x6, x7⟩ := hSw; go_simp; (try with_reducible rfl))
      try simp only [Act.put, List.setIfInBounds_toArray, List.set_cons_succ, List.set_cons_zero]
      refine anyK_take2 (i := 8) (v := ?v8_17) rfl (by kernel_rfl) (by kernel_rfl) (by kernel_rfl) (by rfl) (fun _ _ _ h => h) (by rfl) hHeld ?hy8_17 (some 43) (by rfl) ?rest8_17
      case hy8_17 => (intro W hSw; obtain ⟨⟨x0, x1, x2, x3⟩, x4, x5, x6, x7⟩ := hSw; go_simp; (try with_reducible rfl))
      try simp only [Act.put, List.setIfInBounds_toArray, List.set_cons_succ, List.set_cons_zero]
      refine anyK_take2 (i := 9) (v := ?v9_18) rfl (by kernel_rfl) (by kernel_rfl) (by kernel_rfl) (by rfl) (fun _ _ _ h => h) (by rfl) hHeld ?hy9_18 (some 44) (by rfl) ?rest9_18
      case hy9_18 => (intro W hSw; obtain ⟨⟨x0, x1, x2, x3⟩, x4, x5, x6, x7⟩ := hSw; go_simp; (try with_reducible rfl))
      try simp only [Act.put, List.setIfInBounds_toArray, List.set_cons_succ, List.set_cons_zero]
      refine anyK_take2 (i := 10) (v := ?v10_19) rfl (by kernel_rfl) (by kernel_rfl) (by kernel_rfl) (by rfl) (fun _ _ _ h => h) (by rfl) hHeld ?hy10_19 (some 45) (by rfl) ?rest10_19
      case hy10_19 => (intro W hSw; obtain ⟨⟨x0, x1, x2, x3⟩, x4, x5, x6, x7⟩ := hSw; go_simp; (try with_reducible rfl))
      try simp only [Act.put, List.setIfInBounds_toArray, List.set_cons_succ, List.set_cons_zero]
      refine anyK_step (i := 11) (by kernel_rfl) rfl (fun KP hK => ?_)
      go_simp
      refine (impl_ItemCompare K' N' K N F' F b' d gf1 hf HR1.out HR2.out (by omega) (by omega)).mono ?_
      rintro e u1 ⟨rfl, bb⟩
      have HSE := hid (show (fun W => Box4 W bk (off + i * 4) K' N' F' (.slice p' m' b') ∧ Box4 W w.heap.size 0 K N F (.slice p m d)) u1 from ⟨HSD.out.1.below bb (Nat.le_refl _), HSD.out.2.below bb (Nat.le_refl _)⟩)
      have HWE := hid (HWD.out.trans (bb.mono HWD.out.size))
      clear bb
      generalize cmpI K' N' F' m' Z' K N F m Z = v at *
      go_wp2_with fail
      clear hHeld
      refine hK.out _ _ HSE.out (fun hHeld => ?_)
      clear hK KP
      try simp only [Act.put, List.setIfInBounds_toArray, List.set_cons_succ, List.set_cons_zero]
      by_cases hv : v = 0
      · have hq : (v == 0) = true := by simpa using hv
        have HF := hid (show decide (i < n ∧ cmpM (ks.getD i im0) ⟨K, N, F, Z⟩ = 0) = true by rw [HVV.out, HV.out, HCm.out, decide_eq_true hv])
        clear hv
        refine anyK_take2 (i := 12) (v := ?v12_20) rfl (by kernel_rfl) (by kernel_rfl) (by kernel_rfl) (by rfl) (fun _ _ _ h => h) (by rfl) hHeld ?hy12_20 (some 47) (by rfl) ?rest12_20
        case hy12_20 => (intro W hSw; obtain ⟨⟨x0, x1, x2, x3⟩, x4, x5, x6, x7⟩ := hSw; go_simp; (try with_reducible rfl))
        try simp only [Act.put, List.setIfInBounds_toArray, List.set_cons_succ, List.set_cons_zero]
        refine anyK_take2 (i := 13) (v := ?v13_21) rfl (by kernel_rfl) (by kernel_rfl) (by kernel_rfl) (by rfl) (fun _ _ _ h => h) (by rfl) hHeld ?hy13_21 (some 48) (by rfl) ?rest13_21
        case hy13_21 => (intro W hSw; obtain ⟨⟨x0, x1, x2, x3⟩, x4, x5, x6, x7⟩ := hSw; go_simp; (try with_reducible rfl))
        try simp only [Act.put, List.setIfInBounds_toArray, List.set_cons_succ, List.set_cons_zero]
        refine anyK_take2 (i := 14) (v := ?v14_22) rfl (by kernel_rfl) (by kernel_rfl) (by kernel_rfl) (by rfl) (fun _ _ _ h => h) (by rfl) hHeld ?hy14_22 (some 6) (by rfl) ?rest14_22
        case hy14_22 => (intro W hSw; obtain ⟨⟨x0, x1, x2, x3⟩, x4, x5, x6, x7⟩ := hSw; go_simp; (try with_reducible rfl))
        try simp only [Act.put, List.setIfInBounds_toArray, List.set_cons_succ, List.set_cons_zero]
        refine anyK_take2 (i := 15) (v := ?v15_23) rfl (by kernel_rfl) (by kernel_rfl) (by kernel_rfl) (by rfl) (fun _ _ _ h => h) (by rfl) hHeld ?hy15_23 (some 7) (by rfl) ?rest15_23
        case hy15_23 => (intro W hSw; obtain ⟨⟨x0, x1, x2, x3⟩, x4, x5, x6, x7⟩ := hSw; go_simp; (try with_reducible rfl))
        try simp only [Act.put, List.setIfInBounds_toArray, List.set_cons_succ, List.set_cons_zero]
        refine anyK_done (by kernel_rfl) ?_ _
        clear hHeld
        go_wp2_with fail
        go_ret2
        exact ⟨i, by rw [HF.out]; rfl, HLB.out, HB.out.trans (HWE.out.mono HB.out.size)⟩
      · have hq : (v == 0) = false := by simpa using hv
        have HF := hid (show decide (i < n ∧ cmpM (ks.getD i im0) ⟨K, N, F, Z⟩ = 0) = false by rw [HVV.out, HV.out, HCm.out, decide_eq_false hv])
        clear hv
        refine anyK_take2 (i := 12) (v := ?v12_24) rfl (by kernel_rfl) (by kernel_rfl) (by kernel_rfl) (by rfl) (fun _ _ _ h => h) (by rfl) hHeld ?hy12_24 (some 47) (by rfl) ?rest12_24
        case hy12_24 => (intro W hSw; obtain ⟨⟨x0, x1, x2, x3⟩, x4, x5, x6, x7⟩ := hSw; go_simp; (try with_reducible rfl))
        try simp only [Act.put, List.setIfInBounds_toArray, List.set_cons_succ, List.set_cons_zero]
        refine anyK_take2 (i := 13) (v := ?v13_25) rfl (by kernel_rfl) (by kernel_rfl) (by kernel_rfl) (by rfl) (fun _ _ _ h => h) (by rfl) hHeld ?hy13_25 (some 48) (by rfl) ?rest13_25
        case hy13_25 => (intro W hSw; obtain ⟨⟨x0, x1, x2, x3⟩, x4, x5, x6, x7⟩ := hSw; go_simp; (try with_reducible rfl))
        try simp only [Act.put, List.setIfInBounds_toArray, List.set_cons_succ, List.set_cons_zero]
        refine anyK_take2 (i := 14) (v := ?v14_26) rfl (by kernel_rfl) (by kernel_rfl) (by kernel_rfl) (by rfl) (fun _ _ _ h => h) (by rfl) hHeld ?hy14_26 (some 6) (by rfl) ?rest14_26
        case hy14_26 => (intro W hSw; obtain ⟨⟨x0, x1, x2, x3⟩, x4, x5, x6, x7⟩ := hSw; go_simp; (try with_reducible rfl))
        try simp only [Act.put, List.setIfInBounds_toArray, List.set_cons_succ, List.set_cons_zero]
        refine anyK_take2 (i := 15) (v := ?v15_27) rfl (by kernel_rfl) (by kernel_rfl) (by kernel_rfl) (by rfl) (fun _ _ _ h => h) (by rfl) hHeld ?hy15_27 (some 7) (by rfl) ?rest15_27
        case hy15_27 => (intro W hSw; obtain ⟨⟨x0, x1, x2, x3⟩, x4, x5, x6, x7⟩ := hSw; go_simp; (try with_reducible rfl))
        try simp only [Act.put, List.setIfInBounds_toArray, List.set_cons_succ, List.set_cons_zero]
        refine anyK_done (by kernel_rfl) ?_ _
        clear hHeld
        go_wp2_with fail
        go_ret2
        exact ⟨i, by rw [HF.out]; rfl, HLB.out, HB.out.trans (HWE.out.mono HB.out.size)⟩
    · have hin' : decide ((i : Int) < (n : Int)) = false := decide_eq_false (by omega)
      have hin2 : decide (i < n) = false := decide_eq_false hin
      have HF := hid (show decide (i < n ∧ cmpM (ks.getD i im0) ⟨K, N, F, Z⟩ = 0) = false from decide_eq_false (fun q => hin q.1))
      clear hin hlt'
      have bD := (Below.refl wr.heap.size wr).drew
      have HWE := hid (HW.out.trans (bD.mono HW.out.size))
      clear bD
      go_wp2
      refine region_K 99 (fun _ => True) (by kernel_rfl) ?_ (fun hHeld => ?_)
      · trivial
      generalize wr.drew = v0 at *
      refine anyK_take2 (i := 0) (v := ?v0_28) rfl (by kernel_rfl) (by kernel_rfl) (by kernel_rfl) (by rfl) (fun _ _ _ h => h) (by rfl) hHeld ?hy0_28 (some 35) (by rfl) ?rest0_28
      case hy0_28 => (intro W hSw; obtain _ := hSw; go_simp; (try with_reducible rfl))
      try simp only [Act.put, List.setIfInBounds_toArray, List.set_cons_succ, List.set_cons_zero]
      refine anyK_take2 (i := 1) (v := ?v1_29) rfl (by kernel_rfl) (by kernel_rfl) (by kernel_rfl) (by rfl) (fun _ _ _ h => h) (by rfl) hHeld ?hy1_29 (some 36) (by rfl) ?rest1_29
      case hy1_29 => (intro W hSw; obtain _ := hSw; go_simp; (try with_reducible rfl))
      try simp only [Act.put, List.setIfInBounds_toArray, List.set_cons_succ, List.set_cons_zero]
      refine anyK_take2 (i := 2) (v := ?v2_30) rfl (by kernel_rfl) (by kernel_rfl) (by kernel_rfl) (by rfl) (fun _ _ _ h => h) (by rfl) hHeld ?hy2_30 (some 37) (by rfl) ?rest2_30
      case hy2_30 => (intro W hSw; obtain _ := hSw; go_simp; (try with_reducible rfl))
      try simp only [Act.put, List.setIfInBounds_toArray, List.set_cons_succ, List.set_cons_zero]
      refine anyK_take2 (i := 3) (v := ?v3_31) rfl (by kernel_rfl) (by kernel_rfl) (by kernel_rfl) (by rfl) (fun _ _ _ h => h) (by rfl) hHeld ?hy3_31 (some 38) (by rfl) ?rest3_31
      case hy3_31 => (intro W hSw; obtain _ := hSw; go_simp; (try with_reducible rfl))
      try simp only [Act.put, List.setIfInBounds_toArray, List.set_cons_succ, List.set_cons_zero]
      refine anyK_take2 (i := 4) (v := ?v4_32) rfl (by kernel_rfl) (by kernel_rfl) (by kernel_rfl) (by rfl) (fun _ _ _ h => h) (by rfl) hHeld ?hy4_32 (some 39) (by rfl) ?rest4_32
      case hy4_32 => (intro W hSw; obtain _ := hSw; go_simp; (try with_reducible rfl))
      try simp only [Act.put, List.setIfInBounds_toArray, List.set_cons_succ, List.set_cons_zero]
      refine anyK_skip (i := 5) rfl (by kernel_rfl) (by kernel_rfl) (by kernel_rfl) (by kernel_rfl) (fun _ _ _ h => h) (by rfl) hHeld (some 40) (by rfl) ?_
      try simp only [Act.put, List.setIfInBounds_toArray, List.set_cons_succ, List.set_cons_zero]
      refine anyK_skip (i := 6) rfl (by kernel_rfl) (by kernel_rfl) (by kernel_rfl) (by kernel_rfl) (fun _ _ _ h => h) (by rfl) hHeld (some 41) (by rfl) ?_
      try simp only [Act.put, List.setIfInBounds_toArray, List.set_cons_succ, List.set_cons_zero]
      refine anyK_skip (i := 7) rfl (by kernel_rfl) (by kernel_rfl) (by kernel_rfl) (by kernel_rfl) (fun _ _ _ h => h) (by rfl) hHeld (some 42) (by rfl) ?_
      try simp only [Act.put, List.setIfInBounds_toArray, List.set_cons_succ, List.set_cons_zero]
      refine anyK_skip (i := 8) rfl (by kernel_rfl) (by kernel_rfl) (by kernel_rfl) (by kernel_rfl) (fun _ _ _ h => h) (by rfl) hHeld (some 43) (by rfl) ?_
      try simp only [Act.put, List.setIfInBounds_toArray, List.set_cons_succ, List.set_cons_zero]
      refine anyK_skip (i := 9) rfl (by kernel_rfl) (by kernel_rfl) (by kernel_rfl) (by kernel_rfl) (fun _ _ _ h => h) (by rfl) hHeld (some 44) (by rfl) ?_
      try simp only [Act.put, List.setIfInBounds_toArray, List.set_cons_succ, List.set_cons_zero]
      refine anyK_skip (i := 10) rfl (by kernel_rfl) (by kernel_rfl) (by kernel_rfl) (by kernel_rfl) (fun _ _ _ h => h) (by rfl) hHeld (some 45) (by rfl) ?_
      try simp only [Act.put, List.setIfInBounds_toArray, List.set_cons_succ, List.set_cons_zero]
      refine anyK_skip (i := 11) rfl (by kernel_rfl) (by kernel_rfl) (by kernel_rfl) (by kernel_rfl) (fun _ _ _ h => h) (by rfl) hHeld (some 46) (by rfl) ?_
      try simp only [Act.put, List.setIfInBounds_toArray, List.set_cons_succ, List.set_cons_zero]
      refine anyK_skip (i := 12) rfl (by kernel_rfl) (by kernel_rfl) (by kernel_rfl) (by kernel_rfl) (fun _ _ _ h => h) (by rfl) hHeld (some 47) (by rfl) ?_
      try simp only [Act.put, List.setIfInBounds_toArray, List.set_cons_succ, List.set_cons_zero]
      refine anyK_take2 (i := 13) (v := ?v13_33) rfl (by kernel_rfl) (by kernel_rfl) (by kernel_rfl) (by rfl) (fun _ _ _ h => h) (by rfl) hHeld ?hy13_33 (some 48) (by rfl) ?rest13_33
      case hy13_33 => (intro W hSw; obtain _ := hSw; go_simp; (try with_reducible rfl))
      try simp only [Act.put, List.setIfInBounds_toArray, List.set_cons_succ, List.set_cons_zero]
      refine anyK_take2 (i := 14) (v := ?v14_34) rfl (by kernel_rfl) (by kernel_rfl) (by kernel_rfl) (by rfl) (fun _ _ _ h => h) (by rfl) hHeld ?hy14_34 (some 6) (by rfl) ?rest14_34
      case hy14_34 => (intro W hSw; obtain _ := hSw; go_simp; (try with_reducible rfl))
      try simp only [Act.put, List.setIfInBounds_toArray, List.set_cons_succ, List.set_cons_zero]
      refine anyK_take2 (i := 15) (v := ?v15_35) rfl (by kernel_rfl) (by kernel_rfl) (by kernel_rfl) (by rfl) (fun _ _ _ h => h) (by rfl) hHeld ?hy15_35 (some 7) (by rfl) ?rest15_35
      case hy15_35 => (intro W hSw; obtain _ := hSw; go_simp; (try with_reducible rfl))
      try simp only [Act.put, List.setIfInBounds_toArray, List.set_cons_succ, List.set_cons_zero]
      refine anyK_done (by kernel_rfl) ?_ _
      clear hHeld
      go_wp2_with fail
      go_ret2
      exact ⟨i, by rw [HF.out]; rfl, HLB.out, HB.out.trans (HWE.out.mono HB.out.size)⟩
end Go.Proofs.YtnbpblephmjfnaaGreat
/- The contracts of slices.Clone over spans and of the program's singleSpans. Conditions: at most 2^20 of them. -/

namespace Go.Proofs.YtnbpblephmjfnaaGreat
open Go.RowKit
set_option maxRecDepth 100000
theorem Tryz.infoSp14 : (Tryz.prog.info? 74).map (fun i => (i.zero, i.size, i.bytes)) = some (some (.agg #[.int .i64 0, .int .i64 0, .float .f64 0, .slice none 0 0, .int .i64 0, .int .i64 0, .float .f64 0, .slice none 0 0]), 8, 96) := by kernel_rfl
theorem eqlS_none (c : Nat) (w : World) : (binOp .eql 65 (.slice none 0 c) (.slice none 0 0)).run Tryz.prog w = .ok (.bool true) w := by kernel_rfl
theorem eqlS_some (a : Addr) (n c : Nat) (w : World) : (binOp .eql 65 (.slice (some a) n c) (.slice none 0 0)).run Tryz.prog w = .ok (.bool false) w := by kernel_rfl
def pr2 : List Qi → List Qsp
 | a :: b :: r => (a, b) :: pr2 r
 | _ => []
def fS (l : List Qsp) : List Value := l.flatMap encS
theorem fS_app (a b : List Qsp) : fS (a ++ b) = fS a ++ fS b := by simp [fS]
theorem fS_len (l : List Qsp) : (fS l).length = l.length * 8 := flat_len encS 8 encS_len l
theorem fS_one (l : List Qsp) : ∀ u ∈ fS l, u.oneCell' = true := by
 intro u hu
 obtain ⟨q, _, hq⟩ := List.mem_flatMap.1 hu
 exact encS_one q u hq
def spE (s : Qsp) : Im × Im := (s.1.e, s.2.e)
def un2 (l : List Qsp) : List Qi := l.flatMap (fun s => [s.1, s.2])
theorem fS_un2 : ∀ l : List Qsp, fS l = fQ (un2 l)
 | [] => rfl
 | s :: r => by
  have := fS_un2 r
  unfold fS fQ un2 at *
  simp only [List.flatMap_cons, this, encS, List.flatMap_append, List.flatMap_nil, List.append_nil]
theorem un2_e : ∀ l : List Qsp, (un2 l).map (·.e) = fl2 (l.map spE)
 | [] => rfl
 | s :: r => by
  have := un2_e r
  unfold un2 at *
  rw [List.flatMap_cons, List.map_append, this]
  rfl
theorem un2_len (l : List Qsp) : (un2 l).length = l.length * 2 := by
 induction l with
 | nil => rfl
 | cons s r ih => unfold un2 at *; rw [List.flatMap_cons, List.length_append, ih, List.length_cons]; simp; omega
theorem mem_un2 {l : List Qsp} {q : Qi} : q ∈ un2 l ↔ ∃ s ∈ l, q = s.1 ∨ q = s.2 := by
 unfold un2
 simp [List.mem_flatMap]
theorem un2_pr2 : ∀ (rs : List (Im × Im)) (qs : List Qi), qs.map (·.e) = fl2 rs → un2 (pr2 qs) = qs ∧ (pr2 qs).map spE = rs
 | [], qs, h => by
  have : qs = [] := by simpa [fl2] using h
  subst this; exact ⟨rfl, rfl⟩
 | p :: r, [], h => by simp [fl2] at h
 | p :: r, [a], h => by simp [fl2] at h
 | p :: r, a :: b :: q, h => by
  rw [fl2] at h
  simp only [List.map_cons, List.cons.injEq] at h
  obtain ⟨h1, h2, h3⟩ := h
  have ih := un2_pr2 r q h3
  refine ⟨?_, ?_⟩
  · show un2 ((a, b) :: pr2 q) = _
    unfold un2
    rw [List.flatMap_cons]
    have := ih.1
    unfold un2 at this
    rw [this]; rfl
  · show ((a, b) :: pr2 q).map spE = _
    rw [List.map_cons, ih.2]
    unfold spE
    rw [h1, h2]
theorem infoSp : ∃ i, Tryz.prog.info? 74 = some i ∧ i.zero = some (.agg #[.int .i64 0, .int .i64 0, .float .f64 0, .slice none 0 0, .int .i64 0, .int .i64 0, .float .f64 0, .slice none 0 0]) ∧ i.size = 8 ∧ i.bytes = 96 := by
 have := Tryz.infoSp14
 cases hh : Tryz.prog.info? 74 with
 | none => rw [hh] at this; cases this
 | some i => rw [hh] at this; simp at this; exact ⟨i, rfl, this.1, this.2.1, this.2.2⟩
set_option maxHeartbeats 3200000 in
theorem clone_spans {a : Option Addr} {n : Nat} (c : Nat) {rs : List (Im × Im)} {w : World} (h : ReadsM w a (fl2 rs)) (hl : rs.length = n) (hn : n ≤ 1048576) :
 Calls Tryz.prog 146 #[.slice a n c] w fun e w' => ∃ (b : Option Addr) (c' : Nat) (ss : List Qsp), e = .returned (.slice b n c') ∧ ss.map spE = rs ∧ (∀ q ∈ un2 ss, RdQ w q) ∧ w'.ownsRow w.heap.size 74 8 (.slice b n c') n (fS ss) ∧ Below w.heap.size w w' := by
 cases a with
 | none =>
  have h0 := readsM_nil h
  rw [fl2_len] at h0
  obtain rfl : n = 0 := by omega
  obtain rfl : rs = [] := List.length_eq_zero_iff.1 hl
  have e1 := eqlS_none c
  go_enter Tryz.func146, Tryz.ntmps146
  go_wp2_with fail
  go_ret
  exact ⟨none, 0, [], rfl, rfl, (fun q hq => by cases hq), World.ownsRow_nil _ _ _ _, Below.refl _ _⟩
 | some ad =>
  obtain ⟨i0, hinf, hz0, hz1, hz2⟩ := infoSp
  obtain ⟨qs, hqs, hqr, hqc⟩ := h.qs
  obtain ⟨hu1, hu2⟩ := un2_pr2 rs qs hqs
  have hlen : (pr2 qs).length = n := by rw [← hl, ← hu2, List.length_map]
  have e1 := eqlS_some ad n c
  have bA := Below.alloc1 w (.cells #[] 74)
  have HBA := hid bA
  have OA := hid (show (w.alloc (.cells #[] 74)).ownsRow w.heap.size 74 8 (.slice (some ⟨w.heap.size, 0, none⟩) 0 0) 0 [] from ⟨rfl, .inr ⟨w.heap.size, 0, #[], rfl, Nat.le_refl _, heap_alloc_new w _, Nat.le_refl _, Nat.zero_le _, rfl, rfl⟩⟩)
  have HNw := hid (show (some ad = none ∧ c = 0) ∨ ∃ p, some ad = some p ∧ ∀ j u, (fS (pr2 qs))[j]? = some u → (w.alloc (.cells #[] 74)).cell? (p.add j) = some u by
   refine .inr ⟨ad, rfl, fun j u hu => ?_⟩
   rw [fS_un2, hu1] at hu
   rcases hqc with h0 | ⟨b', off', e', hc⟩
   · have : fQ qs = [] := by
      have := fQ_len qs
      rw [show qs.length = 0 by rw [← h0, ← hqs, List.length_map]] at this
      exact List.length_eq_zero_iff.1 (by omega)
     rw [this] at hu; cases hu
   · obtain rfl := Option.some.inj e'
     have hcell := hc j u hu
     have ea : (⟨b', off', none⟩ : Addr).add j = ⟨b', off' + j, none⟩ := by simp [Addr.add]
     rw [ea]
     exact (bA.cell (p := ⟨b', off' + j, none⟩) (World.block_lt_of_cell? w _ hcell)).trans hcell)
  have HLn := hid hlen
  have HQ := hid (And.intro hu2 (show ∀ q ∈ un2 (pr2 qs), RdQ w q by rw [hu1]; exact hqr))
  clear hqs hqr hqc hu1 hu2 hlen bA h hl
  go_enter Tryz.func146, Tryz.ntmps146
  go_wp2_with (at_builtin; refine wpList_append_row rfl _ _ 65 rfl w.heap.size 74 i0 (.agg #[.int .i64 0, .int .i64 0, .float .f64 0, .slice none 0 0, .int .i64 0, .int .i64 0, .float .f64 0, .slice none 0 0]) 8 96 Tryz.underlying65 hinf hz0 hz1 hz2 rfl (by decide) _ 0 [] rfl OA.out (some ad) n c (fS (pr2 qs)) rfl ?k0 HNw.out (fun e => by cases e) (fS_one _) ?k2 ?k3 ?k4 ?_)
  case k0 => rw [fS_len, HLn.out]
  case k2 => unfold maxLen; omega
  case k3 => omega
  case k4 => exact HBA.out.size
  intro a5 c5 w5 o5 hg5
  have O5 := hid o5
  have B5 := hid (HBA.out.grown hg5 HBA.out.size (fun r e => (OA.out.lt r e).1))
  clear o5 hg5
  go_wp2_with fail
  go_ret
  exact ⟨a5, c5, pr2 qs, rfl, HQ.out.1, HQ.out.2, O5.out, B5.out⟩
theorem take_im (ws : List Im) {k : Nat} (h : k < ws.length) : ws.take (k + 1) = ws.take k ++ [ws.getD k im0] := by
 rw [List.take_succ_eq_append_getElem h]; simp [List.getD, h]
def dup2 (Q : List Qi) : List Qsp := Q.map (fun q => (q, q))
theorem mem_dup2 {Q : List Qi} {q : Qi} (h : q ∈ un2 (dup2 Q)) : q ∈ Q := by
 obtain ⟨s, hs, e⟩ := mem_un2.1 h
 obtain ⟨x, hx, rfl⟩ := List.mem_map.1 hs
 rcases e with rfl | rfl <;> exact hx
set_option maxHeartbeats 6400000 in
theorem impl_singleSpans {a : Option Addr} {n : Nat} (c : Nat) {ws : List Im} {w : World} (h : ReadsM w a ws) (hl : ws.length = n) (hn : n ≤ 1048576) :
 Calls Tryz.prog 106 #[.slice a n c] w fun e w' => ∃ (b : Option Addr) (c' : Nat) (ss : List Qsp), e = .returned (.slice b n c') ∧ ss.map spE = ws.map (fun x => (x, x)) ∧ (∀ q ∈ un2 ss, RdQ w q) ∧ w'.ownsRow w.heap.size 74 8 (.slice b n c') n (fS ss) ∧ Below w.heap.size w w' := by
 have HR := hid h
 have HL := hid hl
 clear h hl
 obtain ⟨i0, hinf, hz0, hz1, hz2⟩ := infoSp
 go_enter Tryz.func106, Tryz.ntmps106
 go_wp2_with fail
 go_loopw [3, 8] (fun s3 s8 wr => ∃ (k : Nat) (b : Option Addr) (c' : Nat) (Q : List Qi), k ≤ n ∧ s8 = .int .i64 k ∧ s3 = .slice b k c' ∧ Hid (Q.map (·.e) = ws.take k) ∧ Hid (∀ q ∈ Q, RdQ w q) ∧ Hid (wr.ownsRow w.heap.size 74 8 (.slice b k c') k (fS (dup2 Q))) ∧ Hid (Below w.heap.size w wr)) (fun _ i _ => n - (intOf i).toNat)
 case atStart => exact ⟨0, none, 0, [], Nat.zero_le _, rfl, rfl, hid (by simp), hid (fun q hq => by cases hq), hid (World.ownsRow_nil _ _ _ _), hid (Below.refl _ _)⟩
 case round =>
  obtain ⟨k, b, c', Q, hk, rfl, rfl, HQm, HQr, HO, HB⟩ := hrel
  by_cases hlt : k < n
  · have hlt' : (k : Int) < (n : Int) := by omega
    have hk0 : (0 : Int) ≤ (k : Int) := by omega
    obtain ⟨bb, off, p, d, rfl, bx, rp, hnl, hmx, hf⟩ := HR.out.at (k := k) (by have := HL.out; omega)
    have HTk := hid (take_im ws (k := k) (by have := HL.out; omega))
    generalize ws.getD k im0 = e0 at *
    obtain ⟨K, N, F, Z⟩ := e0
    simp only at bx rp hmx hf
    have HNq := hid (show RdQ w ⟨⟨K, N, F, Z⟩, p, d⟩ from ⟨rp, hf, hnl, hmx⟩)
    obtain ⟨m, hm⟩ : ∃ m, Z.length = m := ⟨_, rfl⟩
    have HMz := hid hm
    rw [hm] at bx
    obtain ⟨x0, x1, x2, x3⟩ := bx.below HB.out (Nat.le_refl _)
    have hst := fun w a m => run_store Tryz.prog w a (.float .f64 F) m rfl
    have tr := two_rows13 wr (.cells #[.int .i64 K, .int .i64 N, .float .f64 F, .slice p m d] 72) (.cells #[.int .i64 K, .int .i64 N, .float .f64 F, .slice p m d, .int .i64 K, .int .i64 N, .float .f64 F, .slice p m d] 74)
    have bA := two wr (.cells #[.int .i64 K, .int .i64 N, .float .f64 F, .slice p m d] 72) (.cells #[.int .i64 K, .int .i64 N, .float .f64 F, .slice p m d, .int .i64 K, .int .i64 N, .float .f64 F, .slice p m d] 74)
    have HBA := hid (HB.out.trans (bA.mono HB.out.size))
    have OA := hid (owns_below bA (Nat.le_refl _) HO.out)
    have HNw := hid tr.2.1
    clear bx rp hnl hmx hm tr bA HO
    go_wp2_with (at_builtin; refine wpList_append_row rfl _ _ 65 rfl w.heap.size 74 i0 (.agg #[.int .i64 0, .int .i64 0, .float .f64 0, .slice none 0 0, .int .i64 0, .int .i64 0, .float .f64 0, .slice none 0 0]) 8 96 Tryz.underlying65 hinf hz0 hz1 hz2 rfl (by decide) _ k (fS (dup2 Q)) rfl OA.out (some ⟨wr.heap.size + 1, 0, none⟩) 1 1 [.int .i64 K, .int .i64 N, .float .f64 F, .slice p m d, .int .i64 K, .int .i64 N, .float .f64 F, .slice p m d] rfl rfl (.inr ⟨_, rfl, World.news_of_block HNw.out⟩) (fun e => by cases e) ?k1 ?k2 ?k3 ?k4 ?_)
    case k1 => simp [Value.oneCell']
    case k2 => unfold maxLen; omega
    case k3 => omega
    case k4 => exact HBA.out.size
    intro a5 c5 w5 o5 hg5
    have O5 := hid (show w5.ownsRow w.heap.size 74 8 (.slice a5 (k + 1) c5) (k + 1) (fS (dup2 (Q ++ [⟨⟨K, N, F, Z⟩, p, d⟩]))) by
     unfold dup2
     rw [List.map_append, fS_app]
     have e : fS (List.map (fun q => (q, q)) [(⟨⟨K, N, F, Z⟩, p, d⟩ : Qi)]) = [.int .i64 K, .int .i64 N, .float .f64 F, .slice p m d, .int .i64 K, .int .i64 N, .float .f64 F, .slice p m d] := by simp [fS, encS, encQ, HMz.out]
     rw [e]; exact o5)
    have B5 := hid (HBA.out.grown hg5 HBA.out.size (fun r e => (OA.out.lt r e).1))
    clear o5 hg5 x0 x1 x2 x3
    go_wp2_with fail
    go_roundw
    case rel =>
     refine ⟨k + 1, a5, c5, Q ++ [⟨⟨K, N, F, Z⟩, p, d⟩], by omega, by go_num, rfl, hid ?_, hid ?_, O5, B5⟩
     · rw [List.map_append, HQm.out, HTk.out]; rfl
     · intro q hq
       rcases List.mem_append.1 hq with hq | hq
       · exact HQr.out q hq
       · obtain rfl : q = _ := by simpa using hq
         exact HNq.out
    case measure => simp [intOf]; omega
  · have hlt' : ¬ (k : Int) < (n : Int) := by omega
    obtain rfl : k = n := by omega
    have HQ2 := hid (show (dup2 Q).map spE = ws.map (fun x => (x, x)) by
     have h1 := HQm.out
     rw [List.take_of_length_le (by have := HL.out; omega)] at h1
     rw [← h1]
     unfold dup2
     rw [List.map_map, List.map_map]
     rfl)
    go_wp2_with fail
    go_ret
    exact ⟨b, c', rfl, dup2 Q, HQ2.out, fun q hq => HQr.out q (mem_dup2 hq), HO.out, HB.out⟩
end Go.Proofs.YtnbpblephmjfnaaGreat
/- Where keys stand that are in some of the spans: plain. No program; the keys ascend, all are right. -/


namespace Go.Proofs.YtnbpblephmjfnaaGreat
open Go.RowKit
set_option maxRecDepth 100000
structure SpanAt (ks : List Im) (p : Im × Im) (f e : Nat) : Prop where
 fe : f ≤ e
 en : e ≤ ks.length
 lo : ∀ i, i < f → cmpM (ks.getD i im0) p.1 < 0
 hi : ∀ i, f ≤ i → i < ks.length → 0 ≤ cmpM (ks.getD i im0) p.1
 is : ∀ i, i < ks.length → (inM p (ks.getD i im0) = true ↔ f ≤ i ∧ i < e)
theorem span_at {ks : List Im} {p : Im × Im} (ok : ∀ x ∈ ks, okM x = true) (asc : ks.Pairwise (fun x y => cmpM x y < 0)) (hp : spB p = true) {f i2 e : Nat} (h1 : LB ks p.1 f) (h2 : LB ks p.2 i2) (he : e = if i2 < ks.length ∧ cmpM (ks.getD i2 im0) p.2 = 0 then i2 + 1 else i2) : SpanAt ks p f e := by
 obtain ⟨o1, o2, o12⟩ := spB_ok hp
 have hlt : ∀ i, i < ks.length → (i < e ↔ cmpM (ks.getD i im0) p.2 ≤ 0) := by
  intro i hi
  have oi := ok_at ok hi
  by_cases q : i2 < ks.length ∧ cmpM (ks.getD i2 im0) p.2 = 0
  · rw [if_pos q] at he
    subst he
    constructor
    · intro h
      by_cases e : i = i2
      · subst e; omega
      · have := h2.lt i (by omega); omega
    · intro h
      by_cases r : i < i2 + 1
      · exact r
      · have a1 := asc_at asc (i := i2) (j := i) (by omega) hi
        have a2 := cmpM_lt_le (ok_at ok q.1) oi o2 a1 h
        omega
  · rw [if_neg q] at he
    rw [he]
    constructor
    · intro h; have := h2.lt i h; omega
    · intro h
      by_cases r : i < i2
      · exact r
      · by_cases e : i = i2
        · subst e
          have := h2.ge i (Nat.le_refl _) hi
          exact absurd ⟨hi, by omega⟩ q
        · have hi2 : i2 < ks.length := by omega
          have a1 := asc_at asc (i := i2) (j := i) (by omega) hi
          have a2 := cmpM_lt_le (ok_at ok hi2) oi o2 a1 h
          have := h2.ge i2 (Nat.le_refl _) hi2
          omega
 have hen : e ≤ ks.length := by
  have := h2.le
  rw [he]
  split
  · rename_i q; omega
  · omega
 refine ⟨?_, hen, h1.lt, h1.ge, ?_⟩
 · by_cases q : f ≤ e
   · exact q
   · have hf := h1.le
     have a1 := h1.lt e (by omega)
     have a2 := cmpM_lt_le (ok_at ok (i := e) (by omega)) o1 o2 a1 o12
     have := (hlt e (by omega)).2 (by omega)
     omega
 · intro i hi
   have oi := ok_at ok hi
   rw [inM_iff o1 o2 oi, decide_eq_true_iff, ← hlt i hi]
   have han := cmpM_anti oi o1
   constructor
   · rintro ⟨b1, b2⟩
     refine ⟨?_, b2⟩
     by_cases q : f ≤ i
     · exact q
     · have := h1.lt i (by omega); omega
   · rintro ⟨b1, b2⟩
     have := h1.ge i b1 hi
     exact ⟨by omega, b2⟩
theorem span_mono {ks : List Im} {p q : Im × Im} {f e f' e' : Nat} (ok : ∀ x ∈ ks, okM x = true) (op : okM p.1 = true) (oq : okM q.1 = true) (h : SpanAt ks p f e) (h' : SpanAt ks q f' e') (hle : cmpM p.1 q.1 ≤ 0) : f ≤ f' := by
 by_cases r : f ≤ f'
 · exact r
 · have hl : f' < ks.length := by have := h.en; have := h.fe; omega
   have a1 := h.lo f' (by omega)
   have a2 := h'.hi f' (Nat.le_refl _) hl
   have := cmpM_lt_le (ok_at ok hl) op oq a1 hle
   omega
def anyS (rs : List (Im × Im)) (x : Im) : Bool := rs.any (fun p => inM p x)
def plS (ks : List Im) (rs : List (Im × Im)) : List Nat := (List.range ks.length).filter (fun i => anyS rs (ks.getD i im0))
def nI (P : List Nat) : List Int := P.map (fun i : Nat => (i : Int))
theorem nI_app (a b : List Nat) : nI (a ++ b) = nI a ++ nI b := by simp [nI]
theorem nI_len (a : List Nat) : (nI a).length = a.length := by simp [nI]
theorem anyS_snoc (R : List (Im × Im)) {j : Nat} (hj : j < R.length) (x : Im) : anyS (R.take (j + 1)) x = (anyS (R.take j) x || inM (R.getD j sp0) x) := by
 unfold anyS
 rw [List.take_succ_eq_append_getElem hj, List.any_append]
 simp [List.getD, hj]
theorem anyS_perm {a b : List (Im × Im)} (h : a.Perm b) (x : Im) : anyS a x = anyS b x := by
 unfold anyS
 rw [Bool.eq_iff_iff, List.any_eq_true, List.any_eq_true]
 exact ⟨fun ⟨p, hp, q⟩ => ⟨p, h.mem_iff.1 hp, q⟩, fun ⟨p, hp, q⟩ => ⟨p, h.mem_iff.2 hp, q⟩⟩
structure Far (ks : List Im) (R : List (Im × Im)) (j nx : Nat) (P : List Nat) : Prop where
 le : nx ≤ ks.length
 pl : P = (List.range nx).filter (fun i => anyS (R.take j) (ks.getD i im0))
 no : ∀ i, nx ≤ i → i < ks.length → anyS (R.take j) (ks.getD i im0) = false
 at' : nx = 0 ∨ ∃ j', j' < j ∧ ∃ f, SpanAt ks (R.getD j' sp0) f nx
theorem Far.start (ks : List Im) (R : List (Im × Im)) : Far ks R 0 0 [] := ⟨Nat.zero_le _, by simp, fun i _ _ => by simp [anyS], .inl rfl⟩
theorem filter_range' (q : Nat → Bool) (a m : Nat) : (List.range (a + m)).filter q = (List.range a).filter q ++ (List.range' a m).filter q := by
 rw [List.range_eq_range', List.range_eq_range', ← List.filter_append]
 congr 1
 rw [← List.range'_append_1]; simp
theorem Far.step {ks : List Im} {R : List (Im × Im)} {j nx : Nat} {P : List Nat} (h : Far ks R j nx P) (hj : j < R.length) (ok : ∀ x ∈ ks, okM x = true) (oR : ∀ p ∈ R, spB p = true) (sR : R.Pairwise (fun x y => cmpM x.1 y.1 ≤ 0)) {f e : Nat} (hs : SpanAt ks (R.getD j sp0) f e) :
 (e ≤ max nx f → Far ks R (j + 1) (max nx f) P) ∧ (max nx f < e → Far ks R (j + 1) e (P ++ List.range' (max nx f) (e - max nx f))) := by
 have rj : R.getD j sp0 = R[j] := by simp [List.getD, hj]
 have oj : spB (R.getD j sp0) = true := by rw [rj]; exact oR _ (List.getElem_mem hj)
 have hold : ∀ i, i < nx → f ≤ i → anyS (R.take j) (ks.getD i im0) = true := by
  intro i hi hf
  rcases h.at' with h0 | ⟨j', hj', f', hs'⟩
  · omega
  · have rj' : R.getD j' sp0 = R[j'] := by simp [List.getD, show j' < R.length by omega]
    have oj' : spB (R.getD j' sp0) = true := by rw [rj']; exact oR _ (List.getElem_mem (by omega))
    have hle : cmpM (R.getD j' sp0).1 (R.getD j sp0).1 ≤ 0 := by rw [rj, rj']; exact (List.pairwise_iff_getElem.1 sR) j' j (by omega) hj hj'
    have := span_mono ok (spB_ok oj').1 (spB_ok oj).1 hs' hs hle
    unfold anyS
    rw [List.any_eq_true]
    refine ⟨R[j'], List.mem_take_iff_getElem.2 ⟨j', by omega, rfl⟩, ?_⟩
    rw [← rj']
    exact (hs'.is i (by have := h.le; omega)).2 ⟨by omega, hi⟩
 have hsm : ∀ i, i < nx → anyS (R.take (j + 1)) (ks.getD i im0) = anyS (R.take j) (ks.getD i im0) := by
  intro i hi
  rw [anyS_snoc R hj]
  cases hq : inM (R.getD j sp0) (ks.getD i im0) with
  | false => rw [Bool.or_false]
  | true =>
   rw [hold i hi ((hs.is i (by have := h.le; omega)).1 hq).1]; rfl
 have hfil : (List.range nx).filter (fun i => anyS (R.take (j + 1)) (ks.getD i im0)) = P := by
  rw [h.pl]
  exact List.filter_congr (fun i hi => hsm i (List.mem_range.1 hi))
 have hbe : ∀ i, nx ≤ i → i < ks.length → anyS (R.take (j + 1)) (ks.getD i im0) = decide (f ≤ i ∧ i < e) := by
  intro i h1 h2
  rw [anyS_snoc R hj, h.no i h1 h2, Bool.false_or, Bool.eq_iff_iff, decide_eq_true_iff]
  exact hs.is i h2
 have hen := hs.en
 have hfe := hs.fe
 constructor
 · intro hle
   have hmx : max nx f = nx ∨ max nx f = f := by omega
   have hnx : e ≤ nx ∨ (nx < f ∧ f = e) := by omega
   rcases hnx with hnx | ⟨h1, h2⟩
   · have e1 : max nx f = nx := by omega
     rw [e1]
     refine ⟨h.le, hfil.symm, fun i h1 h2 => ?_, ?_⟩
     · rw [hbe i h1 h2, decide_eq_false (by omega)]
     · rcases h.at' with h0 | ⟨j', hj', q⟩
       · exact .inl h0
       · exact .inr ⟨j', by omega, q⟩
   · have e1 : max nx f = e := by omega
     rw [e1]
     refine ⟨hen, ?_, fun i h3 h4 => ?_, .inr ⟨j, by omega, f, hs⟩⟩
     · obtain ⟨m, hm⟩ : ∃ m, e = nx + m := ⟨e - nx, by omega⟩
       rw [hm, filter_range', hfil]
       rw [show (List.range' nx m).filter (fun i => anyS (R.take (j + 1)) (ks.getD i im0)) = [] from ?_, List.append_nil]
       rw [List.filter_eq_nil_iff]
       intro i hi
       rw [List.mem_range'_1] at hi
       rw [hbe i hi.1 (by omega), decide_eq_false (by omega)]
       simp
     · rw [hbe i (by omega) h4, decide_eq_false (by omega)]
 · intro hlt
   refine ⟨hen, ?_, fun i h3 h4 => ?_, .inr ⟨j, by omega, f, hs⟩⟩
   · obtain ⟨m, hm⟩ : ∃ m, max nx f = nx + m := ⟨max nx f - nx, by omega⟩
     obtain ⟨r, hr⟩ : ∃ r, e = max nx f + r := ⟨e - max nx f, by omega⟩
     rw [show e - max nx f = r by omega]
     conv => rhs; rw [hr, filter_range', hm, filter_range', hfil]
     rw [hm]
     rw [show (List.range' nx m).filter (fun i => anyS (R.take (j + 1)) (ks.getD i im0)) = [] from ?_, List.append_nil]
     · congr 1
       symm
       rw [List.filter_eq_self]
       intro i hi
       rw [List.mem_range'_1] at hi
       rw [hbe i (by omega) (by omega), decide_eq_true (by omega)]
     · rw [List.filter_eq_nil_iff]
       intro i hi
       rw [List.mem_range'_1] at hi
       rw [hbe i hi.1 (by omega), decide_eq_false (by omega)]
       simp
   · rw [hbe i (by omega) h4, decide_eq_false (by omega)]
theorem Far.done {ks : List Im} {R rs : List (Im × Im)} {nx : Nat} {P : List Nat} (h : Far ks R R.length nx P) (hp : R.Perm rs) : P = plS ks rs := by
 unfold plS
 obtain ⟨m, hm⟩ : ∃ m, ks.length = nx + m := ⟨ks.length - nx, by have := h.le; omega⟩
 have hno := h.no
 have hpl := h.pl
 rw [List.take_length] at hno hpl
 rw [show (fun i => anyS rs (ks.getD i im0)) = (fun i => anyS R (ks.getD i im0)) from funext (fun i => (anyS_perm hp _).symm), hm, filter_range', ← hpl]
 rw [show (List.range' nx m).filter (fun i => anyS R (ks.getD i im0)) = [] from ?_, List.append_nil]
 rw [List.filter_eq_nil_iff]
 intro i hi
 rw [List.mem_range'_1] at hi
 rw [hno i hi.1 (by omega)]
 simp
end Go.Proofs.YtnbpblephmjfnaaGreat
/- The contract of the program's placesInSpans. Conditions: at most 20000 keys, which ascend, at most 2^20 spans; all are right. -/

namespace Go.Proofs.YtnbpblephmjfnaaGreat
open Go.RowKit
set_option maxRecDepth 100000
theorem infoI14 : ∃ i, Tryz.prog.info? 3 = some i ∧ i.zero = some (.int .i64 0) ∧ i.size = 1 ∧ i.bytes = 8 := by
 have := Tryz.infoI
 cases hh : Tryz.prog.info? 3 with
 | none => rw [hh] at this; cases this
 | some i => rw [hh] at this; simp at this; exact ⟨i, rfl, this.1, this.2.1, this.2.2⟩
theorem range'_snoc (a m : Nat) : List.range' a (m + 1) = List.range' a m ++ [a + m] := by
 rw [List.range'_concat]; simp
set_option maxHeartbeats 12800000 in
theorem impl_placesInSpans {a : Option Addr} {n : Nat} (c : Nat) {ks : List Im} {a' : Option Addr} {n' : Nat} (c' : Nat) {rs : List (Im × Im)} {w : World} (h : ReadsM w a ks) (hl : ks.length = n) (hn : n ≤ 20000) (ok : ∀ x ∈ ks, okM x = true) (asc : ks.Pairwise (fun x y => cmpM x y < 0)) (h' : ReadsM w a' (fl2 rs)) (hl' : rs.length = n') (hn' : n' ≤ 1048576) (oR : ∀ p ∈ rs, spB p = true) :
 Calls Tryz.prog 105 #[.slice a n c, .slice a' n' c'] w fun e w' => ∃ (b : Option Addr) (k cc : Nat), e = .returned (.slice b k cc) ∧ (plS ks rs).length = k ∧ w'.ownsRow w.heap.size 3 1 (.slice b k cc) k (ins (nI (plS ks rs))) ∧ Below w.heap.size w w' := by
 have HK := hid h
 have HL := hid hl
 have HOK := hid ok
 have HAs := hid asc
 have HS := hid h'
 have HOR := hid oR
 have HL' := hid hl'
 clear h hl ok asc h' oR hl'
 obtain ⟨i0, hinf, hz0, hz1, hz2⟩ := infoI14
 go_enter Tryz.func105, Tryz.ntmps105
 go_wp2_with fail
 refine (clone_spans c' HS.out HL'.out hn').mono ?_
 rintro e w1 ⟨b1, cc1, ss, rfl, hs1, hr1, o1, be1⟩
 have HSs := hid hs1
 have HRs := hid hr1
 have O1 := hid o1
 have B1 := hid be1
 have HLs := hid (show ss.length = n' by rw [← HL'.out, ← hs1, List.length_map])
 have hspB : ∀ s ∈ ss, spB (spE s) = true := fun s hs => HOR.out _ (by rw [← hs1]; exact List.mem_map.2 ⟨s, hs, rfl⟩)
 have HBs := hid hspB
 clear hs1 hr1 o1 be1 hspB
 go_wp2_with fail
 refine (sort_spans ss HLs.out w1 O1.out (fun blk e s hs => by
  subst e
  have hb := (O1.out.lt blk rfl).1
  have q1 := HRs.out s.1 (mem_un2.2 ⟨s, hs, .inl rfl⟩)
  have q2 := HRs.out s.2 (mem_un2.2 ⟨s, hs, .inr rfl⟩)
  have q3 := spB_ok (HBs.out s hs)
  exact ⟨good_of q1.rd q1.fl q3.1 B1.out hb, good_of q2.rd q2.fl q3.2.1 B1.out hb⟩) (fun s hs => (spB_ok (HBs.out s hs)).1) (by omega)).mono ?_
 rintro e w2 ⟨rfl, d, hp2, hs2, o2, g2⟩
 have B2 := hid (B1.out.grown g2 B1.out.size (fun r e => (O1.out.lt r e).1))
 have HLd := hid (show d.length = n' by rw [hp2.length_eq, HLs.out])
 have HPr := hid (show (d.map spE).Perm rs by rw [← HSs.out]; exact hp2.map spE)
 have HSo := hid (show (d.map spE).Pairwise (fun x y => cmpM x.1 y.1 ≤ 0) by rw [List.pairwise_map]; exact hs2)
 have HDB := hid (show ∀ p ∈ d.map spE, spB p = true by
  intro p hp
  obtain ⟨s, hs, rfl⟩ := List.mem_map.1 hp
  exact HBs.out s (hp2.mem_iff.1 hs))
 have HRM := hid (show ReadsM w2 b1 (fl2 (d.map spE)) by
  rw [← un2_e]
  refine own_readsM (by rw [← fS_un2]; exact o2) (fun q hq => ?_) (by rw [un2_len, HLd.out]; omega)
  obtain ⟨s, hs, e⟩ := mem_un2.1 hq
  exact (HRs.out q (mem_un2.2 ⟨s, hp2.mem_iff.1 hs, e⟩)).below B2.out (Nat.le_refl _))
 have HK2 := hid (HK.out.below B2.out (Nat.le_refl _))
 obtain ⟨R, hR⟩ : ∃ R, d.map spE = R := ⟨_, rfl⟩
 rw [hR] at HPr HSo HDB HRM
 have HRl := hid (show R.length = n' by rw [← hR, List.length_map]; exact HLd.out)
 clear hp2 hs2 o2 g2 hR HLd HRs HSs O1 B1 HLs HBs HK HS
 go_wp2_with fail
 go_loopw [6, 7, 20] (fun s6 s7 s20 wr => ∃ (j nx : Nat) (b : Option Addr) (k cc : Nat) (P : List Nat), j ≤ n' ∧ s20 = .int .i64 j ∧ s7 = .int .i64 nx ∧ s6 = .slice b k cc ∧ nx ≤ n ∧ k ≤ nx ∧ Hid (P.length = k) ∧ Hid (Far ks R j nx P) ∧ Hid (wr.ownsRow w2.heap.size 3 1 (.slice b k cc) k (ins (nI P))) ∧ Hid (Below w2.heap.size w2 wr)) (fun _ _ i _ => n' - (intOf i).toNat)
 case atStart => exact ⟨0, 0, none, 0, 0, [], Nat.zero_le _, rfl, rfl, rfl, Nat.zero_le _, Nat.le_refl _, hid rfl, hid (Far.start _ _), hid (World.ownsRow_nil _ _ _ _), hid (Below.refl _ _)⟩
 case round =>
  obtain ⟨j, nx, b, k, cc, P, hj, rfl, rfl, rfl, hnx, hk, HPl, HFa, HO, HB⟩ := hrel
  by_cases hlt : j < n'
  · have hlt' : (j : Int) < (n' : Int) := by omega
    have hj0 : (0 : Int) ≤ (j : Int) := by omega
    have hl2 : (fl2 R).length = n' * 2 := by rw [fl2_len, HRl.out]
    obtain ⟨bb, off, p1, d1, rfl, bx, q1, _, _, hf1⟩ := HRM.out.at (k := j * 2) (by omega)
    obtain ⟨bb', off', p2, d2, e', by', q2, _, _, hf2⟩ := HRM.out.at (k := j * 2 + 1) (by omega)
    obtain ⟨rfl, rfl⟩ : bb = bb' ∧ off = off' := by simpa using e'
    have hat := fl2_at R j
    rw [hat.1] at bx q1 hf1
    rw [hat.2] at by' q2 hf2
    have hjR : j < R.length := by have := HRl.out; omega
    have hspj : spB (R.getD j sp0) = true := by
     rw [show R.getD j sp0 = R[j] by simp [List.getD, hjR]]; exact HDB.out _ (List.getElem_mem hjR)
    have HSt := hid (fun (f e : Nat) (q : SpanAt ks (R.getD j sp0) f e) => HFa.out.step hjR HOK.out HDB.out HSo.out q)
    have HSa := hid (fun (f i2 e : Nat) (q1 : LB ks (R.getD j sp0).1 f) (q2 : LB ks (R.getD j sp0).2 i2) (he : e = if i2 < ks.length ∧ cmpM (ks.getD i2 im0) (R.getD j sp0).2 = 0 then i2 + 1 else i2) => span_at HOK.out HAs.out hspj q1 q2 he)
    obtain ⟨ok1, ok2, -⟩ := spB_ok hspj
    generalize R.getD j sp0 = pp at *
    obtain ⟨⟨K1, N1, F1, Z1⟩, K2, N2, F2, Z2⟩ := pp
    simp only at bx by' q1 q2 hf1 hf2 ok1 ok2 HSt HSa
    obtain ⟨m1, hm1⟩ : ∃ m, Z1.length = m := ⟨_, rfl⟩
    obtain ⟨m2, hm2⟩ : ∃ m, Z2.length = m := ⟨_, rfl⟩
    have HM := hid (And.intro hm1 hm2)
    rw [hm1] at bx q1
    rw [hm2] at by' q2
    rw [show off + j * 2 * 4 = off + j * 8 by omega] at bx
    rw [show off + (j * 2 + 1) * 4 = off + j * 8 + 4 by omega] at by'
    obtain ⟨x0, x1, x2, x3⟩ := bx.below HB.out (Nat.le_refl _)
    obtain ⟨x4, x5, x6, x7⟩ := by'.below HB.out (Nat.le_refl _)
    have bA := Below.alloc1 wr (.cells #[.int .i64 K1, .int .i64 N1, .float .f64 F1, .slice p1 m1 d1, .int .i64 K2, .int .i64 N2, .float .f64 F2, .slice p2 m2 d2] 74)
    have HBA := hid (HB.out.trans (bA.mono HB.out.size))
    have HOA := hid (owns_below bA (Nat.le_refl _) HO.out)
    have HQ1 := hid q1
    have HQ2 := hid q2
    have hst := fun w a m => run_store Tryz.prog w a (.float .f64 F1) m rfl
    have hst2 := fun w a m => run_store Tryz.prog w a (.float .f64 F2) m rfl
    have HRA := hid (heap_alloc_new wr (.cells #[.int .i64 K1, .int .i64 N1, .float .f64 F1, .slice p1 m1 d1, .int .i64 K2, .int .i64 N2, .float .f64 F2, .slice p2 m2 d2] 74))
    have HZA := hid (alloc_size wr (.cells #[.int .i64 K1, .int .i64 N1, .float .f64 F1, .slice p1 m1 d1, .int .i64 K2, .int .i64 N2, .float .f64 F2, .slice p2 m2 d2] 74))
    clear bx by' q1 q2 hm1 hm2 hat hl2 e' bA hjR hspj HO HFa
    go_wp2_with fail
    clear x0 x1 x2 x3 x4 x5 x6 x7
    refine (search_items c K1 N1 F1 d1 (HK2.out.below HBA.out (Nat.le_refl _)) HL.out (by omega) HOK.out HAs.out (HQ1.out.below HBA.out (Nat.le_refl _)) hf1 HM.out.1 ok1).mono ?_
    rintro e w3 ⟨f, rfl, lb1, be3⟩
    have HLB1 := hid lb1
    have hfn : f ≤ n := by have := lb1.le; have := HL.out; omega
    have HB3 := hid (HBA.out.trans (be3.mono HBA.out.size))
    have HO3 := hid (owns_below be3 (Nat.le_refl _) HOA.out)
    have hr3 := (be3.block wr.heap.size (by have := HZA.out; omega)).trans HRA.out
    have y4 := cell_of_row _ _ 4 _ _ _ hr3
    have y5 := cell_of_row _ _ 5 _ _ _ hr3
    have y6 := cell_of_row _ _ 6 _ _ _ hr3
    have y7 := cell_of_row _ _ 7 _ _ _ hr3
    generalize decide (f < n ∧ cmpM (ks.getD f im0) ⟨K1, N1, F1, Z1⟩ = 0) = hasFrom
    clear lb1 be3 hr3 HBA HOA HRA HZA
    go_wp2_with fail
    clear y4 y5 y6 y7
    refine (search_items c K2 N2 F2 d2 (HK2.out.below HB3.out (Nat.le_refl _)) HL.out (by omega) HOK.out HAs.out (HQ2.out.below HB3.out (Nat.le_refl _)) hf2 HM.out.2 ok2).mono ?_
    rintro e w4 ⟨i2, rfl, lb2, be4⟩
    have hi2n : i2 ≤ n := by have := lb2.le; have := HL.out; omega
    obtain ⟨hasTo, hTo⟩ : ∃ t, decide (i2 < n ∧ cmpM (ks.getD i2 im0) ⟨K2, N2, F2, Z2⟩ = 0) = t := ⟨_, rfl⟩
    rw [hTo]
    obtain ⟨en, hen, hsp⟩ : ∃ en, (if hasTo = true then i2 + 1 else i2) = en ∧ SpanAt ks (⟨K1, N1, F1, Z1⟩, ⟨K2, N2, F2, Z2⟩) f en := by
     refine ⟨_, rfl, HSa.out f i2 _ HLB1.out lb2 ?_⟩
     rw [← hTo]
     by_cases q : i2 < n ∧ cmpM (ks.getD i2 im0) ⟨K2, N2, F2, Z2⟩ = 0
     · rw [decide_eq_true q, if_pos rfl, if_pos (by rw [HL.out]; exact q)]
     · rw [decide_eq_false q, if_neg (by simp), if_neg (by rw [HL.out]; exact q)]
    have HST := hid (HSt.out f en hsp)
    have henn : en ≤ n := by have := hsp.en; have := HL.out; omega
    have HEn := hid hen
    have HB4 := hid (HB3.out.trans (be4.mono HB3.out.size))
    have HO4 := hid (owns_below be4 (Nat.le_refl _) HO3.out)
    clear lb2 be4 hTo hsp HB3 HO3 HLB1 HSt HSa hen
    obtain ⟨mx, hmx⟩ : ∃ mx, max nx f = mx := ⟨_, rfl⟩
    have hmx1 : max (nx : Int) (f : Int) = (mx : Int) := by omega
    rw [hmx] at HST
    have hmxn : mx ≤ n := by omega
    have hkx : k ≤ mx := by omega
    have HMx := hid hmx
    clear hmx
    have hgo : hasTo = true ∨ hasTo = false := by cases hasTo <;> simp
    cases hasTo with
    | true =>
     have he1 : (i2 : Int) + 1 = (en : Int) := by have := HEn.out; simp at this; omega
     go_wp2_with fail
     clear hmx1
     go_loopw [6, 7] (fun s6 s7 wq => ∃ (cur : Nat) (b' : Option Addr) (k' cc' : Nat), s7 = .int .i64 cur ∧ s6 = .slice b' k' cc' ∧ mx ≤ cur ∧ (cur ≤ en ∨ cur = mx) ∧ cur ≤ n ∧ Hid (k' = k + (cur - mx)) ∧ k' ≤ cur ∧ Hid (wq.ownsRow w2.heap.size 3 1 (.slice b' k' cc') k' (ins (nI (P ++ List.range' mx (cur - mx))))) ∧ Hid (Below w2.heap.size w2 wq)) (fun _ s _ => en - (intOf s).toNat)
     case atStart => exact ⟨mx, b, k, cc, rfl, rfl, Nat.le_refl _, .inr rfl, hmxn, hid (by omega), hkx, hid (by rw [Nat.sub_self]; simpa using HO4.out), HB4⟩
     case round =>
      obtain ⟨cur, b', k', cc', rfl, rfl, hmc, hce, hcn, HKe, hkc, HOw, HBw⟩ := hrel
      obtain ⟨wo, hwo⟩ : ∃ wo, wo = wr := ⟨_, rfl⟩
      subst hwo
      by_cases hlc : cur < en
      · have hlc' : (cur : Int) < (en : Int) := by omega
        have bA := Below.alloc1 wo (.cells #[.int .i64 cur] 3)
        have HA1 := hid (heap_alloc_new wo (.cells #[.int .i64 cur] 3))
        have OA := hid (owns_below bA (Nat.le_refl _) HOw.out)
        have BA := hid (HBw.out.trans (bA.mono HBw.out.size))
        clear bA HOw
        go_wp2_with (at_builtin; refine wpList_append_row rfl _ _ 29 rfl w2.heap.size 3 i0 (.int .i64 0) 1 8 Tryz.underlying29 hinf hz0 hz1 hz2 rfl (by decide) _ k' _ rfl OA.out (some ⟨wo.heap.size, 0, none⟩) 1 1 [.int .i64 cur] rfl rfl (.inr ⟨_, rfl, World.news_of_block HA1.out⟩) (fun e => by cases e) ?q1 ?q2 ?q3 ?q4 ?_)
        case q1 => simp [Value.oneCell']
        case q2 => unfold maxLen; omega
        case q3 => omega
        case q4 => exact BA.out.size
        intro a5 c5 w5 o5 hg5
        have O5 := hid (show w5.ownsRow w2.heap.size 3 1 (.slice a5 (k' + 1) c5) (k' + 1) (ins (nI (P ++ List.range' mx (cur + 1 - mx)))) by
         rw [show cur + 1 - mx = (cur - mx) + 1 by omega, range'_snoc, show mx + (cur - mx) = cur by omega, ← List.append_assoc, nI_app, ins_append]
         exact o5)
        have B5 := hid (BA.out.grown hg5 BA.out.size (fun r e => (OA.out.lt r e).1))
        clear o5 hg5
        go_wp2_with fail
        go_roundw
        case rel => exact ⟨cur + 1, a5, k' + 1, c5, by go_num, rfl, by omega, .inl (by omega), by omega, hid (by have := HKe.out; omega), by omega, O5, B5⟩
        case measure => simp [intOf]; omega
      · have hlc' : ¬ (cur : Int) < (en : Int) := by omega
        have HFn := hid (show Far ks R (j + 1) cur (P ++ List.range' mx (cur - mx)) by
         have hm := HMx.out
         by_cases q : mx < en
         · have : cur = en := by omega
           subst this
           exact HST.out.2 q
         · have : cur = mx := by omega
           subst this
           rw [Nat.sub_self]
           simpa using HST.out.1 (by omega))
        have HPn := hid (show (P ++ List.range' mx (cur - mx)).length = k' by rw [List.length_append, HPl.out, List.length_range', HKe.out])
        go_wp2_with fail
        go_roundw
        case rel => exact ⟨j + 1, cur, b', k', cc', P ++ List.range' mx (cur - mx), by omega, by go_num, rfl, rfl, hcn, hkc, HPn, HFn, HOw, HBw⟩
        case measure => simp [intOf]; omega
    | false =>
     obtain rfl : i2 = en := by have := HEn.out; simpa using this
     go_wp2_with fail
     clear hmx1
     go_loopw [6, 7] (fun s6 s7 wq => ∃ (cur : Nat) (b' : Option Addr) (k' cc' : Nat), s7 = .int .i64 cur ∧ s6 = .slice b' k' cc' ∧ mx ≤ cur ∧ (cur ≤ i2 ∨ cur = mx) ∧ cur ≤ n ∧ Hid (k' = k + (cur - mx)) ∧ k' ≤ cur ∧ Hid (wq.ownsRow w2.heap.size 3 1 (.slice b' k' cc') k' (ins (nI (P ++ List.range' mx (cur - mx))))) ∧ Hid (Below w2.heap.size w2 wq)) (fun _ s _ => i2 - (intOf s).toNat)
     case atStart => exact ⟨mx, b, k, cc, rfl, rfl, Nat.le_refl _, .inr rfl, hmxn, hid (by omega), hkx, hid (by rw [Nat.sub_self]; simpa using HO4.out), HB4⟩
     case round =>
      obtain ⟨cur, b', k', cc', rfl, rfl, hmc, hce, hcn, HKe, hkc, HOw, HBw⟩ := hrel
      obtain ⟨wo, hwo⟩ : ∃ wo, wo = wr := ⟨_, rfl⟩
      subst hwo
      by_cases hlc : cur < i2
      · have hlc' : (cur : Int) < (i2 : Int) := by omega
        have bA := Below.alloc1 wo (.cells #[.int .i64 cur] 3)
        have HA1 := hid (heap_alloc_new wo (.cells #[.int .i64 cur] 3))
        have OA := hid (owns_below bA (Nat.le_refl _) HOw.out)
        have BA := hid (HBw.out.trans (bA.mono HBw.out.size))
        clear bA HOw
        go_wp2_with (at_builtin; refine wpList_append_row rfl _ _ 29 rfl w2.heap.size 3 i0 (.int .i64 0) 1 8 Tryz.underlying29 hinf hz0 hz1 hz2 rfl (by decide) _ k' _ rfl OA.out (some ⟨wo.heap.size, 0, none⟩) 1 1 [.int .i64 cur] rfl rfl (.inr ⟨_, rfl, World.news_of_block HA1.out⟩) (fun e => by cases e) ?q1 ?q2 ?q3 ?q4 ?_)
        case q1 => simp [Value.oneCell']
        case q2 => unfold maxLen; omega
        case q3 => omega
        case q4 => exact BA.out.size
        intro a5 c5 w5 o5 hg5
        have O5 := hid (show w5.ownsRow w2.heap.size 3 1 (.slice a5 (k' + 1) c5) (k' + 1) (ins (nI (P ++ List.range' mx (cur + 1 - mx)))) by
         rw [show cur + 1 - mx = (cur - mx) + 1 by omega, range'_snoc, show mx + (cur - mx) = cur by omega, ← List.append_assoc, nI_app, ins_append]
         exact o5)
        have B5 := hid (BA.out.grown hg5 BA.out.size (fun r e => (OA.out.lt r e).1))
        clear o5 hg5
        go_wp2_with fail
        go_roundw
        case rel => exact ⟨cur + 1, a5, k' + 1, c5, by go_num, rfl, by omega, .inl (by omega), by omega, hid (by have := HKe.out; omega), by omega, O5, B5⟩
        case measure => simp [intOf]; omega
      · have hlc' : ¬ (cur : Int) < (i2 : Int) := by omega
        have HFn := hid (show Far ks R (j + 1) cur (P ++ List.range' mx (cur - mx)) by
         have hm := HMx.out
         by_cases q : mx < i2
         · have : cur = i2 := by omega
           subst this
           exact HST.out.2 q
         · have : cur = mx := by omega
           subst this
           rw [Nat.sub_self]
           simpa using HST.out.1 (by omega))
        have HPn := hid (show (P ++ List.range' mx (cur - mx)).length = k' by rw [List.length_append, HPl.out, List.length_range', HKe.out])
        go_wp2_with fail
        go_roundw
        case rel => exact ⟨j + 1, cur, b', k', cc', P ++ List.range' mx (cur - mx), by omega, by go_num, rfl, rfl, hcn, hkc, HPn, HFn, HOw, HBw⟩
        case measure => simp [intOf]; omega
  · have hlt' : ¬ (j : Int) < (n' : Int) := by omega
    obtain rfl : j = n' := by omega
    have hfa := HFa.out
    rw [← HRl.out] at hfa
    have HE := hid (hfa.done HPr.out)
    clear hfa
    go_wp2_with fail
    go_ret
    refine ⟨b, k, cc, rfl, ?_, ?_, B2.out.trans (HB.out.mono B2.out.size)⟩
    · rw [← HE.out]; exact HPl.out
    · rw [← HE.out]; exact owns_lower HO.out B2.out.size
end Go.Proofs.YtnbpblephmjfnaaGreat
/- Uses of keys in memory: a row of pairs of lists, each in memory of its own. No conditions. -/


namespace Go.Proofs.YtnbpblephmjfnaaGreat
open Go.RowKit
set_option maxRecDepth 100000
theorem wpList_append_at {P : Program} {w : World} {ops : Array Oper} {rest : List Oper} {o : Oper} {a : Act} {Q : Exit → Act → World → Prop} (hgd : o.guard = none) (s x : Operand) (t : TypeId)
 (ho : o.op = .call { callee := .builtin .append, args := #[s, x], argTypes := #[t, t] })
 (base : Nat) (e : TypeId) (i : TypeInfo) (z : Value) (size bytes : Nat) (ht : P.underlying t = some (.slice e)) (hi : P.info? e = some i) (hz : i.zero = some z)
 (hsize : i.size = size) (hby : i.bytes = bytes) (hzs : z.cells.size = size) (hsz : 0 < size)
 (v : Value) (n : Nat) (xs : List Value) (hs : a.eval s = v) (hown : w.ownsRow base e size v n xs)
 (ad : Addr) (m c : Nat) (news : List Value) (hx : a.eval x = .slice (some ad) m c) (hl : news.length = m * size) (hnews : ∀ j u, news[j]? = some u → w.cell? (ad.add j) = some u) (h1 : ∀ u ∈ news, u.oneCell' = true)
 (h63 : n + m ≤ maxLen) (hbytes : (n + m) * bytes ≤ 140737488355328) (hbase : base ≤ w.heap.size)
 (h : ∀ a' cap w', w'.ownsRow base e size (.slice a' (n + m) cap) (n + m) (xs ++ news) → w.grownBy w' v.ownBlock → ((Value.slice a' (n + m) cap).ownBlock = v.ownBlock ∨ (Value.slice a' (n + m) cap).ownBlock = some w.heap.size) → wpList P ops Q rest (a.put o.dst (.slice a' (n + m) cap)) w') : wpList P ops Q (o :: rest) a w := by
 refine wpList_plain hgd fun K' hK' => ?_
 obtain ⟨v', w', hr, h2, h3, _, h5⟩ := run_append_own_at (P := P) w base t o.type e i z size bytes ht hi hz hsize hby hzs hsz v n xs hown ad m c news hl hnews h1 h63 hbytes hbase
 obtain ⟨a', c', rfl⟩ := own_sl h2
 unfold Oper.wp execOp
 simp only [ho, resolve, invoke, builtin, Sem.run_bind, Sem.run_pure, Result.andThen_ok, List.map_toArray, List.map_cons, List.map_nil, hs, hx, hr]
 exact hK' _ _ (h a' c' w' h2 h3 h5)
theorem row_set {w : World} {base g n c s : Nat} {t : TypeId} {xs : List Value} (o : w.ownsRow base t s (.slice (some ⟨g, 0, none⟩) n c) n xs) {j : Nat} (hj : j < n * s) (v : Value) : (w.setCell ⟨g, j, none⟩ v).ownsRow base t s (.slice (some ⟨g, 0, none⟩) n c) n (xs.set j v) := by
 obtain ⟨rest, hr, hl, hc, hm, hb⟩ := owns_blk o
 have h1 := heap_setCell_same w g j _ t v hr
 rw [List.setIfInBounds_toArray, List.set_append_left _ _ (by rw [o.1]; exact hj)] at h1
 exact blk_owns h1 (by rw [List.length_set]; exact o.1) (by rw [List.length_append, List.length_set, ← List.length_append]; exact hl) hc hm hb
theorem grown_set (w : World) (g j : Nat) (v : Value) : w.grownBy (w.setCell ⟨g, j, none⟩ v) (some g) := by
 have k := Keeps.set (X := fun b => b = g) w (p := ⟨g, j, none⟩) rfl v
 exact ⟨k.os, k.tape, k.output, k.size, fun i hi hne => k.block i hi (fun e => hne (by rw [e]))⟩
def upd {α : Type} (f : Nat → α) (q : Nat) (v : α) : Nat → α := fun i => if i = q then v else f i
theorem upd_same {α : Type} (f : Nat → α) (q : Nat) (v : α) : upd f q v q = v := by simp [upd]
theorem upd_other {α : Type} (f : Nat → α) {q i : Nat} (v : α) (h : i ≠ q) : upd f q v i = f i := by simp [upd, h]
theorem map_upd {α : Type} (f : Nat → α) (q : Nat) (v : α) (m : Nat) : (List.range m).map (upd f q v) = ((List.range m).map f).set q v := by
 apply List.ext_getElem?
 intro i
 rw [List.getElem?_set]
 by_cases hi : i < m
 · by_cases e : q = i
   · subst e; simp [hi, upd]
   · have : ¬ i = q := fun x => e x.symm
     simp [hi, upd, e, this]
 · by_cases e : q = i
   · subst e; simp [hi]
   · simp [hi, e]
structure OwnU (w : World) (base g n cap : Nat) (X : Nat → Value) (L : Nat → List Nat) : Prop where
 row : w.ownsRow base 91 2 (.slice (some ⟨g, 0, none⟩) n cap) n ((List.range (n * 2)).map X)
 own : ∀ q, q < n * 2 → w.ownsRow base 3 1 (X q) (L q).length (ins (nI (L q)))
 apart : ∀ q r, q < n * 2 → r < n * 2 → q ≠ r → ∀ b, (X q).ownBlock = some b → (X r).ownBlock ≠ some b
section
variable {w w' : World} {base g n cap : Nat} {X : Nat → Value} {L : Nat → List Nat}
theorem OwnU.below (h : OwnU w base g n cap X L) (hb : Below w.heap.size w w') : OwnU w' base g n cap X L :=
 ⟨owns_below hb (Nat.le_refl _) h.row, fun q hq => owns_below hb (Nat.le_refl _) (h.own q hq), h.apart⟩
theorem OwnU.cell (h : OwnU w base g n cap X L) {q : Nat} (hq : q < n * 2) : w.cell? ⟨g, q, none⟩ = some (X q) := by
 rw [h.row.cellAt q hq]; simp [hq]
theorem OwnU.slice (h : OwnU w base g n cap X L) {q : Nat} (hq : q < n * 2) : ∃ a c, X q = .slice a (L q).length c := own_sl (h.own q hq)
theorem OwnU.congr (h : OwnU w base g n cap X L) {L' : Nat → List Nat} (e : ∀ q, q < n * 2 → L' q = L q) : OwnU w base g n cap X L' :=
 ⟨h.row, fun q hq => by rw [e q hq]; exact h.own q hq, h.apart⟩
theorem OwnU.off (h : OwnU w base g n cap X L) {q : Nat} (hq : q < n * 2) : (X q).ownBlock ≠ some g := by
 intro e
 rcases owns_ne (h.own q hq) h.row (by decide) with e1 | e1
 · rw [e1] at e; cases e
 · exact e1 (by rw [e]; rfl)
theorem OwnU.add (h : OwnU w base g n cap X L) {q : Nat} (hq : q < n * 2) {v' : Value} {p : Nat} (o : w'.ownsRow base 3 1 v' ((L q).length + 1) (ins (nI (L q)) ++ [.int .i64 (p : Int)])) (gr : w.grownBy w' (X q).ownBlock) (hb : v'.ownBlock = (X q).ownBlock ∨ v'.ownBlock = some w.heap.size) :
 OwnU (w'.setCell ⟨g, q, none⟩ v') base g n cap (upd X q v') (upd L q (L q ++ [p])) := by
 have hgs := grown_set w' g q v'
 have r1 := h.row.kept gr (owns_ne h.row (h.own q hq) (by decide))
 have hvg : v'.ownBlock ≠ some g := by
  intro e
  rcases owns_ne o r1 (by decide) with e1 | e1
  · rw [e1] at e; cases e
  · exact e1 (by rw [e]; rfl)
 refine ⟨?_, ?_, ?_⟩
 · rw [map_upd]; exact row_set r1 hq v'
 · intro r hr
   by_cases e : r = q
   · subst e
     rw [upd_same, upd_same, List.length_append, nI_app, ins_append]
     exact o.kept hgs (.inr hvg)
   · rw [upd_other _ _ e, upd_other _ _ e]
     have k1 := (h.own r hr).kept gr (by
      cases hx : (X r).ownBlock with
      | none => exact .inl rfl
      | some b => exact .inr (fun e2 => h.apart r q hr hq e b hx e2.symm))
     exact k1.kept hgs (.inr (h.off hr))
 · have hnew : ∀ r, r < n * 2 → r ≠ q → ∀ b, (X r).ownBlock = some b → v'.ownBlock ≠ some b := by
    intro r hr hne b hb' e
    rcases hb with hb | hb
    · exact h.apart r q hr hq hne b hb' (hb ▸ e)
    · rw [hb] at e
      have := ((h.own r hr).lt b hb').2
      have e2 : w.heap.size = b := Option.some.inj e
      omega
   intro r s hr hs hne b hb1 hb2
   by_cases e1 : r = q
   · subst e1
     rw [upd_same] at hb1
     rw [upd_other _ _ (fun e => hne e.symm)] at hb2
     exact hnew s hs (fun e => hne e.symm) b hb2 hb1
   · rw [upd_other _ _ e1] at hb1
     by_cases e2 : s = q
     · subst e2
       rw [upd_same] at hb2
       exact hnew r hr e1 b hb1 hb2
     · rw [upd_other _ _ e2] at hb2
       exact h.apart r s hr hs hne b hb1 hb2
end
end Go.Proofs.YtnbpblephmjfnaaGreat
/- Who writes and who reads each key: plain, and the contract of the program's usesOf. Conditions: the deeds are right. -/

namespace Go.Proofs.YtnbpblephmjfnaaGreat
open Go.RowKit
set_option maxRecDepth 100000
def dupM (ws : List Im) : List (Im × Im) := ws.map (fun x => (x, x))
def wrB (t : Tk) (x : Im) : Bool := anyS (dupM t.ws) x
def rdB (t : Tk) (x : Im) : Bool := anyS t.rs x
def useB (ts : List Tk) (ks : List Im) (q p : Nat) : Bool := if q % 2 = 0 then wrB (ts.getD p tk0) (ks.getD (q / 2) im0) else rdB (ts.getD p tk0) (ks.getD (q / 2) im0)
def useL (ts : List Tk) (ks : List Im) (k q : Nat) : List Nat := (List.range k).filter (useB ts ks q)
theorem useL_len (ts : List Tk) (ks : List Im) (k q : Nat) : (useL ts ks k q).length ≤ k := by
 unfold useL
 exact Nat.le_trans (List.length_filter_le _ _) (by simp)
theorem filter_snoc14 (f : Nat → Bool) (k : Nat) : (List.range (k + 1)).filter f = (List.range k).filter f ++ (if f k = true then [k] else []) := by
 rw [List.range_succ, List.filter_append]
 congr 1
 cases h : f k <;> simp [h]
theorem useL_succ (ts : List Tk) (ks : List Im) (k q : Nat) : useL ts ks (k + 1) q = useL ts ks k q ++ (if useB ts ks q k = true then [k] else []) := filter_snoc14 _ _
def addL (L : Nat → List Nat) (s : Nat) (P : List Nat) (k : Nat) : Nat → List Nat := fun q => if q % 2 = s ∧ q / 2 ∈ P then L q ++ [k] else L q
theorem addL_nil (L : Nat → List Nat) (s k : Nat) : addL L s [] k = L := by funext q; simp [addL]
theorem addL_step (L : Nat → List Nat) (s : Nat) (hs : s < 2) (P : List Nat) (k x : Nat) (hx : x ∉ P) : addL L s (P ++ [x]) k = upd (addL L s P k) (x * 2 + s) (addL L s P k (x * 2 + s) ++ [k]) := by
 funext q
 by_cases e : q = x * 2 + s
 · subst e
   rw [upd_same]
   have e1 : (x * 2 + s) % 2 = s := by omega
   have e2 : (x * 2 + s) / 2 = x := by omega
   unfold addL
   rw [e1, e2, if_pos ⟨rfl, by simp⟩, if_neg (fun q => hx q.2)]
 · rw [upd_other _ _ e]
   unfold addL
   by_cases e1 : q % 2 = s ∧ q / 2 ∈ P
   · rw [if_pos e1, if_pos ⟨e1.1, by simp [e1.2]⟩]
   · rw [if_neg e1, if_neg]
     rintro ⟨h1, h2⟩
     rcases List.mem_append.1 h2 with h2 | h2
     · exact e1 ⟨h1, h2⟩
     · have : q / 2 = x := by simpa using h2
       omega
theorem plS_mem {ks : List Im} {rs : List (Im × Im)} {i : Nat} (hi : i < ks.length) : i ∈ plS ks rs ↔ anyS rs (ks.getD i im0) = true := by
 unfold plS
 rw [List.mem_filter, List.mem_range]
 exact ⟨fun h => h.2, fun h => ⟨hi, h⟩⟩
theorem plS_lt {ks : List Im} {rs : List (Im × Im)} {i : Nat} (h : i ∈ plS ks rs) : i < ks.length := by
 unfold plS at h
 rw [List.mem_filter, List.mem_range] at h
 exact h.1
theorem plS_nodup (ks : List Im) (rs : List (Im × Im)) : (plS ks rs).Nodup := by
 unfold plS
 exact List.nodup_range.sublist List.filter_sublist
theorem take_nat (P : List Nat) {t : Nat} (h : t < P.length) : P.take (t + 1) = P.take t ++ [P.getD t 0] := by
 rw [List.take_succ_eq_append_getElem h]; simp [List.getD, h]
theorem nodup_at {P : List Nat} (h : P.Nodup) {t : Nat} (ht : t < P.length) : P.getD t 0 ∉ P.take t := by
 have h1 : (P.take (t + 1)).Nodup := h.sublist (List.take_sublist _ _)
 rw [take_nat P ht, List.nodup_append] at h1
 exact fun q => h1.2.2 _ q _ (by simp) rfl
theorem use_done (ts : List Tk) (ks : List Im) (k q : Nat) (hq : q < ks.length * 2) : addL (addL (useL ts ks k) 0 (plS ks (dupM (ts.getD k tk0).ws)) k) 1 (plS ks (ts.getD k tk0).rs) k q = useL ts ks (k + 1) q := by
 rw [useL_succ]
 have hq2 : q / 2 < ks.length := by omega
 rcases Nat.mod_two_eq_zero_or_one q with e | e
 · have hu : useB ts ks q k = anyS (dupM (ts.getD k tk0).ws) (ks.getD (q / 2) im0) := by unfold useB; rw [if_pos e]; rfl
   rw [hu]
   unfold addL
   rw [if_neg (fun x => by omega)]
   by_cases h : q / 2 ∈ plS ks (dupM (ts.getD k tk0).ws)
   · rw [if_pos ⟨e, h⟩, if_pos ((plS_mem hq2).1 h)]
   · rw [if_neg (fun x => h x.2), if_neg (fun x => h ((plS_mem hq2).2 x)), List.append_nil]
 · have hu : useB ts ks q k = anyS (ts.getD k tk0).rs (ks.getD (q / 2) im0) := by unfold useB; rw [if_neg (by omega)]; rfl
   rw [hu]
   unfold addL
   rw [if_neg (fun x => by omega : ¬ (q % 2 = 0 ∧ q / 2 ∈ plS ks (dupM (ts.getD k tk0).ws)))]
   by_cases h : q / 2 ∈ plS ks (ts.getD k tk0).rs
   · rw [if_pos ⟨e, h⟩, if_pos ((plS_mem hq2).1 h)]
   · rw [if_neg (fun x => h x.2), if_neg (fun x => h ((plS_mem hq2).2 x)), List.append_nil]
theorem dupM_ok {ws : List Im} (h : ∀ x ∈ ws, okM x = true) : ∀ p ∈ dupM ws, spB p = true := by
 intro p hp
 obtain ⟨x, hx, rfl⟩ := List.mem_map.1 hp
 unfold spB
 rw [h x hx, cmpM_self (h x hx)]; rfl
theorem Tryz.infoU14 : (Tryz.prog.info? 91).map (fun i => (i.zero, i.size, i.bytes)) = some (some (.agg #[.slice none 0 0, .slice none 0 0]), 2, 48) := by kernel_rfl
theorem madeU (n : Nat) : (madeCells #[.slice none 0 0, .slice none 0 0] (n * 2)).toList = (List.range (n * 2)).map (fun _ => nilS) := by
 simp only [madeCells, Array.toList_map, Array.toList_range]
 refine List.map_congr_left (fun i _ => ?_)
 have : i % 2 < 2 := Nat.mod_lt _ (by omega)
 show (#[(Value.slice none 0 0), .slice none 0 0][i % 2]! : Value) = nilS
 generalize i % 2 = j at this
 rcases j with _ | _ | j
 · rfl
 · rfl
 · omega
theorem OwnU.kept_cell {w w' : World} {base g n cap : Nat} {X : Nat → Value} {L : Nat → List Nat} (h : OwnU w base g n cap X L) {q : Nat} (hq : q < n * 2) (gr : w.grownBy w' (X q).ownBlock) : w'.cell? ⟨g, q, none⟩ = some (X q) ∧ w'.frozen? ⟨g, q, none⟩ = false := by
 have r1 := h.row.kept gr (owns_ne h.row (h.own q hq) (by decide))
 refine ⟨by rw [r1.cellAt q hq]; simp [hq], ?_⟩
 obtain ⟨rest, hr, _⟩ := owns_blk r1
 exact frozen_of_row _ _ _ _ _ hr
end Go.Proofs.YtnbpblephmjfnaaGreat
