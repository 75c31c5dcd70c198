/- The keys that deeds write, ascending, each once: plain, and the contract of the program's writtenKeys. Conditions: at most 100 deeds of at most 200 writes that are keys. -/
import Derived.Test.YtecdnheopmojfaaGreatHi14
import Derived.Test.YtecdnheopmojfaaGreatHa14
import Derived.Test.YtecdnheopmojfaaGreatMga
namespace Go.Proofs.YtecdnheopmojfaaGreat
open Go.RowKit
set_option maxRecDepth 100000
theorem getD_q (d : List Qi) {i : Nat} (h : i < d.length) : d.getD i qi0 ∈ d := by
 rw [show d.getD i qi0 = d[i] by simp [List.getD, h]]; exact List.getElem_mem h
theorem mem_q {d : List Qi} {x : Qi} (h : x ∈ d) : ∃ i, i < d.length ∧ d.getD i qi0 = x := by
 obtain ⟨i, hi, rfl⟩ := List.getElem_of_mem h
 exact ⟨i, hi, by simp [List.getD, hi]⟩
theorem cpQ_sub {d : List Qi} {m : Nat} (hm : m ≤ d.length) : ∀ y ∈ cpQ d m, y ∈ d := by
 intro y hy
 unfold cpQ at hy
 obtain ⟨i, hi, rfl⟩ := List.mem_map.1 hy
 rw [List.mem_filter, List.mem_range] at hi
 exact getD_q d (by omega)
theorem sorted_at {d : List Qi} (hs : d.Pairwise (fun x y => cmpM x.e y.e ≤ 0)) {i j : Nat} (hij : i < j) (hj : j < d.length) : cmpM (d.getD i qi0).e (d.getD j qi0).e ≤ 0 := by
 have := (List.pairwise_iff_getElem.1 hs) i j (by omega) hj hij
 simpa [List.getD, hj, show i < d.length by omega] using this
theorem cpQ_good {d : List Qi} (ok : ∀ q ∈ d, okM q.e = true) (hs : d.Pairwise (fun x y => cmpM x.e y.e ≤ 0)) : ∀ m, m ≤ d.length →
 (cpQ d m).Pairwise (fun x y => cmpM x.e y.e < 0) ∧ (∀ i, i < m → ∃ y ∈ cpQ d m, cmpM y.e (d.getD i qi0).e = 0) ∧ ∀ y ∈ cpQ d m, cmpM y.e (d.getD (m - 1) qi0).e ≤ 0
 | 0, _ => ⟨by unfold cpQ; simp, fun i hi => by omega, fun y hy => by unfold cpQ at hy; simp at hy⟩
 | m + 1, hm => by
  obtain ⟨h1, h2, h3⟩ := cpQ_good ok hs m (by omega)
  have om := ok _ (getD_q d (i := m) (by omega))
  rw [cpQ_succ, Nat.add_sub_cancel]
  have hle : ∀ y ∈ cpQ d m, cmpM y.e (d.getD m qi0).e ≤ 0 := by
   intro y hy
   have oy := ok _ (cpQ_sub (by omega) y hy)
   by_cases m0 : m = 0
   · subst m0; unfold cpQ at hy; simp at hy
   · exact cmpM_le_trans oy (ok _ (getD_q d (i := m - 1) (by omega))) om (h3 y hy) (sorted_at hs (by omega) (by omega))
  by_cases hk : kpQ d m = true
  · rw [if_pos hk]
    refine ⟨?_, ?_, ?_⟩
    · rw [List.pairwise_append]
      refine ⟨h1, List.pairwise_singleton _ _, fun y hy z hz => ?_⟩
      obtain rfl : z = d.getD m qi0 := by simpa using hz
      have oy := ok _ (cpQ_sub (by omega) y hy)
      unfold kpQ at hk
      rw [Bool.or_eq_true, decide_eq_true_iff, decide_eq_true_iff] at hk
      have m0 : m ≠ 0 := fun e => by subst e; unfold cpQ at hy; simp at hy
      have hne : cmpM (d.getD m qi0).e (d.getD (m - 1) qi0).e ≠ 0 := hk.resolve_left m0
      have op := ok _ (getD_q d (i := m - 1) (by omega))
      have h5 := sorted_at hs (i := m - 1) (j := m) (by omega) (by omega)
      have h6 := cmpM_anti op om
      exact cmpM_le_lt oy op om (h3 y hy) (by omega)
    · intro i hi
      by_cases e : i = m
      · subst e; exact ⟨_, by simp, cmpM_self om⟩
      · obtain ⟨y, hy, e⟩ := h2 i (by omega)
        exact ⟨y, List.mem_append.2 (.inl hy), e⟩
    · intro y hy
      rcases List.mem_append.1 hy with hy | hy
      · exact hle y hy
      · obtain rfl : y = d.getD m qi0 := by simpa using hy
        rw [cmpM_self om]; omega
  · rw [if_neg hk, List.append_nil]
    refine ⟨h1, ?_, hle⟩
    intro i hi
    by_cases e : i = m
    · subst e
      unfold kpQ at hk
      rw [Bool.or_eq_true, decide_eq_true_iff, decide_eq_true_iff] at hk
      have m0 : i ≠ 0 := fun e => hk (.inl e)
      have hz : cmpM (d.getD i qi0).e (d.getD (i - 1) qi0).e = 0 := by
       by_cases q : cmpM (d.getD i qi0).e (d.getD (i - 1) qi0).e = 0
       · exact q
       · exact absurd (.inr q) hk
      obtain ⟨y, hy, e⟩ := h2 (i - 1) (by omega)
      have oy := ok _ (cpQ_sub (by omega) y hy)
      have op := ok _ (getD_q d (i := i - 1) (by omega))
      refine ⟨y, hy, ?_⟩
      rw [cmpM_eq oy op om e]
      have := cmpM_anti om op
      omega
    · exact h2 i (by omega)
structure KeysOf (ts : List Tk) (ks : List Im) : Prop where
 ok : ∀ x ∈ ks, okM x = true
 asc : ks.Pairwise (fun x y => cmpM x y < 0)
 cov : ∀ t ∈ ts, ∀ x ∈ t.ws, ∃ y ∈ ks, cmpM y x = 0
 frm : ∀ y ∈ ks, ∃ t ∈ ts, y ∈ t.ws
theorem keys_of {ts : List Tk} {q d : List Qi} (hq : q.map (·.e) = ts.flatMap (·.ws)) (ok : ∀ x ∈ q, okM x.e = true) (hp : d.Perm q) (hs : d.Pairwise (fun x y => cmpM x.e y.e ≤ 0)) : KeysOf ts ((cpQ d d.length).map (·.e)) := by
 have okd : ∀ x ∈ d, okM x.e = true := fun x hx => ok x (hp.mem_iff.1 hx)
 obtain ⟨h1, h2, -⟩ := cpQ_good okd hs d.length (Nat.le_refl _)
 refine ⟨?_, ?_, ?_, ?_⟩
 · intro x hx
   obtain ⟨y, hy, rfl⟩ := List.mem_map.1 hx
   exact okd _ (cpQ_sub (Nat.le_refl _) y hy)
 · rw [List.pairwise_map]; exact h1
 · intro t ht x hx
   have : x ∈ q.map (·.e) := by rw [hq]; exact List.mem_flatMap.2 ⟨t, ht, hx⟩
   obtain ⟨y, hy, rfl⟩ := List.mem_map.1 this
   obtain ⟨i, hi, e⟩ := mem_q (hp.mem_iff.2 hy)
   obtain ⟨z, hz, e2⟩ := h2 i hi
   rw [e] at e2
   exact ⟨z.e, List.mem_map.2 ⟨z, hz, rfl⟩, e2⟩
 · intro y hy
   obtain ⟨z, hz, rfl⟩ := List.mem_map.1 hy
   have h5 : z ∈ q := hp.mem_iff.1 (cpQ_sub (Nat.le_refl _) z hz)
   have : z.e ∈ ts.flatMap (·.ws) := by rw [← hq]; exact List.mem_map.2 ⟨z, h5, rfl⟩
   exact List.mem_flatMap.1 this
def RdV (w : World) (ad : Option Addr) (ts : List Tk) : Prop := ∀ k, k < ts.length → ∃ b off a c a' c', ad = some ⟨b, off, none⟩ ∧ Box5 w b (off + k * 5) (ts.getD k tk0) (.slice a (ts.getD k tk0).rs.length c) (.slice a' (ts.getD k tk0).ws.length c') ∧ ReadsM w a (fl2 (ts.getD k tk0).rs) ∧ ReadsM w a' (ts.getD k tk0).ws ∧ (a = none → c = 0) ∧ (a' = none → c' = 0)
theorem RdV.below {w w' : World} {ad : Option Addr} {ts : List Tk} (h : RdV w ad ts) {B : Nat} (hb : Below B w w') (hB : w.heap.size ≤ B) : RdV w' ad ts := by
 intro k hk
 obtain ⟨b, off, a, c, a', c', e, q, r1, r2, n1, n2⟩ := h k hk
 exact ⟨b, off, a, c, a', c', e, q.below hb hB, r1.below hb hB, r2.below hb hB, n1, n2⟩
theorem own_nil14 {w : World} {base : Nat} {e : TypeId} {s n m c : Nat} {a : Option Addr} {xs : List Value} (o : w.ownsRow base e s (.slice a m c) n xs) : a = none → c = 0 := by
 intro h
 rcases o.2 with ⟨q, _⟩ | ⟨g, cp, cur, q, _⟩
 · obtain ⟨-, -, rfl⟩ := Value.slice.inj q; rfl
 · obtain ⟨rfl, -, -⟩ := Value.slice.inj q; cases h
theorem OwnV.rdv {w : World} {lo hi : Nat} {a : Option Addr} {n c : Nat} {ts : List Tk} (h : OwnV w lo hi (.slice a n c) ts) : RdV w a ts := by
 obtain ⟨ms, hm, o, h1, _⟩ := h.own
 intro i hi
 rcases o.2 with ⟨e, h0⟩ | ⟨g, cap, cur, e, _⟩
 · omega
 · cases e
   have hc := fun j (hj : j < 5) => (o.cellAt (i * 5 + j) (by omega)).trans (cellsV_at ts ms i j hm hi hj)
   have q := h1 i hi
   obtain ⟨a1, c1, e1⟩ := q.rd.slice
   obtain ⟨a2, c2, e2⟩ := q.wr.slice
   have q1 := q.rd
   have q2 := q.wr
   rw [e1] at q1
   rw [e2] at q2
   refine ⟨g, 0, a1, c1, a2, c2, rfl, ⟨?_, ?_, ?_, ?_, ?_⟩, q1.rd, q2.rd, ?_, ?_⟩
   · rw [Nat.zero_add]; exact hc 0 (by omega)
   · rw [Nat.zero_add]; exact hc 1 (by omega)
   · rw [Nat.zero_add]; exact hc 2 (by omega)
   · rw [Nat.zero_add]; have := hc 3 (by omega); simp only [cellsV1, e1] at this; exact this
   · rw [Nat.zero_add]; have := hc 4 (by omega); simp only [cellsV1, e2] at this; exact this
   · exact own_nil14 q1.row
   · exact own_nil14 q2.row
structure RdQ (w : World) (q : Qi) : Prop where
 rd : Reads w q.a q.e.Z.length q.e.Z
 fl : q.e.F < 18446744073709551616
 nil : q.a = none → q.c = 0
 max : q.e.Z.length ≤ maxLen
theorem RdQ.below {w w' : World} {q : Qi} (h : RdQ w q) {B : Nat} (hb : Below B w w') (hB : w.heap.size ≤ B) : RdQ w' q := ⟨h.rd.below hb hB, h.fl, h.nil, h.max⟩
theorem ReadsM.qs {w : World} {ad : Option Addr} : ∀ {es : List Im}, ReadsM w ad es → ∃ qs : List Qi, qs.map (·.e) = es ∧ (∀ q ∈ qs, RdQ w q) ∧ (es.length = 0 ∨ ∃ b off, ad = some ⟨b, off, none⟩ ∧ ∀ j u, (fQ qs)[j]? = some u → w.cell? ⟨b, off + j, none⟩ = some u) := by
 intro es h
 have hex : ∀ k, ∃ q : Qi, k < es.length → ∃ b off, ad = some ⟨b, off, none⟩ ∧ q.e = es.getD k im0 ∧ Box4 w b (off + k * 4) q.e.K q.e.N q.e.F (.slice q.a q.e.Z.length q.c) ∧ RdQ w q := by
  intro k
  by_cases hk : k < es.length
  · obtain ⟨b, off, a, c, e, bx, r, hnl, hmx, hf⟩ := h.at hk
    exact ⟨⟨es.getD k im0, a, c⟩, fun _ => ⟨b, off, e, rfl, bx, r, hf, hnl, hmx⟩⟩
  · exact ⟨qi0, fun q => absurd q hk⟩
 obtain ⟨f, hf⟩ := Classical.axiomOfChoice hex
 have hl : ((List.range es.length).map f).length = es.length := by simp
 refine ⟨(List.range es.length).map f, ?_, ?_, ?_⟩
 · apply List.ext_getElem?
   intro i
   by_cases hi : i < es.length
   · obtain ⟨b, off, _, e, _⟩ := hf i hi
     simp [hi, e, List.getD]
   · simp [hi]
 · intro q hq
   obtain ⟨i, hi, rfl⟩ := List.mem_map.1 hq
   obtain ⟨b, off, _, _, _, r⟩ := hf i (List.mem_range.1 hi)
   exact r
 · by_cases h0 : es.length = 0
   · exact .inl h0
   · obtain ⟨b, off, rfl, -⟩ := hf 0 (by omega)
     refine .inr ⟨b, off, rfl, fun j u hu => ?_⟩
     have hj : j < es.length * 4 := by
      by_cases q : j < (fQ ((List.range es.length).map f)).length
      · rwa [fQ_len, hl] at q
      · rw [List.getElem?_eq_none (by omega)] at hu; cases hu
     have h4 := flat_at encQ 4 encQ_len ((List.range es.length).map f) j (by rw [hl]; exact hj)
     have hq : j / 4 < es.length := by omega
     rw [show ((List.range es.length).map f).getD (j / 4) default = f (j / 4) by simp [List.getD, hq]] at h4
     obtain ⟨b', off', e', _, bx, _⟩ := hf (j / 4) hq
     obtain ⟨rfl, rfl⟩ : b = b' ∧ off = off' := by simpa using e'
     have hu' : (encQ (f (j / 4)))[j % 4]? = some u := by rw [← h4]; exact hu
     have hm : j % 4 < 4 := Nat.mod_lt _ (by omega)
     have hsum : j = j / 4 * 4 + j % 4 := by omega
     generalize j % 4 = r at *
     rw [hsum, ← Nat.add_assoc]
     rcases r with _ | _ | _ | _ | r
     · exact bx.c0.trans hu'
     · exact bx.c1.trans hu'
     · exact bx.c2.trans hu'
     · exact bx.c3.trans hu'
     · omega
theorem own_readsM {w : World} {base : Nat} {t : TypeId} {s n c : Nat} {a : Option Addr} {qs : List Qi} (o : w.ownsRow base t s (.slice a n c) n (fQ qs)) (h : ∀ q ∈ qs, RdQ w q) (hn : qs.length * 4 = n * s) : ReadsM w a (qs.map (·.e)) := by
 refine ⟨?_⟩
 rcases o.2 with ⟨e, h0⟩ | ⟨g, cap, cur, e, _⟩
 · left
   rw [List.length_map]
   rw [h0, Nat.zero_mul] at hn
   omega
 · obtain ⟨rfl, -, rfl⟩ := Value.slice.inj e
   right
   refine ⟨g, 0, rfl, fun i hi => ?_⟩
   rw [List.length_map] at hi
   have hq := h _ (getD_q qs hi)
   have hm : (qs.map (·.e)).getD i im0 = (qs.getD i qi0).e := by simp [List.getD, hi]
   rw [hm]
   obtain ⟨rest, hrow, _⟩ := owns_blk o
   have bx := own_two hrow hi
   rw [Nat.zero_add]
   exact ⟨_, bx, ⟨_, _, rfl, hq.rd, hq.nil, hq.max⟩, hq.fl⟩
end Go.Proofs.YtecdnheopmojfaaGreat
