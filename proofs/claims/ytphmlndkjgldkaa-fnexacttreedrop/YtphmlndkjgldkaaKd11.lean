/- Nodes of a tree, plain and in memory: read, and where their memory is the call's own. No statement of its own; no conditions. -/
import Derived.Test.YtphmlndkjgldkaaKc11
import Derived.Test.YtphmlndkjgldkaaNi
namespace Go.Proofs.Ytphmlndkjgldkaa
open Go.RowKit
set_option maxRecDepth 100000
structure Nd where
 leaf : Bool
 es : List En
 ks : List Int
def nd0 : Nd := ⟨false, [], []⟩
def nilP : Value × Value := (nilS, nilS)
def cellsD1 (d : Nd) (y : Value × Value) : List Value := [.bool d.leaf, y.1, y.2]
def cellsD : List Nd → List (Value × Value) → List Value
 | d :: ds, y :: ys => cellsD1 d y ++ cellsD ds ys
 | _, _ => []
theorem cellsD_nil (ys : List (Value × Value)) : cellsD [] ys = [] := by unfold cellsD; rfl
theorem cellsD_cons (d : Nd) (ds : List Nd) (y : Value × Value) (ys : List (Value × Value)) : cellsD (d :: ds) (y :: ys) = cellsD1 d y ++ cellsD ds ys := by rw [cellsD]
theorem cellsD_len : ∀ (ds : List Nd) (ys : List (Value × Value)), ys.length = ds.length → (cellsD ds ys).length = ds.length * 3
 | [], [], _ => rfl
 | d :: ds, y :: ys, h => by
  have := cellsD_len ds ys (by simpa using h)
  simp only [cellsD, cellsD1, List.length_append, List.length_cons, List.length_nil, this]; omega
theorem cellsD_app : ∀ (ds fs : List Nd) (ys zs : List (Value × Value)), ys.length = ds.length → cellsD (ds ++ fs) (ys ++ zs) = cellsD ds ys ++ cellsD fs zs
 | [], fs, [], zs, _ => rfl
 | d :: ds, fs, y :: ys, zs, h => by
  have := cellsD_app ds fs ys zs (by simpa using h)
  rw [List.cons_append, List.cons_append, cellsD_cons, cellsD_cons, this, List.append_assoc]
theorem cellsD_at : ∀ (ds : List Nd) (ys : List (Value × Value)) (i j : Nat), ys.length = ds.length → i < ds.length → j < 3 → (cellsD ds ys)[i * 3 + j]? = (cellsD1 (ds.getD i nd0) (ys.getD i nilP))[j]?
 | d :: ds, y :: ys, 0, j, _, _, hj => by
  simp only [cellsD, Nat.zero_mul, Nat.zero_add]
  rw [List.getElem?_append_left (by simp [cellsD1]; omega)]
  rfl
 | d :: ds, y :: ys, i + 1, j, h, hi, hj => by
  have := cellsD_at ds ys i j (by simpa using h) (by simpa using hi) hj
  simp only [cellsD]
  rw [List.getElem?_append_right (by simp [cellsD1]; omega), show (i + 1) * 3 + j - (cellsD1 d y).length = i * 3 + j by simp [cellsD1]; omega, this]
  simp only [List.getD_cons_succ]
 | [], _, i, j, _, hi, _ => by cases hi
theorem cellsD_set3 : ∀ (ds : List Nd) (ys : List (Value × Value)) (k : Nat) (d : Nd) (y : Value × Value), ys.length = ds.length → k < ds.length → (((cellsD ds ys).set (k * 3) (.bool d.leaf)).set (k * 3 + 1) y.1).set (k * 3 + 2) y.2 = cellsD (ds.set k d) (ys.set k y)
 | q :: ds, x :: ys, 0, d, y, _, _ => by simp [cellsD, cellsD1]
 | q :: ds, x :: ys, k + 1, d, y, h, hk => by
  have ih := cellsD_set3 ds ys k d y (by simpa using h) (by simpa using hk)
  rw [show (k + 1) * 3 = k * 3 + 3 by omega]
  simp only [cellsD, cellsD1, List.cons_append, List.nil_append, List.set_cons_succ, ← ih]
theorem cellsD_set1 : ∀ (ds : List Nd) (ys : List (Value × Value)) (k : Nat) (d : Nd), ys.length = ds.length → k < ds.length → (cellsD ds ys).set (k * 3) (.bool d.leaf) = cellsD (ds.set k d) ys
 | q :: ds, x :: ys, 0, d, _, _ => by simp [cellsD, cellsD1]
 | q :: ds, x :: ys, k + 1, d, h, hk => by
  have ih := cellsD_set1 ds ys k d (by simpa using h) (by simpa using hk)
  rw [show (k + 1) * 3 = k * 3 + 3 by omega]
  simp only [cellsD, cellsD1, List.cons_append, List.nil_append, List.set_cons_succ, ← ih]
theorem made3n (a b c : Value) : ∀ n : Nat, (madeCells #[a, b, c] (n * 3)).toList = (List.replicate n [a, b, c]).flatten := by
 intro n
 have h : ∀ n : Nat, (madeCells #[a, b, c] (n * 3)).toList = (List.range (n * 3)).map (fun i => #[a, b, c][i % 3]!) := by
  intro n
  simp [madeCells]
 rw [h]
 induction n with
 | zero => rfl
 | succ n ih =>
  rw [show (n + 1) * 3 = n * 3 + 3 by omega, List.range_add, List.map_append, ih, List.replicate_succ', List.flatten_append]
  congr 1
  simp [List.range_succ]
theorem zeroD (n : Nat) : cellsD (List.replicate n nd0) (List.replicate n nilP) = (List.replicate n [Value.bool false, nilS, nilS]).flatten := by
 induction n with
 | zero => rfl
 | succ n ih => rw [List.replicate_succ, List.replicate_succ, cellsD, ih, List.replicate_succ]; rfl
structure ReadsD (w : World) (ad : Option Addr) (ds : List Nd) : Prop where
 cells : ds.length = 0 ∨ ∃ b off, ad = some ⟨b, off, none⟩ ∧ ∀ i, i < ds.length → ∃ a c a' c', w.cell? ⟨b, off + i * 3, none⟩ = some (.bool (ds.getD i nd0).leaf) ∧ w.cell? ⟨b, off + i * 3 + 1, none⟩ = some (.slice a (ds.getD i nd0).es.length c) ∧ w.cell? ⟨b, off + i * 3 + 2, none⟩ = some (.slice a' (ds.getD i nd0).ks.length c') ∧ ReadsE w a (ds.getD i nd0).es ∧ (ds.getD i nd0).es.length ≤ maxLen ∧ ReadsI w a' (ds.getD i nd0).ks.length (ds.getD i nd0).ks ∧ (ds.getD i nd0).ks.length ≤ maxLen
theorem ReadsD.below {w w' : World} {ad : Option Addr} {ds : List Nd} (h : ReadsD w ad ds) {B : Nat} (hb : Below B w w') (hB : w.heap.size ≤ B) : ReadsD w' ad ds := by
 refine ⟨?_⟩
 rcases h.cells with h0 | ⟨b, off, rfl, hc⟩
 · exact .inl h0
 · refine .inr ⟨b, off, rfl, fun i hi => ?_⟩
   obtain ⟨a, c, a', c', h0, h1, h2, h3, h4, h5, h6⟩ := hc i hi
   have hlt := World.block_lt_of_cell? w _ h0
   simp only at hlt
   exact ⟨a, c, a', c', (hb.cell (p := ⟨b, off + i * 3, none⟩) (by simp; omega)).trans h0, (hb.cell (p := ⟨b, off + i * 3 + 1, none⟩) (by simp; omega)).trans h1, (hb.cell (p := ⟨b, off + i * 3 + 2, none⟩) (by simp; omega)).trans h2, h3.below hb hB, h4, h5.below hb hB, h6⟩
theorem ReadsD.at {w : World} {ad : Option Addr} {ds : List Nd} (h : ReadsD w ad ds) {k : Nat} (hk : k < ds.length) : ∃ b off a c a' c', ad = some ⟨b, off, none⟩ ∧ w.cell? ⟨b, off + k * 3, none⟩ = some (.bool (ds.getD k nd0).leaf) ∧ w.cell? ⟨b, off + k * 3 + 1, none⟩ = some (.slice a (ds.getD k nd0).es.length c) ∧ w.cell? ⟨b, off + k * 3 + 2, none⟩ = some (.slice a' (ds.getD k nd0).ks.length c') ∧ ReadsE w a (ds.getD k nd0).es ∧ (ds.getD k nd0).es.length ≤ maxLen ∧ ReadsI w a' (ds.getD k nd0).ks.length (ds.getD k nd0).ks ∧ (ds.getD k nd0).ks.length ≤ maxLen := by
 rcases h.cells with h0 | ⟨b, off, rfl, hc⟩
 · omega
 · obtain ⟨a, c, a', c', h1⟩ := hc k hk
   exact ⟨b, off, a, c, a', c', rfl, h1⟩
structure OwnK (w : World) (lo hi : Nat) (v : Value) (ks : List Int) : Prop where
 own : w.ownsRow lo 3 1 v ks.length (ins ks)
 top : ∀ g, v.ownBlock = some g → g < hi
 bd : ∀ i, -9223372036854775808 ≤ ks.getD i 0 ∧ ks.getD i 0 ≤ 9223372036854775807
section
variable {w w' : World} {lo hi : Nat} {v : Value} {ks : List Int}
theorem OwnK.nil (w : World) (lo hi : Nat) : OwnK w lo hi (.slice none 0 0) [] := ⟨World.ownsRow_nil _ _ _ _, (fun g hg => by cases hg), fun i => by simp⟩
theorem OwnK.agree (h : OwnK w lo hi v ks) (ha : Agree lo hi w w') : OwnK w' lo hi v ks := ⟨owns_agree h.own ha (fun g hg => ⟨(h.own.lt g hg).1, h.top g hg⟩), h.top, h.bd⟩
theorem OwnK.aside (h : OwnK w lo hi v ks) {b : Nat} {e : TypeId} {s n : Nat} {v' : Value} {xs : List Value} (o : w.ownsRow b e s v' n xs) (hE : (3 : TypeId) ≠ e) (hg : w.grownBy w' v'.ownBlock) : OwnK w' lo hi v ks := ⟨h.own.kept hg (owns_ne h.own o hE), h.top, h.bd⟩
theorem OwnK.slice (h : OwnK w lo hi v ks) : ∃ a c, v = .slice a ks.length c := own_sl h.own
theorem OwnK.rd {a : Option Addr} {n c : Nat} (h : OwnK w lo hi (.slice a n c) ks) : ReadsI w a ks.length ks := by
 obtain ⟨a', c', e, r, _⟩ := ReadsI.own h.own h.bd
 obtain ⟨rfl, _, _⟩ := Value.slice.inj e
 exact r
end
structure OwnD1 (w : World) (lo hi : Nat) (y : Value × Value) (d : Nd) : Prop where
 ex : ∃ m, lo ≤ m ∧ m ≤ hi ∧ OwnE w lo m y.1 d.es ∧ OwnK w m hi y.2 d.ks
section
variable {w w' : World} {lo hi : Nat} {y : Value × Value} {d : Nd}
theorem OwnD1.agree (h : OwnD1 w lo hi y d) (ha : Agree lo hi w w') : OwnD1 w' lo hi y d := by
 obtain ⟨m, h1, h2, h3, h4⟩ := h.ex
 exact ⟨m, h1, h2, h3.agree (fun k k1 k2 => ha k k1 (by omega)), h4.agree (fun k k1 k2 => ha k (by omega) k2)⟩
theorem OwnD1.aside (h : OwnD1 w lo hi y d) {b : Nat} {e : TypeId} {s n : Nat} {v' : Value} {xs : List Value} (o : w.ownsRow b e s v' n xs) (hE : (35 : TypeId) ≠ e) (h5 : (5 : TypeId) ≠ e) (hI : (3 : TypeId) ≠ e) (hg : w.grownBy w' v'.ownBlock) : OwnD1 w' lo hi y d := by
 obtain ⟨m, h1, h2, h3, h4⟩ := h.ex
 exact ⟨m, h1, h2, h3.aside o hE h5 hg, h4.aside o hI hg⟩
end
structure BandsD (w : World) (lo hi : Nat) (ys : List (Value × Value)) (ds : List Nd) (bs : List (Nat × Nat)) : Prop where
 len : ys.length = ds.length
 blen : bs.length = ds.length
 own : ∀ i, i < ds.length → OwnD1 w (bs.getD i (0, 0)).1 (bs.getD i (0, 0)).2 (ys.getD i nilP) (ds.getD i nd0)
 inr : ∀ i, i < ds.length → lo ≤ (bs.getD i (0, 0)).1 ∧ (bs.getD i (0, 0)).2 ≤ hi
 apart : ∀ i j, i < ds.length → j < ds.length → i ≠ j → (bs.getD i (0, 0)).2 ≤ (bs.getD j (0, 0)).1 ∨ (bs.getD j (0, 0)).2 ≤ (bs.getD i (0, 0)).1
section
variable {w w' : World} {lo hi : Nat} {ys : List (Value × Value)} {ds : List Nd} {bs : List (Nat × Nat)}
theorem BandsD.nil (w : World) (lo hi : Nat) : BandsD w lo hi [] [] [] :=
 ⟨rfl, rfl, (fun i hi => by cases hi), (fun i hi => by cases hi), (fun i j hi => by cases hi)⟩
theorem BandsD.agree (h : BandsD w lo hi ys ds bs) (ha : Agree lo hi w w') : BandsD w' lo hi ys ds bs :=
 ⟨h.len, h.blen, fun i hi => (h.own i hi).agree (fun k k1 k2 => ha k (by have := (h.inr i hi).1; omega) (by have := (h.inr i hi).2; omega)), h.inr, h.apart⟩
theorem BandsD.mono {lo' hi' : Nat} (h : BandsD w lo hi ys ds bs) (hl : lo' ≤ lo) (hh : hi ≤ hi') : BandsD w lo' hi' ys ds bs :=
 ⟨h.len, h.blen, h.own, fun i hi => ⟨Nat.le_trans hl (h.inr i hi).1, Nat.le_trans (h.inr i hi).2 hh⟩, h.apart⟩
theorem BandsD.aside (h : BandsD w lo hi ys ds bs) {b : Nat} {e : TypeId} {s n : Nat} {v' : Value} {xs : List Value} (o : w.ownsRow b e s v' n xs) (hE : (35 : TypeId) ≠ e) (h5 : (5 : TypeId) ≠ e) (hI : (3 : TypeId) ≠ e) (hg : w.grownBy w' v'.ownBlock) : BandsD w' lo hi ys ds bs :=
 ⟨h.len, h.blen, fun i hi => (h.own i hi).aside o hE h5 hI hg, h.inr, h.apart⟩
theorem BandsD.snoc {mid : Nat} (h : BandsD w lo mid ys ds bs) {l u : Nat} {y : Value × Value} {d : Nd} (hm : lo ≤ mid) (hl : mid ≤ l) (hu : u ≤ hi) (hmh : mid ≤ hi) (o : OwnD1 w l u y d) : BandsD w lo hi (ys ++ [y]) (ds ++ [d]) (bs ++ [(l, u)]) := by
 have e1 : ∀ i, i < ds.length → (bs ++ [(l, u)]).getD i (0, 0) = bs.getD i (0, 0) := fun i hi => by rw [getD_app, if_pos (by rw [h.blen]; exact hi)]
 have e2 : (bs ++ [(l, u)]).getD ds.length (0, 0) = (l, u) := by rw [getD_app, if_neg (by rw [h.blen]; omega), h.blen, Nat.sub_self]; rfl
 refine ⟨by simp [h.len], by simp [h.blen], fun i hi => ?_, fun i hi => ?_, fun i j hi hj hne => ?_⟩
 · simp only [List.length_append, List.length_singleton] at hi
   by_cases hc : i < ds.length
   · rw [e1 i hc, getD_app, getD_app, if_pos (by rw [h.len]; exact hc), if_pos hc]; exact h.own i hc
   · obtain rfl : i = ds.length := by omega
     rw [e2, getD_app, getD_app, if_neg (by rw [h.len]; omega), if_neg (by omega), h.len, Nat.sub_self]; exact o
 · simp only [List.length_append, List.length_singleton] at hi
   by_cases hc : i < ds.length
   · rw [e1 i hc]; have := h.inr i hc; omega
   · obtain rfl : i = ds.length := by omega
     rw [e2]; simp only; omega
 · simp only [List.length_append, List.length_singleton] at hi hj
   by_cases hc : i < ds.length
   · by_cases hd : j < ds.length
     · rw [e1 i hc, e1 j hd]; exact h.apart i j hc hd hne
     · obtain rfl : j = ds.length := by omega
       rw [e1 i hc, e2]; have := h.inr i hc; simp only; omega
   · obtain rfl : i = ds.length := by omega
     by_cases hd : j < ds.length
     · rw [e1 j hd, e2]; have := h.inr j hd; simp only; omega
     · omega
theorem BandsD.put (h : BandsD w lo hi ys ds bs) {i : Nat} (hi' : i < ds.length) {d : Nd} (hW : Within (bs.getD i (0, 0)).1 (bs.getD i (0, 0)).2 w w') (hs : hi ≤ w.heap.size) (o : OwnD1 w' (bs.getD i (0, 0)).1 (bs.getD i (0, 0)).2 (ys.getD i nilP) d) : BandsD w' lo hi ys (ds.set i d) bs := by
 refine ⟨by rw [List.length_set]; exact h.len, by rw [List.length_set]; exact h.blen, fun j hj => ?_, fun j hj => h.inr j (by rw [List.length_set] at hj; exact hj), fun j k hj hk => h.apart j k (by rw [List.length_set] at hj; exact hj) (by rw [List.length_set] at hk; exact hk)⟩
 rw [List.length_set] at hj
 rw [getD_set' ds i j d nd0 hi']
 by_cases e : j = i
 · subst e; rw [if_pos rfl]; exact o
 · rw [if_neg e]
   refine (h.own j hj).agree (hW.agree (by have := (h.inr j hj).2; omega) ?_)
   have := h.apart i j hi' hj (fun q => e q.symm)
   omega
end
structure OwnD (w : World) (lo hi : Nat) (v : Value) (ds : List Nd) : Prop where
 own : ∃ (ys : List (Value × Value)) (bs : List (Nat × Nat)), w.ownsRow lo 67 3 v ds.length (cellsD ds ys) ∧ BandsD w lo hi ys ds bs ∧ ∀ i, i < ds.length → ∀ g, v.ownBlock = some g → g < (bs.getD i (0, 0)).1 ∨ (bs.getD i (0, 0)).2 ≤ g
 top : ∀ g, v.ownBlock = some g → g < hi
section
variable {w w' : World} {lo hi : Nat} {v : Value} {ds : List Nd}
theorem OwnD.nil (w : World) (lo hi : Nat) : OwnD w lo hi (.slice none 0 0) [] := ⟨⟨[], [], World.ownsRow_nil _ _ _ _, BandsD.nil _ _ _, (fun i hi => by cases hi)⟩, (fun g hg => by cases hg)⟩
theorem OwnD.agree (h : OwnD w lo hi v ds) (ha : Agree lo hi w w') : OwnD w' lo hi v ds := by
 obtain ⟨ys, bs, o, b, q⟩ := h.own
 exact ⟨⟨ys, bs, owns_agree o ha (fun g hg => ⟨(o.lt g hg).1, h.top g hg⟩), b.agree ha, q⟩, h.top⟩
theorem OwnD.below (h : OwnD w lo hi v ds) {B : Nat} (hb : Below B w w') (hB : hi ≤ B) : OwnD w' lo hi v ds := h.agree (Agree.below hb hB)
theorem OwnD.mono {lo' hi' : Nat} (h : OwnD w lo hi v ds) (hl : lo' ≤ lo) (hh : hi ≤ hi') : OwnD w lo' hi' v ds := by
 obtain ⟨ys, bs, o, b, q⟩ := h.own
 exact ⟨⟨ys, bs, owns_lower o hl, b.mono hl hh, q⟩, fun g hg => Nat.lt_of_lt_of_le (h.top g hg) hh⟩
theorem OwnD.slice (h : OwnD w lo hi v ds) : ∃ a c, v = .slice a ds.length c := by
 obtain ⟨ys, bs, o, _, _⟩ := h.own
 exact own_sl o
theorem own_max {w : World} {lo : Nat} {e : TypeId} {s n : Nat} {v : Value} {xs : List Value} (o : w.ownsRow lo e s v n xs) : n ≤ maxLen := by
 rcases o.2 with ⟨_, h1⟩ | ⟨g, cap, cur, _, _, _, h1, h2, _⟩
 · rw [h1]; exact Nat.zero_le _
 · exact Nat.le_trans h1 h2
theorem OwnD.rd {a : Option Addr} {n c : Nat} (h : OwnD w lo hi (.slice a n c) ds) : ReadsD w a ds := by
 obtain ⟨ys, bs, o, hB, _⟩ := h.own
 rcases o.2 with ⟨e, h0⟩ | ⟨g, cap, cur, e, _⟩
 · cases e; exact ⟨.inl h0⟩
 · cases e
   refine ⟨.inr ⟨g, 0, rfl, fun i hi => ?_⟩⟩
   have hc := fun j (hj : j < 3) => (o.cellAt (i * 3 + j) (by omega)).trans (cellsD_at ds ys i j hB.len hi hj)
   obtain ⟨m, _, _, oE, oK⟩ := (hB.own i hi).ex
   obtain ⟨a1, c1, e1⟩ := oE.slice
   obtain ⟨a2, c2, e2⟩ := oK.slice
   have hx0 := hc 0 (by omega)
   have hx1 := hc 1 (by omega)
   have hx2 := hc 2 (by omega)
   rw [e1] at oE
   rw [e2] at oK
   obtain ⟨_, o3, _⟩ := oE.own
   refine ⟨a1, c1, a2, c2, ?_, ?_, ?_, oE.rd, own_max o3, oK.rd, own_max oK.own⟩
   · rw [Nat.zero_add]; exact hx0
   · rw [Nat.zero_add]; rw [show (cellsD1 (ds.getD i nd0) (ys.getD i nilP))[1]? = some (ys.getD i nilP).1 from rfl, e1] at hx1; exact hx1
   · rw [Nat.zero_add]; rw [show (cellsD1 (ds.getD i nd0) (ys.getD i nilP))[2]? = some (ys.getD i nilP).2 from rfl, e2] at hx2; exact hx2
end
end Go.Proofs.Ytphmlndkjgldkaa
