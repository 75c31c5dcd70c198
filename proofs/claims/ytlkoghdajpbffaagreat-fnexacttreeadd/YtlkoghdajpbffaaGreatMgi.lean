/- Texts of this proof in one: Kd11 Km11 Kn11 Ko11. -/
import Derived.Test.YtlkoghdajpbffaaGreatMgg
import Derived.Test.YtlkoghdajpbffaaGreatMgh
/- Nodes of a tree, plain and in memory: read, and where their memory is the call's own. No statement of its own; no conditions. -/


namespace Go.Proofs.YtlkoghdajpbffaaGreat
open Go.RowKit
set_option maxRecDepth 100000
structure Nd where
 leaf : Bool
 es : List En
 ks : List Int
def nd0 : Nd := ⟨false, [], []⟩
def nilP : Value × Value := (nilS, nilS)
def cellsD1 (d : Nd) (y : Value × Value) : List Value := [.bool d.leaf, y.1, y.2]
def cellsD : List Nd → List (Value × Value) → List Value
 | d :: ds, y :: ys => cellsD1 d y ++ cellsD ds ys
 | _, _ => []
theorem cellsD_nil (ys : List (Value × Value)) : cellsD [] ys = [] := by unfold cellsD; rfl
theorem cellsD_cons (d : Nd) (ds : List Nd) (y : Value × Value) (ys : List (Value × Value)) : cellsD (d :: ds) (y :: ys) = cellsD1 d y ++ cellsD ds ys := by rw [cellsD]
theorem cellsD_len : ∀ (ds : List Nd) (ys : List (Value × Value)), ys.length = ds.length → (cellsD ds ys).length = ds.length * 3
 | [], [], _ => rfl
 | d :: ds, y :: ys, h => by
  have := cellsD_len ds ys (by simpa using h)
  simp only [cellsD, cellsD1, List.length_append, List.length_cons, List.length_nil, this]; omega
theorem cellsD_app : ∀ (ds fs : List Nd) (ys zs : List (Value × Value)), ys.length = ds.length → cellsD (ds ++ fs) (ys ++ zs) = cellsD ds ys ++ cellsD fs zs
 | [], fs, [], zs, _ => rfl
 | d :: ds, fs, y :: ys, zs, h => by
  have := cellsD_app ds fs ys zs (by simpa using h)
  rw [List.cons_append, List.cons_append, cellsD_cons, cellsD_cons, this, List.append_assoc]
theorem cellsD_at : ∀ (ds : List Nd) (ys : List (Value × Value)) (i j : Nat), ys.length = ds.length → i < ds.length → j < 3 → (cellsD ds ys)[i * 3 + j]? = (cellsD1 (ds.getD i nd0) (ys.getD i nilP))[j]?
 | d :: ds, y :: ys, 0, j, _, _, hj => by
  simp only [cellsD, Nat.zero_mul, Nat.zero_add]
  rw [List.getElem?_append_left (by simp [cellsD1]; omega)]
  rfl
 | d :: ds, y :: ys, i + 1, j, h, hi, hj => by
  have := cellsD_at ds ys i j (by simpa using h) (by simpa using hi) hj
  simp only [cellsD]
  rw [List.getElem?_append_right (by simp [cellsD1]; omega), show (i + 1) * 3 + j - (cellsD1 d y).length = i * 3 + j by simp [cellsD1]; omega, this]
  simp only [List.getD_cons_succ]
 | [], _, i, j, _, hi, _ => by cases hi
theorem cellsD_set3 : ∀ (ds : List Nd) (ys : List (Value × Value)) (k : Nat) (d : Nd) (y : Value × Value), ys.length = ds.length → k < ds.length → (((cellsD ds ys).set (k * 3) (.bool d.leaf)).set (k * 3 + 1) y.1).set (k * 3 + 2) y.2 = cellsD (ds.set k d) (ys.set k y)
 | q :: ds, x :: ys, 0, d, y, _, _ => by simp [cellsD, cellsD1]
 | q :: ds, x :: ys, k + 1, d, y, h, hk => by
  have ih := cellsD_set3 ds ys k d y (by simpa using h) (by simpa using hk)
  rw [show (k + 1) * 3 = k * 3 + 3 by omega]
  simp only [cellsD, cellsD1, List.cons_append, List.nil_append, List.set_cons_succ, ← ih]
theorem cellsD_set1 : ∀ (ds : List Nd) (ys : List (Value × Value)) (k : Nat) (d : Nd), ys.length = ds.length → k < ds.length → (cellsD ds ys).set (k * 3) (.bool d.leaf) = cellsD (ds.set k d) ys
 | q :: ds, x :: ys, 0, d, _, _ => by simp [cellsD, cellsD1]
 | q :: ds, x :: ys, k + 1, d, h, hk => by
  have ih := cellsD_set1 ds ys k d (by simpa using h) (by simpa using hk)
  rw [show (k + 1) * 3 = k * 3 + 3 by omega]
  simp only [cellsD, cellsD1, List.cons_append, List.nil_append, List.set_cons_succ, ← ih]
theorem made3n (a b c : Value) : ∀ n : Nat, (madeCells #[a, b, c] (n * 3)).toList = (List.replicate n [a, b, c]).flatten := by
 intro n
 have h : ∀ n : Nat, (madeCells #[a, b, c] (n * 3)).toList = (List.range (n * 3)).map (fun i => #[a, b, c][i % 3]!) := by
  intro n
  simp [madeCells]
 rw [h]
 induction n with
 | zero => rfl
 | succ n ih =>
  rw [show (n + 1) * 3 = n * 3 + 3 by omega, List.range_add, List.map_append, ih, List.replicate_succ', List.flatten_append]
  congr 1
  simp [List.range_succ]
theorem zeroD (n : Nat) : cellsD (List.replicate n nd0) (List.replicate n nilP) = (List.replicate n [Value.bool false, nilS, nilS]).flatten := by
 induction n with
 | zero => rfl
 | succ n ih => rw [List.replicate_succ, List.replicate_succ, cellsD, ih, List.replicate_succ]; rfl
structure ReadsD (w : World) (ad : Option Addr) (ds : List Nd) : Prop where
 cells : ds.length = 0 ∨ ∃ b off, ad = some ⟨b, off, none⟩ ∧ ∀ i, i < ds.length → ∃ a c a' c', w.cell? ⟨b, off + i * 3, none⟩ = some (.bool (ds.getD i nd0).leaf) ∧ w.cell? ⟨b, off + i * 3 + 1, none⟩ = some (.slice a (ds.getD i nd0).es.length c) ∧ w.cell? ⟨b, off + i * 3 + 2, none⟩ = some (.slice a' (ds.getD i nd0).ks.length c') ∧ ReadsE w a (ds.getD i nd0).es ∧ (ds.getD i nd0).es.length ≤ maxLen ∧ ReadsI w a' (ds.getD i nd0).ks.length (ds.getD i nd0).ks ∧ (ds.getD i nd0).ks.length ≤ maxLen
theorem ReadsD.below {w w' : World} {ad : Option Addr} {ds : List Nd} (h : ReadsD w ad ds) {B : Nat} (hb : Below B w w') (hB : w.heap.size ≤ B) : ReadsD w' ad ds := by
 refine ⟨?_⟩
 rcases h.cells with h0 | ⟨b, off, rfl, hc⟩
 · exact .inl h0
 · refine .inr ⟨b, off, rfl, fun i hi => ?_⟩
   obtain ⟨a, c, a', c', h0, h1, h2, h3, h4, h5, h6⟩ := hc i hi
   have hlt := World.block_lt_of_cell? w _ h0
   simp only at hlt
   exact ⟨a, c, a', c', (hb.cell (p := ⟨b, off + i * 3, none⟩) (by simp; omega)).trans h0, (hb.cell (p := ⟨b, off + i * 3 + 1, none⟩) (by simp; omega)).trans h1, (hb.cell (p := ⟨b, off + i * 3 + 2, none⟩) (by simp; omega)).trans h2, h3.below hb hB, h4, h5.below hb hB, h6⟩
theorem ReadsD.at {w : World} {ad : Option Addr} {ds : List Nd} (h : ReadsD w ad ds) {k : Nat} (hk : k < ds.length) : ∃ b off a c a' c', ad = some ⟨b, off, none⟩ ∧ w.cell? ⟨b, off + k * 3, none⟩ = some (.bool (ds.getD k nd0).leaf) ∧ w.cell? ⟨b, off + k * 3 + 1, none⟩ = some (.slice a (ds.getD k nd0).es.length c) ∧ w.cell? ⟨b, off + k * 3 + 2, none⟩ = some (.slice a' (ds.getD k nd0).ks.length c') ∧ ReadsE w a (ds.getD k nd0).es ∧ (ds.getD k nd0).es.length ≤ maxLen ∧ ReadsI w a' (ds.getD k nd0).ks.length (ds.getD k nd0).ks ∧ (ds.getD k nd0).ks.length ≤ maxLen := by
 rcases h.cells with h0 | ⟨b, off, rfl, hc⟩
 · omega
 · obtain ⟨a, c, a', c', h1⟩ := hc k hk
   exact ⟨b, off, a, c, a', c', rfl, h1⟩
structure OwnK (w : World) (lo hi : Nat) (v : Value) (ks : List Int) : Prop where
 own : w.ownsRow lo 3 1 v ks.length (ins ks)
 top : ∀ g, v.ownBlock = some g → g < hi
 bd : ∀ i, -9223372036854775808 ≤ ks.getD i 0 ∧ ks.getD i 0 ≤ 9223372036854775807
section
variable {w w' : World} {lo hi : Nat} {v : Value} {ks : List Int}
theorem OwnK.nil (w : World) (lo hi : Nat) : OwnK w lo hi (.slice none 0 0) [] := ⟨World.ownsRow_nil _ _ _ _, (fun g hg => by cases hg), fun i => by simp⟩
theorem OwnK.agree (h : OwnK w lo hi v ks) (ha : Agree lo hi w w') : OwnK w' lo hi v ks := ⟨owns_agree h.own ha (fun g hg => ⟨(h.own.lt g hg).1, h.top g hg⟩), h.top, h.bd⟩
theorem OwnK.aside (h : OwnK w lo hi v ks) {b : Nat} {e : TypeId} {s n : Nat} {v' : Value} {xs : List Value} (o : w.ownsRow b e s v' n xs) (hE : (3 : TypeId) ≠ e) (hg : w.grownBy w' v'.ownBlock) : OwnK w' lo hi v ks := ⟨h.own.kept hg (owns_ne h.own o hE), h.top, h.bd⟩
theorem OwnK.slice (h : OwnK w lo hi v ks) : ∃ a c, v = .slice a ks.length c := own_sl h.own
theorem OwnK.rd {a : Option Addr} {n c : Nat} (h : OwnK w lo hi (.slice a n c) ks) : ReadsI w a ks.length ks := by
 obtain ⟨a', c', e, r, _⟩ := ReadsI.own h.own h.bd
 obtain ⟨rfl, _, _⟩ := Value.slice.inj e
 exact r
end
structure OwnD1 (w : World) (lo hi : Nat) (y : Value × Value) (d : Nd) : Prop where
 ex : ∃ m, lo ≤ m ∧ m ≤ hi ∧ OwnE w lo m y.1 d.es ∧ OwnK w m hi y.2 d.ks
section
variable {w w' : World} {lo hi : Nat} {y : Value × Value} {d : Nd}
theorem OwnD1.agree (h : OwnD1 w lo hi y d) (ha : Agree lo hi w w') : OwnD1 w' lo hi y d := by
 obtain ⟨m, h1, h2, h3, h4⟩ := h.ex
 exact ⟨m, h1, h2, h3.agree (fun k k1 k2 => ha k k1 (by omega)), h4.agree (fun k k1 k2 => ha k (by omega) k2)⟩
theorem OwnD1.aside (h : OwnD1 w lo hi y d) {b : Nat} {e : TypeId} {s n : Nat} {v' : Value} {xs : List Value} (o : w.ownsRow b e s v' n xs) (hE : (48 : TypeId) ≠ e) (h5 : (5 : TypeId) ≠ e) (hI : (3 : TypeId) ≠ e) (hg : w.grownBy w' v'.ownBlock) : OwnD1 w' lo hi y d := by
 obtain ⟨m, h1, h2, h3, h4⟩ := h.ex
 exact ⟨m, h1, h2, h3.aside o hE h5 hg, h4.aside o hI hg⟩
end
structure BandsD (w : World) (lo hi : Nat) (ys : List (Value × Value)) (ds : List Nd) (bs : List (Nat × Nat)) : Prop where
 len : ys.length = ds.length
 blen : bs.length = ds.length
 own : ∀ i, i < ds.length → OwnD1 w (bs.getD i (0, 0)).1 (bs.getD i (0, 0)).2 (ys.getD i nilP) (ds.getD i nd0)
 inr : ∀ i, i < ds.length → lo ≤ (bs.getD i (0, 0)).1 ∧ (bs.getD i (0, 0)).2 ≤ hi
 apart : ∀ i j, i < ds.length → j < ds.length → i ≠ j → (bs.getD i (0, 0)).2 ≤ (bs.getD j (0, 0)).1 ∨ (bs.getD j (0, 0)).2 ≤ (bs.getD i (0, 0)).1
section
variable {w w' : World} {lo hi : Nat} {ys : List (Value × Value)} {ds : List Nd} {bs : List (Nat × Nat)}
theorem BandsD.nil (w : World) (lo hi : Nat) : BandsD w lo hi [] [] [] :=
 ⟨rfl, rfl, (fun i hi => by cases hi), (fun i hi => by cases hi), (fun i j hi => by cases hi)⟩
theorem BandsD.agree (h : BandsD w lo hi ys ds bs) (ha : Agree lo hi w w') : BandsD w' lo hi ys ds bs :=
 ⟨h.len, h.blen, fun i hi => (h.own i hi).agree (fun k k1 k2 => ha k (by have := (h.inr i hi).1; omega) (by have := (h.inr i hi).2; omega)), h.inr, h.apart⟩
theorem BandsD.mono {lo' hi' : Nat} (h : BandsD w lo hi ys ds bs) (hl : lo' ≤ lo) (hh : hi ≤ hi') : BandsD w lo' hi' ys ds bs :=
 ⟨h.len, h.blen, h.own, fun i hi => ⟨Nat.le_trans hl (h.inr i hi).1, Nat.le_trans (h.inr i hi).2 hh⟩, h.apart⟩
theorem BandsD.aside (h : BandsD w lo hi ys ds bs) {b : Nat} {e : TypeId} {s n : Nat} {v' : Value} {xs : List Value} (o : w.ownsRow b e s v' n xs) (hE : (48 : TypeId) ≠ e) (h5 : (5 : TypeId) ≠ e) (hI : (3 : TypeId) ≠ e) (hg : w.grownBy w' v'.ownBlock) : BandsD w' lo hi ys ds bs :=
 ⟨h.len, h.blen, fun i hi => (h.own i hi).aside o hE h5 hI hg, h.inr, h.apart⟩
theorem BandsD.snoc {mid : Nat} (h : BandsD w lo mid ys ds bs) {l u : Nat} {y : Value × Value} {d : Nd} (hm : lo ≤ mid) (hl : mid ≤ l) (hu : u ≤ hi) (hmh : mid ≤ hi) (o : OwnD1 w l u y d) : BandsD w lo hi (ys ++ [y]) (ds ++ [d]) (bs ++ [(l, u)]) := by
 have e1 : ∀ i, i < ds.length → (bs ++ [(l, u)]).getD i (0, 0) = bs.getD i (0, 0) := fun i hi => by rw [getD_app, if_pos (by rw [h.blen]; exact hi)]
 have e2 : (bs ++ [(l, u)]).getD ds.length (0, 0) = (l, u) := by rw [getD_app, if_neg (by rw [h.blen]; omega), h.blen, Nat.sub_self]; rfl
 refine ⟨by simp [h.len], by simp [h.blen], fun i hi => ?_, fun i hi => ?_, fun i j hi hj hne => ?_⟩
 · simp only [List.length_append, List.length_singleton] at hi
   by_cases hc : i < ds.length
   · rw [e1 i hc, getD_app, getD_app, if_pos (by rw [h.len]; exact hc), if_pos hc]; exact h.own i hc
   · obtain rfl : i = ds.length := by omega
     rw [e2, getD_app, getD_app, if_neg (by rw [h.len]; omega), if_neg (by omega), h.len, Nat.sub_self]; exact o
 · simp only [List.length_append, List.length_singleton] at hi
   by_cases hc : i < ds.length
   · rw [e1 i hc]; have := h.inr i hc; omega
   · obtain rfl : i = ds.length := by omega
     rw [e2]; simp only; omega
 · simp only [List.length_append, List.length_singleton] at hi hj
   by_cases hc : i < ds.length
   · by_cases hd : j < ds.length
     · rw [e1 i hc, e1 j hd]; exact h.apart i j hc hd hne
     · obtain rfl : j = ds.length := by omega
       rw [e1 i hc, e2]; have := h.inr i hc; simp only; omega
   · obtain rfl : i = ds.length := by omega
     by_cases hd : j < ds.length
     · rw [e1 j hd, e2]; have := h.inr j hd; simp only; omega
     · omega
theorem BandsD.put (h : BandsD w lo hi ys ds bs) {i : Nat} (hi' : i < ds.length) {d : Nd} (hW : Within (bs.getD i (0, 0)).1 (bs.getD i (0, 0)).2 w w') (hs : hi ≤ w.heap.size) (o : OwnD1 w' (bs.getD i (0, 0)).1 (bs.getD i (0, 0)).2 (ys.getD i nilP) d) : BandsD w' lo hi ys (ds.set i d) bs := by
 refine ⟨by rw [List.length_set]; exact h.len, by rw [List.length_set]; exact h.blen, fun j hj => ?_, fun j hj => h.inr j (by rw [List.length_set] at hj; exact hj), fun j k hj hk => h.apart j k (by rw [List.length_set] at hj; exact hj) (by rw [List.length_set] at hk; exact hk)⟩
 rw [List.length_set] at hj
 rw [getD_set' ds i j d nd0 hi']
 by_cases e : j = i
 · subst e; rw [if_pos rfl]; exact o
 · rw [if_neg e]
   refine (h.own j hj).agree (hW.agree (by have := (h.inr j hj).2; omega) ?_)
   have := h.apart i j hi' hj (fun q => e q.symm)
   omega
end
structure OwnD (w : World) (lo hi : Nat) (v : Value) (ds : List Nd) : Prop where
 own : ∃ (ys : List (Value × Value)) (bs : List (Nat × Nat)), w.ownsRow lo 61 3 v ds.length (cellsD ds ys) ∧ BandsD w lo hi ys ds bs ∧ ∀ i, i < ds.length → ∀ g, v.ownBlock = some g → g < (bs.getD i (0, 0)).1 ∨ (bs.getD i (0, 0)).2 ≤ g
 top : ∀ g, v.ownBlock = some g → g < hi
section
variable {w w' : World} {lo hi : Nat} {v : Value} {ds : List Nd}
theorem OwnD.nil (w : World) (lo hi : Nat) : OwnD w lo hi (.slice none 0 0) [] := ⟨⟨[], [], World.ownsRow_nil _ _ _ _, BandsD.nil _ _ _, (fun i hi => by cases hi)⟩, (fun g hg => by cases hg)⟩
theorem OwnD.agree (h : OwnD w lo hi v ds) (ha : Agree lo hi w w') : OwnD w' lo hi v ds := by
 obtain ⟨ys, bs, o, b, q⟩ := h.own
 exact ⟨⟨ys, bs, owns_agree o ha (fun g hg => ⟨(o.lt g hg).1, h.top g hg⟩), b.agree ha, q⟩, h.top⟩
theorem OwnD.below (h : OwnD w lo hi v ds) {B : Nat} (hb : Below B w w') (hB : hi ≤ B) : OwnD w' lo hi v ds := h.agree (Agree.below hb hB)
theorem OwnD.mono {lo' hi' : Nat} (h : OwnD w lo hi v ds) (hl : lo' ≤ lo) (hh : hi ≤ hi') : OwnD w lo' hi' v ds := by
 obtain ⟨ys, bs, o, b, q⟩ := h.own
 exact ⟨⟨ys, bs, owns_lower o hl, b.mono hl hh, q⟩, fun g hg => Nat.lt_of_lt_of_le (h.top g hg) hh⟩
theorem OwnD.slice (h : OwnD w lo hi v ds) : ∃ a c, v = .slice a ds.length c := by
 obtain ⟨ys, bs, o, _, _⟩ := h.own
 exact own_sl o
theorem own_max {w : World} {lo : Nat} {e : TypeId} {s n : Nat} {v : Value} {xs : List Value} (o : w.ownsRow lo e s v n xs) : n ≤ maxLen := by
 rcases o.2 with ⟨_, h1⟩ | ⟨g, cap, cur, _, _, _, h1, h2, _⟩
 · rw [h1]; exact Nat.zero_le _
 · exact Nat.le_trans h1 h2
theorem OwnD.rd {a : Option Addr} {n c : Nat} (h : OwnD w lo hi (.slice a n c) ds) : ReadsD w a ds := by
 obtain ⟨ys, bs, o, hB, _⟩ := h.own
 rcases o.2 with ⟨e, h0⟩ | ⟨g, cap, cur, e, _⟩
 · cases e; exact ⟨.inl h0⟩
 · cases e
   refine ⟨.inr ⟨g, 0, rfl, fun i hi => ?_⟩⟩
   have hc := fun j (hj : j < 3) => (o.cellAt (i * 3 + j) (by omega)).trans (cellsD_at ds ys i j hB.len hi hj)
   obtain ⟨m, _, _, oE, oK⟩ := (hB.own i hi).ex
   obtain ⟨a1, c1, e1⟩ := oE.slice
   obtain ⟨a2, c2, e2⟩ := oK.slice
   have hx0 := hc 0 (by omega)
   have hx1 := hc 1 (by omega)
   have hx2 := hc 2 (by omega)
   rw [e1] at oE
   rw [e2] at oK
   obtain ⟨_, o3, _⟩ := oE.own
   refine ⟨a1, c1, a2, c2, ?_, ?_, ?_, oE.rd, own_max o3, oK.rd, own_max oK.own⟩
   · rw [Nat.zero_add]; exact hx0
   · rw [Nat.zero_add]; rw [show (cellsD1 (ds.getD i nd0) (ys.getD i nilP))[1]? = some (ys.getD i nilP).1 from rfl, e1] at hx1; exact hx1
   · rw [Nat.zero_add]; rw [show (cellsD1 (ds.getD i nd0) (ys.getD i nilP))[2]? = some (ys.getD i nilP).2 from rfl, e2] at hx2; exact hx2
end
end Go.Proofs.YtlkoghdajpbffaaGreat
/- Trees, plain: the specification's walk and the program's tests tell the same. No program, no conditions. -/


namespace Go.Proofs.YtlkoghdajpbffaaGreat
open Go.RowKit
set_option maxRecDepth 100000
def hasB (lo hi : Option En) (e : En) : Bool :=
 entOk e && ((match lo with | none => true | some a => !ltE e a) && (match hi with | none => true | some b => ltE e b))
def okAt (lo hi : Option En) (es : List En) (i : Nat) : Bool := hasB lo hi (es.getD i en0) && (decide (i = 0) || ltE (es.getD (i - 1) en0) (es.getD i en0))
def nodeOk (lo hi : Option En) (es : List En) : Bool := (List.range es.length).all (okAt lo hi es)
def lowAt (es : List En) (lo : Option En) (i : Nat) : Option En := if i = 0 then lo else some (es.getD (i - 1) en0)
def highAt (es : List En) (hi : Option En) (i : Nat) : Option En := if i < es.length then some (es.getD i en0) else hi
structure St where
 seen : List Bool
 deep : Int
 wrong : Bool
 all : List En
def St.bad (st : St) : St := { st with wrong := true }
def outB (ns : List Nd) (sd : List Bool) (x : Int) : Bool := decide (x < 0 ∨ (ns.length : Int) ≤ x) || sd.getD x.toNat true
def formOk (d : Nd) : Bool := if d.leaf then decide (d.es.length ≤ 4 ∧ d.ks.length = 0) else decide (1 ≤ d.es.length ∧ d.es.length ≤ 4 ∧ d.ks.length = d.es.length + 1)
def goS (ns : List Nd) : Nat → St → Int → Int → Option En → Option En → St
 | 0, st, _, _, _, _ => st.bad
 | f + 1, st, x, deep, lo, hi =>
  if st.wrong || outB ns st.seen x then st.bad
  else
   let d := ns.getD x.toNat nd0
   let st1 : St := { st with seen := st.seen.set x.toNat true }
   if decide (4 < d.es.length) then st1.bad
   else if !nodeOk lo hi d.es then st1.bad
   else if d.leaf then
    let dp := if st.deep = 0 then deep else st.deep
    { seen := st1.seen, deep := dp, wrong := decide (dp ≠ deep) || decide (0 < d.ks.length), all := st.all ++ d.es }
   else if decide (d.es.length < 1) || decide (d.ks.length ≠ d.es.length + 1) then st1.bad
   else (List.range d.ks.length).foldl (fun s i => goS ns f s (d.ks.getD i 0) (deep + 1) (lowAt d.es lo i) (highAt d.es hi i)) st1
def lnk (ns : List Nd) : Nat → List Bool → Int → Option (List Bool)
 | 0, _, _ => none
 | f + 1, sd, x =>
  if outB ns sd x || !formOk (ns.getD x.toNat nd0) then none
  else (ns.getD x.toNat nd0).ks.foldlM (fun s k => lnk ns f s k) (sd.set x.toNat true)
def ino (ns : List Nd) : Nat → Int → Option En → Option En → Bool
 | 0, _, _, _ => false
 | f + 1, x, lo, hi =>
  let d := ns.getD x.toNat nd0
  nodeOk lo hi d.es && (List.range d.ks.length).all (fun i => ino ns f (d.ks.getD i 0) (lowAt d.es lo i) (highAt d.es hi i))
def lvs (ns : List Nd) : Nat → Int → Int → Bool
 | 0, _, _ => false
 | f + 1, x, h =>
  let d := ns.getD x.toNat nd0
  if d.leaf then decide (h = 1) else d.ks.all (fun k => lvs ns f k (h - 1))
def hgt (ns : List Nd) : Nat → Int → Int
 | 0, _ => 1
 | f + 1, x =>
  let d := ns.getD x.toNat nd0
  if d.leaf then 1 else 1 + hgt ns f (d.ks.getD 0 0)
def lfs (ns : List Nd) : Nat → Int → List En
 | 0, _ => []
 | f + 1, x =>
  let d := ns.getD x.toNat nd0
  if d.leaf then d.es else (d.ks.map (fun k => lfs ns f k)).flatten
theorem hgt_pos (ns : List Nd) : ∀ (f : Nat) (x : Int), 1 ≤ hgt ns f x
 | 0, _ => by simp [hgt]
 | f + 1, x => by
  unfold hgt
  simp only
  split
  · omega
  · have := hgt_pos ns f ((ns.getD x.toNat nd0).ks.getD 0 0); omega
theorem goS_wrong (ns : List Nd) : ∀ (f : Nat) (st : St) (x deep : Int) (lo hi : Option En), st.wrong = true → (goS ns f st x deep lo hi).wrong = true
 | 0, st, _, _, _, _, _ => rfl
 | f + 1, st, x, deep, lo, hi, h => by
  unfold goS
  rw [h, Bool.true_or, if_pos rfl]
  rfl
def unseen (sd : List Bool) : Nat := sd.count false
theorem unseen_set : ∀ (sd : List Bool) (i : Nat), sd.getD i true = false → unseen (sd.set i true) + 1 = unseen sd
 | [], i, h => by simp at h
 | b :: sd, 0, h => by
  simp only [List.getD_cons_zero] at h
  subst h
  simp [unseen]
 | b :: sd, i + 1, h => by
  have ih := unseen_set sd i (by simpa using h)
  simp only [unseen, List.set_cons_succ, List.count_cons] at ih ⊢
  omega
end Go.Proofs.YtlkoghdajpbffaaGreat
/- Trees, plain: the specification's walk goes well just where the program links the nodes, finds them in order, and all leaves as deep. No program, no conditions. -/

namespace Go.Proofs.YtlkoghdajpbffaaGreat
open Go.RowKit
set_option maxRecDepth 100000
theorem foldM_mono (g : List Bool → Int → Option (List Bool)) (hg : ∀ s k s', g s k = some s' → unseen s' ≤ unseen s) : ∀ (l : List Int) (s s' : List Bool), l.foldlM (fun s k => g s k) s = some s' → unseen s' ≤ unseen s
 | [], s, s', h => by
  have : s = s' := by simpa using h
  rw [this]; exact Nat.le_refl _
 | k :: l, s, s', h => by
  rw [List.foldlM_cons] at h
  cases hk : g s k with
  | none => rw [hk] at h; cases h
  | some s1 =>
   rw [hk] at h
   exact Nat.le_trans (foldM_mono g hg l s1 s' h) (hg s k s1 hk)
theorem outB_no {ns : List Nd} {sd : List Bool} {x : Int} (h : outB ns sd x = false) : 0 ≤ x ∧ x < ns.length ∧ sd.getD x.toNat true = false := by
 unfold outB at h
 rw [Bool.or_eq_false_iff] at h
 have h1 := of_decide_eq_false h.1
 exact ⟨by omega, by omega, h.2⟩
theorem lnk_mono (ns : List Nd) : ∀ (f : Nat) (sd : List Bool) (x : Int) (sd' : List Bool), lnk ns f sd x = some sd' → unseen sd' ≤ unseen sd
 | 0, sd, x, sd', h => by cases h
 | f + 1, sd, x, sd', h => by
  unfold lnk at h
  split at h
  · cases h
  · rename_i hc
    have ho : outB ns sd x = false := by
     rw [Bool.not_eq_true, Bool.or_eq_false_iff] at hc
     exact hc.1
    have h1 := foldM_mono (fun s k => lnk ns f s k) (fun s k s' => lnk_mono ns f s k s') _ _ _ h
    have h2 := unseen_set sd x.toNat (outB_no ho).2.2
    omega
structure Well (ns : List Nd) (f : Nat) (st : St) (x deep : Int) (lo hi : Option En) (D : Int) (R : St) : Prop where
 iff : R.wrong = false ↔ ((∃ sd, lnk ns f st.seen x = some sd) ∧ ino ns f x lo hi = true ∧ lvs ns f x (D - deep + 1) = true)
 seen : R.wrong = false → lnk ns f st.seen x = some R.seen
 deep : R.wrong = false → R.deep = D
 all : R.wrong = false → R.all = st.all ++ lfs ns f x
def dOf (ns : List Nd) (f : Nat) (st : St) (x deep : Int) : Int := if st.deep = 0 then deep + hgt ns f x - 1 else st.deep
abbrev Kid := Int × Option En × Option En
def runK (ns : List Nd) (f : Nat) (dp : Int) (L : List Kid) (st : St) : St := L.foldl (fun s t => goS ns f s t.1 dp t.2.1 t.2.2) st
theorem runK_wrong (ns : List Nd) (f : Nat) (dp : Int) : ∀ (L : List Kid) (st : St), st.wrong = true → (runK ns f dp L st).wrong = true
 | [], _, h => h
 | _ :: L, st, h => runK_wrong ns f dp L _ (goS_wrong ns f st _ _ _ _ h)
theorem kids_well (ns : List Nd) (f : Nat) (dp D : Int) (hD : 0 < D)
 (main : ∀ (st : St) (x : Int) (lo hi : Option En), unseen st.seen < f → st.wrong = false → 0 ≤ st.deep → Well ns f st x dp lo hi (dOf ns f st x dp) (goS ns f st x dp lo hi)) :
 ∀ (L : List Kid) (st : St), unseen st.seen < f → st.wrong = false → 0 ≤ st.deep → (st.deep = 0 → ∀ t L', L = t :: L' → D = dp + hgt ns f t.1 - 1) → (st.deep ≠ 0 → D = st.deep) →
  ((runK ns f dp L st).wrong = false ↔ ((∃ sd, (L.map (·.1)).foldlM (fun s k => lnk ns f s k) st.seen = some sd) ∧ (∀ t ∈ L, ino ns f t.1 t.2.1 t.2.2 = true) ∧ (∀ t ∈ L, lvs ns f t.1 (D - dp + 1) = true))) ∧
  ((runK ns f dp L st).wrong = false → (L.map (·.1)).foldlM (fun s k => lnk ns f s k) st.seen = some (runK ns f dp L st).seen ∧ (L ≠ [] → (runK ns f dp L st).deep = D) ∧ (runK ns f dp L st).all = st.all ++ (L.map (fun t => lfs ns f t.1)).flatten)
 | [], st, _, hw, _, _, _ => by
  have e : runK ns f dp [] st = st := rfl
  rw [e]
  refine ⟨⟨fun _ => ⟨⟨st.seen, rfl⟩, (fun t ht => by cases ht), (fun t ht => by cases ht)⟩, fun _ => hw⟩, fun _ => ⟨rfl, (fun q => absurd rfl q), by simp⟩⟩
 | t :: L, st, hu, hw, hp, h0, h1 => by
  have M := main st t.1 t.2.1 t.2.2 hu hw hp
  have eD : dOf ns f st t.1 dp = D := by
   unfold dOf
   by_cases q : st.deep = 0
   · rw [if_pos q]; exact (h0 q t L rfl).symm
   · rw [if_neg q]; exact (h1 q).symm
  rw [eD] at M
  have e : runK ns f dp (t :: L) st = runK ns f dp L (goS ns f st t.1 dp t.2.1 t.2.2) := rfl
  rw [e]
  have em : ((t :: L).map (·.1)).foldlM (fun s k => lnk ns f s k) st.seen = (lnk ns f st.seen t.1).bind (fun s => (L.map (·.1)).foldlM (fun s k => lnk ns f s k) s) := by
   rw [List.map_cons, List.foldlM_cons]; rfl
  rw [em]
  generalize goS ns f st t.1 dp t.2.1 t.2.2 = st' at M
  cases hw' : st'.wrong with
  | true =>
   have hr := runK_wrong ns f dp L st' hw'
   refine ⟨⟨fun q => absurd (hr.symm.trans q) (by simp), ?_⟩, fun q => absurd (hr.symm.trans q) (by simp)⟩
   rintro ⟨⟨sd, hs⟩, hi, hv⟩
   exfalso
   have : st'.wrong = false := by
    refine M.iff.2 ⟨?_, hi t (by simp), hv t (by simp)⟩
    cases hl : lnk ns f st.seen t.1 with
    | none => rw [hl] at hs; cases hs
    | some s1 => exact ⟨s1, rfl⟩
   rw [hw'] at this
   cases this
  | false =>
   have hl := M.seen hw'
   have hd := M.deep hw'
   have ha := M.all hw'
   have hq := M.iff.1 hw'
   have hm := lnk_mono ns f _ _ _ hl
   have K := kids_well ns f dp D hD main L st' (by omega) hw' (by rw [hd]; omega) (fun q => by rw [hd] at q; omega) (fun _ => hd.symm)
   rw [hl]
   simp only [Option.bind_some]
   refine ⟨⟨fun q => ?_, ?_⟩, fun q => ?_⟩
   · obtain ⟨k1, k2, k3⟩ := K.1.1 q
     refine ⟨k1, fun u hu => ?_, fun u hu => ?_⟩
     · rcases List.mem_cons.1 hu with rfl | hu
       · exact hq.2.1
       · exact k2 u hu
     · rcases List.mem_cons.1 hu with rfl | hu
       · exact hq.2.2
       · exact k3 u hu
   · rintro ⟨k1, k2, k3⟩
     exact K.1.2 ⟨k1, fun u hu => k2 u (List.mem_cons_of_mem _ hu), fun u hu => k3 u (List.mem_cons_of_mem _ hu)⟩
   · obtain ⟨k1, k2, k3⟩ := K.2 q
     refine ⟨k1, fun _ => ?_, by rw [k3, ha]; simp⟩
     cases L with
     | nil => exact hd
     | cons u L => exact k2 (by simp)
def kidsOf (d : Nd) (lo hi : Option En) : List Kid := (List.range d.ks.length).map (fun i => (d.ks.getD i 0, lowAt d.es lo i, highAt d.es hi i))
theorem kids_nums (d : Nd) (lo hi : Option En) : (kidsOf d lo hi).map (·.1) = d.ks := by
 unfold kidsOf
 rw [List.map_map]
 refine List.ext_getElem (by simp) (fun i h1 h2 => ?_)
 simp [List.getD, h2]
theorem goS_well (ns : List Nd) : ∀ (f : Nat) (st : St) (x deep : Int) (lo hi : Option En), 0 < deep → unseen st.seen < f → st.wrong = false → 0 ≤ st.deep → Well ns f st x deep lo hi (dOf ns f st x deep) (goS ns f st x deep lo hi)
 | 0, st, x, deep, lo, hi, _, h, _, _ => by omega
 | f + 1, st, x, deep, lo, hi, hdp, hu, hw, hd0 => by
  have hbad : ∀ (D : Int) (R : St), R.wrong = true → ¬ ((∃ sd, lnk ns (f + 1) st.seen x = some sd) ∧ ino ns (f + 1) x lo hi = true ∧ lvs ns (f + 1) x (D - deep + 1) = true) → Well ns (f + 1) st x deep lo hi D R := fun D R hR hn =>
   ⟨⟨fun q => absurd (hR.symm.trans q) (by simp), fun q => absurd q hn⟩, fun q => absurd (hR.symm.trans q) (by simp), fun q => absurd (hR.symm.trans q) (by simp), fun q => absurd (hR.symm.trans q) (by simp)⟩
  rw [goS]
  cases ho : outB ns st.seen x with
  | true =>
   rw [Bool.or_true, if_pos rfl]
   refine hbad _ _ rfl (fun ⟨⟨sd, h1⟩, _, _⟩ => ?_)
   rw [lnk, ho, Bool.true_or, if_pos rfl] at h1
   cases h1
  | false =>
   obtain ⟨hx0, hx1, hs⟩ := outB_no ho
   rw [hw, Bool.or_false, if_neg (by simp)]
   have hlnk : lnk ns (f + 1) st.seen x = if (!formOk (ns.getD x.toNat nd0)) = true then none else (ns.getD x.toNat nd0).ks.foldlM (fun s k => lnk ns f s k) (st.seen.set x.toNat true) := by
    rw [lnk, ho, Bool.false_or]
   have hino : ino ns (f + 1) x lo hi = (nodeOk lo hi (ns.getD x.toNat nd0).es && (List.range (ns.getD x.toNat nd0).ks.length).all (fun i => ino ns f ((ns.getD x.toNat nd0).ks.getD i 0) (lowAt (ns.getD x.toNat nd0).es lo i) (highAt (ns.getD x.toNat nd0).es hi i))) := by rw [ino]
   have hlvs : ∀ h, lvs ns (f + 1) x h = if (ns.getD x.toNat nd0).leaf = true then decide (h = 1) else (ns.getD x.toNat nd0).ks.all (fun k => lvs ns f k (h - 1)) := fun h => by rw [lvs]
   have hhgt : hgt ns (f + 1) x = if (ns.getD x.toNat nd0).leaf = true then 1 else 1 + hgt ns f ((ns.getD x.toNat nd0).ks.getD 0 0) := by rw [hgt]
   have hlfs : lfs ns (f + 1) x = if (ns.getD x.toNat nd0).leaf = true then (ns.getD x.toNat nd0).es else ((ns.getD x.toNat nd0).ks.map (fun k => lfs ns f k)).flatten := by rw [lfs]
   have hun := unseen_set st.seen x.toNat hs
   generalize ns.getD x.toNat nd0 = d at hlnk hino hlvs hhgt hlfs ⊢
   simp only
   by_cases h4 : 4 < d.es.length
   · rw [if_pos (decide_eq_true h4)]
     refine hbad _ _ rfl (fun ⟨⟨sd, h1⟩, _, _⟩ => ?_)
     have : formOk d = false := by
      unfold formOk
      split
      · exact decide_eq_false (fun q => by omega)
      · exact decide_eq_false (fun q => by omega)
     rw [hlnk, this, Bool.not_false, if_pos rfl] at h1
     cases h1
   rw [if_neg (by simpa using h4)]
   cases hno : nodeOk lo hi d.es with
   | false =>
    rw [Bool.not_false, if_pos rfl]
    refine hbad _ _ rfl (fun ⟨_, h2, _⟩ => ?_)
    rw [hino, hno, Bool.false_and] at h2
    cases h2
   | true =>
    rw [Bool.not_true, if_neg (by simp)]
    cases hlf : d.leaf with
    | true =>
     rw [hlf, if_pos rfl] at hhgt hlfs
     rw [if_pos rfl]
     have hD : dOf ns (f + 1) st x deep = if st.deep = 0 then deep else st.deep := by unfold dOf; rw [hhgt]; split <;> omega
     rw [hD]
     have hlv : ∀ h, lvs ns (f + 1) x h = decide (h = 1) := fun h => by rw [hlvs, hlf, if_pos rfl]
     generalize (if st.deep = 0 then deep else st.deep) = D
     by_cases hk : d.ks.length = 0
     · have hks : d.ks = [] := List.length_eq_zero_iff.1 hk
       have hf : formOk d = true := by unfold formOk; rw [hlf, if_pos rfl]; exact decide_eq_true ⟨by omega, hk⟩
       have hl2 : lnk ns (f + 1) st.seen x = some (st.seen.set x.toNat true) := by rw [hlnk, hf, Bool.not_true, if_neg (by simp), hks]; rfl
       have hi2 : ino ns (f + 1) x lo hi = true := by rw [hino, hno, hks]; simp
       refine ⟨?_, fun _ => hl2, fun _ => rfl, fun _ => by rw [hlfs]⟩
       simp only
       rw [hl2, hi2, hlv, hk]
       simp
       constructor
       · intro q; omega
       · intro q; omega
     · refine hbad _ _ ?_ (fun ⟨⟨sd, h1⟩, _, _⟩ => ?_)
       · simp only
         rw [decide_eq_true (show 0 < d.ks.length by omega), Bool.or_true]
       · have : formOk d = false := by unfold formOk; rw [hlf, if_pos rfl]; exact decide_eq_false (fun q => hk q.2)
         rw [hlnk, this, Bool.not_false, if_pos rfl] at h1
         cases h1
    | false =>
     rw [hlf, if_neg (by simp)] at hhgt hlfs
     rw [if_neg (by simp)]
     have hlv : ∀ h, lvs ns (f + 1) x h = d.ks.all (fun k => lvs ns f k (h - 1)) := fun h => by rw [hlvs, hlf, if_neg (by simp)]
     by_cases hb : 1 ≤ d.es.length ∧ d.ks.length = d.es.length + 1
     · have hf : formOk d = true := by unfold formOk; rw [hlf, if_neg (by simp)]; exact decide_eq_true ⟨hb.1, by omega, hb.2⟩
       have hc : (decide (d.es.length < 1) || decide (d.ks.length ≠ d.es.length + 1)) = false := by rw [decide_eq_false (by omega), decide_eq_false (by omega)]; rfl
       rw [hc, if_neg (by simp)]
       have efold : (List.range d.ks.length).foldl (fun s i => goS ns f s (d.ks.getD i 0) (deep + 1) (lowAt d.es lo i) (highAt d.es hi i)) ⟨st.seen.set x.toNat true, st.deep, false, st.all⟩ = runK ns f (deep + 1) (kidsOf d lo hi) ⟨st.seen.set x.toNat true, st.deep, false, st.all⟩ := by
        unfold runK kidsOf
        rw [List.foldl_map]
       rw [efold]
       have hD : dOf ns (f + 1) st x deep = if st.deep = 0 then deep + 1 + hgt ns f (d.ks.getD 0 0) - 1 else st.deep := by unfold dOf; rw [hhgt]; split <;> omega
       have hp := hgt_pos ns f (d.ks.getD 0 0)
       have hDp : 0 < dOf ns (f + 1) st x deep := by rw [hD]; split <;> omega
       have hhead : ∀ t L', kidsOf d lo hi = t :: L' → t.1 = d.ks.getD 0 0 := fun t L' e => by
        have e2 := kids_nums d lo hi
        rw [e] at e2
        simp only [List.map_cons] at e2
        rw [← e2]; rfl
       obtain ⟨D, hDe⟩ : ∃ D, dOf ns (f + 1) st x deep = D := ⟨_, rfl⟩
       rw [hDe] at hD hDp ⊢
       have K := kids_well ns f (deep + 1) D hDp (fun s y l h hs1 hs2 hs3 => goS_well ns f s y (deep + 1) l h (by omega) hs1 hs2 hs3) (kidsOf d lo hi) ⟨st.seen.set x.toNat true, st.deep, false, st.all⟩ (by simp only; omega) rfl hd0 (fun q t L' e => by rw [hD, if_pos q, hhead t L' e]) (fun q => by rw [hD, if_neg q])
       rw [kids_nums] at K
       have hl2 : lnk ns (f + 1) st.seen x = d.ks.foldlM (fun s k => lnk ns f s k) (st.seen.set x.toNat true) := by rw [hlnk, hf, Bool.not_true, if_neg (by simp)]
       have hi2 : ino ns (f + 1) x lo hi = true ↔ ∀ t ∈ kidsOf d lo hi, ino ns f t.1 t.2.1 t.2.2 = true := by
        rw [hino, hno, Bool.true_and, List.all_eq_true]
        unfold kidsOf
        constructor
        · intro q t ht
          obtain ⟨i, hi', rfl⟩ := List.mem_map.1 ht
          exact q i hi'
        · intro q i hi'
          exact q _ (List.mem_map.2 ⟨i, hi', rfl⟩)
       have hv2 : lvs ns (f + 1) x (D - deep + 1) = true ↔ ∀ t ∈ kidsOf d lo hi, lvs ns f t.1 (D - (deep + 1) + 1) = true := by
        rw [hlv, List.all_eq_true, show D - deep + 1 - 1 = D - (deep + 1) + 1 by omega]
        constructor
        · intro q t ht
          refine q t.1 ?_
          rw [← kids_nums d lo hi]
          exact List.mem_map.2 ⟨t, ht, rfl⟩
        · intro q k hk
          rw [← kids_nums d lo hi] at hk
          obtain ⟨t, ht, rfl⟩ := List.mem_map.1 hk
          exact q t ht
       have hne : kidsOf d lo hi ≠ [] := fun e => by
        have := kids_nums d lo hi
        rw [e] at this
        have h0 : d.ks.length = 0 := by rw [← this]; rfl
        omega
       refine ⟨?_, fun q => ?_, fun q => (K.2 q).2.1 hne, fun q => ?_⟩
       · rw [K.1, hl2, hi2, hv2]
       · rw [hl2]; exact (K.2 q).1
       · rw [(K.2 q).2.2, hlfs]
         congr 2
         rw [← kids_nums d lo hi, List.map_map]
         rfl
     · have hc : (decide (d.es.length < 1) || decide (d.ks.length ≠ d.es.length + 1)) = true := by
        by_cases q : d.es.length < 1
        · rw [decide_eq_true q]; rfl
        · rw [decide_eq_true (show d.ks.length ≠ d.es.length + 1 from fun e => hb ⟨by omega, e⟩), Bool.or_true]
       rw [hc, if_pos rfl]
       refine hbad _ _ rfl (fun ⟨⟨sd, h1⟩, _, _⟩ => ?_)
       have : formOk d = false := by unfold formOk; rw [hlf, if_neg (by simp)]; exact decide_eq_false (fun q => hb ⟨q.1, q.2.2⟩)
       rw [hlnk, this, Bool.not_false, if_pos rfl] at h1
       cases h1
end Go.Proofs.YtlkoghdajpbffaaGreat
/- Trees, plain: which tree is right, as the specification and as the program asks it. No program, no conditions. -/

namespace Go.Proofs.YtlkoghdajpbffaaGreat
open Go.RowKit
set_option maxRecDepth 100000
def st0 (n : Nat) : St := ⟨List.replicate n false, 0, false, []⟩
def lookS (ns : List Nd) (root : Int) : St := goS ns (ns.length + 1) (st0 ns.length) root 1 none none
def treeOk (ns : List Nd) (root : Int) : Bool := decide (1 ≤ ns.length ∧ ns.length ≤ 300) && ((lookS ns root).seen.all id && !(lookS ns root).wrong)
def treeIs (ns : List Nd) (root : Int) : Bool := decide (1 ≤ ns.length ∧ ns.length ≤ 300) && (match lnk ns (ns.length + 1) (List.replicate ns.length false) root with
 | none => false
 | some sd => sd.all id && (lvs ns (ns.length + 1) root (hgt ns (ns.length + 1) root) && ino ns (ns.length + 1) root none none))
theorem unseen_rep (n : Nat) : unseen (List.replicate n false) = n := by simp [unseen]
theorem look_well (ns : List Nd) (root : Int) : Well ns (ns.length + 1) (st0 ns.length) root 1 none none (hgt ns (ns.length + 1) root) (lookS ns root) := by
 have h := goS_well ns (ns.length + 1) (st0 ns.length) root 1 none none (by omega) (by simp only [st0]; rw [unseen_rep]; omega) rfl (by simp [st0])
 have e : dOf ns (ns.length + 1) (st0 ns.length) root 1 = hgt ns (ns.length + 1) root := by
  unfold dOf
  rw [if_pos (by rfl)]
  omega
 rw [e] at h
 exact h
theorem tree_same (ns : List Nd) (root : Int) : treeOk ns root = treeIs ns root := by
 have W := look_well ns root
 have e1 : hgt ns (ns.length + 1) root - 1 + 1 = hgt ns (ns.length + 1) root := by omega
 unfold treeOk treeIs
 congr 1
 have es : (st0 ns.length).seen = List.replicate ns.length false := rfl
 cases hw : (lookS ns root).wrong with
 | true =>
  rw [Bool.not_true, Bool.and_false]
  cases hl : lnk ns (ns.length + 1) (List.replicate ns.length false) root with
  | none => rfl
  | some sd =>
   simp only
   cases hi : ino ns (ns.length + 1) root none none with
   | false => simp
   | true =>
    cases hv : lvs ns (ns.length + 1) root (hgt ns (ns.length + 1) root) with
    | false => simp
    | true =>
     exfalso
     have := W.iff.2 ⟨⟨sd, by rw [es]; exact hl⟩, hi, by rw [e1]; exact hv⟩
     rw [hw] at this
     cases this
 | false =>
  rw [Bool.not_false, Bool.and_true]
  obtain ⟨_, h2, h3⟩ := W.iff.1 hw
  rw [e1] at h3
  have hs := W.seen hw
  rw [es] at hs
  rw [hs, h2, h3]
  simp
theorem tree_told {ns : List Nd} {root : Int} (h : treeOk ns root = true) : (lookS ns root).deep = hgt ns (ns.length + 1) root ∧ (lookS ns root).all = lfs ns (ns.length + 1) root := by
 have W := look_well ns root
 unfold treeOk at h
 rw [Bool.and_eq_true, Bool.and_eq_true] at h
 have hw : (lookS ns root).wrong = false := by simpa using h.2.2
 exact ⟨W.deep hw, by rw [W.all hw]; rfl⟩
end Go.Proofs.YtlkoghdajpbffaaGreat
