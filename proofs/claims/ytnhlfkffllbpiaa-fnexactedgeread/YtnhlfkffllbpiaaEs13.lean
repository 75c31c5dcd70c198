/- Tracks copied without their memory; EdgeEnd, plain. No statement of its own; no conditions. -/
import Derived.Test.YtnhlfkffllbpiaaEr13
namespace Go.Proofs.Ytnhlfkffllbpiaa
open Go.RowKit
set_option maxRecDepth 100000

/-- Where the reads and writes of a track are read. -/
structure PartT (w : World) (m : Mt) (t : Tk) : Prop where
  ex : ∃ a c a' c', m.y = .slice a t.rs.length c ∧ m.z = .slice a' t.ws.length c' ∧ ReadsM w a (fl2 t.rs) ∧ t.rs.length ≤ maxLen ∧ ReadsM w a' t.ws ∧ t.ws.length ≤ maxLen
/-- A row of tracks of the call's own, whose reads and writes lie where they were in w0. -/
structure ShT (w0 w : World) (lo : Nat) (v : Value) (n : Nat) (L : List Tk) : Prop where
  ex : ∃ ms : List Mt, ms.length = L.length ∧ w.ownsRow lo 46 8 v n (cellsT L ms) ∧ ∀ i, i < L.length → PartT w0 (ms.getD i mt0) (L.getD i tk0)
  len : L.length = n
section
variable {w0 w w' : World} {lo : Nat} {v : Value} {n : Nat} {L : List Tk}
theorem ShT.nil (w0 w : World) (lo : Nat) : ShT w0 w lo (.slice none 0 0) 0 [] := ⟨⟨[], rfl, World.ownsRow_nil _ _ _ _, fun i hi => by cases hi⟩, rfl⟩
theorem ShT.slice (h : ShT w0 w lo v n L) : ∃ a c, v = .slice a n c := by
  obtain ⟨ms, _, o, _⟩ := h.ex
  exact own_sl o
theorem ShT.below (h : ShT w0 w lo v n L) {B : Nat} (hb : Below B w w') (hB : w.heap.size ≤ B) : ShT w0 w' lo v n L := by
  obtain ⟨ms, hm, o, hp⟩ := h.ex
  exact ⟨⟨ms, hm, owns_below hb hB o, hp⟩, h.len⟩
theorem ShT.kept {row : Option Nat} (h : ShT w0 w lo v n L) (g : w.grownBy w' row) (hne : ∀ k, v.ownBlock = some k → row ≠ some k) : ShT w0 w' lo v n L := by
  obtain ⟨ms, hm, o, hp⟩ := h.ex
  exact ⟨⟨ms, hm, owns_keep o (Keeps.grown (X := fun b => row = some b) g (fun _ e => e)) (fun k hk => hne k hk), hp⟩, h.len⟩
theorem ShT.at (h : ShT w0 w lo v n L) {i : Nat} (hi : i < n) : ∃ g c a1 c1 a2 c2, v = .slice (some ⟨g, 0, none⟩) n c ∧ lo ≤ g ∧ g < w.heap.size ∧ Box8 w g (i * 8) (L.getD i tk0) (.slice a1 (L.getD i tk0).rs.length c1) (.slice a2 (L.getD i tk0).ws.length c2) ∧ PartT w0 ⟨.slice a1 (L.getD i tk0).rs.length c1, [], .slice a2 (L.getD i tk0).ws.length c2, []⟩ (L.getD i tk0) := by
  obtain ⟨ms, hm, o, hp⟩ := h.ex
  have hl := h.len
  obtain ⟨a1, c1, a2, c2, e1, e2, r⟩ := (hp i (by omega)).ex
  rcases o.2 with ⟨_, h0⟩ | ⟨g, cap, cur, e, _⟩
  · omega
  · subst e
    have hc := fun j (hj : j < 8) => (o.cellAt (i * 8 + j) (by omega)).trans (cellsT_at L ms i j hm (by omega) hj)
    refine ⟨g, cap, a1, c1, a2, c2, rfl, (o.lt g rfl).1, (o.lt g rfl).2, ⟨hc 0 (by omega), hc 1 (by omega), hc 2 (by omega), hc 3 (by omega), ?_, ?_, hc 6 (by omega), hc 7 (by omega)⟩, ⟨a1, c1, a2, c2, rfl, rfl, r⟩⟩
    · have := hc 4 (by omega); simp only [cellsT1, e1] at this; exact this
    · have := hc 5 (by omega); simp only [cellsT1, e2] at this; exact this
theorem ShT.rd {a : Option Addr} {c : Nat} (h : ShT w0 w lo (.slice a n c) n L) (hb : Below w0.heap.size w0 w) : ReadsT w a L := by
  have hl := h.len
  by_cases h0 : n = 0
  · exact ⟨.inl (by omega)⟩
  · obtain ⟨g, _, _, _, _, _, e, _⟩ := h.at (i := 0) (by omega)
    injection e with e1
    subst e1
    refine ⟨.inr ⟨g, 0, rfl, fun i hi => ?_⟩⟩
    obtain ⟨g', _, a1, c1, a2, c2, e', _, _, bx, hp⟩ := h.at (i := i) (by omega)
    injection e' with e1
    injection e1 with e1
    injection e1 with e1
    subst e1
    obtain ⟨b1, d1, b2, d2, q1, q2, r1, m1, r2, m2⟩ := hp.ex
    injection q1 with q1
    injection q2 with q2
    subst q1 q2
    rw [Nat.zero_add]
    exact ⟨a1, c1, a2, c2, ⟨bx.c0, bx.c1, bx.c2, bx.c3, bx.c4, bx.c5, bx.c6, bx.c7⟩, r1.below hb (Nat.le_refl _), m1, r2.below hb (Nat.le_refl _), m2⟩
theorem ShT.push {ms : List Mt} (hm : ms.length = L.length) (hl : L.length = n) (hp : ∀ i, i < L.length → PartT w0 (ms.getD i mt0) (L.getD i tk0)) {t : Tk} {x y : Value} (p : PartT w0 ⟨x, [], y, []⟩ t) {v' : Value} (o' : w'.ownsRow lo 46 8 v' (n + 1) (cellsT L ms ++ cellsT1 t ⟨x, [], y, []⟩)) : ShT w0 w' lo v' (n + 1) (L ++ [t]) := by
  refine ⟨⟨ms ++ [⟨x, [], y, []⟩], by simp [hm], ?_, fun i hi => ?_⟩, by rw [List.length_append, hl]; rfl⟩
  · rw [cellsT_app _ _ _ _ hm, cellsT_cons, cellsT_nil, List.append_nil]; exact o'
  · simp only [List.length_append, List.length_singleton] at hi
    rw [getD_app, getD_app, hm]
    by_cases hc : i < L.length
    · rw [if_pos hc, if_pos hc]; exact hp i hc
    · rw [if_neg hc, if_neg hc, show i - L.length = 0 by omega]; exact p
end
theorem PartT.of {w : World} {a1 a2 : Option Addr} {c1 c2 : Nat} {t : Tk} (r1 : ReadsM w a1 (fl2 t.rs)) (m1 : t.rs.length ≤ maxLen) (r2 : ReadsM w a2 t.ws) (m2 : t.ws.length ≤ maxLen) : PartT w ⟨.slice a1 t.rs.length c1, [], .slice a2 t.ws.length c2, []⟩ t := ⟨a1, c1, a2, c2, rfl, rfl, r1, m1, r2, m2⟩
def endT (t : Tk) (now : Int) : Tk := ⟨t.xid, t.begun, now, t.all, t.rs, t.ws, t.inn, t.out⟩
def stepT (ts : List Tk) (k0 : Nat) (done : Bool) (now : Int) (i : Nat) : List Tk := if i = k0 then (if done then [endT (ts.getD i tk0) now] else []) else [ts.getD i tk0]
/-- The first j tracks, the one at k0 ended or taken out. -/
def leftJ (ts : List Tk) (k0 : Nat) (done : Bool) (now : Int) (j : Nat) : List Tk := ((List.range j).map (stepT ts k0 done now)).flatten
theorem leftJ_succ (ts : List Tk) (k0 : Nat) (done : Bool) (now : Int) (j : Nat) : leftJ ts k0 done now (j + 1) = leftJ ts k0 done now j ++ stepT ts k0 done now j := by
  unfold leftJ
  rw [List.range_succ, List.map_append, List.flatten_append]
  simp
theorem leftJ_len (ts : List Tk) (k0 : Nat) (done : Bool) (now : Int) : ∀ j, (leftJ ts k0 done now j).length ≤ j
  | 0 => by simp [leftJ]
  | j + 1 => by
    have ih := leftJ_len ts k0 done now j
    rw [leftJ_succ, List.length_append]
    have : (stepT ts k0 done now j).length ≤ 1 := by
      unfold stepT
      split
      · split <;> simp
      · simp
    omega
def leftT (ts : List Tk) (k0 : Nat) (done : Bool) (now : Int) : List Tk := leftJ ts k0 done now ts.length
/-- Whether an active track of L began ahead of the end of one that ended at e. -/
def holdB (u : Tk) (e : Int) : Bool := decide (u.ended = 0) && decide (u.begun < e)
def needB (L : List Tk) (t : Tk) : Bool := decide (t.ended = 0) || L.any (fun u => holdB u t.ended)
def keptT (L : List Tk) : List Tk := L.filter (needB L)
def endS (ts : List Tk) (x now : Int) (done : Bool) (ok : Bool) : List Tk := if ok = false then [] else match atT ts x with
  | none => []
  | some k => if now ≤ (ts.getD k tk0).begun then [] else if (done && ((ts.getD k tk0).inn && (ts.getD k tk0).out)) = true then ts else keptT (leftT ts k done now)
def endC (ts : List Tk) (x now : Int) (done : Bool) (ok : Bool) : Int := if ok = false then 1 else match atT ts x with
  | none => 1
  | some k => if now ≤ (ts.getD k tk0).begun then 1 else if (done && ((ts.getD k tk0).inn && (ts.getD k tk0).out)) = true then 2 else 0
theorem need_step (L : List Tk) (e : Int) {k : Nat} (h : k < L.length) : (L.take (k + 1)).any (fun u => holdB u e) = ((L.take k).any (fun u => holdB u e) || holdB (L.getD k tk0) e) := by
  rw [take_snocT L k h, List.any_append]
  simp
theorem kept_step (L : List Tk) {k : Nat} (h : k < L.length) : (L.take (k + 1)).filter (needB L) = (L.take k).filter (needB L) ++ (if needB L (L.getD k tk0) = true then [L.getD k tk0] else []) := by
  rw [take_snocT L k h, List.filter_append]
  congr 1
  by_cases q : needB L (L.getD k tk0) = true
  · rw [if_pos q, List.filter_cons_of_pos q, List.filter_nil]
  · rw [if_neg q, List.filter_cons_of_neg q, List.filter_nil]
end Go.Proofs.Ytnhlfkffllbpiaa
