/- A map of numbers that a call made: what it holds as a function; and, plain, the way from one that waits. No conditions. -/
import Derived.Test.YtknloabdfkidiaaWf12
import Derived.Test.YtknloabdfkidiaaWd12
import Derived.Test.YtknloabdfkidiaaSa8
import Derived.Maps.OwnSet
import Derived.Maps.OwnOps
namespace Go.Proofs.Ytknloabdfkidiaa
open Go.RowKit Go.Maps
set_option maxRecDepth 100000

theorem law3w : Keyed Try.prog 3 := int_keyed Try.underlying3
theorem zeroI12 (w : World) : (zeroValue 3).run Try.prog w = .ok (.int .i64 0) w := by kernel_rfl
theorem run_makeWaits (n : Nat) (w : World) : (Instr.makeMap 47 (some (.int .i64 n))).run Try.prog w = .ok (.map (some w.heap.size)) (w.alloc (.map #[] 0)) := by kernel_rfl
theorem wf12 {x : Int} (h : i64b x) : (Lit.int .i64 x).wf = true := WalkArith.wf_i64 h
theorem key12 {x : Int} (h : i64b x) : keyOf Try.prog 3 (.int .i64 x) = some (.int .i64 x) := keyOf_int_mk Try.underlying3 (wf12 h)

def upd (f : Int → Option Int) (x : Int) (o : Option Int) : Int → Option Int := fun z => if z = x then o else f z
/-- f without those of L. -/
def rem (L : List Int) (f : Int → Option Int) : Int → Option Int := fun z => if z ∈ L then none else f z
theorem rem_nil (f : Int → Option Int) : rem [] f = f := by funext z; simp [rem]
theorem rem_snoc (L : List Int) (x : Int) (f : Int → Option Int) : rem (L ++ [x]) f = upd (rem L f) x none := by
  funext z
  unfold rem upd
  by_cases h : z = x
  · subst h; simp
  · by_cases h2 : z ∈ L
    · simp [h, h2]
    · simp [h, h2]
/-- A map of the call's own at b that holds f, s entries. -/
structure MpW (w : World) (b n : Nat) (f : Int → Option Int) (s : Nat) : Prop where
  ex : ∃ D : DataW Unit, w.ownsMap Try.prog 3 (plainElem Try.prog 3) b n D ∧ Maps.size D = s ∧ ∀ x, Maps.has D (.int .i64 x) = (f x).isSome ∧ D.atKey (.int .i64 x) (.lit (.int .i64 0)) = .lit (.int .i64 ((f x).getD 0))
theorem lit_ne {x y : Int} (h : x ≠ y) : (Lit.int .i64 x) ≠ Lit.int .i64 y := fun e => h (by injection e)
theorem MpW.made (w : World) : MpW (w.alloc (.map #[] 0)) w.heap.size 0 (fun _ => none) 0 :=
  ⟨.map [], World.ownsMap_made _ _ _ _, rfl, fun _ => ⟨rfl, rfl⟩⟩
theorem MpW.kept {w w' : World} {b n s : Nat} {f : Int → Option Int} {row : Option Nat} (h : MpW w b n f s) (g : w.grownBy w' row) (hne : some b ≠ row) : MpW w' b n f s := by
  obtain ⟨D, h1, h2⟩ := h.ex
  exact ⟨D, h1.kept g hne, h2⟩
theorem MpW.lt {w : World} {b n s : Nat} {f : Int → Option Int} (h : MpW w b n f s) : b < w.heap.size := by
  obtain ⟨D, h1, h2⟩ := h.ex
  exact h1.lt
theorem MpW.below {w w' : World} {b n s : Nat} {f : Int → Option Int} (h : MpW w b n f s) (hb : Below w.heap.size w w') : MpW w' b n f s := by
  have hl := h.lt
  obtain ⟨D, ⟨es, clock, hg, r⟩, h2⟩ := h.ex
  exact ⟨D, ⟨es, clock, (hb.block b hl).trans hg, r⟩, h2⟩
theorem MpW.ne_row {w : World} {b n s : Nat} {f : Int → Option Int} (h : MpW w b n f s) {base : Nat} {e : TypeId} {z m : Nat} {v : Value} {xs : List Value} (ho : w.ownsRow base e z v m xs) : v.ownBlock ≠ some b := by
  obtain ⟨D, ⟨es, clock, hg, r⟩, h2⟩ := h.ex
  intro hv
  rcases ho.2 with ⟨rfl, _⟩ | ⟨g, cap, cur, rfl, _, hg2, _⟩
  · simp [Value.ownBlock] at hv
  · simp [Value.ownBlock] at hv
    subst hv
    rw [hg] at hg2
    cases hg2
theorem MpW.put' {w : World} {b n s : Nat} {f : Int → Option Int} {D : DataW Unit} (h1 : w.ownsMap Try.prog 3 (plainElem Try.prog 3) b n D) (hs : Maps.size D = s) (h2 : ∀ x, Maps.has D (.int .i64 x) = (f x).isSome ∧ D.atKey (.int .i64 x) (.lit (.int .i64 0)) = .lit (.int .i64 ((f x).getD 0)))
    {w' : World} {m : Nat} {x y : Int} (h' : w'.ownsMap Try.prog 3 (plainElem Try.prog 3) b m (D.put (.int .i64 x) (.lit (.int .i64 y)))) : MpW w' b m (upd f x (some y)) (if (f x).isSome then s else s + 1) := by
  refine ⟨_, h', ?_, fun z => ?_⟩
  · rw [size_put (h1.tidy law3w), (h2 x).1, hs]
  · by_cases hz : z = x
    · subst hz
      rw [has_put_same h1.isMap (by trivial), atKey_put_same h1.isMap (by trivial)]
      simp [upd]
    · rw [has_put_other (lit_ne hz), atKey_put_other (lit_ne hz), (h2 z).1, (h2 z).2]
      simp [upd, hz]
theorem MpW.del' {b : Nat} {f : Int → Option Int} {D : DataW Unit} (h2 : ∀ x, Maps.has D (.int .i64 x) = (f x).isSome ∧ D.atKey (.int .i64 x) (.lit (.int .i64 0)) = .lit (.int .i64 ((f x).getD 0)))
    {w' : World} {m : Nat} {x : Int} (h' : w'.ownsMap Try.prog 3 (plainElem Try.prog 3) b m (D.del (.int .i64 x))) : ∃ s, MpW w' b m (upd f x none) s := by
  refine ⟨_, _, h', rfl, fun z => ?_⟩
  by_cases hz : z = x
  · subst hz
    rw [has_del_same, atKey_del_same]
    simp [upd]
  · rw [has_del_other (lit_ne hz), atKey_del_other (lit_ne hz), (h2 z).1, (h2 z).2]
    simp [upd, hz]

section
variable {w : World} {ops : Array Oper} {rest : List Oper} {o : Oper} {a : Act} {Q : Exit → Act → World → Prop}
theorem wp_look_ok (hg : o.guard = none) (m x : Operand) (hop : o.op = Op.lookup 47 m x true) (b n s : Nat) (f : Int → Option Int) (hm : a.eval m = .map (some b)) (h : MpW w b n f s) (y : Int) (hx : a.eval x = .int .i64 y) (hy : i64b y)
    (hK : wpList Try.prog ops Q rest (a.put o.dst (.tuple #[.int .i64 ((f y).getD 0), .bool (f y).isSome])) w) : wpList Try.prog ops Q (o :: rest) a w := by
  obtain ⟨D, h1, hs, h2⟩ := h.ex
  refine wpList_lookup_own_ok_int w hg m x 47 hop 3 3 .i64 law3w Try.underlying47 Try.underlying3 (zeroI12 _) b n D hm h1 _ _ hx (key12 hy) ?_
  intro c hat _
  rw [(h2 y).2] at hat
  have e : (f y).getD 0 = c := by injection hat with e; injection e
  rw [← e, (h2 y).1]
  exact hK
theorem wp_look (hg : o.guard = none) (m x : Operand) (hop : o.op = Op.lookup 47 m x false) (b n s : Nat) (f : Int → Option Int) (hm : a.eval m = .map (some b)) (h : MpW w b n f s) (y : Int) (hx : a.eval x = .int .i64 y) (hy : i64b y)
    (hK : wpList Try.prog ops Q rest (a.put o.dst (.int .i64 ((f y).getD 0))) w) : wpList Try.prog ops Q (o :: rest) a w := by
  obtain ⟨D, h1, hs, h2⟩ := h.ex
  refine wpList_lookup_own_int w hg m x 47 hop 3 3 .i64 law3w Try.underlying47 Try.underlying3 (zeroI12 _) b n D hm h1 _ _ hx (key12 hy) ?_
  intro c hat _
  rw [(h2 y).2] at hat
  have e : (f y).getD 0 = c := by injection hat with e; injection e
  rw [← e]
  exact hK
theorem wp_drop (hg : o.guard = none) (m x : Operand) (hop : o.op = Op.call { callee := Callee.builtin Builtin.delete, args := #[m, x], argTypes := #[47, 3] }) (b n s : Nat) (f : Int → Option Int) (hm : a.eval m = .map (some b)) (h : MpW w b n f s) (y : Int) (hx : a.eval x = .int .i64 y) (hy : i64b y)
    (hK : ∀ w' s', MpW w' b n (upd f y none) s' → w.grownBy w' (some b) → wpList Try.prog ops Q rest (a.put o.dst (.tuple #[])) w') : wpList Try.prog ops Q (o :: rest) a w := by
  obtain ⟨D, h1, hs, h2⟩ := h.ex
  refine wpList_delete_own w hg m x 47 3 hop 3 law3w Try.underlying47 _ b n D hm h1 _ _ hx (key12 hy) ?_
  intro w' o1 t1
  obtain ⟨s', h'⟩ := MpW.del' h2 o1
  exact hK w' s' h' t1.grown
theorem wp_upd (hg : o.guard = none) (m x v : Operand) (hop : o.op = Op.mapUpdate 47 m x v) (b n s : Nat) (f : Int → Option Int) (hm : a.eval m = .map (some b)) (h : MpW w b n f s) (hn : n < maxLen) (y z : Int) (hx : a.eval x = .int .i64 y) (hv : a.eval v = .int .i64 z) (hy : i64b y) (hz : i64b z)
    (hK : ∀ w', MpW w' b (n + 1) (upd f y (some z)) (if (f y).isSome then s else s + 1) → w.grownBy w' (some b) → wpList Try.prog ops Q rest (a.put o.dst undef) w') : wpList Try.prog ops Q (o :: rest) a w := by
  obtain ⟨D, h1, hs, h2⟩ := h.ex
  refine wpList_mapUpdate_in w hg m x v 47 hop 3 3 law3w Try.underlying47 _ b n D hm h1 hn _ _ _ hx hv (key12 hy) _ [] (plainElem_int Try.underlying3 (wf12 hz)) ?_
  intro w' o1 t1
  exact hK w' (MpW.put' h1 hs h2 o1) t1.grown
theorem wp_len12 (hg : o.guard = none) (m : Operand) (hop : o.op = Op.call { callee := Callee.builtin Builtin.len, args := #[m], argTypes := #[47] }) (b n s : Nat) (f : Int → Option Int) (hm : a.eval m = .map (some b)) (h : MpW w b n f s)
    (hK : wpList Try.prog ops Q rest (a.put o.dst (.int .i64 s)) w) : wpList Try.prog ops Q (o :: rest) a w := by
  obtain ⟨D, h1, hs, h2⟩ := h.ex
  subst hs
  exact wpList_len_own w hg m 47 hop 3 3 Try.underlying47 _ b n D hm h1 hK
end
theorem look_nil12 (y : Int) (hy : i64b y) (w : World) : (Instr.lookup 47 (.map none) (.int .i64 y) true).run Try.prog w = .ok (.tuple #[.int .i64 0, .bool false]) w :=
  Maps.look_nil true law3w Try.underlying47 (zeroI12 _) (key12 hy)

/-- What waitingOf lays, one behind the other. -/
def mapL (l : List Wt) : Int → Option Int := l.foldl (fun f p => upd f p.1 (some p.2)) (fun _ => none)
theorem mapL_snoc (l : List Wt) (p : Wt) : mapL (l ++ [p]) = upd (mapL l) p.1 (some p.2) := by simp [mapL, List.foldl_append]
theorem mapL_fold : ∀ (l : List Wt) (f : Int → Option Int) (x : Int), (l.map (·.1)).Nodup → (l.foldl (fun f p => upd f p.1 (some p.2)) f) x = (match nextF l x with | some y => some y | none => f x)
  | [], f, x, _ => rfl
  | p :: l, f, x, h => by
    simp only [List.map_cons, List.nodup_cons] at h
    rw [List.foldl_cons, mapL_fold l _ x h.2, show nextF (p :: l) x = if p.1 = x then some p.2 else nextF l x from rfl]
    by_cases hp : p.1 = x
    · rw [if_pos hp]
      have : nextF l x = none := by
        cases hn : nextF l x with
        | none => rfl
        | some y =>
          exfalso
          have : ∀ q : List Wt, nextF q x = some y → x ∈ q.map (·.1) := by
            intro q
            induction q with
            | nil => intro h; cases h
            | cons a q ih =>
              intro h
              unfold nextF at h
              split at h
              · rename_i e; simp [e]
              · exact List.mem_cons_of_mem _ (ih h)
          exact h.1 (hp ▸ this l hn)
      rw [this]
      simp [upd, hp]
    · rw [if_neg hp]
      cases nextF l x with
      | some y => rfl
      | none => simp [upd]; exact fun e => absurd e.symm hp
theorem mapL_next {l : List Wt} (h : okW l = true) : mapL l = nextW l := by
  funext x
  have hn := (of_decide_eq_true h).2
  unfold mapL nextW
  rw [mapL_fold l _ x hn, if_pos h]
  cases nextF l x <;> rfl
theorem mapL_some : ∀ (l : List Wt) (f : Int → Option Int) (x : Int), ((l.foldl (fun f p => upd f p.1 (some p.2)) f) x).isSome = (decide (x ∈ l.map (·.1)) || (f x).isSome)
  | [], f, x => by simp
  | p :: l, f, x => by
    rw [List.foldl_cons, mapL_some l _ x]
    by_cases hp : x = p.1
    · subst hp; simp [upd]
    · by_cases hm : x ∈ l.map (·.1)
      · rw [decide_eq_true hm, decide_eq_true (by simp only [List.map_cons, List.mem_cons]; exact .inr hm)]; simp
      · rw [decide_eq_false hm, decide_eq_false (by simp only [List.map_cons, List.mem_cons]; intro h; rcases h with h | h; exact hp h; exact hm h)]
        simp [upd, hp]
theorem mapL_isSome (l : List Wt) (x : Int) : (mapL l x).isSome = decide (x ∈ l.map (·.1)) := by unfold mapL; rw [mapL_some]; simp

/-- What is told of the way from y: those on it, and to whom it comes. -/
structure WayP (l : List Wt) (y : Int) (Y : List Int) (last : Int) : Prop where
  nd : Y.Nodup
  go : ∀ i, i < Y.length → nextW l ((Y ++ [last]).getD i 0) = some ((Y ++ [last]).getD (i + 1) 0)
  fst : (Y ++ [last]).getD 0 0 = y
theorem WayP.nil (l : List Wt) (y : Int) : WayP l y [] y := ⟨List.nodup_nil, fun i h => by simp at h, rfl⟩
theorem getD_pre {Y : List Int} {a : Int} {i : Nat} (h : i < Y.length) : (Y ++ [a]).getD i 0 = Y.getD i 0 := by
  simp [List.getD, List.getElem?_append_left h]
theorem getD_end (Y : List Int) (a : Int) : (Y ++ [a]).getD Y.length 0 = a := by simp [List.getD]
theorem WayP.snoc {l : List Wt} {y x z : Int} {Y : List Int} (h : WayP l y Y x) (hx : x ∉ Y) (hz : nextW l x = some z) : WayP l y (Y ++ [x]) z := by
  refine ⟨?_, fun i hi => ?_, ?_⟩
  · rw [List.nodup_append]
    exact ⟨h.nd, by simp, fun a ha b hb e => by simp at hb; subst hb; subst e; exact hx ha⟩
  · simp only [List.length_append, List.length_singleton] at hi
    rw [getD_pre (Y := Y ++ [x]) (by simp; omega)]
    by_cases hl : i < Y.length
    · rw [h.go i hl, getD_pre (Y := Y ++ [x]) (by simp; omega)]
    · have : i = Y.length := by omega
      subst this
      rw [getD_end, hz]
      have := getD_end (Y ++ [x]) z
      simp only [List.length_append, List.length_singleton] at this
      rw [this]
  · rw [getD_pre (Y := Y ++ [x]) (by simp), h.fst]
theorem WayP.key {l : List Wt} {y x : Int} {Y : List Int} (h : WayP l y Y x) : ∀ u ∈ Y, u ∈ l.map (·.1) := by
  intro u hu
  obtain ⟨i, hi, rfl⟩ := List.getElem_of_mem hu
  have := h.go i hi
  rw [getD_pre hi, show Y.getD i 0 = Y[i] by simp [List.getD, hi]] at this
  exact next_key this
theorem WayP.len {l : List Wt} {y x : Int} {Y : List Int} (h : WayP l y Y x) : Y.length ≤ l.length := by
  have := sub_len Y (l.map (·.1)) h.nd h.key
  simpa using this
/-- A way at its end: who is reached waits for nobody, or was there already. -/
def endW (l : List Wt) (Y : List Int) (x : Int) : Prop := rem Y (nextW l) x = none
theorem endW_or {l : List Wt} {Y : List Int} {x : Int} (h : endW l Y x) : nextW l x = none ∨ x ∈ Y := by
  unfold endW rem at h
  split at h
  · exact .inr ‹_›
  · exact .inl h
theorem WayP.some {l : List Wt} {y x : Int} {Y : List Int} (h : WayP l y Y x) {u : Int} (hu : u ∈ Y) : ∃ v, nextW l u = some v ∧ v ∈ Y ++ [x] ∧ (v ∈ Y.drop 1 ∨ v = x) := by
  obtain ⟨i, hi, rfl⟩ := List.getElem_of_mem hu
  have e := h.go i hi
  rw [getD_pre hi, show Y.getD i 0 = Y[i] by simp [List.getD, hi]] at e
  refine ⟨_, e, ?_, ?_⟩
  · have hl : i + 1 < (Y ++ [x]).length := by simp; omega
    rw [show (Y ++ [x]).getD (i + 1) 0 = (Y ++ [x])[i + 1] by simp only [List.getD, List.getElem?_eq_getElem hl, Option.getD_some]]
    exact List.getElem_mem hl
  · by_cases hl : i + 1 < Y.length
    · left
      rw [getD_pre hl, show Y.getD (i + 1) 0 = Y[i + 1] by simp [List.getD, hl]]
      rw [List.mem_iff_getElem]
      exact ⟨i, by simp; omega, by simp⟩
    · right
      have : i + 1 = Y.length := by omega
      rw [this, getD_end]
theorem WayP.walk {l : List Wt} {y x : Int} {Y : List Int} (h : WayP l y Y x) : ∀ i, i ≤ Y.length → walk l i y = Option.some ((Y ++ [x]).getD i 0)
  | 0, _ => by rw [h.fst]; rfl
  | i + 1, hi => by
    have ih := h.walk i (by omega)
    have := walk_add l i 1 y _ ih
    rw [this]
    unfold Go.Proofs.Ytknloabdfkidiaa.walk
    rw [h.go i (by omega)]
    rfl
theorem WayP.closed {l : List Wt} {y x : Int} {Y : List Int} (h : WayP l y Y x) (he : endW l Y x) : ∀ (m : Nat) (u z : Int), u ∈ Y ++ [x] → Go.Proofs.Ytknloabdfkidiaa.walk l m u = Option.some z → z ∈ Y ++ [x]
  | 0, u, z, hu, hw => by
    have : u = z := by simpa [Go.Proofs.Ytknloabdfkidiaa.walk] using hw
    exact this ▸ hu
  | m + 1, u, z, hu, hw => by
    unfold Go.Proofs.Ytknloabdfkidiaa.walk at hw
    have step : ∀ u, u ∈ Y → (match nextW l u with | Option.none => Option.none | Option.some z => Go.Proofs.Ytknloabdfkidiaa.walk l m z) = Option.some z → z ∈ Y ++ [x] := by
      intro u hu hw
      obtain ⟨v, e, hv, _⟩ := h.some hu
      rw [e] at hw
      exact h.closed he m v z hv hw
    rw [List.mem_append, List.mem_singleton] at hu
    rcases hu with hu | rfl
    · exact step u hu hw
    · rcases endW_or he with e | e
      · rw [e] at hw; cases hw
      · exact step _ e hw
theorem WayP.mem0 {l : List Wt} {y x : Int} {Y : List Int} (h : WayP l y Y x) : y ∈ Y ++ [x] := by
  rw [← h.fst]
  have hl : 0 < (Y ++ [x]).length := by simp
  rw [show (Y ++ [x]).getD 0 0 = (Y ++ [x])[0] by simp only [List.getD, List.getElem?_eq_getElem hl, Option.getD_some]]
  exact List.getElem_mem hl
theorem way_close {l : List Wt} {y x who : Int} {Y : List Int} (h : WayP l y Y x) (he : endW l Y x) (hok : okW l = true) (hn : nextW l who = none) : closeW l who y = decide (x = who) := by
  by_cases hx : x = who
  · rw [decide_eq_true hx]
    exact (close_iff hok hn).2 ⟨Y.length, by rw [h.walk _ (Nat.le_refl _), getD_end, hx]⟩
  · rw [decide_eq_false hx]
    cases hc : closeW l who y with
    | false => rfl
    | true =>
      exfalso
      obtain ⟨k, hk⟩ := (close_iff hok hn).1 hc
      have := h.closed he k y who h.mem0 hk
      rw [List.mem_append, List.mem_singleton] at this
      rcases this with hm | hm
      · obtain ⟨v, e, _⟩ := h.some hm
        rw [e] at hn
        cases hn
      · exact hx hm.symm
theorem ring_of_way {l : List Wt} {who : Int} {Y : List Int} (h : WayP l who Y who) : ∀ (f i : Nat), i < Y.length → Y.length - i ≤ f → ringF l who f (Y.getD i 0) (Y.take (i + 1)) = Y
  | 0, i, h1, h2 => by omega
  | f + 1, i, h1, h2 => by
    have e := h.go i h1
    rw [getD_pre h1] at e
    unfold ringF
    rw [e]
    simp only
    by_cases hl : i + 1 < Y.length
    · rw [getD_pre hl]
      have hne : Y.getD (i + 1) 0 ≠ who := by
        intro ew
        have h0 := h.fst
        rw [getD_pre (by omega)] at h0
        rw [← h0] at ew
        have e1 : Y.getD (i + 1) 0 = Y[i + 1] := by simp [List.getD, hl]
        have e2 : Y.getD 0 0 = Y[0]'(by omega) := by simp [List.getD, show 0 < Y.length by omega]
        rw [e1, e2] at ew
        have := (List.nodup_iff_pairwise_ne.1 h.nd)
        have := List.pairwise_iff_getElem.1 this 0 (i + 1) (by omega) hl (by omega)
        exact this ew.symm
      rw [if_neg hne]
      have ht : Y.take (i + 1) ++ [Y.getD (i + 1) 0] = Y.take (i + 1 + 1) := by
        rw [List.take_add_one (i := i + 1), List.getElem?_eq_getElem hl]
        simp [List.getD, hl]
      rw [ht]
      exact ring_of_way h f (i + 1) hl (by omega)
    · have hi : i + 1 = Y.length := by omega
      rw [hi, getD_end, if_pos rfl, List.take_of_length_le (by omega)]
theorem way_ring {l : List Wt} {who x : Int} {Y : List Int} (h : WayP l who Y x) (he : endW l Y x) : ringW l who = if x = who then Y else [] := by
  by_cases hx : x = who
  · subst hx
    rw [if_pos rfl]
    by_cases hY : Y.length = 0
    · have : Y = [] := List.eq_nil_of_length_eq_zero hY
      subst this
      rcases endW_or he with e | e
      · unfold ringW ringF; rw [e]
      · simp at e
    · have h0 := h.fst
      rw [getD_pre (by omega)] at h0
      have := ring_of_way h (l.length + 1) 0 (by omega) (by have := h.len; omega)
      rw [h0] at this
      unfold ringW
      have ht : Y.take (0 + 1) = [x] := by
        cases Y with
        | nil => simp at hY
        | cons a r => simp at h0; simp [h0]
      rw [ht] at this
      exact this
  · rw [if_neg hx]
    by_cases hr : ringW l who = []
    · exact hr
    exfalso
    obtain ⟨k, hk⟩ := (ring_iff l who).1 hr
    have hY : 0 < Y.length := by
      by_cases h0 : Y.length = 0
      · have : Y = [] := List.eq_nil_of_length_eq_zero h0
        subst this
        exact absurd h.fst hx
      · omega
    have h0 := h.fst
    rw [getD_pre hY] at h0
    obtain ⟨a, r, rfl⟩ : ∃ a r, Y = a :: r := by
      cases Y with
      | nil => simp at hY
      | cons a r => exact ⟨a, r, rfl⟩
    have ha : a = who := by simpa using h0
    subst ha
    have hnr : a ∉ r := (List.nodup_cons.1 h.nd).1
    have key : ∀ (m : Nat) (u z : Int), (u ∈ r ∨ u = x) → Go.Proofs.Ytknloabdfkidiaa.walk l m u = Option.some z → (z ∈ r ∨ z = x) := by
      intro m
      induction m with
      | zero => intro u z hu hw; have : u = z := by simpa [Go.Proofs.Ytknloabdfkidiaa.walk] using hw
                exact this ▸ hu
      | succ m ih =>
        intro u z hu hw
        unfold Go.Proofs.Ytknloabdfkidiaa.walk at hw
        have step : ∀ u, u ∈ a :: r → (match nextW l u with | Option.none => Option.none | Option.some z => Go.Proofs.Ytknloabdfkidiaa.walk l m z) = Option.some z → (z ∈ r ∨ z = x) := by
          intro u hu hw
          obtain ⟨v, e, _, hv⟩ := h.some hu
          rw [e] at hw
          exact ih v z (by simpa using hv) hw
        rcases hu with hu | rfl
        · exact step u (List.mem_cons_of_mem _ hu) hw
        · rcases endW_or he with e | e
          · rw [e] at hw; cases hw
          · exact step _ e hw
    obtain ⟨v, e, _, hv⟩ := h.some (List.mem_cons_self : a ∈ a :: r)
    unfold Go.Proofs.Ytknloabdfkidiaa.walk at hk
    rw [e] at hk
    rcases key k v a (by simpa using hv) hk with q | q
    · exact hnr q
    · exact hx q.symm
end Go.Proofs.Ytknloabdfkidiaa
