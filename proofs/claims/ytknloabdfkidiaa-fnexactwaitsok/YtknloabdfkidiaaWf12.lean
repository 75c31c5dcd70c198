/- Rings of waits, plain: a way that comes to its end comes there in as many steps as there are waits; a wait that closes no ring leaves none. No program, no conditions. -/
import Derived.Test.YtknloabdfkidiaaWc12
namespace Go.Proofs.Ytknloabdfkidiaa
open Go.RowKit
set_option maxRecDepth 100000

theorem sub_len : ∀ (a b : List Int), a.Nodup → (∀ x ∈ a, x ∈ b) → a.length ≤ b.length
  | [], b, _, _ => by simp
  | x :: a, b, hn, hs => by
    have hx := hs x (by simp)
    have hn' := List.nodup_cons.1 hn
    have ih := sub_len a (b.erase x) hn'.2 (fun y hy => (List.mem_erase_of_ne (show y ≠ x from fun e => hn'.1 (by rw [← e]; exact hy))).2 (hs y (List.mem_cons_of_mem _ hy)))
    rw [List.length_erase_of_mem hx] at ih
    have : 0 < b.length := List.length_pos_of_mem hx
    simp only [List.length_cons]; omega
/-- So many steps from y on. -/
def walk (l : List Wt) : Nat → Int → Option Int
  | 0, y => some y
  | k + 1, y => match nextW l y with
    | none => none
    | some z => walk l k z
theorem walk_add (l : List Wt) : ∀ (i k : Nat) (y z : Int), walk l i y = some z → walk l (i + k) y = walk l k z
  | 0, k, y, z, h => by
    have : y = z := by simpa [walk] using h
    rw [Nat.zero_add, this]
  | i + 1, k, y, z, h => by
    rw [show i + 1 + k = (i + k) + 1 by omega, walk]
    rw [walk] at h
    cases hn : nextW l y with
    | none => rw [hn] at h; cases h
    | some u => rw [hn] at h; exact walk_add l i k u z h
theorem walk_pre (l : List Wt) : ∀ (i k : Nat) (y z : Int), walk l (i + k) y = some z → ∃ u, walk l i y = some u ∧ walk l k u = some z
  | 0, k, y, z, h => ⟨y, rfl, by rw [Nat.zero_add] at h; exact h⟩
  | i + 1, k, y, z, h => by
    rw [show i + 1 + k = (i + k) + 1 by omega, walk] at h
    cases hn : nextW l y with
    | none => rw [hn] at h; cases h
    | some u =>
      rw [hn] at h
      obtain ⟨v, h1, h2⟩ := walk_pre l i k u z h
      exact ⟨v, by rw [walk, hn]; exact h1, h2⟩
theorem next_key {l : List Wt} {x y : Int} (h : nextW l x = some y) : x ∈ l.map (·.1) := by
  unfold nextW at h
  split at h
  · revert h
    induction l with
    | nil => intro h; cases h
    | cons p l ih =>
      intro h
      have : ∀ q : List Wt, nextF q x = some y → x ∈ q.map (·.1) := by
        intro q
        induction q with
        | nil => intro h; cases h
        | cons p q ih2 =>
          intro h
          unfold nextF at h
          split at h
          · rename_i e; simp [e]
          · exact List.mem_cons_of_mem _ (ih2 h)
      exact this _ h
  · cases h
/-- The shortest way to who goes over no one twice. -/
theorem walk_short {l : List Wt} {y who : Int} {k : Nat} (h : walk l k y = some who) (hm : ∀ j, j < k → walk l j y ≠ some who) : k ≤ l.length := by
  have hex : ∀ i, i < k → ∃ u, walk l i y = some u ∧ u ∈ l.map (·.1) := fun i hi => by
    obtain ⟨u, h1, h2⟩ := walk_pre l i (k - i) y who (by rw [show i + (k - i) = k by omega]; exact h)
    refine ⟨u, h1, ?_⟩
    rw [show k - i = (k - i - 1) + 1 by omega] at h2
    unfold walk at h2
    cases hn : nextW l u with
    | none => rw [hn] at h2; cases h2
    | some z => exact next_key hn
  have hl : (List.range k).length ≤ l.length := by
    let f : Nat → Int := fun i => (walk l i y).getD 0
    have e1 : ((List.range k).map f).length ≤ (l.map (·.1)).length := by
      refine sub_len _ _ ?_ (fun x hx => ?_)
      · rw [List.Nodup, List.pairwise_map]
        refine List.Pairwise.imp_of_mem ?_ (List.pairwise_lt_range (n := k))
        intro i j hi hj hij e
        rw [List.mem_range] at hi hj
        obtain ⟨u, h1, _⟩ := hex i hi
        obtain ⟨v, h2, _⟩ := hex j hj
        have euv : u = v := by simpa [f, h1, h2] using e
        subst euv
        have h3 : walk l (k - j) u = some who := by
          have := walk_add l j (k - j) y u h2
          rw [show j + (k - j) = k by omega] at this
          rw [← this]; exact h
        have h4 := walk_add l i (k - j) y u h1
        exact hm (i + (k - j)) (by omega) (h4.trans h3)
      · obtain ⟨i, hi, rfl⟩ := List.mem_map.1 hx
        obtain ⟨u, h1, h2⟩ := hex i (List.mem_range.1 hi)
        simpa [f, h1] using h2
    simpa using e1
  simpa using hl
theorem least {p : Nat → Prop} {k : Nat} (h : p k) : ∃ j, j ≤ k ∧ p j ∧ ∀ i, i < j → ¬ p i := by
  induction k using Nat.strongRecOn with
  | _ k ih =>
    by_cases hc : ∃ i, i < k ∧ p i
    · obtain ⟨i, hi, hp⟩ := hc
      obtain ⟨j, h1, h2, h3⟩ := ih i hi hp
      exact ⟨j, by omega, h2, h3⟩
    · exact ⟨k, Nat.le_refl _, h, fun i hi hp => hc ⟨i, hi, hp⟩⟩
theorem walk_least {l : List Wt} {y who : Int} {k : Nat} (h : walk l k y = some who) : ∃ j, j ≤ l.length ∧ j ≤ k ∧ walk l j y = some who := by
  obtain ⟨j, h1, h2, h3⟩ := least (p := fun k => walk l k y = some who) h
  exact ⟨j, walk_short h2 h3, h1, h2⟩
theorem closeF_iff (l : List Wt) (who : Int) : ∀ (f : Nat) (y : Int), closeF l who f y = true ↔ ∃ k, k < f ∧ walk l k y = some who
  | 0, y => by simp [closeF]
  | f + 1, y => by
    unfold closeF
    by_cases hy : y = who
    · rw [if_pos hy]
      exact ⟨fun _ => ⟨0, by omega, by simp [walk, hy]⟩, fun _ => rfl⟩
    · rw [if_neg hy]
      constructor
      · intro h
        cases hn : nextW l y with
        | none => rw [hn] at h; cases h
        | some z =>
          rw [hn] at h
          obtain ⟨k, h1, h2⟩ := (closeF_iff l who f z).1 h
          exact ⟨k + 1, by omega, by unfold walk; rw [hn]; exact h2⟩
      · rintro ⟨k, h1, h2⟩
        cases k with
        | zero => exact absurd (by simpa [walk] using h2) hy
        | succ k =>
          unfold walk at h2
          cases hn : nextW l y with
          | none => rw [hn] at h2; cases h2
          | some z =>
            rw [hn] at h2
            exact (closeF_iff l who f z).2 ⟨k, by omega, h2⟩
/-- A wait for holder would close a ring just if by waits one comes from holder to who. -/
theorem close_iff {l : List Wt} {who holder : Int} (hok : okW l = true) (hn : nextW l who = none) : closeW l who holder = true ↔ ∃ k, walk l k holder = some who := by
  unfold closeW
  rw [hok, hn]
  simp only [Option.isSome_none, Bool.not_false, Bool.true_and]
  rw [closeF_iff]
  constructor
  · rintro ⟨k, _, h⟩; exact ⟨k, h⟩
  · rintro ⟨k, h⟩
    obtain ⟨j, h1, _, h3⟩ := walk_least h
    exact ⟨j, by omega, h3⟩
theorem ringF_iff (l : List Wt) (who : Int) : ∀ (f : Nat) (y : Int) (out : List Int), out ≠ [] → (ringF l who f y out ≠ [] ↔ ∃ k, k < f ∧ walk l (k + 1) y = some who)
  | 0, y, out, _ => by simp [ringF]
  | f + 1, y, out, ho => by
    unfold ringF
    cases hn : nextW l y with
    | none =>
      simp only [ne_eq, not_true_eq_false, false_iff, not_exists, not_and]
      intro k _ h
      unfold walk at h; rw [hn] at h; cases h
    | some z =>
      simp only
      by_cases hz : z = who
      · rw [if_pos hz]
        exact ⟨fun _ => ⟨0, by omega, by unfold walk; rw [hn]; simp [walk, hz]⟩, fun _ => ho⟩
      · rw [if_neg hz, ringF_iff l who f z (out ++ [z]) (by simp)]
        constructor
        · rintro ⟨k, h1, h2⟩
          exact ⟨k + 1, by omega, by rw [walk, hn]; exact h2⟩
        · rintro ⟨k, h1, h2⟩
          rw [walk, hn] at h2
          cases k with
          | zero => exact absurd (by simpa [walk] using h2) hz
          | succ k => exact ⟨k, by omega, h2⟩
theorem ring_iff (l : List Wt) (who : Int) : ringW l who ≠ [] ↔ ∃ k, walk l (k + 1) who = some who := by
  unfold ringW
  rw [ringF_iff l who _ who [who] (by simp)]
  constructor
  · rintro ⟨k, _, h⟩; exact ⟨k, h⟩
  · rintro ⟨k, h⟩
    rw [walk] at h
    cases hn : nextW l who with
    | none => rw [hn] at h; cases h
    | some z =>
      rw [hn] at h
      obtain ⟨j, h1, _, h3⟩ := walk_least h
      exact ⟨j, by omega, by rw [walk, hn]; exact h3⟩
/-- What follows upon each other. -/
def linked (l : List Wt) (L : List Int) : Prop := ∀ i, i + 1 < L.length → nextW l (L.getD i 0) = some (L.getD (i + 1) 0)
theorem linked_snoc {l : List Wt} {L : List Int} {z : Int} (h : linked l L) (h0 : L ≠ []) (hz : nextW l (L.getD (L.length - 1) 0) = some z) : linked l (L ++ [z]) := by
  intro i hi
  have hp : 0 < L.length := List.length_pos_iff.2 h0
  simp only [List.length_append, List.length_singleton] at hi
  rw [getD_app, if_pos (by omega), getD_app]
  by_cases hc : i + 1 < L.length
  · rw [if_pos hc]; exact h i hc
  · rw [if_neg hc, show i + 1 - L.length = 0 by omega, show i = L.length - 1 by omega]; exact hz
theorem ringF_linked (l : List Wt) (who : Int) : ∀ (f : Nat) (y : Int) (out : List Int), out ≠ [] → out.getD 0 0 = who → out.getD (out.length - 1) 0 = y → linked l out → ringF l who f y out ≠ [] → linked l (ringF l who f y out) ∧ (ringF l who f y out).getD 0 0 = who ∧ nextW l ((ringF l who f y out).getD ((ringF l who f y out).length - 1) 0) = some who
  | 0, y, out, _, _, _, _, h => absurd rfl h
  | f + 1, y, out, ho, h0, hy, hl, h => by
    unfold ringF at h ⊢
    cases hn : nextW l y with
    | none => rw [hn] at h; exact absurd rfl h
    | some z =>
      rw [hn] at h
      simp only at h ⊢
      by_cases hz : z = who
      · rw [if_pos hz] at h ⊢
        exact ⟨hl, h0, by rw [hy, hn, hz]⟩
      · rw [if_neg hz] at h ⊢
        have hp : 0 < out.length := List.length_pos_iff.2 ho
        refine ringF_linked l who f z (out ++ [z]) (by simp) ?_ ?_ (linked_snoc hl ho (by rw [hy]; exact hn)) h
        · rw [getD_app, if_pos hp]; exact h0
        · rw [getD_app, if_neg (by simp), List.length_append, List.length_singleton, show out.length + 1 - 1 - out.length = 0 by omega]; rfl
theorem ring_linked {l : List Wt} {who : Int} (h : ringW l who ≠ []) : linked l (ringW l who) ∧ (ringW l who).getD 0 0 = who ∧ nextW l ((ringW l who).getD ((ringW l who).length - 1) 0) = some who :=
  ringF_linked l who _ who [who] (by simp) rfl rfl (fun i hi => by simp at hi) h
/-- The next of each in a ring. -/
theorem ring_next {l : List Wt} {who : Int} {k : Nat} (hk : k < (ringW l who).length) : nextW l ((ringW l who).getD k 0) = some ((ringW l who).getD ((k + 1) % (ringW l who).length) 0) := by
  have hne : ringW l who ≠ [] := fun e => by rw [e] at hk; cases hk
  obtain ⟨h1, h2, h3⟩ := ring_linked hne
  by_cases hc : k + 1 < (ringW l who).length
  · rw [Nat.mod_eq_of_lt hc]; exact h1 k hc
  · rw [show k + 1 = (ringW l who).length by omega, Nat.mod_self, h2, ← h3, show k = (ringW l who).length - 1 by omega]
theorem nextF_snoc (x h : Int) : ∀ (l : List Wt) (y : Int), nextF (l ++ [(x, h)]) y = match nextF l y with
    | some z => some z
    | none => if x = y then some h else none
  | [], y => by simp [nextF]
  | p :: l, y => by
    rw [List.cons_append]
    unfold nextF
    by_cases e : p.1 = y
    · rw [if_pos e, if_pos e]
    · rw [if_neg e, if_neg e]; exact nextF_snoc x h l y
theorem nextF_no : ∀ (l : List Wt) (x : Int), nextF l x = none → ∀ p ∈ l, p.1 ≠ x
  | q :: l, x, h, p, hp => by
    unfold nextF at h
    split at h
    · cases h
    · rename_i e
      rcases List.mem_cons.1 hp with rfl | hp
      · exact e
      · exact nextF_no l x h p hp
theorem okW_snoc {l : List Wt} {x h : Int} (hok : okW l = true) (hn : nextW l x = none) (hl : l.length < 64) : okW (l ++ [(x, h)]) = true := by
  have h1 := of_decide_eq_true hok
  have h2 : nextF l x = none := by unfold nextW at hn; rw [if_pos hok] at hn; exact hn
  refine okW_yes (by simp; omega) ?_
  rw [List.map_append, List.nodup_append]
  refine ⟨h1.2, by simp, fun a ha b hb => ?_⟩
  obtain ⟨p, hp, rfl⟩ := List.mem_map.1 ha
  simp only [List.map_cons, List.map_nil, List.mem_singleton] at hb
  subst hb
  exact nextF_no l _ h2 p hp
theorem nextW_snoc {l : List Wt} {x h : Int} (hok : okW l = true) (hn : nextW l x = none) (hl : l.length < 64) (y : Int) : nextW (l ++ [(x, h)]) y = if y = x then some h else nextW l y := by
  have h2 : nextF l x = none := by unfold nextW at hn; rw [if_pos hok] at hn; exact hn
  unfold nextW
  rw [okW_snoc hok (by unfold nextW; rw [if_pos hok]; exact h2) hl, if_pos rfl, if_pos hok, nextF_snoc]
  by_cases e : y = x
  · rw [if_pos e, e, h2]; simp
  · rw [if_neg e]
    cases hf : nextF l y with
    | none => exact if_neg (fun q : x = y => e q.symm)
    | some z => rfl
/-- A way that does not go on from x is the same with the new wait and without. -/
theorem walk_snoc {l : List Wt} {x h : Int} (hok : okW l = true) (hn : nextW l x = none) (hl : l.length < 64) : ∀ (k : Nat) (y z : Int), (walk l k y = some z → walk (l ++ [(x, h)]) k y = some z) ∧ (walk (l ++ [(x, h)]) k y = some z → walk l k y = some z ∨ ∃ i, i < k ∧ walk (l ++ [(x, h)]) i y = some x ∧ walk l i y = some x)
  | 0, y, z => ⟨fun e => e, fun e => .inl e⟩
  | k + 1, y, z => by
    have hs := nextW_snoc (h := h) hok hn hl y
    constructor
    · intro e
      rw [walk] at e ⊢
      have hy : y ≠ x := fun q => by rw [q, hn] at e; cases e
      rw [hs, if_neg hy]
      cases hf : nextW l y with
      | none => rw [hf] at e; cases e
      | some u => rw [hf] at e; exact (walk_snoc hok hn hl k u z).1 e
    · intro e
      by_cases hy : y = x
      · exact .inr ⟨0, by omega, by simp [walk, hy], by simp [walk, hy]⟩
      · rw [walk, hs, if_neg hy] at e
        cases hf : nextW l y with
        | none => rw [hf] at e; cases e
        | some u =>
          rw [hf] at e
          rcases (walk_snoc hok hn hl k u z).2 e with q | ⟨i, h1, h2, h3⟩
          · exact .inl (by rw [walk, hf]; exact q)
          · exact .inr ⟨i + 1, by omega, by rw [walk, hs, if_neg hy, hf]; exact h2, by rw [walk, hf]; exact h3⟩
/-- The new wait closes a ring just if it is told so. -/
theorem ring_close {l : List Wt} {x h : Int} (hok : okW l = true) (hn : nextW l x = none) (hl : l.length < 64) : ringW (l ++ [(x, h)]) x ≠ [] ↔ closeW l x h = true := by
  rw [ring_iff, close_iff hok hn]
  constructor
  · rintro ⟨k, e⟩
    rw [walk, nextW_snoc hok hn hl, if_pos rfl] at e
    rcases (walk_snoc (h := h) hok hn hl k h x).2 e with q | ⟨i, _, _, q⟩
    · exact ⟨k, q⟩
    · exact ⟨i, q⟩
  · rintro ⟨k, e⟩
    exact ⟨k, by rw [walk, nextW_snoc hok hn hl, if_pos rfl]; exact (walk_snoc (h := h) hok hn hl k h x).1 e⟩
/-- Where no ring was, and none is closed, there is none. -/
theorem ring_none {l : List Wt} {x h : Int} (hok : okW l = true) (hn : nextW l x = none) (hl : l.length < 64) (h0 : ∀ y, ringW l y = []) (hc : closeW l x h = false) (y : Int) : ringW (l ++ [(x, h)]) y = [] := by
  refine Classical.byContradiction (fun q => ?_)
  obtain ⟨k, e⟩ := (ring_iff _ _).1 q
  rcases (walk_snoc (h := h) hok hn hl (k + 1) y y).2 e with p | ⟨i, hi, h2, _⟩
  · exact (ring_iff l y).2 ⟨k, p⟩ (h0 y)
  · have e1 := walk_add _ i (k + 1) y x h2
    have e2 := walk_add _ (k + 1) i y y e
    rw [show k + 1 + i = i + (k + 1) by omega] at e2
    have e3 : walk (l ++ [(x, h)]) (k + 1) x = some x := by rw [← e1, e2]; exact h2
    have := (ring_close hok hn hl).1 ((ring_iff _ _).2 ⟨k, e3⟩)
    rw [hc] at this
    cases this
end Go.Proofs.Ytknloabdfkidiaa
