/- A page put together of two. No program, no conditions. -/
import Derived.Test.YtioefplkadpfnaaMgb
namespace Go.Proofs.Ytioefplkadpfnaa

/-- Sectors, the k-th of b where f says so, else of a. -/
def pickS (a b : List Int) (f : Nat → Bool) : Nat → List Int
  | 0 => []
  | k + 1 => pickS a b f k ++ ((if f k then b else a).drop (64 * k)).take 64
def cntB (f : Nat → Bool) : Nat → Nat
  | 0 => 0
  | k + 1 => cntB f k + if f k then 1 else 0
theorem src_len {a b : List Int} (ha : a.length = 256) (hb : b.length = 256) (v : Bool) : (if v then b else a).length = 256 := by cases v <;> simp [ha, hb]
theorem pickS_len {a b : List Int} (ha : a.length = 256) (hb : b.length = 256) (f : Nat → Bool) : ∀ k, k ≤ 4 → (pickS a b f k).length = 64 * k
  | 0, _ => rfl
  | k + 1, h => by
    have := src_len ha hb (f k)
    rw [pickS, List.length_append, pickS_len ha hb f k (by omega), List.length_take, List.length_drop, this]
    omega
theorem pickS_at {a b : List Int} (ha : a.length = 256) (hb : b.length = 256) (f : Nat → Bool) : ∀ k, k ≤ 4 → ∀ j, j < k → ((pickS a b f k).drop (64 * j)).take 64 = ((if f j then b else a).drop (64 * j)).take 64
  | 0, _, j, hj => by omega
  | k + 1, h, j, hj => by
    have hl := pickS_len ha hb f k (by omega)
    have hs := src_len ha hb (f k)
    rw [pickS]
    by_cases hjk : j = k
    · subst hjk
      rw [← hl, List.drop_append_of_le_length (Nat.le_refl _), List.drop_eq_nil_of_le (Nat.le_refl _), List.nil_append, List.take_take, Nat.min_self, hl]
    · rw [List.drop_append_of_le_length (by omega), List.take_append_of_le_length (by rw [List.length_drop]; omega)]
      exact pickS_at ha hb f k (by omega) j (by omega)
theorem pickS_four {a b : List Int} (ha : a.length = 256) (hb : b.length = 256) (f : Nat → Bool) (j : Nat) (hj : j < 4) : ((pickS a b f 4).drop (64 * j)).take 4 = ((if f j then b else a).drop (64 * j)).take 4 := by
  have := congrArg (List.take 4) (pickS_at ha hb f 4 (Nat.le_refl _) j hj)
  rw [List.take_take, List.take_take] at this
  exact this
theorem pickS_same {a b : List Int} (f : Nat → Bool) (v : Bool) (hf : ∀ i, i < 4 → f i = v) : ∀ k, k ≤ 4 → pickS a b f k = (if v then b else a).take (64 * k)
  | 0, _ => by simp [pickS]
  | k + 1, h => by
    rw [pickS, pickS_same f v hf k (by omega), hf k (by omega), show 64 * (k + 1) = 64 * k + 64 by omega, List.take_add]
theorem pick_all (f : Nat → Bool) : (cntB f 4 = 0 ∧ (∀ i, i < 4 → f i = false)) ∨ (cntB f 4 = 4 ∧ (∀ i, i < 4 → f i = true)) ∨ (cntB f 4 ≠ 0 ∧ cntB f 4 ≠ 4 ∧ (∃ i, i < 4 ∧ f i = false) ∧ ∃ i, i < 4 ∧ f i = true) := by
  have all : ∀ v, f 0 = v → f 1 = v → f 2 = v → f 3 = v → ∀ i, i < 4 → f i = v := fun v h0 h1 h2 h3 i hi => by
    match i, hi with
    | 0, _ => exact h0
    | 1, _ => exact h1
    | 2, _ => exact h2
    | 3, _ => exact h3
  have ex : ∀ v, (f 0 = v ∨ f 1 = v ∨ f 2 = v ∨ f 3 = v) → ∃ i, i < 4 ∧ f i = v := fun v h => by
    rcases h with h | h | h | h
    · exact ⟨0, by omega, h⟩
    · exact ⟨1, by omega, h⟩
    · exact ⟨2, by omega, h⟩
    · exact ⟨3, by omega, h⟩
  have ec : cntB f 4 = 0 + (if f 0 then 1 else 0) + (if f 1 then 1 else 0) + (if f 2 then 1 else 0) + (if f 3 then 1 else 0) := rfl
  cases h0 : f 0 <;> cases h1 : f 1 <;> cases h2 : f 2 <;> cases h3 : f 3 <;> rw [h0, h1, h2, h3] at ec <;> simp at ec <;>
    first
    | exact .inl ⟨ec, all false h0 h1 h2 h3⟩
    | exact .inr (.inl ⟨ec, all true h0 h1 h2 h3⟩)
    | exact .inr (.inr ⟨by omega, by omega, ex false (by simp [h0, h1, h2, h3]), ex true (by simp [h0, h1, h2, h3])⟩)
theorem mix_num {Lp Lq : Int} {ps qs : List (List Int)} (hp : okP Lp ps = true) (hq : okP Lq qs = true) (f : Nat → Bool) {L : Int} {ss : List (List Int)} (hr : readP (pickS (bytesP Lp ps) (bytesP Lq qs) f 4) = some (L, ss)) (i : Nat) (hi : i < 4) : L = if f i then Lq else Lp := by
  obtain ⟨hb, hl⟩ := read_some hr
  have ho := bytes_ok hb (by intro e; rw [e] at hl; simp at hl)
  have h1 := (bytes_num ho i hi).2
  rw [hb, pickS_four (bytesP_len hp) (bytesP_len hq) f i hi] at h1
  rw [← h1]
  cases f i with
  | false => simpa using (bytes_num hp i hi).2
  | true => simpa using (bytes_num hq i hi).2
/-- Sectors of two pages of different numbers are a page where all are of one of them. -/
theorem mix_read {Lp Lq : Int} {ps qs : List (List Int)} (hp : okP Lp ps = true) (hq : okP Lq qs = true) (hne : Lp ≠ Lq) (f : Nat → Bool) : (readP (pickS (bytesP Lp ps) (bytesP Lq qs) f 4)).isSome = decide (cntB f 4 = 0 ∨ cntB f 4 = 4) := by
  rcases pick_all f with ⟨hc, hf⟩ | ⟨hc, hf⟩ | ⟨h0, h4, ⟨i, hi, fi⟩, ⟨j, hj, fj⟩⟩
  · rw [pickS_same f false hf 4 (Nat.le_refl _), decide_eq_true (.inl hc)]
    simp only [Bool.false_eq_true, if_false]
    rw [List.take_of_length_le (by rw [bytesP_len hp]; omega), read_back hp]
    rfl
  · rw [pickS_same f true hf 4 (Nat.le_refl _), decide_eq_true (.inr hc)]
    simp only [if_true]
    rw [List.take_of_length_le (by rw [bytesP_len hq]; omega), read_back hq]
    rfl
  · rw [decide_eq_false (by omega)]
    cases hr : readP (pickS (bytesP Lp ps) (bytesP Lq qs) f 4) with
    | none => rfl
    | some p =>
      exfalso
      obtain ⟨L, ss⟩ := p
      have e1 := mix_num hp hq f hr i hi
      have e2 := mix_num hp hq f hr j hj
      rw [fi] at e1
      rw [fj] at e2
      simp at e1 e2
      exact hne (e1.symm.trans e2)
theorem pickS_congr {a b : List Int} {f g : Nat → Bool} : ∀ k, (∀ i, i < k → f i = g i) → pickS a b f k = pickS a b g k ∧ cntB f k = cntB g k
  | 0, _ => ⟨rfl, rfl⟩
  | k + 1, h => by
    have ih := pickS_congr (a := a) (b := b) k (fun i hi => h i (by omega))
    rw [pickS, pickS, cntB, cntB, ih.1, ih.2, h k (by omega)]
    exact ⟨rfl, rfl⟩
/-- One sector more. -/
theorem pickS_more (a b : List Int) (f : Nat → Bool) (k : Nat) (v : Bool) : ∃ g : Nat → Bool, pickS a b g (k + 1) = pickS a b f k ++ ((if v then b else a).drop (64 * k)).take 64 ∧ cntB g (k + 1) = cntB f k + if v then 1 else 0 := by
  refine ⟨fun i => if i = k then v else f i, ?_, ?_⟩
  · rw [pickS, (pickS_congr (f := fun i => if i = k then v else f i) (g := f) k (fun i hi => by simp; omega)).1]
    simp
  · rw [cntB, (pickS_congr (a := a) (b := b) (f := fun i => if i = k then v else f i) (g := f) k (fun i hi => by simp; omega)).2]
    simp
theorem zero_ok : okP 0 [] = true := by decide
set_option maxRecDepth 100000 in
theorem zero_bytes : bytesP 0 [] = List.replicate 256 0 := by decide
theorem zero_read : readP (List.replicate 256 0) = some (0, []) := by rw [← zero_bytes]; exact read_back zero_ok
theorem zero_getD : (readP (List.replicate 256 0)).getD (0, []) = (0, []) := by rw [zero_read]; rfl
theorem zero_isSome : (readP (List.replicate 256 0)).isSome = true := by rw [zero_read]; rfl
end Go.Proofs.Ytioefplkadpfnaa
