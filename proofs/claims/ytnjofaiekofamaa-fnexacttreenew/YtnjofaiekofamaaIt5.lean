/- Texts compared: the contract of the specification's l3texts. Conditions: texts of at most 2^21 bytes. -/
import Derived.Test.YtnjofaiekofamaaIt4
namespace Go.Proofs.Ytnjofaiekofamaa
open Go.RowKit

/-- How two texts stand. -/
def txt : List Int → List Int → Int
  | [], [] => 0
  | [], _ :: _ => -1
  | _ :: _, [] => 1
  | x :: xs, y :: ys => if x < y then -1 else if y < x then 1 else txt xs ys

theorem drop_cons (zs : List Int) (k : Nat) (h : k < zs.length) : zs.drop k = zs.getD k 0 :: zs.drop (k + 1) := by
  rw [List.drop_eq_getElem_cons h]
  simp [List.getD, h]
theorem txt_step (zs ys : List Int) (k : Nat) (h : k < zs.length) (h' : k < ys.length) :
    txt (zs.drop k) (ys.drop k) = if zs.getD k 0 < ys.getD k 0 then -1 else if ys.getD k 0 < zs.getD k 0 then 1 else txt (zs.drop (k + 1)) (ys.drop (k + 1)) := by
  rw [drop_cons zs k h, drop_cons ys k h']
  rfl
theorem txt_end (zs ys : List Int) (k : Nat) (hk : k ≤ zs.length) (hk' : k ≤ ys.length) (h : k = zs.length ∨ k = ys.length) :
    txt (zs.drop k) (ys.drop k) = if zs.length < ys.length then -1 else if ys.length < zs.length then 1 else 0 := by
  by_cases h1 : k = zs.length
  · subst h1
    rw [List.drop_length]
    by_cases h2 : zs.length < ys.length
    · rw [if_pos h2, drop_cons ys _ h2]; rfl
    · rw [if_neg h2, if_neg (by omega), List.drop_eq_nil_of_le (by omega)]; rfl
  · have h2 : k = ys.length := by omega
    subst h2
    rw [List.drop_length, if_neg (by omega), if_pos (by omega), drop_cons zs _ (by omega)]; rfl

set_option maxRecDepth 100000 in
set_option maxHeartbeats 1600000 in
theorem spec_l3texts {ad ad' : Option Addr} {n m : Nat} (cap cap' : Nat) {zs ys : List Int} {w : World} (h : Reads w ad n zs) (h' : Reads w ad' m ys) (hn : n ≤ 2097152) :
    Calls Try.prog 50 #[.slice ad n cap, .slice ad' m cap'] w fun e w' => e = .returned (.int .i64 (txt zs ys)) ∧ Still w w' := by
  have hl := h.len
  have hl' := h'.len
  go_enter Try.func50, Try.ntmps50
  go_wp2
  go_loopw [5] (fun i wr => ∃ k d : Nat, k ≤ n ∧ k ≤ m ∧ i = .int .i64 k ∧ Hid (txt zs ys = txt (zs.drop k) (ys.drop k)) ∧ wr = w.drewN d) (fun i _ => n - (intOf i).toNat)
  case atStart => exact ⟨0, 0, Nat.zero_le _, Nat.zero_le _, rfl, hid rfl, rfl⟩
  case round =>
    obtain ⟨k, d, hk, hk', rfl, HT, rfl⟩ := hrel
    have hk0 : (0 : Int) ≤ (k : Int) := by omega
    by_cases hlt : k < n ∧ k < m
    · obtain ⟨g1, g2⟩ := hlt
      have g1' : (k : Int) < (n : Int) := by omega
      have g2' : (k : Int) < (m : Int) := by omega
      rcases h.cells with h0 | ⟨b, off, rfl, hc⟩
      · omega
      rcases h'.cells with h0 | ⟨b', off', rfl, hc'⟩
      · omega
      have c1 := hc k g1
      have c2 := hc' k g2
      have hb := h.bd k
      have hb' := h'.bd k
      have HS := HT.out
      rw [txt_step zs ys k (by omega) (by omega)] at HS
      generalize zs.getD k 0 = x at *
      generalize ys.getD k 0 = y at *
      have HS' := hid HS
      have G := hid (show k < n ∧ k < m from ⟨g1, g2⟩)
      clear hc hc' HS HT g1 g2
      by_cases e1 : x < y
      · go_wp2
        go_quiet (fail)
        go_wp2
        go_ret
        refine ⟨?_, (Still.drewN _ _).trans (Still.drewN _ _)⟩
        rw [HS'.out, if_pos e1]; rfl
      · by_cases e2 : y < x
        · go_wp2
          go_quiet (fail)
          go_wp2
          go_quiet (fail)
          go_wp2
          go_ret
          refine ⟨?_, ((Still.drewN _ _).trans (Still.drewN _ _)).trans (Still.drewN _ _)⟩
          rw [HS'.out, if_neg (by omega), if_pos e2]; rfl
        · go_wp2
          go_quiet (fail)
          go_wp2
          go_quiet (fail)
          go_wp2
          go_roundw
          case rel => exact ⟨k + 1, _, by have := G.out; omega, by have := G.out; omega, by go_num, hid (by rw [HS'.out, if_neg (by omega), if_neg (by omega)]), rfl⟩
          case measure => have := G.out; simp [intOf]; omega
    · have he := txt_end zs ys k (by omega) (by omega) (by omega)
      rw [hl, hl'] at he
      have HE := hid (HT.out.trans he)
      clear HT he h h' hl hl'
      by_cases g1 : k < n
      · have g2 : ¬ k < m := by omega
        have g1' : (k : Int) < (n : Int) := by omega
        have g2' : ¬ (k : Int) < (m : Int) := by omega
        have q1 : ¬ (n : Int) < (m : Int) := by omega
        have q2 : (m : Int) < (n : Int) := by omega
        rw [if_neg (by omega), if_pos (by omega)] at HE
        go_wp2
        go_ret
        exact ⟨by rw [HE.out]; rfl, Still.drewN _ _⟩
      · have g1' : ¬ (k : Int) < (n : Int) := by omega
        by_cases q : n < m
        · have q1 : (n : Int) < (m : Int) := by omega
          rw [if_pos q] at HE
          go_wp2
          go_ret
          exact ⟨by rw [HE.out]; rfl, Still.drewN _ _⟩
        · have q1 : ¬ (n : Int) < (m : Int) := by omega
          have q2 : ¬ (m : Int) < (n : Int) := by omega
          rw [if_neg q, if_neg (by omega)] at HE
          go_wp2
          go_ret
          exact ⟨by rw [HE.out]; rfl, Still.drewN _ _⟩

/-- How two items stand. -/
def cmpI (K N : Int) (f n : Nat) (zs : List Int) (K' N' : Int) (f' n' : Nat) (zs' : List Int) : Int :=
  if okI K N f n = false ∨ okI K' N' f' n' = false then -2
  else if K ≠ K' then (if K < K' then -1 else 1)
  else if N ≠ N' then (if N < N' then -1 else 1)
  else if cmp3 (frank f) (frank f') ≠ 0 then cmp3 (frank f) (frank f')
  else txt zs zs'

set_option maxRecDepth 100000 in
set_option maxHeartbeats 3200000 in
theorem spec_ItemCompare (K N K' N' : Int) (f f' : Nat) {ad ad' : Option Addr} {n n' : Nat} (cap cap' : Nat) {zs zs' : List Int} {w : World} (hf : f < 18446744073709551616) (hf' : f' < 18446744073709551616)
    (h : Reads w ad n zs) (h' : Reads w ad' n' zs') (hn : n ≤ 2097152) (hn' : n' ≤ 2097152) :
    Calls Try.prog 14 #[.agg #[.int .i64 K, .int .i64 N, .float .f64 f, .slice ad n cap], .agg #[.int .i64 K', .int .i64 N', .float .f64 f', .slice ad' n' cap']] w fun e w' => e = .returned (.int .i64 (cmpI K N f n zs K' N' f' n' zs')) ∧ Below w.heap.size w w' := by
  have hB := two w (.cells #[.int .i64 K, .int .i64 N, .float .f64 f, .slice ad n cap] 32) (.cells #[.int .i64 K', .int .i64 N', .float .f64 f', .slice ad' n' cap'] 32)
  have z1 := alloc_size w (.cells #[.int .i64 K, .int .i64 N, .float .f64 f, .slice ad n cap] 32)
  have z2 := alloc_size (w.alloc (.cells #[.int .i64 K, .int .i64 N, .float .f64 f, .slice ad n cap] 32)) (.cells #[.int .i64 K', .int .i64 N', .float .f64 f', .slice ad' n' cap'] 32)
  have x1 := (Box.new w K N f ad n cap 32).below ((Below.refl (w.heap.size + 1) _).alloc (by omega) (.cells #[.int .i64 K', .int .i64 N', .float .f64 f', .slice ad' n' cap'] 32)) (by omega)
  have x2 := Box.new (w.alloc (.cells #[.int .i64 K, .int .i64 N, .float .f64 f, .slice ad n cap] 32)) K' N' f' ad' n' cap' 32
  rw [z1] at x2 z2
  have H1 := h.below hB (Nat.le_refl _)
  have H2 := h'.below hB (Nat.le_refl _)
  have e1 := spec_ItemOk K N f ad n cap hf hn
  have e2 := spec_ItemOk K' N' f' ad' n' cap' hf' hn'
  by_cases o1 : okI K N f n = false
  · rw [show cmpI K N f n zs K' N' f' n' zs' = -2 by rw [cmpI, if_pos (.inl o1)]]
    rw [o1] at e1
    go_enter Try.func14, Try.ntmps14
    go_wp2_with fail
    refine (e1 _).mono ?_
    rintro e w1 ⟨rfl, b1⟩
    have BB := hid (hB.trans (b1.mono hB.size))
    clear hB b1 H1 H2 x1 x2 z1 z2
    go_wp2_with fail
    go_ret
    exact ⟨rfl, BB.out⟩
  have o1' : okI K N f n = true := by simpa using o1
  rw [o1'] at e1
  by_cases o2 : okI K' N' f' n' = false
  · rw [show cmpI K N f n zs K' N' f' n' zs' = -2 by rw [cmpI, if_pos (.inr o2)]]
    rw [o2] at e2
    go_enter Try.func14, Try.ntmps14
    go_wp2_with fail
    refine (e1 _).mono ?_
    rintro e w1 ⟨rfl, b1⟩
    have B1 := hB.trans (b1.mono hB.size)
    have y1 := x1.below b1 (by omega)
    have y2 := x2.below b1 (by omega)
    have zz := b1.size
    have h1 := H1.below b1 (Nat.le_refl _)
    have h2 := H2.below b1 (Nat.le_refl _)
    obtain ⟨d0, d1, d2, d3⟩ := y2
    have Y1 := hid y1
    have Y2 := hid (x2.below b1 (by omega))
    have ZZ := hid (show w.heap.size + 1 < w1.heap.size by omega)
    clear hB b1 H1 H2 x1 x2 z1 z2 y1 zz
    go_wp2_with fail
    clear d0 d1 d2 d3
    refine (e2 _).mono ?_
    rintro e w2 ⟨rfl, b2⟩
    have BB := B1.trans (b2.mono B1.size)
    have zz := ZZ.out
    obtain ⟨c0, c1, c2, c3⟩ := Y1.out.below b2 (by omega)
    obtain ⟨d0, d1, d2, d3⟩ := Y2.out.below b2 (by omega)
    have h3 := h1.below b2 (Nat.le_refl _)
    have h4 := h2.below b2 (Nat.le_refl _)
    clear B1 b2 Y1 Y2 ZZ zz h1 h2
    go_wp2_with fail
    go_ret
    exact ⟨rfl, BB⟩
  have o2' : okI K' N' f' n' = true := by simpa using o2
  rw [o2'] at e2
  have ho : ¬ (okI K N f n = false ∨ okI K' N' f' n' = false) := fun h => h.elim o1 o2
  clear o1 o2 o1' o2'
  by_cases k1 : K ≠ K'
  · have q : (K != K') = true := by simp [k1]
    by_cases k2 : K < K'
    · rw [show cmpI K N f n zs K' N' f' n' zs' = -1 by rw [cmpI, if_neg ho, if_pos k1, if_pos k2]]
      clear ho k1
      go_enter Try.func14, Try.ntmps14
      go_wp2_with fail
      refine (e1 _).mono ?_
      rintro e w1 ⟨rfl, b1⟩
      have B1 := hB.trans (b1.mono hB.size)
      have y1 := x1.below b1 (by omega)
      have y2 := x2.below b1 (by omega)
      have zz := b1.size
      have h1 := H1.below b1 (Nat.le_refl _)
      have h2 := H2.below b1 (Nat.le_refl _)
      obtain ⟨d0, d1, d2, d3⟩ := y2
      have Y1 := hid y1
      have Y2 := hid (x2.below b1 (by omega))
      have ZZ := hid (show w.heap.size + 1 < w1.heap.size by omega)
      clear hB b1 H1 H2 x1 x2 z1 z2 y1 zz
      go_wp2_with fail
      clear d0 d1 d2 d3
      refine (e2 _).mono ?_
      rintro e w2 ⟨rfl, b2⟩
      have BB := B1.trans (b2.mono B1.size)
      have zz := ZZ.out
      obtain ⟨c0, c1, c2, c3⟩ := Y1.out.below b2 (by omega)
      obtain ⟨d0, d1, d2, d3⟩ := Y2.out.below b2 (by omega)
      have h3 := h1.below b2 (Nat.le_refl _)
      have h4 := h2.below b2 (Nat.le_refl _)
      clear B1 b2 Y1 Y2 ZZ zz h1 h2
      go_wp2_with fail
      go_ret
      exact ⟨rfl, BB⟩
    · rw [show cmpI K N f n zs K' N' f' n' zs' = 1 by rw [cmpI, if_neg ho, if_pos k1, if_neg k2]]
      clear ho k1
      go_enter Try.func14, Try.ntmps14
      go_wp2_with fail
      refine (e1 _).mono ?_
      rintro e w1 ⟨rfl, b1⟩
      have B1 := hB.trans (b1.mono hB.size)
      have y1 := x1.below b1 (by omega)
      have y2 := x2.below b1 (by omega)
      have zz := b1.size
      have h1 := H1.below b1 (Nat.le_refl _)
      have h2 := H2.below b1 (Nat.le_refl _)
      obtain ⟨d0, d1, d2, d3⟩ := y2
      have Y1 := hid y1
      have Y2 := hid (x2.below b1 (by omega))
      have ZZ := hid (show w.heap.size + 1 < w1.heap.size by omega)
      clear hB b1 H1 H2 x1 x2 z1 z2 y1 zz
      go_wp2_with fail
      clear d0 d1 d2 d3
      refine (e2 _).mono ?_
      rintro e w2 ⟨rfl, b2⟩
      have BB := B1.trans (b2.mono B1.size)
      have zz := ZZ.out
      obtain ⟨c0, c1, c2, c3⟩ := Y1.out.below b2 (by omega)
      obtain ⟨d0, d1, d2, d3⟩ := Y2.out.below b2 (by omega)
      have h3 := h1.below b2 (Nat.le_refl _)
      have h4 := h2.below b2 (Nat.le_refl _)
      clear B1 b2 Y1 Y2 ZZ zz h1 h2
      go_wp2_with fail
      go_ret
      exact ⟨rfl, BB⟩
  obtain rfl : K = K' := by simpa using k1
  by_cases m1 : N ≠ N'
  · have q : (N != N') = true := by simp [m1]
    by_cases m2 : N < N'
    · rw [show cmpI K N f n zs K N' f' n' zs' = -1 by rw [cmpI, if_neg ho, if_neg k1, if_pos m1, if_pos m2]]
      clear ho k1 m1
      go_enter Try.func14, Try.ntmps14
      go_wp2_with fail
      refine (e1 _).mono ?_
      rintro e w1 ⟨rfl, b1⟩
      have B1 := hB.trans (b1.mono hB.size)
      have y1 := x1.below b1 (by omega)
      have y2 := x2.below b1 (by omega)
      have zz := b1.size
      have h1 := H1.below b1 (Nat.le_refl _)
      have h2 := H2.below b1 (Nat.le_refl _)
      obtain ⟨d0, d1, d2, d3⟩ := y2
      have Y1 := hid y1
      have Y2 := hid (x2.below b1 (by omega))
      have ZZ := hid (show w.heap.size + 1 < w1.heap.size by omega)
      clear hB b1 H1 H2 x1 x2 z1 z2 y1 zz
      go_wp2_with fail
      clear d0 d1 d2 d3
      refine (e2 _).mono ?_
      rintro e w2 ⟨rfl, b2⟩
      have BB := B1.trans (b2.mono B1.size)
      have zz := ZZ.out
      obtain ⟨c0, c1, c2, c3⟩ := Y1.out.below b2 (by omega)
      obtain ⟨d0, d1, d2, d3⟩ := Y2.out.below b2 (by omega)
      have h3 := h1.below b2 (Nat.le_refl _)
      have h4 := h2.below b2 (Nat.le_refl _)
      clear B1 b2 Y1 Y2 ZZ zz h1 h2
      go_wp2_with fail
      go_ret
      exact ⟨rfl, BB⟩
    · rw [show cmpI K N f n zs K N' f' n' zs' = 1 by rw [cmpI, if_neg ho, if_neg k1, if_pos m1, if_neg m2]]
      clear ho k1 m1
      go_enter Try.func14, Try.ntmps14
      go_wp2_with fail
      refine (e1 _).mono ?_
      rintro e w1 ⟨rfl, b1⟩
      have B1 := hB.trans (b1.mono hB.size)
      have y1 := x1.below b1 (by omega)
      have y2 := x2.below b1 (by omega)
      have zz := b1.size
      have h1 := H1.below b1 (Nat.le_refl _)
      have h2 := H2.below b1 (Nat.le_refl _)
      obtain ⟨d0, d1, d2, d3⟩ := y2
      have Y1 := hid y1
      have Y2 := hid (x2.below b1 (by omega))
      have ZZ := hid (show w.heap.size + 1 < w1.heap.size by omega)
      clear hB b1 H1 H2 x1 x2 z1 z2 y1 zz
      go_wp2_with fail
      clear d0 d1 d2 d3
      refine (e2 _).mono ?_
      rintro e w2 ⟨rfl, b2⟩
      have BB := B1.trans (b2.mono B1.size)
      have zz := ZZ.out
      obtain ⟨c0, c1, c2, c3⟩ := Y1.out.below b2 (by omega)
      obtain ⟨d0, d1, d2, d3⟩ := Y2.out.below b2 (by omega)
      have h3 := h1.below b2 (Nat.le_refl _)
      have h4 := h2.below b2 (Nat.le_refl _)
      clear B1 b2 Y1 Y2 ZZ zz h1 h2
      go_wp2_with fail
      go_ret
      exact ⟨rfl, BB⟩
  obtain rfl : N = N' := by simpa using m1
  have ef := spec_FloatCompare f f' hf hf'
  by_cases c1 : cmp3 (frank f) (frank f') ≠ 0
  · rw [show cmpI K N f n zs K N f' n' zs' = cmp3 (frank f) (frank f') by rw [cmpI, if_neg ho, if_neg k1, if_neg m1, if_pos c1]]
    have q : (cmp3 (frank f) (frank f') != 0) = true := by simp [c1]
    generalize cmp3 (frank f) (frank f') = C at *
    clear ho k1 m1 c1
    go_enter Try.func14, Try.ntmps14
    go_wp2_with fail
    refine (e1 _).mono ?_
    rintro e w1 ⟨rfl, b1⟩
    have B1 := hB.trans (b1.mono hB.size)
    have y1 := x1.below b1 (by omega)
    have y2 := x2.below b1 (by omega)
    have zz := b1.size
    have h1 := H1.below b1 (Nat.le_refl _)
    have h2 := H2.below b1 (Nat.le_refl _)
    obtain ⟨d0, d1, d2, d3⟩ := y2
    have Y1 := hid y1
    have Y2 := hid (x2.below b1 (by omega))
    have ZZ := hid (show w.heap.size + 1 < w1.heap.size by omega)
    clear hB b1 H1 H2 x1 x2 z1 z2 y1 zz
    go_wp2_with fail
    clear d0 d1 d2 d3
    refine (e2 _).mono ?_
    rintro e w2 ⟨rfl, b2⟩
    have BB := B1.trans (b2.mono B1.size)
    have zz := ZZ.out
    obtain ⟨c0, c1, c2, c3⟩ := Y1.out.below b2 (by omega)
    obtain ⟨d0, d1, d2, d3⟩ := Y2.out.below b2 (by omega)
    have h3 := h1.below b2 (Nat.le_refl _)
    have h4 := h2.below b2 (Nat.le_refl _)
    clear B1 b2 Y1 Y2 ZZ zz h1 h2
    go_wp2_with fail
    refine (ef _).mono ?_
    rintro e w3 ⟨rfl, rfl⟩
    go_wp2_with fail
    go_ret
    exact ⟨rfl, BB⟩
  · rw [show cmpI K N f n zs K N f' n' zs' = txt zs zs' by rw [cmpI, if_neg ho, if_neg k1, if_neg m1, if_neg c1]]
    have c1' : cmp3 (frank f) (frank f') = 0 := by simpa using c1
    rw [c1'] at ef
    clear ho k1 m1 c1 c1'
    go_enter Try.func14, Try.ntmps14
    go_wp2_with fail
    refine (e1 _).mono ?_
    rintro e w1 ⟨rfl, b1⟩
    have B1 := hB.trans (b1.mono hB.size)
    have y1 := x1.below b1 (by omega)
    have y2 := x2.below b1 (by omega)
    have zz := b1.size
    have h1 := H1.below b1 (Nat.le_refl _)
    have h2 := H2.below b1 (Nat.le_refl _)
    obtain ⟨d0, d1, d2, d3⟩ := y2
    have Y1 := hid y1
    have Y2 := hid (x2.below b1 (by omega))
    have ZZ := hid (show w.heap.size + 1 < w1.heap.size by omega)
    clear hB b1 H1 H2 x1 x2 z1 z2 y1 zz
    go_wp2_with fail
    clear d0 d1 d2 d3
    refine (e2 _).mono ?_
    rintro e w2 ⟨rfl, b2⟩
    have BB := B1.trans (b2.mono B1.size)
    have zz := ZZ.out
    obtain ⟨c0, c1, c2, c3⟩ := Y1.out.below b2 (by omega)
    obtain ⟨d0, d1, d2, d3⟩ := Y2.out.below b2 (by omega)
    have h3 := h1.below b2 (Nat.le_refl _)
    have h4 := h2.below b2 (Nat.le_refl _)
    clear B1 b2 Y1 Y2 ZZ zz h1 h2
    go_wp2_with fail
    refine (ef _).mono ?_
    rintro e w3 ⟨rfl, rfl⟩
    go_wp2_with fail
    refine (spec_l3texts cap cap' h3 h4 hn).mono ?_
    rintro e w4 ⟨rfl, st⟩
    go_wp2_with fail
    go_ret
    exact ⟨rfl, BB.trans (st.below _)⟩
end Go.Proofs.Ytnjofaiekofamaa
