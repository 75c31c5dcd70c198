/- Waits, plain, and the contracts of the specification's WaitsOk and WaitNext. Conditions: at most 2^21 waits. -/
import Derived.Test.YtknloabdfkidiaaWa12
namespace Go.Proofs.Ytknloabdfkidiaa
open Go.RowKit
set_option maxRecDepth 100000

/-- At most 64, and no two have one Who. -/
def okW (l : List Wt) : Bool := decide (l.length ≤ 64 ∧ (l.map (·.1)).Nodup)
def nextF : List Wt → Int → Option Int
  | [], _ => none
  | p :: l, x => if p.1 = x then some p.2 else nextF l x
/-- For whom x waits. -/
def nextW (l : List Wt) (x : Int) : Option Int := if okW l = true then nextF l x else none
theorem okW_long {l : List Wt} (h : 64 < l.length) : okW l = false := by
  unfold okW; exact decide_eq_false (fun q => by omega)
theorem okW_dup {l : List Wt} {q k : Nat} (hq : q < k) (hk : k < l.length) (h : (l.getD q wt0).1 = (l.getD k wt0).1) : okW l = false := by
  unfold okW
  refine decide_eq_false (fun ⟨_, hn⟩ => ?_)
  have h1 := List.pairwise_iff_getElem.1 hn q k (by simp; omega) (by simpa using hk) hq
  apply h1
  simp only [List.getElem_map]
  have e1 : l.getD q wt0 = l[q]'(by omega) := by simp [List.getD, show q < l.length by omega]
  have e2 : l.getD k wt0 = l[k] := by simp [List.getD, hk]
  rw [e1, e2] at h
  exact h
theorem okW_yes {l : List Wt} (h : l.length ≤ 64) (hn : (l.map (·.1)).Nodup) : okW l = true := decide_eq_true ⟨h, hn⟩
theorem nodup_step {l : List Wt} {k : Nat} (hk : k < l.length) (hn : ((l.take k).map (·.1)).Nodup) (h : ∀ t, t < k → (l.getD t wt0).1 ≠ (l.getD k wt0).1) : ((l.take (k + 1)).map (·.1)).Nodup := by
  rw [List.take_add_one, List.getElem?_eq_getElem hk, Option.toList_some, List.map_append, List.nodup_append]
  refine ⟨hn, by simp, fun a ha b hb => ?_⟩
  obtain ⟨p, hp, rfl⟩ := List.mem_map.1 ha
  obtain ⟨t, ht, rfl⟩ := List.getElem_of_mem hp
  simp only [List.map_cons, List.map_nil, List.mem_singleton] at hb
  subst hb
  rw [List.length_take] at ht
  have := h t (by omega)
  rw [List.getElem_take]
  have e1 : l.getD t wt0 = l[t]'(by omega) := by simp [List.getD, show t < l.length by omega]
  have e2 : l.getD k wt0 = l[k] := by simp [List.getD, hk]
  rw [e1, e2] at this
  exact this
theorem nextF_at : ∀ (l : List Wt) (i : Nat) (x : Int), i < l.length → (∀ t, t < i → (l.getD t wt0).1 ≠ x) → (l.getD i wt0).1 = x → nextF l x = some (l.getD i wt0).2
  | p :: l, 0, x, _, _, h => by
    simp only [List.getD_cons_zero] at h ⊢
    unfold nextF; rw [if_pos h]
  | p :: l, i + 1, x, hi, ht, h => by
    have h0 := ht 0 (by omega)
    simp only [List.getD_cons_zero] at h0
    unfold nextF
    rw [if_neg h0, List.getD_cons_succ]
    exact nextF_at l i x (by simpa using hi) (fun t h1 => by have := ht (t + 1) (by omega); simpa using this) (by simpa using h)
theorem nextF_none : ∀ (l : List Wt) (x : Int), (∀ t, t < l.length → (l.getD t wt0).1 ≠ x) → nextF l x = none
  | [], _, _ => rfl
  | p :: l, x, ht => by
    have h0 := ht 0 (by simp)
    simp only [List.getD_cons_zero] at h0
    unfold nextF
    rw [if_neg h0]
    exact nextF_none l x (fun t h1 => by have := ht (t + 1) (by simpa using h1); simpa using this)

set_option maxHeartbeats 3200000 in
theorem spec_WaitsOk {ad : Option Addr} {n : Nat} (cap : Nat) {l : List Wt} {w : World} (h : ReadsW2 w ad n l) (hn : n ≤ 2097152) :
    Calls Try.prog 17 #[.slice ad n cap] w fun e w' => e = .returned (.bool (okW l)) ∧ Below w.heap.size w w' := by
  have hl := h.len
  by_cases hbig : 64 < n
  · have q : (64 : Int) < (n : Int) := by omega
    rw [okW_long (by omega)]
    go_enter Try.func17, Try.ntmps17
    go_wp2
    go_ret
    exact ⟨rfl, Below.refl _ _⟩
  have q : ¬ (64 : Int) < (n : Int) := by omega
  go_enter Try.func17, Try.ntmps17
  go_wp2
  go_loopw [3] (fun i wr => ∃ k : Nat, k ≤ n ∧ i = .int .i64 k ∧ Hid (((l.take k).map (·.1)).Nodup) ∧ Hid (Below w.heap.size w wr)) (fun i _ => n - (intOf i).toNat)
  case atStart => exact ⟨0, Nat.zero_le _, rfl, hid (by simp), hid (Below.refl _ _)⟩
  case round =>
    obtain ⟨k, hk, rfl, hN, hS⟩ := hrel
    by_cases hlt : k < n
    · have hlt' : (k : Int) < (n : Int) := by omega
      have hk0 : (0 : Int) ≤ (k : Int) := by omega
      go_wp2
      go_loopw [4] (fun j wr => ∃ q : Nat, q ≤ k ∧ j = .int .i64 q ∧ Hid (∀ t, t < q → (l.getD t wt0).1 ≠ (l.getD k wt0).1) ∧ Hid (Below w.heap.size w wr)) (fun j _ => k - (intOf j).toNat)
      case atStart => exact ⟨0, Nat.zero_le _, rfl, hid (fun t ht => by omega), hS⟩
      case round =>
        clear hS
        obtain ⟨q, hq, rfl, hD, hS⟩ := hrel
        by_cases hqk : q < k
        · have hqk' : (q : Int) < (k : Int) := by omega
          have hqn : (q : Int) < (n : Int) := by omega
          have hq0 : (0 : Int) ≤ (q : Int) := by omega
          obtain ⟨b, off, rfl, x0', _⟩ := h.at (k := q) (by omega)
          obtain ⟨b', off', e', y0', _⟩ := h.at (k := k) (by omega)
          cases e'
          have bl := World.block_lt_of_cell? w _ x0'
          have bD := (Still.drew wr).below wr.heap.size
          have bE := hS.out.trans (bD.mono hS.out.size)
          have BX := hid (show wr.drew.cell? ⟨b, off + q * 2, none⟩ = some (.int .i64 (l.getD q wt0).1) ∧ wr.drew.cell? ⟨b, off + k * 2, none⟩ = some (.int .i64 (l.getD k wt0).1) from ⟨(bE.cell (p := ⟨b, off + q * 2, none⟩) (by exact bl)).trans x0', (bE.cell (p := ⟨b, off + k * 2, none⟩) (by exact bl)).trans y0'⟩)
          have HDup := hid (fun e => okW_dup (l := l) (q := q) (k := k) hqk (by omega) e)
          have HNew := hid (fun (e : (l.getD q wt0).1 ≠ (l.getD k wt0).1) t (ht : t < q + 1) => show (l.getD t wt0).1 ≠ (l.getD k wt0).1 from by
            by_cases hc : t < q
            · exact hD.out t hc
            · have : t = q := by omega
              subst this; exact e)
          generalize (l.getD q wt0).1 = x at *
          generalize (l.getD k wt0).1 = y at *
          clear x0' y0' bl
          go_wp2
          replace hS := hid bE
          clear bD bE
          refine region_K 99 (fun W => W.cell? ⟨b, off + q * 2, none⟩ = some (.int .i64 x) ∧ W.cell? ⟨b, off + k * 2, none⟩ = some (.int .i64 y)) (by kernel_rfl) ?_ (fun hHeld => ?_)
          · exact BX.out
          generalize wr.drew = v0 at *
          by_cases hxy : x = y
          · subst hxy
            have HE0 := hid (HDup.out rfl)
            refine anyK_take2 (i := 0) (v := ?v0) rfl (by kernel_rfl) (by kernel_rfl) (by kernel_rfl) (by rfl) (fun _ _ _ h => h) (by rfl) hHeld ?hy0 (some 19) (by rfl) ?rest0
            case hy0 => (intro W hSw; obtain ⟨x0, y0⟩ := hSw; go_simp; (try with_reducible rfl))
            try simp only [Act.put, List.setIfInBounds_toArray, List.set_cons_succ, List.set_cons_zero]
            refine anyK_take2 (i := 1) (v := ?v1) rfl (by kernel_rfl) (by kernel_rfl) (by kernel_rfl) (by rfl) (fun _ _ _ h => h) (by rfl) hHeld ?hy1 (some 20) (by rfl) ?rest1
            case hy1 => (intro W hSw; obtain ⟨x0, y0⟩ := hSw; go_simp; (try with_reducible rfl))
            try simp only [Act.put, List.setIfInBounds_toArray, List.set_cons_succ, List.set_cons_zero]
            refine anyK_take2 (i := 2) (v := ?v2) rfl (by kernel_rfl) (by kernel_rfl) (by kernel_rfl) (by rfl) (fun _ _ _ h => h) (by rfl) hHeld ?hy2 (some 21) (by rfl) ?rest2
            case hy2 => (intro W hSw; obtain ⟨x0, y0⟩ := hSw; go_simp; (try with_reducible rfl))
            try simp only [Act.put, List.setIfInBounds_toArray, List.set_cons_succ, List.set_cons_zero]
            refine anyK_take2 (i := 3) (v := ?v3) rfl (by kernel_rfl) (by kernel_rfl) (by kernel_rfl) (by rfl) (fun _ _ _ h => h) (by rfl) hHeld ?hy3 (some 22) (by rfl) ?rest3
            case hy3 => (intro W hSw; obtain ⟨x0, y0⟩ := hSw; go_simp; (try with_reducible rfl))
            try simp only [Act.put, List.setIfInBounds_toArray, List.set_cons_succ, List.set_cons_zero]
            refine anyK_take2 (i := 4) (v := ?v4) rfl (by kernel_rfl) (by kernel_rfl) (by kernel_rfl) (by rfl) (fun _ _ _ h => h) (by rfl) hHeld ?hy4 (some 23) (by rfl) ?rest4
            case hy4 => (intro W hSw; obtain ⟨x0, y0⟩ := hSw; go_simp; (try with_reducible rfl))
            try simp only [Act.put, List.setIfInBounds_toArray, List.set_cons_succ, List.set_cons_zero]
            refine anyK_take2 (i := 5) (v := ?v5) rfl (by kernel_rfl) (by kernel_rfl) (by kernel_rfl) (by rfl) (fun _ _ _ h => h) (by rfl) hHeld ?hy5 (some 24) (by rfl) ?rest5
            case hy5 => (intro W hSw; obtain ⟨x0, y0⟩ := hSw; go_simp; (try with_reducible rfl))
            try simp only [Act.put, List.setIfInBounds_toArray, List.set_cons_succ, List.set_cons_zero]
            refine anyK_take2 (i := 6) (v := ?v6) rfl (by kernel_rfl) (by kernel_rfl) (by kernel_rfl) (by rfl) (fun _ _ _ h => h) (by rfl) hHeld ?hy6 (some 25) (by rfl) ?rest6
            case hy6 => (intro W hSw; obtain ⟨x0, y0⟩ := hSw; go_simp; (try with_reducible rfl))
            try simp only [Act.put, List.setIfInBounds_toArray, List.set_cons_succ, List.set_cons_zero]
            refine anyK_take2 (i := 7) (v := ?v7) rfl (by kernel_rfl) (by kernel_rfl) (by kernel_rfl) (by rfl) (fun _ _ _ h => h) (by rfl) hHeld ?hy7 (some 26) (by rfl) ?rest7
            case hy7 => (intro W hSw; obtain ⟨x0, y0⟩ := hSw; go_simp; (try with_reducible rfl))
            try simp only [Act.put, List.setIfInBounds_toArray, List.set_cons_succ, List.set_cons_zero]
            refine anyK_take2 (i := 8) (v := ?v8) rfl (by kernel_rfl) (by kernel_rfl) (by kernel_rfl) (by rfl) (fun _ _ _ h => h) (by rfl) hHeld ?hy8 (some 27) (by rfl) ?rest8
            case hy8 => (intro W hSw; obtain ⟨x0, y0⟩ := hSw; go_simp; (try with_reducible rfl))
            try simp only [Act.put, List.setIfInBounds_toArray, List.set_cons_succ, List.set_cons_zero]
            refine anyK_take2 (i := 9) (v := ?v9) rfl (by kernel_rfl) (by kernel_rfl) (by kernel_rfl) (by rfl) (fun _ _ _ h => h) (by rfl) hHeld ?hy9 (some 28) (by rfl) ?rest9
            case hy9 => (intro W hSw; obtain ⟨x0, y0⟩ := hSw; go_simp; (try with_reducible rfl))
            try simp only [Act.put, List.setIfInBounds_toArray, List.set_cons_succ, List.set_cons_zero]
            refine anyK_take2 (i := 10) (v := ?v10) rfl (by kernel_rfl) (by kernel_rfl) (by kernel_rfl) (by rfl) (fun _ _ _ h => h) (by rfl) hHeld ?hy10 (some 29) (by rfl) ?rest10
            case hy10 => (intro W hSw; obtain ⟨x0, y0⟩ := hSw; go_simp; (try with_reducible rfl))
            try simp only [Act.put, List.setIfInBounds_toArray, List.set_cons_succ, List.set_cons_zero]
            refine anyK_done (by kernel_rfl) ?_ _
            clear hHeld
            go_wp2
            go_ret
            exact ⟨by rw [HE0.out]; rfl, hS.out⟩
          · skip
            refine anyK_take2 (i := 0) (v := ?v100) rfl (by kernel_rfl) (by kernel_rfl) (by kernel_rfl) (by rfl) (fun _ _ _ h => h) (by rfl) hHeld ?hy100 (some 19) (by rfl) ?rest100
            case hy100 => (intro W hSw; obtain ⟨x0, y0⟩ := hSw; go_simp; (try with_reducible rfl))
            try simp only [Act.put, List.setIfInBounds_toArray, List.set_cons_succ, List.set_cons_zero]
            refine anyK_take2 (i := 1) (v := ?v101) rfl (by kernel_rfl) (by kernel_rfl) (by kernel_rfl) (by rfl) (fun _ _ _ h => h) (by rfl) hHeld ?hy101 (some 20) (by rfl) ?rest101
            case hy101 => (intro W hSw; obtain ⟨x0, y0⟩ := hSw; go_simp; (try with_reducible rfl))
            try simp only [Act.put, List.setIfInBounds_toArray, List.set_cons_succ, List.set_cons_zero]
            refine anyK_take2 (i := 2) (v := ?v102) rfl (by kernel_rfl) (by kernel_rfl) (by kernel_rfl) (by rfl) (fun _ _ _ h => h) (by rfl) hHeld ?hy102 (some 21) (by rfl) ?rest102
            case hy102 => (intro W hSw; obtain ⟨x0, y0⟩ := hSw; go_simp; (try with_reducible rfl))
            try simp only [Act.put, List.setIfInBounds_toArray, List.set_cons_succ, List.set_cons_zero]
            refine anyK_take2 (i := 3) (v := ?v103) rfl (by kernel_rfl) (by kernel_rfl) (by kernel_rfl) (by rfl) (fun _ _ _ h => h) (by rfl) hHeld ?hy103 (some 22) (by rfl) ?rest103
            case hy103 => (intro W hSw; obtain ⟨x0, y0⟩ := hSw; go_simp; (try with_reducible rfl))
            try simp only [Act.put, List.setIfInBounds_toArray, List.set_cons_succ, List.set_cons_zero]
            refine anyK_take2 (i := 4) (v := ?v104) rfl (by kernel_rfl) (by kernel_rfl) (by kernel_rfl) (by rfl) (fun _ _ _ h => h) (by rfl) hHeld ?hy104 (some 23) (by rfl) ?rest104
            case hy104 => (intro W hSw; obtain ⟨x0, y0⟩ := hSw; go_simp; (try with_reducible rfl))
            try simp only [Act.put, List.setIfInBounds_toArray, List.set_cons_succ, List.set_cons_zero]
            refine anyK_take2 (i := 5) (v := ?v105) rfl (by kernel_rfl) (by kernel_rfl) (by kernel_rfl) (by rfl) (fun _ _ _ h => h) (by rfl) hHeld ?hy105 (some 24) (by rfl) ?rest105
            case hy105 => (intro W hSw; obtain ⟨x0, y0⟩ := hSw; go_simp; (try with_reducible rfl))
            try simp only [Act.put, List.setIfInBounds_toArray, List.set_cons_succ, List.set_cons_zero]
            refine anyK_take2 (i := 6) (v := ?v106) rfl (by kernel_rfl) (by kernel_rfl) (by kernel_rfl) (by rfl) (fun _ _ _ h => h) (by rfl) hHeld ?hy106 (some 25) (by rfl) ?rest106
            case hy106 => (intro W hSw; obtain ⟨x0, y0⟩ := hSw; go_simp; (try with_reducible rfl))
            try simp only [Act.put, List.setIfInBounds_toArray, List.set_cons_succ, List.set_cons_zero]
            refine anyK_take2 (i := 7) (v := ?v107) rfl (by kernel_rfl) (by kernel_rfl) (by kernel_rfl) (by rfl) (fun _ _ _ h => h) (by rfl) hHeld ?hy107 (some 26) (by rfl) ?rest107
            case hy107 => (intro W hSw; obtain ⟨x0, y0⟩ := hSw; go_simp; (try with_reducible rfl))
            try simp only [Act.put, List.setIfInBounds_toArray, List.set_cons_succ, List.set_cons_zero]
            refine anyK_take2 (i := 8) (v := ?v108) rfl (by kernel_rfl) (by kernel_rfl) (by kernel_rfl) (by rfl) (fun _ _ _ h => h) (by rfl) hHeld ?hy108 (some 27) (by rfl) ?rest108
            case hy108 => (intro W hSw; obtain ⟨x0, y0⟩ := hSw; go_simp; (try with_reducible rfl))
            try simp only [Act.put, List.setIfInBounds_toArray, List.set_cons_succ, List.set_cons_zero]
            refine anyK_take2 (i := 9) (v := ?v109) rfl (by kernel_rfl) (by kernel_rfl) (by kernel_rfl) (by rfl) (fun _ _ _ h => h) (by rfl) hHeld ?hy109 (some 28) (by rfl) ?rest109
            case hy109 => (intro W hSw; obtain ⟨x0, y0⟩ := hSw; go_simp; (try with_reducible rfl))
            try simp only [Act.put, List.setIfInBounds_toArray, List.set_cons_succ, List.set_cons_zero]
            refine anyK_take2 (i := 10) (v := ?v110) rfl (by kernel_rfl) (by kernel_rfl) (by kernel_rfl) (by rfl) (fun _ _ _ h => h) (by rfl) hHeld ?hy110 (some 29) (by rfl) ?rest110
            case hy110 => (intro W hSw; obtain ⟨x0, y0⟩ := hSw; go_simp; (try with_reducible rfl))
            try simp only [Act.put, List.setIfInBounds_toArray, List.set_cons_succ, List.set_cons_zero]
            refine anyK_done (by kernel_rfl) ?_ _
            clear hHeld
            go_wp2
            go_roundw
            case rel => exact ⟨q + 1, by omega, by go_num, hid (HNew.out hxy), hS⟩
            case measure => simp [intOf]; omega
        · have hqk' : ¬ (q : Int) < (k : Int) := by omega
          have hqe : q = k := by omega
          subst hqe
          go_wp2
          go_roundw
          case rel => exact ⟨q + 1, by omega, by go_num, hid (nodup_step (by omega) hN.out hD.out), hS⟩
          case measure => simp [intOf]; omega
    · have hlt' : ¬ (k : Int) < (n : Int) := by omega
      have hkn : k = n := by omega
      subst hkn
      go_wp2
      go_ret
      have := hN.out
      rw [List.take_of_length_le (by omega)] at this
      exact ⟨by rw [okW_yes (by omega) this]; rfl, hS.out⟩

set_option maxHeartbeats 3200000 in
theorem spec_WaitNext {ad : Option Addr} {n : Nat} (cap : Nat) {l : List Wt} {w : World} (h : ReadsW2 w ad n l) (hn : n ≤ 2097152) (x : Int) :
    Calls Try.prog 20 #[.slice ad n cap, .int .i64 x] w fun e w' => e = .returned (.tuple #[.int .i64 ((nextW l x).getD 0), .bool (nextW l x).isSome]) ∧ Below w.heap.size w w' := by
  have hl := h.len
  go_enter Try.func20, Try.ntmps20
  go_wp2_with fail
  refine (spec_WaitsOk cap h hn).mono ?_
  rintro e w1 ⟨rfl, b1⟩
  have hS := hid b1
  clear b1
  cases hok : okW l
  · have HNX := hid (show nextW l x = none by unfold nextW; rw [hok]; rfl)
    go_wp2_with fail
    go_ret2
    exact ⟨by rw [HNX.out]; rfl, hS.out⟩
  · have HNX := hid (show nextW l x = nextF l x by unfold nextW; rw [hok]; rfl)
    go_wp2_with fail
    go_loopw [6] (fun i wr => ∃ k : Nat, k ≤ n ∧ i = .int .i64 k ∧ Hid (∀ t, t < k → (l.getD t wt0).1 ≠ x) ∧ Hid (Below w.heap.size w wr)) (fun i _ => n - (intOf i).toNat)
    case atStart => exact ⟨0, Nat.zero_le _, rfl, hid (fun t ht => by omega), hS⟩
    case round =>
      clear hS
      obtain ⟨k, hk, rfl, hD, hS⟩ := hrel
      by_cases hlt : k < n
      · have hlt' : (k : Int) < (n : Int) := by omega
        have hk0 : (0 : Int) ≤ (k : Int) := by omega
        obtain ⟨b, off, rfl, x0', x1'⟩ := h.at (k := k) hlt
        have bl := World.block_lt_of_cell? w _ x0'
        have c0 := (hS.out.cell (p := ⟨b, off + k * 2, none⟩) (by exact bl)).trans x0'
        have c1 := (hS.out.cell (p := ⟨b, off + k * 2 + 1, none⟩) (by exact bl)).trans x1'
        have HYes := hid (fun e => nextF_at l k x (by omega) hD.out e)
        have HNew := hid (fun (e : (l.getD k wt0).1 ≠ x) t (ht : t < k + 1) => show (l.getD t wt0).1 ≠ x from by
          by_cases hc : t < k
          · exact hD.out t hc
          · have : t = k := by omega
            subst this; exact e)
        generalize l.getD k wt0 = p at *
        obtain ⟨u, v⟩ := p
        simp only at c0 c1 HYes HNew
        clear x0' x1' bl
        by_cases hux : u = x
        · subst hux
          have HY0 := hid (HYes.out rfl)
          clear HYes
          go_wp2_with fail
          go_ret2
          exact ⟨by rw [HNX.out, HY0.out]; rfl, hS.out⟩
        · go_wp2_with fail
          go_roundw
          case rel => exact ⟨k + 1, by omega, by go_num, hid (HNew.out hux), hS⟩
          case measure => simp [intOf]; omega
      · have hlt' : ¬ (k : Int) < (n : Int) := by omega
        go_wp2
        go_ret2
        exact ⟨by rw [HNX.out, nextF_none l x (fun t ht => hD.out t (by omega))]; rfl, hS.out⟩
end Go.Proofs.Ytknloabdfkidiaa
