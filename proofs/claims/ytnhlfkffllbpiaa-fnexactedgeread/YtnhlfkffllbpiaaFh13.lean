/- The contracts of the program's (list).with over tracks and of its EdgeBegin. Conditions: at most 2^20 tracks, with memory of their own. -/
import Derived.Test.YtnhlfkffllbpiaaFg13
import Derived.Test.YtnhlfkffllbpiaaFd13
import Derived.Test.YtnhlfkffllbpiaaEs13
import Derived.Test.YtnhlfkffllbpiaaEq13
namespace Go.Proofs.Ytnhlfkffllbpiaa
open Go.RowKit
set_option maxRecDepth 100000

theorem OwnT1.part {w : World} {lo hi : Nat} {m : Mt} {t : Tk} (h : OwnT1 w lo hi m t) : PartT w m t := by
  obtain ⟨a, c, e⟩ := h.rd.slice
  obtain ⟨a', c', e'⟩ := h.wr.slice
  have h1 := h.rd
  have h2 := h.wr
  rw [e] at h1
  rw [e'] at h2
  exact ⟨a, c, a', c', e, e', h1.rd, h1.max, h2.rd, h2.max⟩
theorem cellsT_one {ts : List Tk} {ms : List Mt} (hm : ms.length = ts.length) (hp : ∀ i, i < ts.length → ∃ a n c a' n' c', (ms.getD i mt0).y = .slice a n c ∧ (ms.getD i mt0).z = .slice a' n' c') : ∀ u ∈ cellsT ts ms, u.oneCell' = true := by
  induction ts generalizing ms with
  | nil => intro u hu; rw [cellsT_nil] at hu; cases hu
  | cons t ts ih =>
    cases ms with
    | nil => simp at hm
    | cons m ms =>
      intro u hu
      rw [cellsT_cons] at hu
      rcases List.mem_append.1 hu with q | q
      · obtain ⟨a, n, c, a', n', c', e, e'⟩ := hp 0 (by simp)
        simp only [List.getD_cons_zero] at e e'
        simp only [cellsT1, e, e', List.mem_cons, List.not_mem_nil, or_false] at q
        rcases q with rfl | rfl | rfl | rfl | rfl | rfl | rfl | rfl <;> rfl
      · exact ih (by simpa using hm) (fun i hi => by have := hp (i + 1) (by simpa using hi); simpa using this) u q
theorem PartT.sl {w : World} {m : Mt} {t : Tk} (h : PartT w m t) : ∃ a n c a' n' c', m.y = .slice a n c ∧ m.z = .slice a' n' c' := by
  obtain ⟨a, c, a', c', e, e', _⟩ := h.ex
  exact ⟨a, _, c, a', _, c', e, e'⟩

set_option maxHeartbeats 3200000 in
theorem impl_with {a : Option Addr} {n lo hi : Nat} {ts : List Tk} {w : World} (h : OwnT w lo hi (.slice a n n) ts) (hl : ts.length = n) (hn : n ≤ 1048576) (x y : Int) :
    Calls Try.prog 61 #[.slice a n n, .int .i64 n, .agg #[.int .i64 x, .int .i64 y, .int .i64 0, .bool false, .slice none 0 0, .slice none 0 0, .bool false, .bool false]] w fun e w' => ∃ a' c', e = .returned (.slice a' (n + 1) c') ∧ ReadsT w' a' (ts ++ [newT x y]) ∧ Below w.heap.size w w' := by
  obtain ⟨ms, hml, oR, hO1, _⟩ := h.own
  rw [hl] at oR
  have hp : ∀ i, i < ts.length → PartT w (ms.getD i mt0) (ts.getD i tk0) := fun i hi => (hO1 i hi).part
  have HP := hid hp
  have HML := hid hml
  have HL := hid hl
  have H1c := hid (cellsT_one hml (fun i hi => (hp i hi).sl))
  have hB := (Below.alloc1 w (.cells #[.int .i64 x, .int .i64 y, .int .i64 0, .bool false, .slice none 0 0, .slice none 0 0, .bool false, .bool false] 46)).drew
  have HB := hid hB
  have HX := hid (show BoxK (w.alloc (.cells #[.int .i64 x, .int .i64 y, .int .i64 0, .bool false, .slice none 0 0, .slice none 0 0, .bool false, .bool false] 46)).drew w.heap.size x y 0 false (.slice none 0 0) (.slice none 0 0) false false from (BoxK.row (heap_alloc_new w (.cells #[.int .i64 x, .int .i64 y, .int .i64 0, .bool false, .slice none 0 0, .slice none 0 0, .bool false, .bool false] 46))).below ((Below.refl _ _).drew) (Nat.le_refl _))
  have HZ := hid (show (w.alloc (.cells #[.int .i64 x, .int .i64 y, .int .i64 0, .bool false, .slice none 0 0, .slice none 0 0, .bool false, .bool false] 46)).drew.heap.size = w.heap.size + 1 from alloc_size w (.cells #[.int .i64 x, .int .i64 y, .int .i64 0, .bool false, .slice none 0 0, .slice none 0 0, .bool false, .bool false] 46))
  have HO := hid (owns_below hB (Nat.le_refl _) oR)
  have hA : a = none ∨ ∃ g, a = some ⟨g, 0, none⟩ := by
    rcases oR.2 with ⟨e, _⟩ | ⟨g, cap, cur, e, _⟩
    · cases e; exact .inl rfl
    · cases e; exact .inr ⟨g, rfl⟩
  have hn0 : (0 : Int) ≤ (n : Int) := by omega
  have hnn : (n : Int) ≤ (n : Int) := Int.le_refl _
  have hst := fun w a m => run_store Try.prog w a (.int .i64 x) m rfl
  clear hB h hO1 oR hp hml hl hst
  have key : ∀ (a3 : Option Addr) (c3 : Nat), (a3 = none → c3 = 0) → ∀ (v0 : World), Below w.heap.size w v0 → v0.ownsRow lo 46 8 (.slice a n n) n (cellsT ts ms) → ∀ (q G : Nat), v0.heap[q]? = some (.cells #[.int .i64 x, .int .i64 y, .int .i64 0, .bool false, .slice none 0 0, .slice none 0 0, .bool false, .bool false] 46) → v0.cell? ⟨G, 0, none⟩ = some (.slice a n n) → v0.cell? ⟨G, 1, none⟩ = some (.slice (some ⟨q, 0, none⟩) 1 1) → v0.cell? ⟨G, 2, none⟩ = some (.slice a3 0 c3) →
      Calls Try.prog 95 #[.slice (some ⟨G, 0, none⟩) 3 3] v0 fun e w' => ∃ a' c', e = .returned (.slice a' (n + 1) c') ∧ ReadsT w' a' (ts ++ [newT x y]) ∧ Below v0.heap.size v0 w' := by
    intro a3 c3 h3 v0 bb o q G hq d1 d2 d3
    refine (concat_tracks G o H1c.out q hq h3 hn d1 d2 d3).mono ?_
    rintro e w' ⟨a', c', rfl, o', b⟩
    refine ⟨a', c', rfl, ?_, b⟩
    have sh : ShT v0 w' v0.heap.size (.slice a' (n + 1) c') (n + 1) (ts ++ [newT x y]) := by
      refine ShT.push HML.out HL.out (fun i hi => ?_) (t := newT x y) (x := nilS) (y := nilS) ⟨none, 0, none, 0, rfl, rfl, ReadsM.nil _ _, Nat.zero_le _, ReadsM.nil _ _, Nat.zero_le _⟩ o'
      obtain ⟨b1, d1, b2, d2, q1, q2, r1, m1, r2, m2⟩ := (HP.out i hi).ex
      exact ⟨b1, d1, b2, d2, q1, q2, r1.below bb (Nat.le_refl _), m1, r2.below bb (Nat.le_refl _), m2⟩
    exact sh.rd b
  have HKey := hid key
  clear key
  rcases hA with rfl | ⟨g, rfl⟩
  · obtain rfl : n = 0 := by
      rcases HO.out.2 with ⟨_, h0⟩ | ⟨g, cap, cur, e, _⟩
      · exact h0
      · cases e
    go_enter Try.func61, Try.ntmps61
    go_wp2
    refine region_K 99 (fun W => BoxK W w.heap.size x y 0 false (.slice none 0 0) (.slice none 0 0) false false) (by kernel_rfl) ?_ (fun hHeld => ?_)
    · exact HX.out
    generalize (w.alloc (.cells #[.int .i64 x, .int .i64 y, .int .i64 0, .bool false, .slice none 0 0, .slice none 0 0, .bool false, .bool false] 46)).drew = v0 at *
    refine anyK_take2 (i := 0) (v := ?v0_1) rfl (by kernel_rfl) (by kernel_rfl) (by kernel_rfl) (by rfl) (fun _ _ _ h => h) (by rfl) hHeld ?hy0_1 (some 7) (by rfl) ?rest0_1
    case hy0_1 => (intro W hSw; obtain ⟨x0, x1, x2, x3, x4, x5, x6, x7⟩ := hSw; go_simp; (try with_reducible rfl))
    try simp only [Act.put, List.setIfInBounds_toArray, List.set_cons_succ, List.set_cons_zero]
    refine anyK_take2 (i := 1) (v := ?v1_2) rfl (by kernel_rfl) (by kernel_rfl) (by kernel_rfl) (by rfl) (fun _ _ _ h => h) (by rfl) hHeld ?hy1_2 (some 8) (by rfl) ?rest1_2
    case hy1_2 => (intro W hSw; obtain ⟨x0, x1, x2, x3, x4, x5, x6, x7⟩ := hSw; go_simp; (try with_reducible rfl))
    try simp only [Act.put, List.setIfInBounds_toArray, List.set_cons_succ, List.set_cons_zero]
    refine anyK_take2 (i := 2) (v := ?v2_3) rfl (by kernel_rfl) (by kernel_rfl) (by kernel_rfl) (by rfl) (fun _ _ _ h => h) (by rfl) hHeld ?hy2_3 (some 9) (by rfl) ?rest2_3
    case hy2_3 => (intro W hSw; obtain ⟨x0, x1, x2, x3, x4, x5, x6, x7⟩ := hSw; go_simp; (try with_reducible rfl))
    try simp only [Act.put, List.setIfInBounds_toArray, List.set_cons_succ, List.set_cons_zero]
    refine anyK_take2 (i := 3) (v := ?v3_4) rfl (by kernel_rfl) (by kernel_rfl) (by kernel_rfl) (by rfl) (fun _ _ _ h => h) (by rfl) hHeld ?hy3_4 (some 10) (by rfl) ?rest3_4
    case hy3_4 => (intro W hSw; obtain ⟨x0, x1, x2, x3, x4, x5, x6, x7⟩ := hSw; go_simp; (try with_reducible rfl))
    try simp only [Act.put, List.setIfInBounds_toArray, List.set_cons_succ, List.set_cons_zero]
    refine anyK_take2 (i := 5) (v := ?v5_5) rfl (by kernel_rfl) (by kernel_rfl) (by kernel_rfl) (by rfl) (fun _ _ _ h => h) (by rfl) hHeld ?hy5_5 (some 12) (by rfl) ?rest5_5
    case hy5_5 => (intro W hSw; obtain ⟨x0, x1, x2, x3, x4, x5, x6, x7⟩ := hSw; go_simp; (try with_reducible rfl))
    try simp only [Act.put, List.setIfInBounds_toArray, List.set_cons_succ, List.set_cons_zero]
    refine anyK_take2 (i := 6) (v := ?v6_6) rfl (by kernel_rfl) (by kernel_rfl) (by kernel_rfl) (by rfl) (fun _ _ _ h => h) (by rfl) hHeld ?hy6_6 (some 13) (by rfl) ?rest6_6
    case hy6_6 => (intro W hSw; obtain ⟨x0, x1, x2, x3, x4, x5, x6, x7⟩ := hSw; go_simp; (try with_reducible rfl))
    try simp only [Act.put, List.setIfInBounds_toArray, List.set_cons_succ, List.set_cons_zero]
    refine anyK_take2 (i := 7) (v := ?v7_7) rfl (by kernel_rfl) (by kernel_rfl) (by kernel_rfl) (by rfl) (fun _ _ _ h => h) (by rfl) hHeld ?hy7_7 (some 14) (by rfl) ?rest7_7
    case hy7_7 => (intro W hSw; obtain ⟨x0, x1, x2, x3, x4, x5, x6, x7⟩ := hSw; go_simp; (try with_reducible rfl))
    try simp only [Act.put, List.setIfInBounds_toArray, List.set_cons_succ, List.set_cons_zero]
    refine anyK_step (i := 4) (by kernel_rfl) rfl (fun KP hK => ?_)
    go_simp
    have b1 := Below.alloc1 v0 (.cells #[.int .i64 x, .int .i64 y, .int .i64 0, .bool false, .slice none 0 0, .slice none 0 0, .bool false, .bool false] 46)
    have HX1 := hid (HX.out.below b1 (Nat.le_refl _))
    have HO1 := hid (owns_below b1 (Nat.le_refl _) HO.out)
    have HN1 := hid (heap_alloc_new v0 (.cells #[.int .i64 x, .int .i64 y, .int .i64 0, .bool false, .slice none 0 0, .slice none 0 0, .bool false, .bool false] 46))
    have HB1 := hid (HB.out.trans (b1.mono HB.out.size))
    have HZ1 := hid (alloc_size v0 (.cells #[.int .i64 x, .int .i64 y, .int .i64 0, .bool false, .slice none 0 0, .slice none 0 0, .bool false, .bool false] 46))
    clear b1 hHeld
    refine hK.out _ _ HX1.out (fun hHeld => ?_)
    clear hK KP
    try simp only [Act.put, List.setIfInBounds_toArray, List.set_cons_succ, List.set_cons_zero]
    obtain ⟨v1, hv1⟩ : ∃ v1, (v0.alloc (.cells #[.int .i64 x, .int .i64 y, .int .i64 0, .bool false, .slice none 0 0, .slice none 0 0, .bool false, .bool false] 46)) = v1 := ⟨_, rfl⟩
    rw [hv1] at HX1 HO1 HN1 HB1 HZ1 hHeld ⊢
    clear hv1
    refine anyK_step (i := 8) (by kernel_rfl) rfl (fun KP hK => ?_)
    go_simp
    have b2 := Below.alloc1 v1 (.cells #[.slice none 0 0, .slice (some ⟨v0.heap.size, 0, none⟩) 1 1, .slice (none) 0 0] 88)
    have HX2 := hid (HX1.out.below b2 (Nat.le_refl _))
    have HO2 := hid (owns_below b2 (Nat.le_refl _) HO1.out)
    have HN2 := hid ((b2.block v0.heap.size (by have := HZ1.out; omega)).trans HN1.out)
    have HG2 := hid (heap_alloc_new v1 (.cells #[.slice none 0 0, .slice (some ⟨v0.heap.size, 0, none⟩) 1 1, .slice (none) 0 0] 88))
    have HB2 := hid (HB1.out.trans (b2.mono HB1.out.size))
    clear b2 hHeld
    refine hK.out _ _ HX2.out (fun hHeld => ?_)
    clear hK KP
    try simp only [Act.put, List.setIfInBounds_toArray, List.set_cons_succ, List.set_cons_zero]
    obtain ⟨v2, hv2⟩ : ∃ v2, v1.alloc (.cells #[.slice none 0 0, .slice (some ⟨v0.heap.size, 0, none⟩) 1 1, .slice (none) 0 0] 88) = v2 := ⟨_, rfl⟩
    rw [hv2] at HX2 HO2 HN2 HB2 HG2 hHeld ⊢
    clear hv2
    refine anyK_step (i := 9) (by kernel_rfl) rfl (fun KP hK => ?_)
    go_simp
    refine (HKey.out (none) 0 (fun _ => rfl) v2 HB2.out HO2.out v0.heap.size v1.heap.size HN2.out (cell_of_row _ _ 0 _ _ _ HG2.out) (cell_of_row _ _ 1 _ _ _ HG2.out) (cell_of_row _ _ 2 _ _ _ HG2.out)).mono ?_
    rintro e w3 ⟨a', c', rfl, rd3, b3⟩
    have HR3 := hid rd3
    have HB3 := hid (HB2.out.trans (b3.mono HB2.out.size))
    have HX3 := hid (HX2.out.below b3 (Nat.le_refl _))
    clear rd3 b3
    go_wp2_with fail
    clear hHeld
    refine hK.out _ _ HX3.out (fun hHeld => ?_)
    clear hK KP
    try simp only [Act.put, List.setIfInBounds_toArray, List.set_cons_succ, List.set_cons_zero]
    refine anyK_take2 (i := 10) (v := ?v10_8) rfl (by kernel_rfl) (by kernel_rfl) (by kernel_rfl) (by rfl) (fun _ _ _ h => h) (by rfl) hHeld ?hy10_8 (some 6) (by rfl) ?rest10_8
    case hy10_8 => (intro W hSw; obtain ⟨x0, x1, x2, x3, x4, x5, x6, x7⟩ := hSw; go_simp; (try with_reducible rfl))
    try simp only [Act.put, List.setIfInBounds_toArray, List.set_cons_succ, List.set_cons_zero]
    refine anyK_done (by kernel_rfl) ?_ _
    clear hHeld
    go_wp2_with fail
    go_ret
    exact ⟨_, _, rfl, HR3.out, HB3.out⟩
  · skip
    go_enter Try.func61, Try.ntmps61
    go_wp2
    refine region_K 99 (fun W => BoxK W w.heap.size x y 0 false (.slice none 0 0) (.slice none 0 0) false false) (by kernel_rfl) ?_ (fun hHeld => ?_)
    · exact HX.out
    generalize (w.alloc (.cells #[.int .i64 x, .int .i64 y, .int .i64 0, .bool false, .slice none 0 0, .slice none 0 0, .bool false, .bool false] 46)).drew = v0 at *
    refine anyK_take2 (i := 0) (v := ?v0_9) rfl (by kernel_rfl) (by kernel_rfl) (by kernel_rfl) (by rfl) (fun _ _ _ h => h) (by rfl) hHeld ?hy0_9 (some 7) (by rfl) ?rest0_9
    case hy0_9 => (intro W hSw; obtain ⟨x0, x1, x2, x3, x4, x5, x6, x7⟩ := hSw; go_simp; (try with_reducible rfl))
    try simp only [Act.put, List.setIfInBounds_toArray, List.set_cons_succ, List.set_cons_zero]
    refine anyK_take2 (i := 1) (v := ?v1_10) rfl (by kernel_rfl) (by kernel_rfl) (by kernel_rfl) (by rfl) (fun _ _ _ h => h) (by rfl) hHeld ?hy1_10 (some 8) (by rfl) ?rest1_10
    case hy1_10 => (intro W hSw; obtain ⟨x0, x1, x2, x3, x4, x5, x6, x7⟩ := hSw; go_simp; (try with_reducible rfl))
    try simp only [Act.put, List.setIfInBounds_toArray, List.set_cons_succ, List.set_cons_zero]
    refine anyK_take2 (i := 2) (v := ?v2_11) rfl (by kernel_rfl) (by kernel_rfl) (by kernel_rfl) (by rfl) (fun _ _ _ h => h) (by rfl) hHeld ?hy2_11 (some 9) (by rfl) ?rest2_11
    case hy2_11 => (intro W hSw; obtain ⟨x0, x1, x2, x3, x4, x5, x6, x7⟩ := hSw; go_simp; (try with_reducible rfl))
    try simp only [Act.put, List.setIfInBounds_toArray, List.set_cons_succ, List.set_cons_zero]
    refine anyK_take2 (i := 3) (v := ?v3_12) rfl (by kernel_rfl) (by kernel_rfl) (by kernel_rfl) (by rfl) (fun _ _ _ h => h) (by rfl) hHeld ?hy3_12 (some 10) (by rfl) ?rest3_12
    case hy3_12 => (intro W hSw; obtain ⟨x0, x1, x2, x3, x4, x5, x6, x7⟩ := hSw; go_simp; (try with_reducible rfl))
    try simp only [Act.put, List.setIfInBounds_toArray, List.set_cons_succ, List.set_cons_zero]
    refine anyK_take2 (i := 5) (v := ?v5_13) rfl (by kernel_rfl) (by kernel_rfl) (by kernel_rfl) (by rfl) (fun _ _ _ h => h) (by rfl) hHeld ?hy5_13 (some 12) (by rfl) ?rest5_13
    case hy5_13 => (intro W hSw; obtain ⟨x0, x1, x2, x3, x4, x5, x6, x7⟩ := hSw; go_simp; (try with_reducible rfl))
    try simp only [Act.put, List.setIfInBounds_toArray, List.set_cons_succ, List.set_cons_zero]
    refine anyK_take2 (i := 6) (v := ?v6_14) rfl (by kernel_rfl) (by kernel_rfl) (by kernel_rfl) (by rfl) (fun _ _ _ h => h) (by rfl) hHeld ?hy6_14 (some 13) (by rfl) ?rest6_14
    case hy6_14 => (intro W hSw; obtain ⟨x0, x1, x2, x3, x4, x5, x6, x7⟩ := hSw; go_simp; (try with_reducible rfl))
    try simp only [Act.put, List.setIfInBounds_toArray, List.set_cons_succ, List.set_cons_zero]
    refine anyK_take2 (i := 7) (v := ?v7_15) rfl (by kernel_rfl) (by kernel_rfl) (by kernel_rfl) (by rfl) (fun _ _ _ h => h) (by rfl) hHeld ?hy7_15 (some 14) (by rfl) ?rest7_15
    case hy7_15 => (intro W hSw; obtain ⟨x0, x1, x2, x3, x4, x5, x6, x7⟩ := hSw; go_simp; (try with_reducible rfl))
    try simp only [Act.put, List.setIfInBounds_toArray, List.set_cons_succ, List.set_cons_zero]
    refine anyK_step (i := 4) (by kernel_rfl) rfl (fun KP hK => ?_)
    go_simp
    have b1 := Below.alloc1 v0 (.cells #[.int .i64 x, .int .i64 y, .int .i64 0, .bool false, .slice none 0 0, .slice none 0 0, .bool false, .bool false] 46)
    have HX1 := hid (HX.out.below b1 (Nat.le_refl _))
    have HO1 := hid (owns_below b1 (Nat.le_refl _) HO.out)
    have HN1 := hid (heap_alloc_new v0 (.cells #[.int .i64 x, .int .i64 y, .int .i64 0, .bool false, .slice none 0 0, .slice none 0 0, .bool false, .bool false] 46))
    have HB1 := hid (HB.out.trans (b1.mono HB.out.size))
    have HZ1 := hid (alloc_size v0 (.cells #[.int .i64 x, .int .i64 y, .int .i64 0, .bool false, .slice none 0 0, .slice none 0 0, .bool false, .bool false] 46))
    clear b1 hHeld
    refine hK.out _ _ HX1.out (fun hHeld => ?_)
    clear hK KP
    try simp only [Act.put, List.setIfInBounds_toArray, List.set_cons_succ, List.set_cons_zero]
    obtain ⟨v1, hv1⟩ : ∃ v1, (v0.alloc (.cells #[.int .i64 x, .int .i64 y, .int .i64 0, .bool false, .slice none 0 0, .slice none 0 0, .bool false, .bool false] 46)) = v1 := ⟨_, rfl⟩
    rw [hv1] at HX1 HO1 HN1 HB1 HZ1 hHeld ⊢
    clear hv1
    refine anyK_step (i := 8) (by kernel_rfl) rfl (fun KP hK => ?_)
    go_simp
    have b2 := Below.alloc1 v1 (.cells #[.slice (some ⟨g, 0, none⟩) n n, .slice (some ⟨v0.heap.size, 0, none⟩) 1 1, .slice (some ⟨g, 0, none⟩) 0 0] 88)
    have HX2 := hid (HX1.out.below b2 (Nat.le_refl _))
    have HO2 := hid (owns_below b2 (Nat.le_refl _) HO1.out)
    have HN2 := hid ((b2.block v0.heap.size (by have := HZ1.out; omega)).trans HN1.out)
    have HG2 := hid (heap_alloc_new v1 (.cells #[.slice (some ⟨g, 0, none⟩) n n, .slice (some ⟨v0.heap.size, 0, none⟩) 1 1, .slice (some ⟨g, 0, none⟩) 0 0] 88))
    have HB2 := hid (HB1.out.trans (b2.mono HB1.out.size))
    clear b2 hHeld
    refine hK.out _ _ HX2.out (fun hHeld => ?_)
    clear hK KP
    try simp only [Act.put, List.setIfInBounds_toArray, List.set_cons_succ, List.set_cons_zero]
    obtain ⟨v2, hv2⟩ : ∃ v2, v1.alloc (.cells #[.slice (some ⟨g, 0, none⟩) n n, .slice (some ⟨v0.heap.size, 0, none⟩) 1 1, .slice (some ⟨g, 0, none⟩) 0 0] 88) = v2 := ⟨_, rfl⟩
    rw [hv2] at HX2 HO2 HN2 HB2 HG2 hHeld ⊢
    clear hv2
    refine anyK_step (i := 9) (by kernel_rfl) rfl (fun KP hK => ?_)
    go_simp
    refine (HKey.out (some ⟨g, 0, none⟩) 0 (fun _ => rfl) v2 HB2.out HO2.out v0.heap.size v1.heap.size HN2.out (cell_of_row _ _ 0 _ _ _ HG2.out) (cell_of_row _ _ 1 _ _ _ HG2.out) (cell_of_row _ _ 2 _ _ _ HG2.out)).mono ?_
    rintro e w3 ⟨a', c', rfl, rd3, b3⟩
    have HR3 := hid rd3
    have HB3 := hid (HB2.out.trans (b3.mono HB2.out.size))
    have HX3 := hid (HX2.out.below b3 (Nat.le_refl _))
    clear rd3 b3
    go_wp2_with fail
    clear hHeld
    refine hK.out _ _ HX3.out (fun hHeld => ?_)
    clear hK KP
    try simp only [Act.put, List.setIfInBounds_toArray, List.set_cons_succ, List.set_cons_zero]
    refine anyK_take2 (i := 10) (v := ?v10_16) rfl (by kernel_rfl) (by kernel_rfl) (by kernel_rfl) (by rfl) (fun _ _ _ h => h) (by rfl) hHeld ?hy10_16 (some 6) (by rfl) ?rest10_16
    case hy10_16 => (intro W hSw; obtain ⟨x0, x1, x2, x3, x4, x5, x6, x7⟩ := hSw; go_simp; (try with_reducible rfl))
    try simp only [Act.put, List.setIfInBounds_toArray, List.set_cons_succ, List.set_cons_zero]
    refine anyK_done (by kernel_rfl) ?_ _
    clear hHeld
    go_wp2_with fail
    go_ret
    exact ⟨_, _, rfl, HR3.out, HB3.out⟩

theorem okTs_front {ts : List Tk} {t : Tk} (h : tracksB (ts ++ [t]) = true) : tracksB ts = true := by
  by_cases q : okTs ts
  · exact tracksB_yes q
  · exfalso
    have h1 : okTs (ts ++ [t]) := by
      by_cases q1 : okTs (ts ++ [t])
      · exact q1
      · rw [tracksB_no q1] at h; cases h
    apply q
    have hl : (ts ++ [t]).length = ts.length + 1 := by simp
    refine ⟨by have := h1.1; omega, fun i hi => ?_⟩
    have h2 := h1.2 i (by omega)
    rw [getD_app, if_pos hi] at h2
    refine ⟨h2.1, fun k hk => ?_⟩
    have := h2.2 k hk
    rw [getD_app, if_pos (by omega)] at this
    exact this
theorem tracksB_len {ts : List Tk} (h : tracksB ts = true) : ts.length ≤ 64 := by
  by_cases q : okTs ts
  · exact q.1
  · rw [tracksB_no q] at h; cases h
theorem bdTs_snoc {ts : List Tk} {t : Tk} (h : bdTs ts) (ht : bdT1 t) : bdTs (ts ++ [t]) := by
  intro i
  rw [getD_app]
  split
  · exact h i
  · rcases getD_mem_or [t] (i - ts.length) tk0 with e | e
    · rw [e]; simp [bdT1, tk0]
    · rw [List.mem_singleton.1 e]; exact ht
theorem lnT_snoc {ts : List Tk} {t : Tk} (h : lnT ts) (ht : t.rs.length ≤ 1048576 ∧ t.ws.length ≤ 1048576) : lnT (ts ++ [t]) := by
  intro i
  rw [getD_app]
  split
  · exact h i
  · rcases getD_mem_or [t] (i - ts.length) tk0 with e | e
    · rw [e]; simp [tk0]
    · rw [List.mem_singleton.1 e]; exact ht

set_option maxHeartbeats 3200000 in
theorem impl_EdgeBegin {a : Option Addr} {n : Nat} {ts : List Tk} {w : World} {lo hi : Nat} (h : OwnT w lo hi (.slice a n n) ts) (hl : ts.length = n) (hn : n ≤ 1048576) (hs : sumT ts ≤ 1048576) (hbd : bdTs ts) (x y : Int) (hbx : -9223372036854775808 ≤ x ∧ x ≤ 9223372036854775807) (hby : -9223372036854775808 ≤ y ∧ y ≤ 9223372036854775807) :
    Calls Try.prog 31 #[.slice a n n, .int .i64 x, .int .i64 y] w fun e w' => ∃ v, e = .returned (.tuple #[v, .int .i64 (beginC ts x y)]) ∧ OwnT w' w.heap.size w'.heap.size v (beginS ts x y) ∧ Below w.heap.size w w' := by
  have HO := hid h
  have HSM := hid (smT_snoc (t := newT x y) (smT_of hs) ⟨fun j => by simp [newT, fl2, im0], fun j => by simp [newT, im0]⟩)
  have HLN := hid (lnT_snoc (t := newT x y) (lnT_of hs) ⟨by simp [newT], by simp [newT]⟩)
  have HBD := hid (bdTs_snoc (t := newT x y) hbd ⟨hbx, hby, by simp [newT]⟩)
  have HL := hid (show (ts ++ [newT x y]).length = n + 1 by rw [List.length_append, hl]; rfl)
  clear h
  go_enter Try.func31, Try.ntmps31
  go_wp2_with fail
  refine (impl_with HO.out hl hn x y).mono ?_
  rintro e w1 ⟨a1, c1, rfl, r1, b1⟩
  have HR := hid r1
  have HB := hid b1
  clear r1 b1
  go_wp2_with fail
  refine (impl_TracksOk c1 HR.out HL.out HSM.out HBD.out).mono ?_
  rintro e w2 ⟨rfl, b2⟩
  replace HR := hid (HR.out.below b2 (Nat.le_refl _))
  replace HB := hid (HB.out.trans (b2.mono HB.out.size))
  clear b2
  cases h2 : tracksB (ts ++ [newT x y]) with
  | false =>
    have HE := hid (show beginS ts x y = [] ∧ beginC ts x y = 1 by unfold beginS beginC; simp [h2])
    clear h2
    go_wp2_with fail
    go_ret2
    refine ⟨.slice none 0 0, ?_, ?_, HB.out⟩
    · rw [HE.out.2]; rfl
    · rw [HE.out.1]; exact OwnT.nil _ _ _
  | true =>
    have h1 := okTs_front h2
    have h64 := tracksB_len h2
    have HE := hid (show beginS ts x y = ts ++ [newT x y] ∧ beginC ts x y = 0 by unfold beginS beginC; simp [h1, h2])
    have hn1 : n + 1 ≤ 1048576 := by have := HL.out; omega
    clear h1 h2 h64
    go_wp2_with fail
    have HS2 := hid HB.out.size
    refine (impl_copiedTracks c1 HR.out HL.out hn1 HSM.out HLN.out).mono ?_
    rintro e w3 ⟨v, rfl, o3, b3⟩
    replace HB := hid (HB.out.trans (b3.mono HB.out.size))
    have HO3 := hid (o3.mono (lo' := w.heap.size) HS2.out (Nat.le_refl _))
    clear o3 b3
    go_wp2_with fail
    go_ret2
    refine ⟨v, ?_, ?_, HB.out⟩
    · rw [HE.out.2]; rfl
    · rw [HE.out.1]; exact HO3.out
end Go.Proofs.Ytnhlfkffllbpiaa
