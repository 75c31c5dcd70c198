/- The library's Grow and Concat, over tracks. Conditions: at most 2^20 tracks. -/
import Derived.Test.YtnhlfkffllbpiaaFf13
import Derived.Lib.AppendZeros
namespace Go.Proofs.Ytnhlfkffllbpiaa
open Go.RowKit
set_option maxRecDepth 100000

theorem owns_zerosT (w : World) (n : Nat) (hn : n ≤ 2097152) : ((w.alloc (.cells (Builtin.zeroCells (Value.agg #[.int .i64 0, .int .i64 0, .int .i64 0, .bool false, .slice none 0 0, .slice none 0 0, .bool false, .bool false]).cells n ++ Builtin.zeroCells (Value.agg #[.int .i64 0, .int .i64 0, .int .i64 0, .bool false, .slice none 0 0, .slice none 0 0, .bool false, .bool false]).cells (grownCap w n 0 46 - n)) 46)).drew).ownsRow w.heap.size 46 8 (.slice (some ⟨w.heap.size, 0, none⟩) 0 (grownCap w n 0 46)) 0 [] := by
  have hge := grownCap_ge w n 0 46
  have hcm : grownCap w n 0 46 ≤ maxLen := grownCap_le_maxLen w n 0 46 (by unfold maxLen; omega)
  refine ⟨rfl, .inr ⟨w.heap.size, _, _, rfl, Nat.le_refl _, heap_alloc_new w _, Nat.zero_le _, hcm, ?_, ?_⟩⟩
  · rw [Array.size_append, size_zeroCells, size_zeroCells]
    rw [show (Value.agg #[.int .i64 0, .int .i64 0, .int .i64 0, .bool false, .slice none 0 0, .slice none 0 0, .bool false, .bool false]).cells.size = 8 from rfl]
    omega
  · simp

set_option maxHeartbeats 1600000 in
theorem grow_tracks (n : Nat) (h0 : 0 < n) (hn : n ≤ 2097152) (w : World) :
    Calls Try.prog 117 #[.slice none 0 0, .int .i64 n] w fun e w' => ∃ v, e = .returned v ∧ w'.ownsRow w.heap.size 46 8 v 0 [] ∧ Below w.heap.size w w' := by
  obtain ⟨i0, hi, hz0, hz1, hz2⟩ := info_parts Try.infoTk
  have hr := Go.Lib.run_append_nil_zeros (P := Try.prog) w 88 3 88 46 i0 (.agg #[.int .i64 0, .int .i64 0, .int .i64 0, .bool false, .slice none 0 0, .slice none 0 0, .bool false, .bool false]) .i64 .i64 Try.underlying88 Try.underlying3 hi hz0 n h0 (by omega) (by omega) (by rw [hz2]; omega)
  have a1 : (0 : Int) < (n : Int) := by omega
  have a2 : ¬ (n : Int) < 0 := by omega
  have a3 : (n : Int) ≤ 2097152 := by omega
  have HO := hid (owns_zerosT w n hn)
  go_enter Try.func117, Try.ntmps117
  go_wp2_with (at_builtin; refine Go.Lib.wpList_append_run _ rfl _ _ _ _ rfl _ _ rfl rfl _ _ hr ?_)
  go_ret
  exact ⟨_, rfl, HO.out, (Below.alloc1 w _).trans ((Still.drew _).below _)⟩

theorem wpList_append_zero {P : Program} {w : World} {ops : Array Oper} {rest : List Oper} {o : Oper} {a : Act} {Q : Exit → Act → World → Prop} (hgd : o.guard = none) (s x : Operand) (t : TypeId)
    (ho : o.op = .call { callee := .builtin .append, args := #[s, x], argTypes := #[t, t] })
    (base : Nat) (e : TypeId) (i : TypeInfo) (z : Value) (size bytes : Nat) (ht : P.underlying t = some (.slice e)) (hi : P.info? e = some i) (hz : i.zero = some z)
    (hsize : i.size = size) (hby : i.bytes = bytes) (hzs : z.cells.size = size) (hsz : 0 < size)
    (v : Value) (n : Nat) (xs : List Value) (hs : a.eval s = v) (hown : w.ownsRow base e size v n xs)
    (ad : Option Addr) (c : Nat) (hx : a.eval x = .slice ad 0 c) (hnil : ad = none → c = 0)
    (h63 : n ≤ maxLen) (hbytes : n * bytes ≤ 140737488355328) (hbase : base ≤ w.heap.size)
    (h : ∀ a' cap w', w'.ownsRow base e size (.slice a' n cap) n xs → w.grownBy w' v.ownBlock → wpList P ops Q rest (a.put o.dst (.slice a' n cap)) w') : wpList P ops Q (o :: rest) a w := by
  refine wpList_append_row hgd s x t ho base e i z size bytes ht hi hz hsize hby hzs hsz v n xs hs hown ad 0 c [] hx (by simp) ?_ (fun _ => rfl) (fun u hu => by cases hu) (by omega) (by simpa using hbytes) hbase (fun a' cap w' o' g' => ?_)
  · cases ad with
    | none => exact .inl ⟨rfl, hnil rfl⟩
    | some p => exact .inr ⟨p, rfl, fun j u hu => by simp at hu⟩
  · rw [List.append_nil] at o'
    exact h a' cap w' o' g'

set_option maxHeartbeats 3200000 in
theorem concat_tracks (G : Nat) {a : Option Addr} {n lo : Nat} {L1 : List Value} {w : World} (o1 : w.ownsRow lo 46 8 (.slice a n n) n L1) (h1c : ∀ u ∈ L1, u.oneCell' = true) (q : Nat) {x y : Int} (hq : w.heap[q]? = some (.cells #[.int .i64 x, .int .i64 y, .int .i64 0, .bool false, .slice none 0 0, .slice none 0 0, .bool false, .bool false] 46)) {a3 : Option Addr} {c3 : Nat} (h3 : a3 = none → c3 = 0) (hn : n ≤ 1048576)
    (d1 : w.cell? ⟨G, 0, none⟩ = some (.slice a n n)) (d2 : w.cell? ⟨G, 1, none⟩ = some (.slice (some ⟨q, 0, none⟩) 1 1)) (d3 : w.cell? ⟨G, 2, none⟩ = some (.slice a3 0 c3)) :
    Calls Try.prog 95 #[.slice (some ⟨G, 0, none⟩) 3 3] w fun e w' => ∃ a' c', e = .returned (.slice a' (n + 1) c') ∧ w'.ownsRow w.heap.size 46 8 (.slice a' (n + 1) c') (n + 1) (L1 ++ [.int .i64 x, .int .i64 y, .int .i64 0, .bool false, .slice none 0 0, .slice none 0 0, .bool false, .bool false]) ∧ Below w.heap.size w w' := by
  obtain ⟨i0, hi, hz0, hz1, hz2⟩ := info_parts Try.infoTk
  have hg := World.block_lt_of_cell? w _ d1
  have HG := hid hg
  have HQ := hid hq
  have hqz : q < w.heap.size := (Array.getElem?_eq_some_iff.1 hq).1
  have HO1 := hid o1
  have H1c := hid h1c
  have D1 := hid d1
  have D2 := hid d2
  have D3 := hid d3
  have H3 := hid h3
  have i1 : (0 : Int) ≤ (n : Int) := by omega
  have i3 : (n : Int) ≤ 1048576 := by omega
  clear hg o1 h1c hq h3
  go_enter Try.func95, Try.ntmps95
  go_wp2
  go_loopw [3, 11] (fun s i wr => wr = w ∧ ((i = .int .i64 0 ∧ s = .int .i64 0) ∨ (i = .int .i64 1 ∧ s = .int .i64 n) ∨ (i = .int .i64 2 ∧ s = .int .i64 ((n : Int) + 1)) ∨ (i = .int .i64 3 ∧ s = .int .i64 ((n : Int) + 1)))) (fun _ i _ => 3 - (intOf i).toNat)
  case atStart => exact ⟨rfl, .inl ⟨rfl, rfl⟩⟩
  case round =>
    obtain ⟨rfl, hcase⟩ := hrel
    rcases hcase with ⟨rfl, rfl⟩ | ⟨rfl, rfl⟩ | ⟨rfl, rfl⟩ | ⟨rfl, rfl⟩
    · go_wp2
      go_roundw
      case rel => exact ⟨by first | trivial | rfl, .inr (.inl ⟨by go_num, by go_num⟩)⟩
      case measure => simp [intOf]
    · go_wp2
      go_roundw
      case rel => exact ⟨by first | trivial | rfl, .inr (.inr (.inl ⟨by go_num, by go_num⟩))⟩
      case measure => simp [intOf]
    · go_wp2
      go_roundw
      case rel => exact ⟨by first | trivial | rfl, .inr (.inr (.inr ⟨by go_num, by go_num⟩))⟩
      case measure => simp [intOf]
    · clear d1 d2 d3
      obtain ⟨w0, hw0⟩ : ∃ w0, w0 = wr := ⟨_, rfl⟩
      subst hw0
      rw [show ((n : Int) + 1) = ((n + 1 : Nat) : Int) by omega]
      go_wp2_with fail
      refine (grow_tracks (n + 1) (by omega) (by omega) _).mono ?_
      rintro e w1 ⟨v, rfl, o, b⟩
      have O := hid o
      have B := hid b
      clear o b
      go_wp2_with fail
      go_loopw [6, 27] (fun v2 i wr => Below w0.heap.size w0 wr ∧ ((i = .int .i64 0 ∧ wr.ownsRow w0.heap.size 46 8 v2 0 []) ∨ (i = .int .i64 1 ∧ wr.ownsRow w0.heap.size 46 8 v2 n L1) ∨ (i = .int .i64 2 ∧ wr.ownsRow w0.heap.size 46 8 v2 (n + 1) (L1 ++ [.int .i64 x, .int .i64 y, .int .i64 0, .bool false, .slice none 0 0, .slice none 0 0, .bool false, .bool false])) ∨ (i = .int .i64 3 ∧ wr.ownsRow w0.heap.size 46 8 v2 (n + 1) (L1 ++ [.int .i64 x, .int .i64 y, .int .i64 0, .bool false, .slice none 0 0, .slice none 0 0, .bool false, .bool false])))) (fun _ i _ => 3 - (intOf i).toNat)
      case atStart => exact ⟨B.out, .inl ⟨rfl, O.out⟩⟩
      case round =>
        obtain ⟨bq, hcase⟩ := hrel
        clear O B
        have BQ := hid bq
        have d1 := (bq.cell (p := ⟨G, 0, none⟩) HG.out).trans D1.out
        have d2 := (bq.cell (p := ⟨G, 1, none⟩) HG.out).trans D2.out
        have d3 := (bq.cell (p := ⟨G, 2, none⟩) HG.out).trans D3.out
        have Q1 := hid (owns_below bq (Nat.le_refl _) HO1.out)
        have Q2 := hid ((bq.block q hqz).trans HQ.out)
        clear bq
        rcases hcase with ⟨rfl, o⟩ | ⟨rfl, o⟩ | ⟨rfl, o⟩ | ⟨rfl, o⟩
        · have O := hid o
          clear o d2 d3
          go_wp2_with (at_builtin; refine wpList_append_row rfl _ _ 88 rfl w0.heap.size 46 i0 (.agg #[.int .i64 0, .int .i64 0, .int .i64 0, .bool false, .slice none 0 0, .slice none 0 0, .bool false, .bool false]) 8 88 Try.underlying88 hi hz0 hz1 hz2 rfl (by decide) _ 0 [] rfl O.out a n n L1 rfl Q1.out.1 ?j1 ?j2 H1c.out ?k4 ?k5 BQ.out.size ?_)
          case j1 =>
            rcases Q1.out.2 with ⟨e, h0⟩ | ⟨g, cap, cur, e, _⟩
            · cases e; exact .inl ⟨rfl, rfl⟩
            · cases e
              exact .inr ⟨_, rfl, fun j u hu => by
                rw [Addr.add_lit, Nat.zero_add]
                exact (Q1.out.cellAt j (by have := (List.getElem?_eq_some_iff.1 hu).1; have := Q1.out.1; omega)).trans hu⟩
          case j2 =>
            intro ha
            rcases Q1.out.2 with ⟨e, h0⟩ | ⟨g, cap, cur, e, _⟩
            · exact h0
            · rw [ha] at e; cases e
          case k4 => unfold maxLen; omega
          case k5 => omega
          intro a' c' w' o' g'
          have B' := hid (BQ.out.grown g' BQ.out.size (fun k hk => (O.out.lt k hk).1))
          have O' := hid (show w'.ownsRow w0.heap.size 46 8 (.slice a' n c') n L1 by simpa using o')
          clear o' g' O
          go_wp2
          go_roundw
          case rel => exact ⟨B'.out, .inr (.inl ⟨by go_num, O'.out⟩)⟩
          case measure => simp [intOf]
        · have O := hid o
          clear o d1 d3
          go_wp2_with (at_builtin; refine wpList_append_row rfl _ _ 88 rfl w0.heap.size 46 i0 (.agg #[.int .i64 0, .int .i64 0, .int .i64 0, .bool false, .slice none 0 0, .slice none 0 0, .bool false, .bool false]) 8 88 Try.underlying88 hi hz0 hz1 hz2 rfl (by decide) _ n L1 rfl O.out (some ⟨q, 0, none⟩) 1 1 [.int .i64 x, .int .i64 y, .int .i64 0, .bool false, .slice none 0 0, .slice none 0 0, .bool false, .bool false] rfl rfl (.inr ⟨_, rfl, World.news_of_block Q2.out⟩) (fun e => by cases e) ?j3 ?k6 ?k7 BQ.out.size ?_)
          case j3 => intro z hz; simp only [List.mem_cons, List.not_mem_nil, or_false] at hz; rcases hz with rfl | rfl | rfl | rfl | rfl | rfl | rfl | rfl <;> rfl
          case k6 => unfold maxLen; omega
          case k7 => omega
          intro a' c' w' o' g'
          have B' := hid (BQ.out.grown g' BQ.out.size (fun k hk => (O.out.lt k hk).1))
          have O' := hid o'
          clear o' g' O
          go_wp2
          go_roundw
          case rel => exact ⟨B'.out, .inr (.inr (.inl ⟨by go_num, O'.out⟩))⟩
          case measure => simp [intOf]
        · have O := hid o
          clear o d1 d2
          go_wp2_with (at_builtin; refine wpList_append_zero rfl _ _ 88 rfl w0.heap.size 46 i0 (.agg #[.int .i64 0, .int .i64 0, .int .i64 0, .bool false, .slice none 0 0, .slice none 0 0, .bool false, .bool false]) 8 88 Try.underlying88 hi hz0 hz1 hz2 rfl (by decide) _ (n + 1) _ rfl O.out a3 c3 rfl H3.out ?k8 ?k9 BQ.out.size ?_)
          case k8 => unfold maxLen; omega
          case k9 => omega
          intro a' c' w' o' g'
          have B' := hid (BQ.out.grown g' BQ.out.size (fun k hk => (O.out.lt k hk).1))
          have O' := hid o'
          clear o' g' O
          go_wp2
          go_roundw
          case rel => exact ⟨B'.out, .inr (.inr (.inr ⟨by go_num, O'.out⟩))⟩
          case measure => simp [intOf]
        · obtain ⟨a', c', e'⟩ := own_sl o
          subst e'
          have O := hid o
          clear o d1 d2 d3
          go_wp2
          go_ret
          exact ⟨_, _, rfl, O.out, BQ.out⟩
end Go.Proofs.Ytnhlfkffllbpiaa
