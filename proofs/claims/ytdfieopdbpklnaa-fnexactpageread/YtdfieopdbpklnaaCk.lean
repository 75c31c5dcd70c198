/- A region that draws its order within a round; the contract of the library's slices.Chunk over a body of 240 bytes. Conditions: pieces of 60 bytes. -/
import Derived.RangeFuncNested
import Derived.RangeFuncBound
import Derived.RangeFuncCalls
import Derived.RangeFuncLeaves
import Derived.RangeFuncBox
import Derived.Shelf.Abstract
import Derived.WalkKit
import Derived.OwnWalkIn
import Derived.TacticsInMore
import Derived.LoopNIn
import Derived.LoopIn
import Derived.OrdersIn
import Derived.Test.YtdfieopdbpklnaaBd
import Derived.Test.YtdfieopdbpklnaaRk3
namespace Go.Proofs.Ytdfieopdbpklnaa
open Go.RowKit Go.Shelf
attribute [local go_sem] Oper.semAt_some

section
variable {P : Program} {ops : Array Oper} {Q : Exit → Act → World → Prop} {md : Region.Mode}
def noDefer (o : Oper) : Bool := match o.op with | .defer _ => false | _ => true
theorem noDefer_of {o : Oper} (h : noDefer o = true) : ∀ c, o.op ≠ .defer c := by
  intro c e
  unfold noDefer at h
  rw [e] at h
  cases h
theorem opIn_of_op {o : Oper} {l n : Nat} {a : Act} {w : World} {K : Act → World → Prop} (hd : noDefer o = true) (h : o.wp P a w K Q) : o.wpIn (Fence.wide.inRound l) n P a w K Q := by
  refine ⟨fun f _ => trivial, ?_⟩
  rw [Oper.semAt_eq _ _ _ (noDefer_of hd)]
  unfold Oper.wp at h
  generalize (execOp a.eval o).run P w = r at h ⊢
  cases r with
  | ok x w' =>
    cases x with
    | enter f args => exact ⟨(fun e => (by cases e)), (callsIn_wide (n := n - 1)).2 h⟩
    | row row args => exact ⟨(fun e => (by cases e)), fun c cs _ => let ⟨v, w', r, s⟩ := h c cs; ⟨v, w', r, stepsIn_wide.2 s⟩⟩
    | round l f t x y => exact False.elim h
    | _ => exact h
  | halt x w' => cases x <;> exact h
theorem anyIn_of_any {l n : Nat} (hd : ops.all noDefer = true) (hno : ¬ LetsOut Q) : ∀ (fuel : Nat) (listed : Array Bool) (a : Act) (w : World), wpAny P md ops Q fuel listed a w → wpAnyIn (Fence.wide.inRound l) n P md ops Q fuel listed a w
  | 0, _, _, _, h => h
  | fuel + 1, listed, a, w, h => by
    refine ⟨h.1, fun i hi => ?_⟩
    have h2 := h.2 i hi
    unfold wpOp at h2
    unfold wpOpIn
    cases ho : ops[i]? with
    | none => rw [ho] at h2; exact anyIn_of_any hd hno fuel _ _ _ h2
    | some o =>
      rw [ho] at h2
      simp only at h2 ⊢
      have hdo : noDefer o = true := by
        have hlt := (Array.getElem?_eq_some_iff.1 ho)
        obtain ⟨hl, he⟩ := hlt
        rw [← he]
        exact Array.all_eq_true.1 hd i hl
      split
      · rename_i hw
        rw [if_pos hw] at h2
        rcases h2 with h2 | h2
        · exact Oper.wpIn_mono (fun a w k => anyIn_of_any hd hno fuel _ a w k) (opIn_of_op hdo h2)
        · exact absurd h2.2 hno
      · rename_i hw
        rw [if_neg hw] at h2
        exact ⟨fun f _ => trivial, anyIn_of_any hd hno fuel _ _ _ h2⟩
theorem region_KR {id l n : Nat} {a : Act} {w : World} (L : Nat) (S : World → Prop) (hm : P.follows .mixedOrders = true) (hd : ops.all noDefer = true) (hno : ¬ LetsOut Q) (hS : S w.drew)
    (h : S w.drew → anyK P .any ops Q S L ops.size (Array.replicate ops.size false) a w.drew) : (Code.region id ops true).wpIn (Fence.wide.inRound l) n P Q a w :=
  wpIn_region_any hm (anyIn_of_any hd hno _ _ _ _ (anyK_any _ _ _ _ (h hS)))
end

def up (k : Nat) : List Nat := List.range k
theorem up_len (k : Nat) : (up k).length = k := by simp [up]
theorem up_succ (k : Nat) : up (k + 1) = up k ++ [k] := by simp [up, List.range_succ]
def enC (gb : Nat) (i : Nat) : Array Value := #[.slice (some ⟨gb, 60 * min i 3, none⟩) 60 60]

set_option maxRecDepth 100000 in
set_option maxHeartbeats 2000000 in
theorem chunk1 (n : Nat) (hn : 1 ≤ n) (l Bs Bn : Nat) (gb c : Nat) (hc240 : 240 ≤ c) (Kp : World → World → Prop) (hKr : ∀ W, Kp W W) (hKt : ∀ {A B C : World}, Kp A B → Kp B C → Kp A C) (hKd : ∀ W, Kp W W.drew) (hKc : ∀ {A B : World} {v : Value}, Kp A B → A.cell? ⟨Bs, 0, none⟩ = some v → B.cell? ⟨Bs, 0, none⟩ = some v) (hKn : ∀ {A B : World} {v : Value}, Kp A B → A.cell? ⟨Bn, 0, none⟩ = some v → B.cell? ⟨Bn, 0, none⟩ = some v) (J Jx : List Nat → World → Prop) (hJd : ∀ pre W, J pre W → J pre W.drew)
    (hY : ∀ pre x W, J pre W → pre.length < 4 → YieldAt Fence.wide (n - 1) Try.prog l (enC gb x) W fun e W' =>
      (e = .returned (.bool true) ∧ J (pre ++ [x]) W' ∧ Kp W W') ∨ (e = .returned (.bool false) ∧ Jx (pre ++ [x]) W'))
    (W : World) (hBs : W.cell? ⟨Bs, 0, none⟩ = some (.slice (some ⟨gb, 0, none⟩) 240 c)) (hBn : W.cell? ⟨Bn, 0, none⟩ = some (.int .i64 60)) (h0 : J [] W) :
    CallsIn Fence.wide n Try.prog 82 #[.func (.yield l) #[] #[], .pointer (some ⟨Bs, 0, none⟩), .pointer (some ⟨Bn, 0, none⟩)] W fun e W' => (∃ v, e = .returned v) ∧
      ((∃ ys, ys = up 4 ∧ J ys W') ∨ (∃ pre, (∃ k, k ≤ 4 ∧ pre = up k) ∧ Jx pre W')) := by
  refine callsIn_of_wp Try.func82 rfl trivial ?_ rfl
  simp only [Try.ntmps82, List.size_toArray, List.length_cons, List.length_nil, Nat.reduceAdd, Nat.reduceSub, Array.replicate_succ, Array.replicate_zero, List.push_toArray, List.append_toArray, List.nil_append, List.cons_append]
  gi_wp2
  gi_loopw [4] (fun i wr => ∃ k : Nat, k ≤ 4 ∧ i = .int .i64 ((60 * k : Nat) : Int) ∧ J (up k) wr ∧ Kp W wr) (fun i _ => (240 - intOf i).toNat)
  case atStart => exact ⟨0, Nat.zero_le _, rfl, h0, hKr _⟩
  case round =>
    obtain ⟨k, hk, rfl, hJs, hnx⟩ := hrel
    have hbs := hKc hnx hBs
    have hbn := hKn hnx hBn
    by_cases hlt : k < 4
    · have n1 : ¬ c = 60 := by omega
      have n2 : ¬ c = 120 := by omega
      have n3 : ¬ c = 180 := by omega
      obtain rfl | rfl | rfl | rfl : k = 0 ∨ k = 1 ∨ k = 2 ∨ k = 3 := by omega
      · rw [show ((60 * 0 : Nat) : Int) = 0 from rfl]
        obtain ⟨fn, tmps, assign, body, hy, hR⟩ := hY _ 0 wr.drew (hJd _ _ hJs) (by simp [up_len])
        have hy' := hy
        simp only [enC, Nat.reduceMul, show min 0 3 = 0 from rfl] at hy'
        clear hy
        gi_wp2
        refine wpIn_wide.2 ?_
        refine region_K 99 (fun W => W.cell? ⟨Bs, 0, none⟩ = some (.slice (some ⟨gb, 0, none⟩) 240 c) ∧ W.cell? ⟨Bn, 0, none⟩ = some (.int .i64 60)) (by kernel_rfl) ?_ (fun hHeld => ?_)
        · exact ⟨hbs, hbn⟩
        refine anyK_take2 (i := 0) (v := ?v1) rfl (by kernel_rfl) (by kernel_rfl) (by kernel_rfl) (by rfl) (fun _ _ _ h => h) (by rfl) hHeld ?hy1 (some 13) (by rfl) ?rest1
        case hy1 => (intro W hSw; obtain ⟨r0, r1⟩ := hSw; go_simp; (try with_reducible rfl))
        try simp only [Act.put]
        try simp only [List.setIfInBounds_toArray]
        try simp only [List.set_cons_succ, List.set_cons_zero]
        refine anyK_take2 (i := 1) (v := ?v2) rfl (by kernel_rfl) (by kernel_rfl) (by kernel_rfl) (by rfl) (fun _ _ _ h => h) (by rfl) hHeld ?hy2 (some 14) (by rfl) ?rest2
        case hy2 => (intro W hSw; obtain ⟨r0, r1⟩ := hSw; go_simp; (try with_reducible rfl))
        try simp only [Act.put]
        try simp only [List.setIfInBounds_toArray]
        try simp only [List.set_cons_succ, List.set_cons_zero]
        refine anyK_take2 (i := 2) (v := ?v3) rfl (by kernel_rfl) (by kernel_rfl) (by kernel_rfl) (by rfl) (fun _ _ _ h => h) (by rfl) hHeld ?hy3 (some 15) (by rfl) ?rest3
        case hy3 => (intro W hSw; obtain ⟨r0, r1⟩ := hSw; go_simp; (try with_reducible rfl))
        try simp only [Act.put]
        try simp only [List.setIfInBounds_toArray]
        try simp only [List.set_cons_succ, List.set_cons_zero]
        refine anyK_take2 (i := 3) (v := ?v4) rfl (by kernel_rfl) (by kernel_rfl) (by kernel_rfl) (by rfl) (fun _ _ _ h => h) (by rfl) hHeld ?hy4 (some 16) (by rfl) ?rest4
        case hy4 => (intro W hSw; obtain ⟨r0, r1⟩ := hSw; go_simp; (try with_reducible rfl))
        try simp only [Act.put]
        try simp only [List.setIfInBounds_toArray]
        try simp only [List.set_cons_succ, List.set_cons_zero]
        refine anyK_take2 (i := 4) (v := ?v5) rfl (by kernel_rfl) (by kernel_rfl) (by kernel_rfl) (by rfl) (fun _ _ _ h => h) (by rfl) hHeld ?hy5 (some 17) (by rfl) ?rest5
        case hy5 => (intro W hSw; obtain ⟨r0, r1⟩ := hSw; go_simp; (try with_reducible rfl))
        try simp only [Act.put]
        try simp only [List.setIfInBounds_toArray]
        try simp only [List.set_cons_succ, List.set_cons_zero]
        refine anyK_step (i := 5) (by kernel_rfl) rfl (fun KP hK => ?_)
        go_simp
        refine hK.out _ _ ?_ (fun hH2 => ?_)
        · exact ⟨hbs, hbn⟩
        clear hK KP hHeld
        have hHeld := hH2
        clear hH2
        try simp only [Act.put]
        try simp only [List.setIfInBounds_toArray]
        try simp only [List.set_cons_succ, List.set_cons_zero]
        refine anyK_step (i := 6) (by kernel_rfl) rfl (fun KP hK => ?_)
        go_simp
        refine hK.out _ _ ?_ (fun hH2 => ?_)
        · exact ⟨hbs, hbn⟩
        clear hK KP hHeld
        have hHeld := hH2
        clear hH2
        try simp only [Act.put]
        try simp only [List.setIfInBounds_toArray]
        try simp only [List.set_cons_succ, List.set_cons_zero]
        refine anyK_done (by kernel_rfl) ?_ _
        clear hHeld
        gi_wp2
        refine hR.mono ?_
        rintro e W3 (⟨rfl, hJ3, hk3⟩ | ⟨rfl, hJx3⟩)
        · have b3 := hKt (hKt hnx (hKd _)) hk3
          have hbn3 := hKn b3 hBn
          rw [← up_succ] at hJ3
          clear hR hy'
          gi_wp2
          go_roundw
          case rel => exact ⟨1, by omega, by rfl, hJ3, b3⟩
          case measure => simp [intOf]
        · gi_wp2
          refine bodyPost_ret (results_none rfl _ _ _) rfl ?_
          exact ⟨⟨_, rfl⟩, .inr ⟨_, ⟨1, by omega, (up_succ 0).symm⟩, hJx3⟩⟩
      · rw [show ((60 * 1 : Nat) : Int) = 60 from rfl]
        obtain ⟨fn, tmps, assign, body, hy, hR⟩ := hY _ 1 wr.drew (hJd _ _ hJs) (by simp [up_len])
        have hy' := hy
        simp only [enC, Nat.reduceMul, show min 1 3 = 1 from rfl] at hy'
        clear hy
        gi_wp2
        refine wpIn_wide.2 ?_
        refine region_K 99 (fun W => W.cell? ⟨Bs, 0, none⟩ = some (.slice (some ⟨gb, 0, none⟩) 240 c) ∧ W.cell? ⟨Bn, 0, none⟩ = some (.int .i64 60)) (by kernel_rfl) ?_ (fun hHeld => ?_)
        · exact ⟨hbs, hbn⟩
        refine anyK_take2 (i := 0) (v := ?v6) rfl (by kernel_rfl) (by kernel_rfl) (by kernel_rfl) (by rfl) (fun _ _ _ h => h) (by rfl) hHeld ?hy6 (some 13) (by rfl) ?rest6
        case hy6 => (intro W hSw; obtain ⟨r0, r1⟩ := hSw; go_simp; (try with_reducible rfl))
        try simp only [Act.put]
        try simp only [List.setIfInBounds_toArray]
        try simp only [List.set_cons_succ, List.set_cons_zero]
        refine anyK_take2 (i := 1) (v := ?v7) rfl (by kernel_rfl) (by kernel_rfl) (by kernel_rfl) (by rfl) (fun _ _ _ h => h) (by rfl) hHeld ?hy7 (some 14) (by rfl) ?rest7
        case hy7 => (intro W hSw; obtain ⟨r0, r1⟩ := hSw; go_simp; (try with_reducible rfl))
        try simp only [Act.put]
        try simp only [List.setIfInBounds_toArray]
        try simp only [List.set_cons_succ, List.set_cons_zero]
        refine anyK_take2 (i := 2) (v := ?v8) rfl (by kernel_rfl) (by kernel_rfl) (by kernel_rfl) (by rfl) (fun _ _ _ h => h) (by rfl) hHeld ?hy8 (some 15) (by rfl) ?rest8
        case hy8 => (intro W hSw; obtain ⟨r0, r1⟩ := hSw; go_simp; (try with_reducible rfl))
        try simp only [Act.put]
        try simp only [List.setIfInBounds_toArray]
        try simp only [List.set_cons_succ, List.set_cons_zero]
        refine anyK_take2 (i := 3) (v := ?v9) rfl (by kernel_rfl) (by kernel_rfl) (by kernel_rfl) (by rfl) (fun _ _ _ h => h) (by rfl) hHeld ?hy9 (some 16) (by rfl) ?rest9
        case hy9 => (intro W hSw; obtain ⟨r0, r1⟩ := hSw; go_simp; (try with_reducible rfl))
        try simp only [Act.put]
        try simp only [List.setIfInBounds_toArray]
        try simp only [List.set_cons_succ, List.set_cons_zero]
        refine anyK_take2 (i := 4) (v := ?v10) rfl (by kernel_rfl) (by kernel_rfl) (by kernel_rfl) (by rfl) (fun _ _ _ h => h) (by rfl) hHeld ?hy10 (some 17) (by rfl) ?rest10
        case hy10 => (intro W hSw; obtain ⟨r0, r1⟩ := hSw; go_simp; (try with_reducible rfl))
        try simp only [Act.put]
        try simp only [List.setIfInBounds_toArray]
        try simp only [List.set_cons_succ, List.set_cons_zero]
        refine anyK_step (i := 5) (by kernel_rfl) rfl (fun KP hK => ?_)
        go_simp
        refine hK.out _ _ ?_ (fun hH2 => ?_)
        · exact ⟨hbs, hbn⟩
        clear hK KP hHeld
        have hHeld := hH2
        clear hH2
        try simp only [Act.put]
        try simp only [List.setIfInBounds_toArray]
        try simp only [List.set_cons_succ, List.set_cons_zero]
        refine anyK_step (i := 6) (by kernel_rfl) rfl (fun KP hK => ?_)
        go_simp
        refine hK.out _ _ ?_ (fun hH2 => ?_)
        · exact ⟨hbs, hbn⟩
        clear hK KP hHeld
        have hHeld := hH2
        clear hH2
        try simp only [Act.put]
        try simp only [List.setIfInBounds_toArray]
        try simp only [List.set_cons_succ, List.set_cons_zero]
        refine anyK_done (by kernel_rfl) ?_ _
        clear hHeld
        gi_wp2
        refine hR.mono ?_
        rintro e W3 (⟨rfl, hJ3, hk3⟩ | ⟨rfl, hJx3⟩)
        · have b3 := hKt (hKt hnx (hKd _)) hk3
          have hbn3 := hKn b3 hBn
          rw [← up_succ] at hJ3
          clear hR hy'
          gi_wp2
          go_roundw
          case rel => exact ⟨2, by omega, by rfl, hJ3, b3⟩
          case measure => simp [intOf]
        · gi_wp2
          refine bodyPost_ret (results_none rfl _ _ _) rfl ?_
          exact ⟨⟨_, rfl⟩, .inr ⟨_, ⟨2, by omega, (up_succ 1).symm⟩, hJx3⟩⟩
      · rw [show ((60 * 2 : Nat) : Int) = 120 from rfl]
        obtain ⟨fn, tmps, assign, body, hy, hR⟩ := hY _ 2 wr.drew (hJd _ _ hJs) (by simp [up_len])
        have hy' := hy
        simp only [enC, Nat.reduceMul, show min 2 3 = 2 from rfl] at hy'
        clear hy
        gi_wp2
        refine wpIn_wide.2 ?_
        refine region_K 99 (fun W => W.cell? ⟨Bs, 0, none⟩ = some (.slice (some ⟨gb, 0, none⟩) 240 c) ∧ W.cell? ⟨Bn, 0, none⟩ = some (.int .i64 60)) (by kernel_rfl) ?_ (fun hHeld => ?_)
        · exact ⟨hbs, hbn⟩
        refine anyK_take2 (i := 0) (v := ?v11) rfl (by kernel_rfl) (by kernel_rfl) (by kernel_rfl) (by rfl) (fun _ _ _ h => h) (by rfl) hHeld ?hy11 (some 13) (by rfl) ?rest11
        case hy11 => (intro W hSw; obtain ⟨r0, r1⟩ := hSw; go_simp; (try with_reducible rfl))
        try simp only [Act.put]
        try simp only [List.setIfInBounds_toArray]
        try simp only [List.set_cons_succ, List.set_cons_zero]
        refine anyK_take2 (i := 1) (v := ?v12) rfl (by kernel_rfl) (by kernel_rfl) (by kernel_rfl) (by rfl) (fun _ _ _ h => h) (by rfl) hHeld ?hy12 (some 14) (by rfl) ?rest12
        case hy12 => (intro W hSw; obtain ⟨r0, r1⟩ := hSw; go_simp; (try with_reducible rfl))
        try simp only [Act.put]
        try simp only [List.setIfInBounds_toArray]
        try simp only [List.set_cons_succ, List.set_cons_zero]
        refine anyK_take2 (i := 2) (v := ?v13) rfl (by kernel_rfl) (by kernel_rfl) (by kernel_rfl) (by rfl) (fun _ _ _ h => h) (by rfl) hHeld ?hy13 (some 15) (by rfl) ?rest13
        case hy13 => (intro W hSw; obtain ⟨r0, r1⟩ := hSw; go_simp; (try with_reducible rfl))
        try simp only [Act.put]
        try simp only [List.setIfInBounds_toArray]
        try simp only [List.set_cons_succ, List.set_cons_zero]
        refine anyK_take2 (i := 3) (v := ?v14) rfl (by kernel_rfl) (by kernel_rfl) (by kernel_rfl) (by rfl) (fun _ _ _ h => h) (by rfl) hHeld ?hy14 (some 16) (by rfl) ?rest14
        case hy14 => (intro W hSw; obtain ⟨r0, r1⟩ := hSw; go_simp; (try with_reducible rfl))
        try simp only [Act.put]
        try simp only [List.setIfInBounds_toArray]
        try simp only [List.set_cons_succ, List.set_cons_zero]
        refine anyK_take2 (i := 4) (v := ?v15) rfl (by kernel_rfl) (by kernel_rfl) (by kernel_rfl) (by rfl) (fun _ _ _ h => h) (by rfl) hHeld ?hy15 (some 17) (by rfl) ?rest15
        case hy15 => (intro W hSw; obtain ⟨r0, r1⟩ := hSw; go_simp; (try with_reducible rfl))
        try simp only [Act.put]
        try simp only [List.setIfInBounds_toArray]
        try simp only [List.set_cons_succ, List.set_cons_zero]
        refine anyK_step (i := 5) (by kernel_rfl) rfl (fun KP hK => ?_)
        go_simp
        refine hK.out _ _ ?_ (fun hH2 => ?_)
        · exact ⟨hbs, hbn⟩
        clear hK KP hHeld
        have hHeld := hH2
        clear hH2
        try simp only [Act.put]
        try simp only [List.setIfInBounds_toArray]
        try simp only [List.set_cons_succ, List.set_cons_zero]
        refine anyK_step (i := 6) (by kernel_rfl) rfl (fun KP hK => ?_)
        go_simp
        refine hK.out _ _ ?_ (fun hH2 => ?_)
        · exact ⟨hbs, hbn⟩
        clear hK KP hHeld
        have hHeld := hH2
        clear hH2
        try simp only [Act.put]
        try simp only [List.setIfInBounds_toArray]
        try simp only [List.set_cons_succ, List.set_cons_zero]
        refine anyK_done (by kernel_rfl) ?_ _
        clear hHeld
        gi_wp2
        refine hR.mono ?_
        rintro e W3 (⟨rfl, hJ3, hk3⟩ | ⟨rfl, hJx3⟩)
        · have b3 := hKt (hKt hnx (hKd _)) hk3
          have hbn3 := hKn b3 hBn
          rw [← up_succ] at hJ3
          clear hR hy'
          gi_wp2
          go_roundw
          case rel => exact ⟨3, by omega, by rfl, hJ3, b3⟩
          case measure => simp [intOf]
        · gi_wp2
          refine bodyPost_ret (results_none rfl _ _ _) rfl ?_
          exact ⟨⟨_, rfl⟩, .inr ⟨_, ⟨3, by omega, (up_succ 2).symm⟩, hJx3⟩⟩
      · rw [show ((60 * 3 : Nat) : Int) = 180 from rfl]
        obtain ⟨fn, tmps, assign, body, hy, hR⟩ := hY _ 3 wr.drew (hJd _ _ hJs) (by simp [up_len])
        have hy' := hy
        simp only [enC, Nat.reduceMul, show min 3 3 = 3 from rfl] at hy'
        clear hy
        gi_wp2
        refine wpIn_wide.2 ?_
        refine region_K 99 (fun W => W.cell? ⟨Bs, 0, none⟩ = some (.slice (some ⟨gb, 0, none⟩) 240 c) ∧ W.cell? ⟨Bn, 0, none⟩ = some (.int .i64 60)) (by kernel_rfl) ?_ (fun hHeld => ?_)
        · exact ⟨hbs, hbn⟩
        refine anyK_take2 (i := 0) (v := ?v16) rfl (by kernel_rfl) (by kernel_rfl) (by kernel_rfl) (by rfl) (fun _ _ _ h => h) (by rfl) hHeld ?hy16 (some 13) (by rfl) ?rest16
        case hy16 => (intro W hSw; obtain ⟨r0, r1⟩ := hSw; go_simp; (try with_reducible rfl))
        try simp only [Act.put]
        try simp only [List.setIfInBounds_toArray]
        try simp only [List.set_cons_succ, List.set_cons_zero]
        refine anyK_take2 (i := 1) (v := ?v17) rfl (by kernel_rfl) (by kernel_rfl) (by kernel_rfl) (by rfl) (fun _ _ _ h => h) (by rfl) hHeld ?hy17 (some 14) (by rfl) ?rest17
        case hy17 => (intro W hSw; obtain ⟨r0, r1⟩ := hSw; go_simp; (try with_reducible rfl))
        try simp only [Act.put]
        try simp only [List.setIfInBounds_toArray]
        try simp only [List.set_cons_succ, List.set_cons_zero]
        refine anyK_take2 (i := 2) (v := ?v18) rfl (by kernel_rfl) (by kernel_rfl) (by kernel_rfl) (by rfl) (fun _ _ _ h => h) (by rfl) hHeld ?hy18 (some 15) (by rfl) ?rest18
        case hy18 => (intro W hSw; obtain ⟨r0, r1⟩ := hSw; go_simp; (try with_reducible rfl))
        try simp only [Act.put]
        try simp only [List.setIfInBounds_toArray]
        try simp only [List.set_cons_succ, List.set_cons_zero]
        refine anyK_take2 (i := 3) (v := ?v19) rfl (by kernel_rfl) (by kernel_rfl) (by kernel_rfl) (by rfl) (fun _ _ _ h => h) (by rfl) hHeld ?hy19 (some 16) (by rfl) ?rest19
        case hy19 => (intro W hSw; obtain ⟨r0, r1⟩ := hSw; go_simp; (try with_reducible rfl))
        try simp only [Act.put]
        try simp only [List.setIfInBounds_toArray]
        try simp only [List.set_cons_succ, List.set_cons_zero]
        refine anyK_take2 (i := 4) (v := ?v20) rfl (by kernel_rfl) (by kernel_rfl) (by kernel_rfl) (by rfl) (fun _ _ _ h => h) (by rfl) hHeld ?hy20 (some 17) (by rfl) ?rest20
        case hy20 => (intro W hSw; obtain ⟨r0, r1⟩ := hSw; go_simp; (try with_reducible rfl))
        try simp only [Act.put]
        try simp only [List.setIfInBounds_toArray]
        try simp only [List.set_cons_succ, List.set_cons_zero]
        refine anyK_step (i := 5) (by kernel_rfl) rfl (fun KP hK => ?_)
        go_simp
        refine hK.out _ _ ?_ (fun hH2 => ?_)
        · exact ⟨hbs, hbn⟩
        clear hK KP hHeld
        have hHeld := hH2
        clear hH2
        try simp only [Act.put]
        try simp only [List.setIfInBounds_toArray]
        try simp only [List.set_cons_succ, List.set_cons_zero]
        refine anyK_step (i := 6) (by kernel_rfl) rfl (fun KP hK => ?_)
        go_simp
        refine hK.out _ _ ?_ (fun hH2 => ?_)
        · exact ⟨hbs, hbn⟩
        clear hK KP hHeld
        have hHeld := hH2
        clear hH2
        try simp only [Act.put]
        try simp only [List.setIfInBounds_toArray]
        try simp only [List.set_cons_succ, List.set_cons_zero]
        refine anyK_done (by kernel_rfl) ?_ _
        clear hHeld
        gi_wp2
        refine hR.mono ?_
        rintro e W3 (⟨rfl, hJ3, hk3⟩ | ⟨rfl, hJx3⟩)
        · have b3 := hKt (hKt hnx (hKd _)) hk3
          have hbn3 := hKn b3 hBn
          rw [← up_succ] at hJ3
          clear hR hy'
          gi_wp2
          go_roundw
          case rel => exact ⟨4, by omega, by rfl, hJ3, b3⟩
          case measure => simp [intOf]
        · gi_wp2
          refine bodyPost_ret (results_none rfl _ _ _) rfl ?_
          exact ⟨⟨_, rfl⟩, .inr ⟨_, ⟨4, by omega, (up_succ 3).symm⟩, hJx3⟩⟩
    · obtain rfl : k = 4 := by omega
      gi_wp2
      go_end0
      first | exact ⟨⟨_, rfl⟩, .inl hJs⟩ | exact ⟨⟨_, rfl⟩, .inl ⟨_, rfl, hJs⟩⟩

set_option maxHeartbeats 1000000 in
theorem chunk_in (n : Nat) (a : Option Addr) (len cap : Nat) (w : World) :
    CallsIn Fence.wide n Try.prog 59 #[.slice a len cap, .int .i64 60] w fun e w' => e = .returned (.func (.func 82) #[] #[.pointer (some ⟨w.heap.size, 0, none⟩), .pointer (some ⟨w.heap.size + 1, 0, none⟩)]) ∧ w' = (w.alloc (.cells #[.slice a len cap] 22)).alloc (.cells #[.int .i64 60] 3) := by
  refine callsIn_of_wp Try.func59 rfl trivial ?_ rfl
  simp only [Try.ntmps59, List.size_toArray, List.length_cons, List.length_nil, Nat.reduceAdd, Nat.reduceSub, Array.replicate_succ, Array.replicate_zero, List.push_toArray, List.append_toArray, List.nil_append, List.cons_append]
  gi_wp2
  go_ret
  exact ⟨rfl, rfl⟩

/-- All that stands ahead of n, but the block G, is as it was. -/
structure BX (n G : Nat) (W W' : World) : Prop where
  size : W.heap.size ≤ W'.heap.size
  block : ∀ k, k < n → k ≠ G → W'.heap[k]? = W.heap[k]?
theorem BX.refl (n G : Nat) (W : World) : BX n G W W := ⟨Nat.le_refl _, fun _ _ _ => rfl⟩
theorem BX.trans {n G : Nat} {A B C : World} (h : BX n G A B) (k : BX n G B C) : BX n G A C := ⟨Nat.le_trans h.size k.size, fun i hi hg => (k.block i hi hg).trans (h.block i hi hg)⟩
theorem BX.cell {n G g : Nat} {A B : World} {v : Value} (h : BX n G A B) (hg : g < n) (hne : g ≠ G) (hc : A.cell? ⟨g, 0, none⟩ = some v) : B.cell? ⟨g, 0, none⟩ = some v := (World.cell?_of_block (h.block g hg hne)).trans hc
theorem BX.below {n G : Nat} {A B : World} (b : Below n A B) : BX n G A B := ⟨b.size, fun k hk _ => b.block k hk⟩
theorem BX.setCell {n G : Nat} (W : World) (v : Value) : BX n G W (W.setCell ⟨G, 0, none⟩ v) := ⟨by rw [set_size]; exact Nat.le_refl _, fun k _ hk => heap_set_ne W G 0 k v hk⟩
theorem BX.putObj {n G : Nat} {w : World} (hn : n ≤ w.heap.size) (W : World) (l : Nat) (o o' : Obj) (hl : w.heap.size ≤ l) (_ : W.heap[l]? = some o) (_ : o.isCells = false) (_ : o.isWalk = false) : BX n G W (W.putObj l o') :=
  ⟨(grownBy_putObj' W l o').size, fun k hk _ => World.putObj_heap_other (fun e => by omega)⟩

theorem chunk_stops (n : Nat) (hn : 1 ≤ n) (Bs Bn n₀ G gb c : Nat) (hc240 : 240 ≤ c) (w : World) (hBs : Bs < w.heap.size) (hBn : Bn < w.heap.size) (hBs0 : Bs < n₀) (hBn0 : Bn < n₀) (hBsG : Bs ≠ G) (hBnG : Bn ≠ G)
    (h1 : w.cell? ⟨Bs, 0, none⟩ = some (.slice (some ⟨gb, 0, none⟩) 240 c)) (h2 : w.cell? ⟨Bn, 0, none⟩ = some (.int .i64 60)) :
    SeqStopsK Fence.wide n Try.prog 82 #[.pointer (some ⟨Bs, 0, none⟩), .pointer (some ⟨Bn, 0, none⟩)] (enC gb) (BX n₀ G) (fun ys => ys = up 4) (fun pre => ∃ k, k ≤ 4 ∧ pre = up k) 4 w := fun l J Jx W hW hA _ hY h0 =>
  chunk1 n hn l Bs Bn gb c hc240 (BX n₀ G) (fun W => BX.refl _ _ W) (fun h k => h.trans k) (fun W => ⟨Nat.le_refl _, fun _ _ _ => rfl⟩) (fun h hc => h.cell hBs0 hBsG hc) (fun h hc => h.cell hBn0 hBnG hc) J Jx (fun pre W1 h => hA pre W1 _ none h ⟨rfl, rfl, rfl, Nat.le_refl _, fun _ _ _ => rfl⟩ (fun r e => by cases e)) hY W ((hW.cell (p := ⟨Bs, 0, none⟩) hBs).trans h1) ((hW.cell (p := ⟨Bn, 0, none⟩) hBn).trans h2) h0
end Go.Proofs.Ytdfieopdbpklnaa
