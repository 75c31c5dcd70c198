/- The contracts of the specification's WaitRing, WaitCloses, WaitFree. Conditions: at most 2^21 waits. -/
import Derived.Test.YtknloabdfkidiaaWb12
import Derived.Test.YtknloabdfkidiaaPs
namespace Go.Proofs.Ytknloabdfkidiaa
open Go.RowKit
set_option maxRecDepth 100000

/-- The way from x on, so many steps at most. -/
def ringF (l : List Wt) (who : Int) : Nat → Int → List Int → List Int
  | 0, _, _ => []
  | f + 1, x, out => match nextW l x with
    | none => []
    | some y => if y = who then out else ringF l who f y (out ++ [y])
def ringW (l : List Wt) (who : Int) : List Int := ringF l who (l.length + 1) who [who]
def closeF (l : List Wt) (who : Int) : Nat → Int → Bool
  | 0, _ => false
  | f + 1, x => if x = who then true else match nextW l x with
    | none => false
    | some y => closeF l who f y
def closeW (l : List Wt) (who holder : Int) : Bool := okW l && (!(nextW l who).isSome && closeF l who (l.length + 1) holder)
def leftW (l : List Wt) (holder : Int) : List Wt := if okW l = true then l.filter (fun p => decide (p.2 ≠ holder)) else []
def freeW (l : List Wt) (holder : Int) : List Int := if okW l = true then (l.filter (fun p => decide (p.2 = holder))).map (·.1) else []
theorem nextF_mem : ∀ (l : List Wt) (x y : Int), nextF l x = some y → ∃ p ∈ l, p.2 = y
  | p :: l, x, y, h => by
    unfold nextF at h
    split at h
    · exact ⟨p, by simp, Option.some.inj h⟩
    · obtain ⟨q, h1, h2⟩ := nextF_mem l x y h
      exact ⟨q, List.mem_cons_of_mem _ h1, h2⟩
def i64b (x : Int) : Prop := -9223372036854775808 ≤ x ∧ x ≤ 9223372036854775807
theorem bdW_mem {l : List Wt} (h : bdW l) {p : Wt} (hp : p ∈ l) : i64b p.1 ∧ i64b p.2 := by
  obtain ⟨i, hi, rfl⟩ := List.getElem_of_mem hp
  have := h i
  rw [show l.getD i wt0 = l[i] by simp [List.getD, hi]] at this
  exact this
theorem next_bd {l : List Wt} (h : bdW l) {x y : Int} (hn : nextW l x = some y) : i64b y := by
  unfold nextW at hn
  split at hn
  · obtain ⟨p, h1, rfl⟩ := nextF_mem l x y hn
    exact (bdW_mem h h1).2
  · cases hn
def bdL (L : List Int) : Prop := ∀ i, -9223372036854775808 ≤ L.getD i 0 ∧ L.getD i 0 ≤ 9223372036854775807
theorem bdL_snoc {L : List Int} {y : Int} (h : bdL L) (hy : i64b y) : bdL (L ++ [y]) := by
  intro i
  rw [getD_app]
  split
  · exact h i
  · rcases getD_mem_or [y] (i - L.length) 0 with e | e
    · rw [e]; omega
    · rw [List.mem_singleton.1 e]; exact hy
theorem bdL_one {y : Int} (hy : i64b y) : bdL [y] := bdL_snoc (L := []) (fun i => by simp) hy
theorem ins_app (a b : List Int) : ins (a ++ b) = ins a ++ ins b := by simp [ins]
theorem infoI12 : (Try.prog.info? 3).map (fun i => (i.zero, i.size, i.bytes)) = some (some (.int .i64 0), 1, 8) := by kernel_rfl
/-- A slice of numbers that is told. -/
structure AnsK (w : World) (R : List Int) (v : Value) (w' : World) : Prop where
  own : w'.ownsRow w.heap.size 3 1 v R.length (ins R)
  bd : bdL R
theorem AnsK.nil (w w' : World) : AnsK w [] (.slice none 0 0) w' := ⟨World.ownsRow_nil _ _ _ _, fun i => by simp⟩

set_option maxHeartbeats 3200000 in
theorem spec_WaitRing {ad : Option Addr} {n : Nat} (cap : Nat) {l : List Wt} {w : World} (h : ReadsW2 w ad n l) (hn : n ≤ 1048576) (x : Int) (hx : i64b x) :
    Calls Try.prog 21 #[.slice ad n cap, .int .i64 x] w fun e w' => ∃ v, e = .returned v ∧ AnsK w (ringW l x) v w' ∧ (ringW l x).length ≤ n + 2 ∧ Below w.heap.size w w' := by
  obtain ⟨i0, hi, hz0, hz1, hz2⟩ := info_parts infoI12
  have hl := h.len
  have O0 := hid (World.ownsRow_lit (base := w.heap.size) (e := 3) (size := 1) w #[.int .i64 x] 1 (Nat.le_refl _) (by unfold maxLen; omega) rfl)
  have B0 := hid (Below.alloc1 w (.cells #[.int .i64 x] 3))
  have HR := hid (show ringW l x = ringF l x (n + 1) x [x] by unfold ringW; rw [hl])
  go_enter Try.func21, Try.ntmps21
  go_wp2_with fail
  generalize w.alloc (.cells #[.int .i64 x] 3) = W at *
  go_loopw [5, 6, 7] (fun s5 s6 s7 wr => ∃ (k : Nat) (a : Option Addr) (c : Nat) (y : Int) (out : List Int), k ≤ n + 1 ∧ s7 = .int .i64 k ∧ s6 = .int .i64 y ∧ s5 = .slice a (k + 1) c ∧ out.length = k + 1 ∧ Hid (wr.ownsRow w.heap.size 3 1 (.slice a (k + 1) c) (k + 1) (ins out)) ∧ Hid (bdL out) ∧ Hid (ringW l x = ringF l x (n + 1 - k) y out) ∧ Hid (Below w.heap.size w wr)) (fun _ _ i _ => n + 1 - (intOf i).toNat)
  case atStart => exact ⟨0, some ⟨w.heap.size, 0, none⟩, 1, x, [x], Nat.zero_le _, rfl, rfl, rfl, rfl, hid (by simpa [ins] using O0.out), hid (bdL_one hx), HR, B0⟩
  case round =>
    clear O0 B0 HR
    obtain ⟨k, a, c, y, out, hk, rfl, rfl, rfl, ho, HO, HBD, HR, HB⟩ := hrel
    by_cases hlt : k ≤ n
    · have hlt' : (k : Int) ≤ (n : Int) := by omega
      go_wp2_with fail
      refine (spec_WaitNext cap (h.below HB.out (Nat.le_refl _)) (by omega) y).mono ?_
      rintro e w1 ⟨rfl, b1⟩
      have HR2 := HR.out
      rw [show n + 1 - k = (n - k) + 1 by omega, ringF] at HR2
      replace HO := hid (owns_below b1 (by have := HB.out.size; omega) HO.out)
      replace HB := hid (HB.out.trans (b1.mono HB.out.size))
      clear HR b1
      cases hnx : nextW l y with
      | none =>
        rw [hnx] at HR2
        have HR3 := hid HR2
        clear HR2
        go_wp2_with fail
        go_ret
        exact ⟨_, rfl, by rw [HR3.out]; exact AnsK.nil _ _, by rw [HR3.out]; simp, HB.out⟩
      | some z =>
        rw [hnx] at HR2
        simp only at HR2
        have HZB := hid (next_bd h.bd hnx)
        by_cases hzx : z = x
        · subst hzx
          rw [if_pos rfl] at HR2
          have HR3 := hid HR2
          clear HR2
          go_wp2_with fail
          go_ret
          exact ⟨_, rfl, by rw [HR3.out]; exact ⟨by rw [ho]; exact HO.out, HBD.out⟩, by rw [HR3.out, ho]; omega, HB.out⟩
        · rw [if_neg hzx] at HR2
          have HR3 := hid HR2
          have bA := Below.alloc1 w1 (.cells #[.int .i64 z] 3)
          have HN := hid (heap_alloc_new w1 (.cells #[.int .i64 z] 3))
          have OA := hid (owns_below bA (Nat.le_refl _) HO.out)
          have BA := hid (HB.out.trans (bA.mono HB.out.size))
          have HZA := hid (alloc_size w1 (.cells #[.int .i64 z] 3))
          clear HR2 bA
          go_wp2_with (at_builtin; refine wpList_append_row rfl _ _ 31 rfl w.heap.size 3 i0 (.int .i64 0) 1 8 Try.underlying31 hi hz0 hz1 hz2 rfl (by decide) _ (k + 1) (ins out) rfl OA.out (some ⟨w1.heap.size, 0, none⟩) 1 1 [.int .i64 z] rfl rfl (.inr ⟨_, rfl, World.news_of_block HN.out⟩) (fun e => by cases e) ?k1 ?k2 ?k3 ?k4 ?_)
          case k1 => simp [Value.oneCell']
          case k2 => unfold maxLen; omega
          case k3 => omega
          case k4 => have := HZA.out; have := HB.out.size; omega
          intro a2 c2 w5 o1 hg
          have N1 := hid (show w5.ownsRow w.heap.size 3 1 (.slice a2 (k + 1 + 1) c2) (k + 1 + 1) (ins (out ++ [z])) by rw [ins_app]; exact o1)
          have N2 := hid (BA.out.grown hg (by have := BA.out.size; omega) (fun r e => (OA.out.lt r e).1))
          clear o1 hg HN OA BA HZA HO HB
          go_wp2_with fail
          go_roundw
          case rel => exact ⟨k + 1, a2, c2, z, out ++ [z], by omega, by go_num, rfl, rfl, by simp [ho], N1, hid (bdL_snoc HBD.out HZB.out), hid (by rw [HR3.out, show n + 1 - (k + 1) = n - k by omega]), N2⟩
          case measure => simp [intOf]; omega
    · have hlt' : ¬ (k : Int) ≤ (n : Int) := by omega
      go_wp2_with fail
      go_ret
      have e0 := HR.out
      rw [show n + 1 - k = 0 by omega, ringF] at e0
      exact ⟨_, rfl, by rw [e0]; exact AnsK.nil _ _, by rw [e0]; simp, HB.out⟩

set_option maxHeartbeats 3200000 in
theorem spec_WaitCloses {ad : Option Addr} {n : Nat} (cap : Nat) {l : List Wt} {w : World} (h : ReadsW2 w ad n l) (hn : n ≤ 1048576) (x z : Int) :
    Calls Try.prog 26 #[.slice ad n cap, .int .i64 x, .int .i64 z] w fun e w' => e = .returned (.bool (closeW l x z)) ∧ Below w.heap.size w w' := by
  have hl := h.len
  go_enter Try.func26, Try.ntmps26
  go_wp2_with fail
  refine (spec_WaitNext cap h (by omega) x).mono ?_
  rintro e w1 ⟨rfl, b1⟩
  have HB := hid b1
  clear b1
  go_wp2_with fail
  refine (spec_WaitsOk cap (h.below HB.out (Nat.le_refl _)) (by omega)).mono ?_
  rintro e w2 ⟨rfl, b1⟩
  replace HB := hid (HB.out.trans (b1.mono HB.out.size))
  have HC := hid (show closeW l x z = (okW l && (!(nextW l x).isSome && closeF l x (n + 1) z)) by unfold closeW; rw [hl])
  clear b1
  cases hok : okW l with
  | false =>
    rw [hok] at HC
    go_wp2_with fail
    go_ret
    exact ⟨by rw [HC.out]; rfl, HB.out⟩
  | true =>
    rw [hok] at HC
    cases hnx : (nextW l x).isSome with
    | true =>
      rw [hnx] at HC
      go_wp2_with fail
      go_ret
      exact ⟨by rw [HC.out]; rfl, HB.out⟩
    | false =>
      rw [hnx] at HC
      replace HC := hid (show closeW l x z = closeF l x (n + 1) z by rw [HC.out]; rfl)
      go_wp2_with fail
      go_loopw [9, 10] (fun s9 s10 wr => ∃ (k : Nat) (y : Int), k ≤ n + 1 ∧ s10 = .int .i64 k ∧ s9 = .int .i64 y ∧ Hid (closeW l x z = closeF l x (n + 1 - k) y) ∧ Hid (Below w.heap.size w wr)) (fun _ i _ => n + 1 - (intOf i).toNat)
      case atStart => exact ⟨0, z, Nat.zero_le _, rfl, rfl, HC, HB⟩
      case round =>
        clear HC HB
        obtain ⟨k, y, hk, rfl, rfl, HC, HB⟩ := hrel
        by_cases hlt : k ≤ n
        · have hlt' : (k : Int) ≤ (n : Int) := by omega
          have HC2 := HC.out
          rw [show n + 1 - k = (n - k) + 1 by omega, closeF] at HC2
          clear HC
          by_cases hyx : y = x
          · subst hyx
            rw [if_pos rfl] at HC2
            have HC3 := hid HC2
            clear HC2
            go_wp2_with fail
            go_ret
            exact ⟨by rw [HC3.out]; rfl, HB.out⟩
          · rw [if_neg hyx] at HC2
            have HC3 := hid HC2
            clear HC2
            go_wp2_with fail
            refine (spec_WaitNext cap (h.below HB.out (Nat.le_refl _)) (by omega) y).mono ?_
            rintro e w3 ⟨rfl, b1⟩
            replace HB := hid (HB.out.trans (b1.mono HB.out.size))
            clear b1
            cases hny : nextW l y with
            | none =>
              have HC4 := HC3.out
              rw [hny] at HC4
              have HC5 := hid HC4
              clear HC4 HC3
              go_wp2_with fail
              go_ret
              exact ⟨by rw [HC5.out]; rfl, HB.out⟩
            | some u =>
              have HC4 := HC3.out
              rw [hny] at HC4
              have HC5 := hid HC4
              clear HC4 HC3
              go_wp2_with fail
              go_roundw
              case rel => exact ⟨k + 1, u, by omega, by go_num, rfl, hid (by rw [HC5.out, show n + 1 - (k + 1) = n - k by omega]), HB⟩
              case measure => simp [intOf]; omega
        · have hlt' : ¬ (k : Int) ≤ (n : Int) := by omega
          go_wp2_with fail
          go_ret
          have e0 := HC.out
          rw [show n + 1 - k = 0 by omega, closeF] at e0
          exact ⟨by rw [e0]; rfl, HB.out⟩
end Go.Proofs.Ytknloabdfkidiaa
