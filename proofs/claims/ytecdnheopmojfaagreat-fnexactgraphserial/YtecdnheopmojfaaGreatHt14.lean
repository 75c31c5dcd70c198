/- The contracts of the program's turnsOf and lastWriter: plain notions with them. Conditions: at most 100 places. -/
import Derived.Test.YtecdnheopmojfaaGreatHs14
namespace Go.Proofs.YtecdnheopmojfaaGreat
open Go.RowKit
set_option maxRecDepth 100000
theorem within14 (n lo hi : Int) (w : World) : Calls Tryz.prog 83 #[.int .i64 n, .int .i64 lo, .int .i64 hi] w fun e w' => e = .returned (.bool (decide (lo ≤ n ∧ n ≤ hi))) ∧ w' = w := by
 by_cases h1 : lo ≤ n
 · by_cases h2 : n ≤ hi
   · rw [decide_eq_true ⟨h1, h2⟩]
     go_enter Tryz.func83, Tryz.ntmps83
     go_wp2
     go_ret
     exact ⟨rfl, rfl⟩
   · rw [decide_eq_false (fun q => h2 q.2)]
     go_enter Tryz.func83, Tryz.ntmps83
     go_wp2
     go_ret
     exact ⟨rfl, rfl⟩
 · rw [decide_eq_false (fun q => h1 q.1)]
   go_enter Tryz.func83, Tryz.ntmps83
   go_wp2
   go_ret
   exact ⟨rfl, rfl⟩
theorem readsI_at {w : World} {ad : Option Addr} {n : Nat} {zs : List Int} (h : ReadsI w ad n zs) {k : Nat} (hk : k < n) : ∃ b off, ad = some ⟨b, off, none⟩ ∧ w.cell? ⟨b, off + k, none⟩ = some (.int .i64 (zs.getD k 0)) := by
 rcases h.cells with h0 | ⟨b, off, rfl, hc⟩
 · omega
 · exact ⟨b, off, rfl, hc k hk⟩
def tI (O : List Int) (x : Int) : Int := if x ∈ O then ((O.idxOf x : Nat) : Int) else -1
def isOrd (O : List Int) (n : Nat) : Prop := O.length = n ∧ ∀ i, i < n → (0 ≤ O.getD i 0 ∧ O.getD i 0 ≤ (n : Int) - 1) ∧ O.getD i 0 ∉ O.take i
open Classical in
noncomputable def ordB (O : List Int) (n : Nat) : Bool := decide (isOrd O n)
theorem ordB_yes {O : List Int} {n : Nat} (h : isOrd O n) : ordB O n = true := by simp [ordB, h]
theorem ordB_no {O : List Int} {n : Nat} (h : ¬ isOrd O n) : ordB O n = false := by simp [ordB, h]
theorem tI_nil (x : Int) : tI [] x = -1 := by simp [tI]
theorem tI_new {L : List Int} {x : Int} (h : x ∉ L) : tI (L ++ [x]) x = (L.length : Int) := by
 unfold tI
 rw [if_pos (by simp), List.idxOf_append, if_neg h]
 simp
theorem tI_old {L : List Int} {x p : Int} (h : p ≠ x) : tI (L ++ [x]) p = tI L p := by
 unfold tI
 by_cases hp : p ∈ L
 · rw [if_pos (by simp [hp]), if_pos hp, List.idxOf_append, if_pos hp]
 · rw [if_neg (by simp [hp, h]), if_neg hp]
theorem tI_in {L : List Int} {x : Int} : tI L x = -1 ↔ x ∉ L := by
 unfold tI
 by_cases h : x ∈ L
 · rw [if_pos h]; simp [h]
 · rw [if_neg h]; simp [h]
def trn (O : List Int) (n : Nat) : List Int := (List.range n).map (fun p : Nat => tI O (p : Int))
theorem trn_at (O : List Int) {n p : Nat} (h : p < n) : (trn O n).getD p 0 = tI O (p : Int) := by simp [trn, List.getD, h]
theorem trn_start (n : Nat) : trn [] n = negs n n := by
 unfold trn negs
 simp only [tI_nil, Nat.sub_self, List.replicate_zero, List.append_nil]
 apply List.ext_getElem?
 intro i
 by_cases h : i < n
 · simp [h]
 · simp [h]
theorem trn_step {L : List Int} {n p : Nat} (hL : (p : Int) ∉ L) : (trn L n).set p (L.length : Int) = trn (L ++ [(p : Int)]) n := by
 apply List.ext_getElem?
 intro i
 rw [List.getElem?_set]
 unfold trn
 by_cases e : p = i
 · subst e
   by_cases h : p < n
   · rw [if_pos rfl, if_pos (by simpa using h)]
     simp [h, tI_new hL]
   · rw [if_pos rfl, if_neg (by simpa using h)]
     simp [h]
 · rw [if_neg e]
   by_cases h : i < n
   · have : (i : Int) ≠ (p : Int) := fun q => e (by omega)
     simp [h, tI_old this]
   · simp [h]
theorem take_int14 (R : List Int) {k : Nat} (h : k < R.length) : R.take (k + 1) = R.take k ++ [R.getD k 0] := by
 rw [List.take_succ_eq_append_getElem h, List.getD_eq_getElem?_getD, List.getElem?_eq_getElem h]; rfl
set_option maxHeartbeats 6400000 in
theorem impl_turnsOf {a : Option Addr} {n' : Nat} (c : Nat) {O : List Int} (n : Nat) {w : World} (h : ReadsI w a n' O) (hn : n ≤ 100) :
 Calls Tryz.prog 44 #[.slice a n' c, .int .i64 (n : Int)] w fun e w' => (ordB O n = false ∧ e = .returned (.tuple #[.slice none 0 0, .bool false]) ∨ ordB O n = true ∧ ∃ g, e = .returned (.tuple #[.slice (some ⟨g, 0, none⟩) n n, .bool true]) ∧ w'.ownsRow w.heap.size 3 1 (.slice (some ⟨g, 0, none⟩) n n) n (ins (trn O n))) ∧ Below w.heap.size w w' := by
 have hOl : O.length = n' := h.len
 have HR := hid h
 clear h
 by_cases hne : n' = n
 · subst hne
   have hq : ((n' : Int) != (n' : Int)) = false := by simp
   have bA := Below.alloc1 w (.cells #[.int .i64 (-1)] 3)
   have hc1 : (w.alloc (.cells #[.int .i64 (-1)] 3)).cell? ⟨w.heap.size, 0, none⟩ = some (.int .i64 (-1)) := by rw [cell_of_row _ _ _ _ _ _ (heap_alloc_new w _)]; rfl
   have HBA := hid bA
   clear bA
   go_enter Tryz.func44, Tryz.ntmps44
   go_wp2_with fail
   refine (repeat_neg n' w.heap.size hn hc1).mono ?_
   rintro e w1 ⟨rfl, o1, b1⟩
   obtain ⟨g, hg⟩ : ∃ g, (w.alloc (.cells #[.int .i64 (-1)] 3)).heap.size = g := ⟨_, rfl⟩
   rw [hg] at o1
   have hgs : w.heap.size ≤ g := by have := alloc_size w (.cells #[.int .i64 (-1)] 3); omega
   try simp only [hg]
   have O1 := hid (show w1.ownsRow g 3 1 (.slice (some ⟨g, 0, none⟩) n' n') n' (ins (trn (O.take 0) n')) by rw [List.take_zero, trn_start]; exact o1)
   have B1 := hid (HBA.out.trans (b1.mono HBA.out.size))
   clear o1 b1 hc1 hg HBA
   go_wp2_with fail
   go_loopw [18] (fun s wr => ∃ k : Nat, k ≤ n' ∧ s = .int .i64 k ∧ Hid (∀ i, i < k → (0 ≤ O.getD i 0 ∧ O.getD i 0 ≤ (n' : Int) - 1) ∧ O.getD i 0 ∉ O.take i) ∧ Hid (wr.ownsRow g 3 1 (.slice (some ⟨g, 0, none⟩) n' n') n' (ins (trn (O.take k) n'))) ∧ Hid (Below w.heap.size w wr)) (fun s _ => n' - (intOf s).toNat)
   case atStart => exact ⟨0, Nat.zero_le _, rfl, hid (fun i hi => by omega), O1, B1⟩
   case round =>
    clear O1 B1
    obtain ⟨k, hk, rfl, HA, HO, HB⟩ := hrel
    by_cases hlt : k < n'
    · have hlt' : (k : Int) < (n' : Int) := by omega
      have hk0 : (0 : Int) ≤ (k : Int) := by omega
      have hw1 : IntKind.i64.wrap ((n' : Int) - 1) = (n' : Int) - 1 := by simp [IntKind.wrap, IntKind.bits, IntKind.signed]; omega
      obtain ⟨b, off, rfl, hc⟩ := readsI_at (HR.out.below HB.out (Nat.le_refl _)) hlt
      have HNx := hid (fun (q : (0 ≤ O.getD k 0 ∧ O.getD k 0 ≤ (n' : Int) - 1) ∧ O.getD k 0 ∉ O.take k) i (hi : i < k + 1) => show (0 ≤ O.getD i 0 ∧ O.getD i 0 ≤ (n' : Int) - 1) ∧ O.getD i 0 ∉ O.take i from by
       by_cases hc : i < k
       · exact HA.out i hc
       · have : i = k := by omega
         subst this; exact q)
      have HNo := hid (fun (q : ¬ ((0 ≤ O.getD k 0 ∧ O.getD k 0 ≤ (n' : Int) - 1) ∧ O.getD k 0 ∉ O.take k)) => ordB_no (O := O) (n := n') (fun z => q (z.2 k hlt)))
      have HTk := hid (take_int14 O (k := k) (by omega))
      have HLk := hid (show (O.take k).length = k by rw [List.length_take]; omega)
      generalize O.getD k 0 = x at *
      clear HA
      go_wp2_with fail
      refine (within14 x 0 ((n' : Int) - 1) wr).mono ?_
      rintro e w2 ⟨rfl, e2⟩
      subst e2
      by_cases hx : 0 ≤ x ∧ x ≤ (n' : Int) - 1
      · rw [decide_eq_true hx]
        obtain ⟨p, rfl⟩ : ∃ p : Nat, x = (p : Int) := ⟨x.toNat, by omega⟩
        have hp : p < n' := by omega
        have hp' : (p : Int) < (n' : Int) := by omega
        have hp0 : (0 : Int) ≤ (p : Int) := by omega
        have hcp : w2.cell? ⟨g, p, none⟩ = some (.int .i64 (tI (O.take k) (p : Int))) := by
         rw [HO.out.cellAt p (by omega), getD_ins]
         unfold trn
         simp [hp]
        have hfz : w2.frozen? ⟨g, p, none⟩ = false := by
         obtain ⟨rest, hr, _⟩ := owns_blk HO.out
         exact frozen_of_row _ _ _ _ _ hr
        by_cases hin : (p : Int) ∈ O.take k
        · have hb : (tI (O.take k) (p : Int) != -1) = true := by
           rw [bne_iff_ne]
           exact fun q => (tI_in.1 q) hin
          have HF := hid (HNo.out (fun q => q.2 hin))
          clear hin hc
          go_wp2_with fail
          go_ret2
          exact ⟨.inl ⟨HF.out, rfl⟩, HB.out⟩
        · have hb : tI (O.take k) (p : Int) = -1 := tI_in.2 hin
          rw [hb] at hcp
          have HN2 := hid (HNx.out ⟨hx, hin⟩)
          have HO2 := hid (show (w2.setCell ⟨g, p, none⟩ (.int .i64 k)).ownsRow g 3 1 (.slice (some ⟨g, 0, none⟩) n' n') n' (ins (trn (O.take (k + 1)) n')) by
           have := row_set HO.out (j := p) (by omega) (.int .i64 (k : Int))
           have e : (ins (trn (O.take k) n')).set p (.int .i64 (k : Int)) = ins (trn (O.take (k + 1)) n') := by
            rw [HTk.out, ← trn_step hin, HLk.out]
            unfold ins
            rw [List.map_set]
           rw [e] at this
           exact this)
          have HB2 := hid (HB.out.setCell (p := ⟨g, p, none⟩) hgs (.int .i64 (k : Int)))
          clear hin hc hb
          go_wp2_with fail
          go_roundw
          case rel => exact ⟨k + 1, by omega, by go_num, HN2, HO2, HB2⟩
          case measure => simp [intOf]; omega
      · rw [decide_eq_false hx]
        have HF := hid (HNo.out (fun q => hx q.1))
        clear hx hc
        go_wp2_with fail
        go_ret2
        exact ⟨.inl ⟨HF.out, rfl⟩, HB.out⟩
    · have hlt' : ¬ (k : Int) < (n' : Int) := by omega
      obtain rfl : k = n' := by omega
      have HF := hid (ordB_yes (O := O) (n := k) ⟨hOl, HA.out⟩)
      have HO2 := hid (show wr.ownsRow w.heap.size 3 1 (.slice (some ⟨g, 0, none⟩) k k) k (ins (trn O k)) by
       have := HO.out
       rw [List.take_of_length_le (by omega)] at this
       exact owns_lower this hgs)
      go_wp2_with fail
      go_ret2
      exact ⟨.inr ⟨HF.out, g, rfl, HO2.out⟩, HB.out⟩
 · have hq : ((n' : Int) != (n : Int)) = true := by rw [bne_iff_ne]; omega
   have HF := hid (ordB_no (O := O) (n := n) (fun z => hne (by rw [← hOl]; exact z.1)))
   go_enter Tryz.func44, Tryz.ntmps44
   go_wp2_with fail
   go_ret2
   exact ⟨.inl ⟨HF.out, rfl⟩, Below.refl _ _⟩
end Go.Proofs.YtecdnheopmojfaaGreat
