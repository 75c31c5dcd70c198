/- The contract of the program's cutPart. Conditions: lists of at most 2^21 bytes. -/
import Derived.Test.YtebhipicfgnajaaGreatMgc
import Derived.Test.YtebhipicfgnajaaGreatGet
import Derived.BigQuiet
import Derived.Deep.QuietTactic
namespace Go.Proofs.YtebhipicfgnajaaGreat
open Go.RowKit
set_option maxRecDepth 100000

theorem num_one {zs : List Int} (hz : ∀ i, 0 ≤ zs.getD i 0 ∧ zs.getD i 0 ≤ 255) (h : 1 ≤ zs.length) : numOk zs 0 1 = true ∧ numOf zs 0 1 = zs.getD 0 0 := by
  have ev : val (byteFrom zs 0) 0 1 = zs.getD 0 0 := by simp [val, byteFrom]
  have := num_yes zs 0 1 (by omega) (by omega) (by omega) (by rw [ev]; have := hz 0; omega)
  rw [ev] at this
  exact this
theorem num_none {zs : List Int} (h : zs.length = 0) : numOk zs 0 1 = false ∧ numOf zs 0 1 = 0 := num_no zs 0 1 (by omega)

set_option maxHeartbeats 1600000 in
theorem cut_no {ad : Option Addr} {n : Nat} (cap : Nat) {zs : List Int} {w : World} (h : Reads w ad n zs) (hn : n ≤ 2097152) (hno : n = 0 ∨ (n : Int) - 1 < zs.getD 0 0) :
    Calls Tryz.prog 185 #[.slice ad n cap] w fun e w' => e = .returned (.tuple #[.slice none 0 0, .slice none 0 0, .bool false]) ∧ w' = w := by
  have hg := impl_GetNum cap h hn 0 1 (by omega) (by omega) (by omega)
  have hl := h.len
  rcases Nat.eq_zero_or_pos n with h0 | h0
  · subst h0
    rw [(num_none (zs := zs) (by omega)).1, (num_none (zs := zs) (by omega)).2] at hg
    clear hno hl h hn
    go_enter Tryz.func185, Tryz.ntmps185
    go_wp2_with fail
    refine hg.mono ?_
    rintro e w1 ⟨rfl, h1⟩
    subst w1
    go_wp2_with fail
    exact bodyPost_ret (v := .tuple #[_, _, _]) (by simp [results, Tryz.results185, go_sem]) rfl ⟨rfl, rfl⟩
  · rw [(num_one h.bd (by omega)).1, (num_one h.bd (by omega)).2] at hg
    have hb := h.bd 0
    have hlt : (n : Int) - 1 < zs.getD 0 0 := by omega
    generalize zs.getD 0 0 = s at *
    clear hno h hl h0
    go_enter Tryz.func185, Tryz.ntmps185
    go_wp2_with fail
    refine hg.mono ?_
    rintro e w1 ⟨rfl, h1⟩
    subst w1
    go_wp2_with fail
    exact bodyPost_ret (v := .tuple #[_, _, _]) (by simp [results, Tryz.results185, go_sem]) rfl ⟨rfl, rfl⟩

set_option maxHeartbeats 3200000 in
theorem cut_one {b off : Nat}  {zs : List Int} {w : World} (h : Reads w (some ⟨b, off, none⟩) 1 zs) (hs : zs.getD 0 0 = 0) :
    Calls Tryz.prog 185 #[.slice (some ⟨b, off, none⟩) 1 1] w fun e w' => e = .returned (.tuple #[.slice (some ⟨b, off, none⟩) 0 0, .slice (some ⟨b, off, none⟩) 0 0, .bool true]) ∧ Still w w' := by
  have hg := impl_GetNum 1 h (by omega) 0 1 (by omega) (by omega) (by omega)
  have hl := h.len
  rw [(num_one h.bd (by omega)).1, (num_one h.bd (by omega)).2, hs] at hg
  clear h hs hl
  go_enter Tryz.func185, Tryz.ntmps185
  go_wp2_with fail
  refine hg.mono ?_
  rintro e w1 ⟨rfl, h1⟩
  subst w1
  clear hg
  go_wp2_with fail
  go_quiet (fail)
  go_wp2_with fail
  exact bodyPost_ret (v := .tuple #[_, _, _]) (by simp [results, Tryz.results185, go_sem]) rfl ⟨rfl, Still.drewN _ _⟩

set_option maxHeartbeats 3200000 in
theorem cut_end {b off : Nat} {s : Nat} {zs : List Int} {w : World} (h : Reads w (some ⟨b, off, none⟩) (1 + s) zs) (hs : zs.getD 0 0 = (s : Int)) (h1 : 1 ≤ s) (hm : s ≤ 1000) :
    Calls Tryz.prog 185 #[.slice (some ⟨b, off, none⟩) (1 + s) (1 + s)] w fun e w' => e = .returned (.tuple #[.slice (some ⟨b, off + 1, none⟩) s s, .slice (some ⟨b, off, none⟩) 0 0, .bool true]) ∧ Still w w' := by
  have hg := impl_GetNum (1 + s) h (by omega) 0 1 (by omega) (by omega) (by omega)
  have hl := h.len
  rw [(num_one h.bd (by omega)).1, (num_one h.bd (by omega)).2, hs] at hg
  clear h hs hl
  go_enter Tryz.func185, Tryz.ntmps185
  go_wp2_with fail
  refine hg.mono ?_
  rintro e w1 ⟨rfl, h1⟩
  subst w1
  clear hg
  go_wp2_with fail
  go_quiet (fail)
  go_wp2_with fail
  exact bodyPost_ret (v := .tuple #[_, _, _]) (by simp [results, Tryz.results185, go_sem]) rfl ⟨rfl, Still.drewN _ _⟩

set_option maxHeartbeats 3200000 in
theorem cut_mid {b off : Nat} {s n : Nat} (cap : Nat) {zs : List Int} {w : World} (h : Reads w (some ⟨b, off, none⟩) n zs) (hs : zs.getD 0 0 = (s : Int)) (hsn : 1 + s ≤ n) (hc : n ≤ cap) (hsc : 1 + s < cap) (hn : n ≤ 2097152) :
    Calls Tryz.prog 185 #[.slice (some ⟨b, off, none⟩) n cap] w fun e w' => e = .returned (.tuple #[.slice (some ⟨b, off + 1, none⟩) s (cap - 1), .slice (some ⟨b, off + (1 + s), none⟩) (n - (1 + s)) (cap - (1 + s)), .bool true]) ∧ Still w w' := by
  have hg := impl_GetNum cap h (by omega) 0 1 (by omega) (by omega) (by omega)
  have hl := h.len
  rw [(num_one h.bd (by omega)).1, (num_one h.bd (by omega)).2, hs] at hg
  have i1 : ¬ (n : Int) - 1 < (s : Int) := by omega
  have i2 : (1 : Int) ≤ 1 + (s : Int) := by omega
  have i3 : 1 + (s : Int) ≤ (cap : Int) := by omega
  have i4 : 1 + (s : Int) ≤ (n : Int) := by omega
  have i5 : (n : Int) ≤ (cap : Int) := by omega
  have i6 : ¬ cap = 1 := by omega
  have i7 : ¬ cap = 1 + s := by omega
  clear h hs hl
  go_enter Tryz.func185, Tryz.ntmps185
  go_wp2_with fail
  refine hg.mono ?_
  rintro e w1 ⟨rfl, h1⟩
  subst w1
  clear hg
  go_wp2_with fail
  go_quiet (fail)
  go_wp2_with fail
  exact bodyPost_ret (v := .tuple #[_, _, _]) (by simp [results, Tryz.results185, go_sem]) rfl ⟨rfl, Still.drewN _ _⟩
end Go.Proofs.YtebhipicfgnajaaGreat
