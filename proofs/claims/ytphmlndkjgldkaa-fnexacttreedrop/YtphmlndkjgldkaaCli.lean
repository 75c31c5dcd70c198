/- The library's Clone, and itemOf: a content turned back into an item. -/
import Derived.Test.YtphmlndkjgldkaaCt
import Derived.Laws.AppendOwnNone
import Derived.WalkLawsBesides
namespace Go.Proofs.Ytphmlndkjgldkaa
open Go.RowKit
theorem eql_none (c : Nat) (w : World) : (binOp .eql 22 (.slice none 0 c) (.slice none 0 0)).run Try.prog w = .ok (.bool true) w := by kernel_rfl
theorem eql_some (a : Addr) (n c : Nat) (w : World) : (binOp .eql 22 (.slice (some a) n c) (.slice none 0 0)).run Try.prog w = .ok (.bool false) w := by kernel_rfl
set_option maxRecDepth 100000 in
set_option maxHeartbeats 1600000 in
theorem bytes_clone {ad : Option Addr} {n : Nat} (cap : Nat) {zs : List Int} {w : World} (h : Reads w ad n zs) (hn : n ≤ 2097152) :
 Calls Try.prog 99 #[.slice ad n cap] w fun e w' => ∃ v, e = .returned v ∧ w'.ownsRow w.heap.size 5 1 v n (bys zs) ∧ Below w.heap.size w w' := by
 obtain ⟨i0, hi, hz0, hz1, hz2⟩ := info_parts Try.info5
 have hl := h.len
 have o5 := World.ownsRow_lit (base := w.heap.size) (e := 5) (size := 1) w #[] 0 (Nat.le_refl _) (Nat.zero_le _) rfl
 have r2 := h.alloc (.cells #[] 5)
 have O5 := hid o5
 have HR := hid r2
 clear o5 r2
 rcases hc : ad with _ | a
 · subst hc
   obtain rfl : n = 0 := by
    rcases h.cells with h0 | ⟨b, off, e, _⟩
    · exact h0
    · cases e
   obtain rfl : zs = [] := List.eq_nil_of_length_eq_zero hl
   clear h HR O5
   have q := eql_none
   go_enter Try.func99, Try.ntmps99
   go_wp2_with fail
   go_ret
   exact ⟨_, rfl, World.ownsRow_nil _ _ _ _, Below.refl _ _⟩
 · subst hc
   clear h
   have q := eql_some
   go_enter Try.func99, Try.ntmps99
   go_wp2_with (at_builtin; refine wpList_append_own _ rfl _ _ 22 rfl w.heap.size 5 i0 (.int .u8 0) 1 1 Try.underlying22 hi hz0 hz1 hz2 rfl (by decide) _ _ _ rfl O5.out a n cap (bys zs) rfl ?k2 HR.out.news (bys_one _) ?k4 ?k5 ?k6 ?_)
   case k2 => simp [bys_length, hl]
   case k4 => unfold maxLen; omega
   case k5 => omega
   intro v7 w7 o7 g7 _
   have o8 : w7.ownsRow w.heap.size 5 1 v7 n (bys zs) := by simpa using o7
   have B7 : Below w.heap.size w w7 := (Below.alloc1 w _).grown g7 (by simp) (fun k hk => (O5.out.lt k hk).1)
   have H8 := hid o8
   clear o7 o8 g7 O5 HR
   go_wp2_with fail
   go_ret
   exact ⟨_, rfl, H8.out, B7⟩
end Go.Proofs.Ytphmlndkjgldkaa
