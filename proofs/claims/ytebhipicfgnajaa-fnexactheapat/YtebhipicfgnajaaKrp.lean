/- Keys' and values' bytes and what is read of them, plain. No conditions. -/
import Derived.Test.YtebhipicfgnajaaImr
import Derived.Test.YtebhipicfgnajaaMgb
import Derived.Test.YtebhipicfgnajaaSr0
namespace Go.Proofs.Ytebhipicfgnajaa
open Go.RowKit

theorem frank_sm {x y : Nat} (h : Same x y) : frank y = frank x := by
  rcases h with ⟨h1, h2⟩ | ⟨_, rfl⟩
  · rw [frank, frank, if_pos h1, if_pos h2]
  · rfl
theorem fbits_sm {x y : Nat} (h : Same x y) : fbits y = fbits x := by
  rcases h with ⟨h1, h2⟩ | ⟨_, rfl⟩
  · rw [fbits, fbits, if_pos h1, if_pos h2]
  · rfl
theorem hi8_len (x : Nat) : (hi8 x 8).length = 8 := hi8_length x 8

theorem keyB_int (N : Int) : keyB 1 N 0 0 [] = 1 :: hi8 (N + 9223372036854775808).toNat 8 := by
  rw [keyB, if_pos (by rw [okK, show okI 1 N 0 0 = true from decide_eq_true (by omega), decide_eq_true (by omega)]; rfl), bytesI, if_pos rfl]; rfl
theorem valB_int (N : Int) : valB 1 N 0 0 [] = 1 :: hi8 (N + 9223372036854775808).toNat 8 := by
  rw [valB, if_pos ⟨decide_eq_true (by omega), by omega⟩, bytesI, if_pos rfl]; rfl
theorem keyB_float (y : Nat) (h : y ≠ 9223372036854775808) : keyB 2 0 y 0 [] = 2 :: hi8 (frank y) 8 := by
  rw [keyB, if_pos (by rw [okK, show okI 2 0 y 0 = true from decide_eq_true (by omega), decide_eq_true ⟨by omega, h⟩]; rfl), bytesI, if_neg (by decide), if_pos rfl]; rfl
theorem valB_float (y : Nat) : valB 2 0 y 0 [] = 2 :: hi8 (fbits y) 8 := by
  rw [valB, if_pos ⟨decide_eq_true (by omega), by omega⟩, bytesI, if_neg (by decide), if_pos rfl]; rfl
theorem keyB_text (m : Nat) (ts : List Int) (h : m ≤ 40) : keyB 3 0 0 m ts = 3 :: ts := by
  rw [keyB, if_pos (by rw [okK, show okI 3 0 0 m = true from decide_eq_true (by omega), decide_eq_true (by omega)]; rfl), bytesI, if_neg (by decide), if_neg (by decide)]; rfl
theorem valB_text (m : Nat) (ts : List Int) (h : m ≤ 40) : valB 3 0 0 m ts = 3 :: ts := by
  rw [valB, if_pos ⟨decide_eq_true (by omega), by omega⟩, bytesI, if_neg (by decide), if_neg (by decide)]; rfl
theorem keyB_other (k : Int) (k1 : k ≠ 1) (k2 : k ≠ 2) (k3 : k ≠ 3) : keyB k 0 0 0 [] = [] := by
  rw [keyB, if_neg]
  intro h
  have hh := okK_I h
  have := of_decide_eq_true hh.1
  omega
theorem valB_other (k : Int) (k1 : k ≠ 1) (k2 : k ≠ 2) (k3 : k ≠ 3) : valB k 0 0 0 [] = [] := by
  rw [valB, if_neg]
  intro h
  have := of_decide_eq_true h.1
  omega
theorem cons_len {k : Int} {xs ts : List Int} (h : k :: xs = k :: ts) : xs = ts := (List.cons.inj h).2
theorem hi8_ne {x : Nat} {ts : List Int} (h : ts.length ≠ 8) : hi8 x 8 ≠ ts := by
  intro e; rw [← e, hi8_len] at h; exact h rfl

theorem unrank_ne {x y : Nat} {ok : Bool} (hx : x < 18446744073709551616) (h : Unrank x y ok) : y ≠ 9223372036854775808 := by
  rcases h with ⟨h1, _, h2⟩ | ⟨_, _, rfl⟩
  · intro hy
    subst hy
    have h3 := frank_sm h2
    rw [h1] at h3
    have h4 : frank 9223372036854775808 = 9223372036854775808 := by decide
    rw [h4] at h3
    subst h3
    rcases h2 with ⟨_, h5⟩ | ⟨_, h5⟩
    · exact absurd h5 (by decide)
    · exact absurd h5 (by decide)
  · omega
theorem unrank_rank {x y : Nat} {ok : Bool} (h : Unrank x y ok) : (frank y = x ↔ ok = true) ∧ unfK x = if ok = true then some (back x) else none := by
  rcases h with ⟨h1, rfl, h2⟩ | ⟨h1, rfl, rfl⟩
  · exact ⟨⟨fun _ => rfl, fun _ => by rw [frank_sm h2]; exact h1⟩, by rw [unfK, if_pos h1]; rfl⟩
  · refine ⟨⟨fun e => ?_, fun e => by cases e⟩, by rw [unfK, if_neg h1]; rfl⟩
    exfalso
    have h4 : frank 0 = 9223372036854775808 := by decide
    rw [h4] at e
    subst e
    exact h1 (by decide)

end Go.Proofs.Ytebhipicfgnajaa
