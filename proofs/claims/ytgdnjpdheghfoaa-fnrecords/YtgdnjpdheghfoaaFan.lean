/- FrameAt's contracts at any slice; recordOf at a short body. Conditions: at most 2^21 bytes. -/
import Derived.Test.YtgdnjpdheghfoaaRof
import Derived.Test.YtgdnjpdheghfoaaFas
import Derived.Test.YtgdnjpdheghfoaaFai
namespace Go.Proofs.Ytgdnjpdheghfoaa
open Go.RowKit
set_option maxRecDepth 100000

theorem spec_FrameAt' {ad : Option Addr} {n : Nat} (cap : Nat) {zs : List Int} {w : World} (h : Reads w ad n zs) (hn : n ≤ 2097152) (hcap : n ≤ cap) (at' : Int) (h1 : -9223372036854775808 ≤ at') (h2 : at' ≤ 9223372036854775807) :
    Calls Try.prog 68 #[.slice ad n cap, .int .i64 at'] w fun e w' =>
      ∃ v, e = .returned (.tuple #[.int .i64 (faOf zs at').k, v, .int .i64 (faOf zs at').n, .int .i64 (faOf zs at').c]) ∧ w'.ownsRow w.heap.size 5 1 v (faOf zs at').b.length (bys (faOf zs at').b) ∧ Below w.heap.size w w' := by
  by_cases hc : 65536 < n ∨ at' < 0 ∨ (n : Int) < at' + 3
  · rw [fa_no zs at' (by rw [h.len]; exact hc)]
    refine (spec_FrameAt_no ad n cap at' w hn h1 h2 hc).mono fun e w' ⟨he, hw⟩ => ?_
    subst hw
    exact ⟨_, he, World.ownsRow_nil _ _ _ _, Below.refl _ _⟩
  · obtain ⟨b, off, rfl⟩ := h.pos (by omega)
    exact spec_FrameAt cap h hn hcap at' h1 h2
theorem impl_FrameAt' {ad : Option Addr} {n : Nat} (cap : Nat) {zs : List Int} {w : World} (h : Reads w ad n zs) (hn : n ≤ 2097152) (hcap : n ≤ cap) (at' : Int) (h1 : -9223372036854775808 ≤ at') (h2 : at' ≤ 9223372036854775807) :
    Calls Try.prog 70 #[.slice ad n cap, .int .i64 at'] w fun e w' =>
      ∃ v, e = .returned (.tuple #[.int .i64 (faOf zs at').k, v, .int .i64 (faOf zs at').n, .int .i64 (faOf zs at').c]) ∧ w'.ownsRow w.heap.size 5 1 v (faOf zs at').b.length (bys (faOf zs at').b) ∧ Below w.heap.size w w' := by
  by_cases hc : 65536 < n ∨ at' < 0 ∨ (n : Int) < at' + 3
  · rw [fa_no zs at' (by rw [h.len]; exact hc)]
    refine (impl_FrameAt_no ad n cap at' w hn hc).mono fun e w' ⟨he, hw⟩ => ?_
    subst hw
    exact ⟨_, he, World.ownsRow_nil _ _ _ _, Below.refl _ _⟩
  · obtain ⟨b, off, rfl⟩ := h.pos (by omega)
    exact impl_FrameAt cap h hn hcap at' h1 h2
theorem own_cap {w : World} {base m : Nat} {v : Value} {zs : List Int} (h : w.ownsRow base 5 1 v m (bys zs)) (hbd : bdL zs) (hm : 0 < m) : ∃ g c, v = .slice (some ⟨g, 0, none⟩) m c ∧ Reads w (some ⟨g, 0, none⟩) m zs ∧ m ≤ c ∧ base ≤ g := by
  obtain ⟨g, c, e, r⟩ := own_some h hbd hm
  rcases h.2 with ⟨e', e0⟩ | ⟨g', cap, cur, e', hb, hg, hnc, hrest⟩
  · omega
  · rw [e'] at e
    obtain ⟨e1, _, e3⟩ := Value.slice.inj e
    cases e1
    exact ⟨g, c, by rw [e', e3], r, by omega, hb⟩

set_option maxHeartbeats 3200000 in
theorem recordOf_no (kind : Int) (ad : Option Addr) (n cap : Nat) (w : World) (h12 : n < 12) :
    Calls Try.prog 71 #[.int .i64 kind, .slice ad n cap] w fun e w' => e = .returned (.tuple #[.agg #[.int .i64 0, .int .i64 0, .int .i64 0, .int .i64 0, .int .i64 0, .slice none 0 0], .bool false]) ∧ Below w.heap.size w w' := by
  have hq : (n : Int) < 12 := by omega
  have B0 := hid (Below.alloc1 w (.cells #[.int .i64 0, .int .i64 0, .int .i64 0, .int .i64 0, .int .i64 0, .slice none 0 0] 36))
  have T0 := hid (heap_alloc_new w (.cells #[.int .i64 0, .int .i64 0, .int .i64 0, .int .i64 0, .int .i64 0, .slice none 0 0] 36))
  go_enter Try.func71, Try.ntmps71
  go_wp2_with (refine wpList_store_row rfl 36 (.tmp 4) (.tmp 10) rfl w.heap.size #[.int .i64 0, .int .i64 0, .int .i64 0, .int .i64 0, .int .i64 0, .slice none 0 0] rfl rfl 36 _ T0.out ?s1 ?s2 ?s3 ?_)
  case s1 => exact sizeRc
  case s2 => rfl
  case s3 => simp [Value.oneCell']
  go_wp2_with fail
  refine bodyPost_ret (results_cell_tmp' Try.results71 _ _ w.heap.size 36 #[.int .i64 0, .int .i64 0, .int .i64 0, .int .i64 0, .int .i64 0, .slice none 0 0] (0, 0) _ rfl (setRow_heap _ _ _ _ _ _ T0.out) Try.underlying36 rfl sizeRc) rfl ⟨rfl, below_setRow B0.out (Nat.le_refl _) _⟩
end Go.Proofs.Ytgdnjpdheghfoaa
