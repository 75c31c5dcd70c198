/- What Frame answers, plainly, and the contract of the specification's Frame. For bodies of at most 2^21 bytes. -/
import Derived.Test.YtplbejipkaionaaPut
import Derived.Test.YtplbejipkaionaaTab
namespace Go.Proofs.Ytplbejipkaionaa
set_option maxRecDepth 100000
open Go.RowKit

theorem sh_le_pow (n k : Nat) (h : n < 256 ^ k) : sh n k = 0 := Nat.div_eq_of_lt h
theorem putL_two (n : Nat) (h : n ≤ 65535) : (putL n 2).length = 2 := by
  rw [show (2 : Int) = ((2 : Nat) : Int) from rfl, putL_yes n 2 (by omega) (by omega) (sh_le_pow n 2 (by omega)), dig_length]
theorem putL_four (x : Int) (h0 : 0 ≤ x) (h : x ≤ 4294967295) : (putL x 4).length = 4 := by
  obtain ⟨n, rfl⟩ := Int.eq_ofNat_of_zero_le h0
  rw [show (4 : Int) = ((4 : Nat) : Int) from rfl, putL_yes n 4 (by omega) (by omega) (sh_le_pow n 4 (by omega)), dig_length]

/-- A frame without its sum. -/
def headL (kind : Int) (zs : List Int) : List Int := [kind] ++ putL zs.length 2 ++ zs
/-- A frame. -/
def frameL (kind : Int) (zs : List Int) : List Int := headL kind zs ++ putL (crcOf (headL kind zs)) 4
/-- What Frame answers. -/
def frameOf (kind : Int) (zs : List Int) : List Int := if 1 ≤ kind ∧ kind ≤ 255 ∧ zs.length ≤ 1000 then frameL kind zs else []

theorem bd_append {a b : List Int} (ha : ∀ i, 0 ≤ a.getD i 0 ∧ a.getD i 0 ≤ 255) (hb : ∀ i, 0 ≤ b.getD i 0 ∧ b.getD i 0 ≤ 255) : ∀ i, 0 ≤ (a ++ b).getD i 0 ∧ (a ++ b).getD i 0 ≤ 255 := by
  intro i
  by_cases h : i < a.length
  · have := ha i
    rwa [List.getD_eq_getElem?_getD, List.getElem?_append_left h, ← List.getD_eq_getElem?_getD]
  · have := hb (i - a.length)
    rwa [List.getD_eq_getElem?_getD, List.getElem?_append_right (by omega), ← List.getD_eq_getElem?_getD]
theorem bd_one (x : Int) (h0 : 0 ≤ x) (h : x ≤ 255) : ∀ i, 0 ≤ [x].getD i 0 ∧ [x].getD i 0 ≤ 255 := by
  intro i
  match i with
  | 0 => simpa using ⟨h0, h⟩
  | i + 1 => simp
theorem headL_bd (kind : Int) (zs : List Int) (h0 : 0 ≤ kind) (h : kind ≤ 255) (hz : ∀ i, 0 ≤ zs.getD i 0 ∧ zs.getD i 0 ≤ 255) : ∀ i, 0 ≤ (headL kind zs).getD i 0 ∧ (headL kind zs).getD i 0 ≤ 255 :=
  bd_append (bd_append (bd_one kind h0 h) (putL_bd _ _)) hz
theorem frameL_bd (kind : Int) (zs : List Int) (h0 : 0 ≤ kind) (h : kind ≤ 255) (hz : ∀ i, 0 ≤ zs.getD i 0 ∧ zs.getD i 0 ≤ 255) : ∀ i, 0 ≤ (frameL kind zs).getD i 0 ∧ (frameL kind zs).getD i 0 ≤ 255 :=
  bd_append (headL_bd kind zs h0 h hz) (putL_bd _ _)
theorem frameOf_bd (kind : Int) (zs : List Int) (hz : ∀ i, 0 ≤ zs.getD i 0 ∧ zs.getD i 0 ≤ 255) : ∀ i, 0 ≤ (frameOf kind zs).getD i 0 ∧ (frameOf kind zs).getD i 0 ≤ 255 := by
  unfold frameOf; split
  · exact frameL_bd kind zs (by omega) (by omega) hz
  · simp
theorem headL_length (kind : Int) (zs : List Int) (h : zs.length ≤ 1000) : (headL kind zs).length = 3 + zs.length := by
  unfold headL; rw [List.length_append, List.length_append, putL_two _ (by omega)]; simp
theorem crcOf_small (zs : List Int) (h : zs.length ≤ 65536) (hz : ∀ i, 0 ≤ zs.getD i 0 ∧ zs.getD i 0 ≤ 255) : 0 ≤ crcOf zs ∧ crcOf zs ≤ 4294967295 := by
  refine ⟨?_, (crcOf_bd zs hz).2⟩
  unfold crcOf; rw [if_neg (by omega)]; omega
theorem frameOf_no (kind : Int) (zs : List Int) (h : ¬ (1 ≤ kind ∧ kind ≤ 255 ∧ zs.length ≤ 1000)) : frameOf kind zs = [] := by unfold frameOf; rw [if_neg h]
theorem frameOf_yes (kind : Int) (zs : List Int) (h : 1 ≤ kind ∧ kind ≤ 255 ∧ zs.length ≤ 1000) : frameOf kind zs = frameL kind zs := by unfold frameOf; rw [if_pos h]
theorem frameL_length (kind : Int) (zs : List Int) (h0 : 0 ≤ kind) (h1 : kind ≤ 255) (h : zs.length ≤ 1000) (hz : ∀ i, 0 ≤ zs.getD i 0 ∧ zs.getD i 0 ≤ 255) : (frameL kind zs).length = zs.length + 7 := by
  have hh := headL_length kind zs h
  have hc := crcOf_small (headL kind zs) (by omega) (headL_bd kind zs h0 h1 hz)
  unfold frameL
  rw [List.length_append, hh, putL_four _ hc.1 hc.2]; omega
theorem frameOf_length (kind : Int) (zs : List Int) (hz : ∀ i, 0 ≤ zs.getD i 0 ∧ zs.getD i 0 ≤ 255) : (frameOf kind zs).length ≤ 1007 := by
  unfold frameOf; split
  · rw [frameL_length kind zs (by omega) (by omega) (by omega) hz]; omega
  · simp

set_option maxRecDepth 100000 in
set_option maxHeartbeats 3200000 in
theorem spec_Frame_yes {a : Addr} {n : Nat} (cap : Nat) {zs : List Int} {w : World} (h : Reads w (some a) n zs) (hn : n ≤ 1000) (kind : Int) (h1 : 1 ≤ kind) (h255 : kind ≤ 255) :
    Calls Try.prog 30 #[.int .i64 kind, .slice (some a) n cap] w fun e w' =>
      ∃ v, e = .returned v ∧ w'.ownsRow w.heap.size 5 1 v (frameL kind zs).length (bys (frameL kind zs)) ∧ Below w.heap.size w w' := by
  obtain ⟨i0, hi, hz0, hz1, hz2⟩ := info_parts Try.info5
  have hlen := h.len
  go_enter Try.func30, Try.ntmps30
  go_wp2_with (at_builtin; refine wpList_append_own _ rfl (.tmp 18) (.tmp 21) 22 rfl w.heap.size 5 i0 (.int .u8 0) 1 1 Try.underlying22 hi hz0 hz1 hz2 rfl (by decide) _ _ _ rfl ((World.ownsRow_nil w w.heap.size 5 1).alloc _) ⟨w.heap.size, 0, none⟩ 1 1 [.int .u8 kind] rfl rfl (cell_one_new _ _ _) ?c2 ?c3 ?c4 ?c5 ?_)
  case c2 => intro u hu; simp at hu; subst hu; rfl
  case c3 => unfold maxLen; omega
  case c4 => omega
  case c5 => simp
  intro v1 w1 o1 g1 _
  have b1 : Below w.heap.size w w1 := ((Below.refl _ _).alloc (Nat.le_refl _) _).grown g1 (by simp) (fun k hk => by cases hk)
  clear g1
  go_wp2_with fail
  refine (spec_PutNum n 2 w1 (by omega)).mono ?_
  rintro e w2 ⟨v2, rfl, o2, b2⟩
  have hL2 := putL_two n (by omega)
  obtain ⟨ad2, cap2, rfl, r2, _⟩ := Reads.own o2 (putL_bd _ _)
  have hbd2 := putL_bd n 2
  have HF : Hid (frameL kind zs = ([kind] ++ putL n 2 ++ zs) ++ putL (crcOf ([kind] ++ putL n 2 ++ zs)) 4) := by unfold Hid frameL headL; rw [hlen]
  generalize putL n 2 = L2 at *
  rw [hL2] at r2
  simp only [hL2]
  obtain ⟨p, q, rfl⟩ := r2.pos (by omega)
  have o1 := owns_below b2 (Nat.le_refl _) o1
  have b2' := b1.trans (b2.mono b1.size)
  clear o2 b2
  go_wp2_with (at_builtin; refine wpList_append_own _ rfl (.tmp 23) (.tmp 26) 22 rfl w.heap.size 5 i0 (.int .u8 0) 1 1 Try.underlying22 hi hz0 hz1 hz2 rfl (by decide) _ _ _ rfl o1 ⟨p, q, none⟩ 2 cap2 (bys L2) rfl ?d1 r2.news (bys_one _) ?d3 ?d4 b2'.size ?_)
  case d1 => rw [bys_length, hL2]
  case d3 => unfold maxLen; omega
  case d4 => omega
  intro v3 w3 o3 g3 _
  have b3 : Below w.heap.size w w3 := b2'.grown g3 b2'.size (fun k hk => (o1.lt k hk).1)
  clear g3 o1 b2' r2
  have r3 := h.below b3 (Nat.le_refl _)
  go_wp2_with (at_builtin; refine wpList_append_own _ rfl (.tmp 28) (.tmp 29) 22 rfl w.heap.size 5 i0 (.int .u8 0) 1 1 Try.underlying22 hi hz0 hz1 hz2 rfl (by decide) _ _ _ rfl o3 a n cap (bys zs) rfl ?f1 r3.news (bys_one _) ?f3 ?f4 b3.size ?_)
  case f1 => rw [bys_length, hlen, Nat.mul_one]
  case f3 => unfold maxLen; omega
  case f4 => omega
  intro v4 w4 o4 g4 _
  have b4 : Below w.heap.size w w4 := b3.grown g4 b3.size (fun k hk => (o3.lt k hk).1)
  clear g4 o3 b3 r3
  have hH : bys ([kind] ++ L2 ++ zs) = Value.int .u8 kind :: (bys L2 ++ bys zs) := by unfold bys; simp
  rw [← hH] at o4
  have hHl : ([kind] ++ L2 ++ zs).length = 3 + n := by simp; omega
  have hHbd := bd_append (bd_append (bd_one kind (by omega) h255) hbd2) h.bd
  have hcs := crcOf_small ([kind] ++ L2 ++ zs) (by omega) hHbd
  clear hH hbd2 hL2
  generalize [kind] ++ L2 ++ zs = H at *
  obtain ⟨ad4, cap4, rfl, r4, _⟩ := Reads.own o4 hHbd
  go_wp2_with fail
  refine (spec_Crc cap4 r4 (by omega)).mono ?_
  rintro e w5 ⟨rfl, rfl⟩
  go_wp2_with fail
  refine (spec_PutNum (crcOf H) 4 _ (by omega)).mono ?_
  rintro e w6 ⟨v6, rfl, o6, b6⟩
  have hL4 := putL_four (crcOf H) hcs.1 hcs.2
  obtain ⟨ad6, cap6, rfl, r6, _⟩ := Reads.own o6 (putL_bd _ _)
  generalize putL (crcOf H) 4 = L4 at *
  rw [hL4] at r6
  simp only [hL4]
  obtain ⟨p6, q6, rfl⟩ := r6.pos (by omega)
  have o4 := owns_below b6 (Nat.le_refl _) o4
  have b6' := b4.trans (b6.mono b4.size)
  clear o6 b6
  go_wp2_with (at_builtin; refine wpList_append_own _ rfl (.tmp 31) (.tmp 34) 22 rfl w.heap.size 5 i0 (.int .u8 0) 1 1 Try.underlying22 hi hz0 hz1 hz2 rfl (by decide) _ _ _ rfl o4 ⟨p6, q6, none⟩ 4 cap6 (bys L4) rfl ?e1 r6.news (bys_one _) ?e3 ?e4 b6'.size ?_)
  case e1 => rw [bys_length, hL4]
  case e3 => unfold maxLen; omega
  case e4 => omega
  intro v7 w7 o7 g7 _
  have b7 : Below w.heap.size w w7 := b6'.grown g7 b6'.size (fun k hk => (o4.lt k hk).1)
  rw [← bys_append] at o7
  have O7 := hid o7
  clear g7 o4 b6' r6 o7
  go_wp2_with fail
  go_ret
  refine ⟨_, rfl, ?_, b7⟩
  rw [HF.out, show (H ++ L4).length = 3 + n + 4 by rw [List.length_append, hHl, hL4]]
  exact O7.out

theorem spec_Frame_no (ad : Option Addr) (n cap : Nat) (kind : Int) (w : World) (hn : n ≤ 2097152) (h : ¬ (1 ≤ kind ∧ kind ≤ 255 ∧ n ≤ 1000)) :
    Calls Try.prog 30 #[.int .i64 kind, .slice ad n cap] w fun e w' => e = .returned (.slice none 0 0) ∧ w' = w := by
  by_cases a1 : kind < 1
  · go_enter Try.func30, Try.ntmps30
    go_wp2
    go_ret
    exact ⟨rfl, rfl⟩
  by_cases a2 : 255 < kind
  · go_enter Try.func30, Try.ntmps30
    go_wp2
    go_ret
    exact ⟨rfl, rfl⟩
  have a3 : 1000 < n := by omega
  go_enter Try.func30, Try.ntmps30
  go_wp2
  go_ret
  exact ⟨rfl, rfl⟩

theorem spec_Frame {a : Addr} {n : Nat} (cap : Nat) {zs : List Int} {w : World} (h : Reads w (some a) n zs) (hn : n ≤ 2097152) (kind : Int) :
    Calls Try.prog 30 #[.int .i64 kind, .slice (some a) n cap] w fun e w' =>
      ∃ v, e = .returned v ∧ w'.ownsRow w.heap.size 5 1 v (frameOf kind zs).length (bys (frameOf kind zs)) ∧ Below w.heap.size w w' := by
  by_cases hc : 1 ≤ kind ∧ kind ≤ 255 ∧ n ≤ 1000
  · rw [frameOf_yes kind zs (by rw [h.len]; exact hc)]
    exact spec_Frame_yes cap h hc.2.2 kind hc.1 hc.2.1
  · rw [frameOf_no kind zs (by rw [h.len]; exact hc)]
    refine (spec_Frame_no (some a) n cap kind w hn hc).mono fun e w' ⟨he, hw⟩ => ?_
    subst hw
    exact ⟨_, he, World.ownsRow_nil _ _ _ _, Below.refl _ _⟩
end Go.Proofs.Ytplbejipkaionaa
