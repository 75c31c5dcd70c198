/- The specification's Frame at a nil body; string(b) of bytes that read as zs. -/
import Derived.Test.YtgkhioomckkinaaFri
import Derived.Laws.AppendOwnNone
import Derived.Laws.BytesString
namespace Go.Proofs.Ytgkhioomckkinaa
open Go.RowKit

set_option maxRecDepth 100000 in
set_option maxHeartbeats 3200000 in
theorem spec_Frame_nil_yes (w : World) (kind : Int) (h1 : 1 ≤ kind) (h255 : kind ≤ 255) :
    Calls Try.prog 13 #[.int .i64 kind, .slice none 0 0] w fun e w' =>
      ∃ v, e = .returned v ∧ w'.ownsRow w.heap.size 5 1 v (frameL kind []).length (bys (frameL kind [])) ∧ Below w.heap.size w w' := by
  obtain ⟨i0, hi, hz0, hz1, hz2⟩ := info_parts Try.info5
  go_enter Try.func13, Try.ntmps13
  go_wp2_with (at_builtin; refine wpList_append_own _ rfl (.tmp 18) (.tmp 21) 22 rfl w.heap.size 5 i0 (.int .u8 0) 1 1 Try.underlying22 hi hz0 hz1 hz2 rfl (by decide) _ _ _ rfl ((World.ownsRow_nil w w.heap.size 5 1).alloc _) ⟨w.heap.size, 0, none⟩ 1 1 [.int .u8 kind] rfl rfl (cell_one_new _ _ _) ?c2 ?c3 ?c4 ?c5 ?_)
  case c2 => intro u hu; simp at hu; subst hu; rfl
  case c3 => unfold maxLen; omega
  case c4 => omega
  case c5 => simp
  intro v1 w1 o1 g1 _
  have b1 : Below w.heap.size w w1 := ((Below.refl _ _).alloc (Nat.le_refl _) _).grown g1 (by simp) (fun k hk => by cases hk)
  clear g1
  go_wp2_with fail
  refine (spec_PutNum 0 2 w1 (by omega)).mono ?_
  rintro e w2 ⟨v2, rfl, o2, b2⟩
  have hL2 := putL_two 0 (by omega)
  obtain ⟨ad2, cap2, rfl, r2, _⟩ := Reads.own o2 (putL_bd _ _)
  have hbd2 := putL_bd 0 2
  rw [show ((0 : Nat) : Int) = 0 from rfl] at hL2
  have HF : Hid (frameL kind [] = ([kind] ++ putL 0 2) ++ putL (crcOf ([kind] ++ putL 0 2)) 4) := by unfold Hid frameL headL; simp
  generalize putL 0 2 = L2 at *
  rw [hL2] at r2
  simp only [hL2]
  obtain ⟨p, q, rfl⟩ := r2.pos (by omega)
  have o1 := owns_below b2 (Nat.le_refl _) o1
  have b2' := b1.trans (b2.mono b1.size)
  clear o2 b2
  go_wp2_with (at_builtin; refine wpList_append_own _ rfl (.tmp 23) (.tmp 26) 22 rfl w.heap.size 5 i0 (.int .u8 0) 1 1 Try.underlying22 hi hz0 hz1 hz2 rfl (by decide) _ _ _ rfl o1 ⟨p, q, none⟩ 2 cap2 (bys L2) rfl ?d1 r2.news (bys_one _) ?d3 ?d4 b2'.size ?_)
  case d1 => rw [bys_length, hL2]
  case d3 => unfold maxLen; omega
  case d4 => omega
  intro v3 w3 o3 g3 _
  have b3 : Below w.heap.size w w3 := b2'.grown g3 b2'.size (fun k hk => (o1.lt k hk).1)
  clear g3 o1 b2' r2
  go_wp2_with (at_builtin; refine wpList_append_own_none rfl (.tmp 28) (.tmp 29) 22 rfl w.heap.size 5 i0 1 Try.underlying22 hi _ _ _ rfl o3 rfl ?_)
  have o4 := o3
  have b4 := b3
  clear o3 b3
  have hH : bys ([kind] ++ L2) = Value.int .u8 kind :: bys L2 := by unfold bys; simp
  rw [← hH] at o4
  have hHl : ([kind] ++ L2).length = 3 := by simp; omega
  have hHbd := bd_append (bd_one kind (by omega) h255) hbd2
  have hcs := crcOf_small ([kind] ++ L2) (by omega) hHbd
  clear hH hbd2 hL2
  generalize [kind] ++ L2 = H at *
  obtain ⟨ad4, cap4, rfl, r4, _⟩ := Reads.own o4 hHbd
  go_wp2_with fail
  refine (spec_Crc cap4 r4 (by omega)).mono ?_
  rintro e w5 ⟨rfl, rfl⟩
  go_wp2_with fail
  refine (spec_PutNum (crcOf H) 4 _ (by omega)).mono ?_
  rintro e w6 ⟨v6, rfl, o6, b6⟩
  have hL4 := putL_four (crcOf H) hcs.1 hcs.2
  obtain ⟨ad6, cap6, rfl, r6, _⟩ := Reads.own o6 (putL_bd _ _)
  generalize putL (crcOf H) 4 = L4 at *
  rw [hL4] at r6
  simp only [hL4]
  obtain ⟨p6, q6, rfl⟩ := r6.pos (by omega)
  have o4 := owns_below b6 (Nat.le_refl _) o4
  have b6' := b4.trans (b6.mono b4.size)
  clear o6 b6
  go_wp2_with (at_builtin; refine wpList_append_own _ rfl (.tmp 31) (.tmp 34) 22 rfl w.heap.size 5 i0 (.int .u8 0) 1 1 Try.underlying22 hi hz0 hz1 hz2 rfl (by decide) _ _ _ rfl o4 ⟨p6, q6, none⟩ 4 cap6 (bys L4) rfl ?e1 r6.news (bys_one _) ?e3 ?e4 b6'.size ?_)
  case e1 => rw [bys_length, hL4]
  case e3 => unfold maxLen; omega
  case e4 => omega
  intro v7 w7 o7 g7 _
  have b7 : Below w.heap.size w w7 := b6'.grown g7 b6'.size (fun k hk => (o4.lt k hk).1)
  rw [← bys_append] at o7
  have O7 := hid o7
  clear g7 o4 b6' r6 o7
  go_wp2_with fail
  go_ret
  refine ⟨_, rfl, ?_, b7⟩
  rw [HF.out, show (H ++ L4).length = 3 + 4 by rw [List.length_append, hHl, hL4]]
  exact O7.out


theorem spec_Frame_any {ad : Option Addr} {n : Nat} (cap : Nat) (hnil : ad = none → cap = 0) {zs : List Int} {w : World} (h : Reads w ad n zs) (hn : n ≤ 2097152) (kind : Int) :
    Calls Try.prog 13 #[.int .i64 kind, .slice ad n cap] w fun e w' =>
      ∃ v, e = .returned v ∧ w'.ownsRow w.heap.size 5 1 v (frameOf kind zs).length (bys (frameOf kind zs)) ∧ Below w.heap.size w w' := by
  cases ad with
  | some a => exact spec_Frame cap h hn kind
  | none =>
    obtain rfl := hnil rfl
    rcases h.cells with h0 | ⟨b, off, e, _⟩
    · subst h0
      obtain rfl : zs = [] := List.eq_nil_of_length_eq_zero h.len
      by_cases hc : 1 ≤ kind ∧ kind ≤ 255 ∧ 0 ≤ 1000
      · rw [frameOf_yes kind [] (by simp; omega)]
        exact spec_Frame_nil_yes w kind hc.1 hc.2.1
      · rw [frameOf_no kind [] (by simp; omega)]
        refine (spec_Frame_no none 0 0 kind w hn (by omega)).mono fun e w' ⟨he, hw⟩ => ?_
        subst hw
        exact ⟨_, he, World.ownsRow_nil _ _ _ _, Below.refl _ _⟩
    · cases e

/-- The string of a list of bytes. -/
def strOf (zs : List Int) : ByteArray := zs.foldl (fun r n => r.push (UInt8.ofNat n.toNat)) ByteArray.empty
theorem conv_reads {w : World} {ad : Option Addr} {n : Nat} {zs : List Int} (h : Reads w ad n zs) (cap : Nat) : (convert 22 9 (.slice ad n cap)).run Try.prog w = .ok (.string (strOf zs)) w := by
  rw [run_convert_bytes_string w 22 9 5 ad n cap Try.underlying22 Try.underlying5 Try.underlying9]
  cases ad with
  | some a =>
    have hl := run_loadCells_list (P := Try.prog) w a (bys zs) h.news
    rw [bys_length, h.len] at hl
    exact run_bytesToString w a n cap zs hl
  | none =>
    rcases h.cells with h0 | ⟨b, off, e, _⟩
    · subst h0
      obtain rfl : zs = [] := List.eq_nil_of_length_eq_zero h.len
      simp [Conv.bytesToString]
      rfl
    · cases e
end Go.Proofs.Ytgkhioomckkinaa
