/- The contract of the specification's RecordBytes. Conditions: a nil list has no room. -/
import Derived.Test.YtgdnjpdheghfoaaRo
import Derived.Test.YtgdnjpdheghfoaaFri
import Derived.Laws.AppendOwnNone
namespace Go.Proofs.Ytgdnjpdheghfoaa
open Go.RowKit
set_option maxRecDepth 100000

theorem own_some {w : World} {base m : Nat} {v : Value} {zs : List Int} (h : w.ownsRow base 5 1 v m (bys zs)) (hbd : bdL zs) (hm : 0 < m) : ∃ g c, v = .slice (some ⟨g, 0, none⟩) m c ∧ Reads w (some ⟨g, 0, none⟩) m zs := by
  obtain ⟨ad, c, rfl, r, hh⟩ := Reads.own h hbd
  rcases hh with rfl | ⟨g, rfl, _⟩
  · rcases r.cells with h0 | ⟨b, o, e, _⟩
    · omega
    · cases e
  · exact ⟨g, c, rfl, r⟩
theorem own_slice {w : World} {base m : Nat} {e : TypeId} {s : Nat} {v : Value} {xs : List Value} (h : w.ownsRow base e s v m xs) : ∃ a c, v = .slice a m c := by
  rcases h.2 with ⟨e, e0⟩ | ⟨g, cap, cur, e, _⟩
  · exact ⟨none, 0, by rw [e, e0]⟩
  · exact ⟨_, cap, e⟩

set_option maxHeartbeats 12800000 in
theorem spec_RecordBytes (K L X P S : Int) {ad : Option Addr} {n : Nat} (cap : Nat) {zs : List Int} {w : World} (h : Reads w ad n zs) (hc : ad = none → cap = 0) : Calls Try.prog 20 #[.agg #[.int .i64 K, .int .i64 L, .int .i64 X, .int .i64 P, .int .i64 S, .slice ad n cap]] w fun e w' => ∃ v, e = .returned v ∧ w'.ownsRow w.heap.size 5 1 v (bytesR ⟨K, L, X, P, S, zs⟩).length (bys (bytesR ⟨K, L, X, P, S, zs⟩)) ∧ Below w.heap.size w w' := by
  obtain ⟨i0, hi, hz0, hz1, hz2⟩ := info_parts Try.info5
  have HA := hid (Below.alloc1 w (.cells #[.int .i64 K, .int .i64 L, .int .i64 X, .int .i64 P, .int .i64 S, .slice ad n cap] 36))
  have HX := hid (BoxR.new w K L X P S ad n cap 36)
  have HQ := hid (h.below HA.out (Nat.le_refl _))
  have HQ0 := hid h
  have HZ := hid (show w.heap.size + 1 ≤ (w.alloc (.cells #[.int .i64 K, .int .i64 L, .int .i64 X, .int .i64 P, .int .i64 S, .slice ad n cap] 36)).heap.size from Nat.le_of_eq (alloc_size w _).symm)
  have hln := h.len
  have Hbd := hid h.bd
  have ez : okR ⟨K, L, X, P, S, zs⟩ = okRn K L X P S n := by unfold okR; simp only [hln]
  go_enter Try.func20, Try.ntmps20
  go_wp2_with fail
  generalize w.alloc (.cells #[.int .i64 K, .int .i64 L, .int .i64 X, .int .i64 P, .int .i64 S, .slice ad n cap] 36) = W at *
  refine (spec_RecordOk K L X P S ad n cap _).mono ?_
  rintro e w1 ⟨rfl, b⟩
  replace HX := hid (HX.out.below b (Nat.le_refl _))
  replace HQ := hid (HQ.out.below b (Nat.le_refl _))
  replace HA := hid (HA.out.trans (b.mono HA.out.size))
  replace HZ := hid (Nat.le_trans HZ.out b.size)
  clear b
  obtain ⟨ok, hok⟩ : ∃ b, okRn K L X P S n = b := ⟨_, rfl⟩
  rw [hok]
  rw [hok] at ez
  cases ok
  · have HE := hid (bytesR_no ez)
    go_wp2_with fail
    go_ret
    exact ⟨_, rfl, by rw [HE.out]; exact World.ownsRow_nil _ _ _ _, HA.out⟩
  have HE := hid (bytesR_yes ez)
  obtain ⟨g1, g2, g3, g4, g5, g6⟩ := okRn_bd hok
  obtain ⟨p, hp⟩ := Int.eq_ofNat_of_zero_le g4.1
  obtain ⟨s, hs⟩ := Int.eq_ofNat_of_zero_le g5.1
  have e1 := putL_four L (by omega) (by omega)
  have e2 := putL_four X (by omega) (by omega)
  have e3 : (putL P 2).length = 2 := by rw [hp]; exact putL_two p (by omega)
  have e4 : (putL S 2).length = 2 := by rw [hs]; exact putL_two s (by omega)
  have d1 := putL_bd L 4
  have d2 := putL_bd X 4
  have d3 := putL_bd P 2
  have d4 := putL_bd S 2
  have HBO := hid (show bodyR ⟨K, L, X, P, S, zs⟩ = putL L 4 ++ putL X 4 ++ putL P 2 ++ putL S 2 ++ zs from rfl)
  have hL : L ≤ 9223372036854775807 := by omega
  have hX : X ≤ 9223372036854775807 := by omega
  have hP : P ≤ 9223372036854775807 := by omega
  have hS : S ≤ 9223372036854775807 := by omega
  have f1 := spec_PutNum L 4
  have f2 := spec_PutNum X 4
  have f3 := spec_PutNum P 2
  have f4 := spec_PutNum S 2
  generalize putL L 4 = B1 at *
  generalize putL X 4 = B2 at *
  generalize putL P 2 = B3 at *
  generalize putL S 2 = B4 at *
  rw [e1] at f1
  rw [e2] at f2
  rw [e3] at f3
  rw [e4] at f4
  have FF := hid (And.intro f1 (And.intro f2 (And.intro f3 f4)))
  have DD := hid (And.intro d1 (And.intro d2 (And.intro d3 d4)))
  have hk1 := g1.1
  have hk2 : K ≤ 255 := by omega
  clear f1 f2 f3 f4 d1 d2 d3 d4 hp hs g2 g3 g4 g5 hok ez g1 h
  obtain ⟨c0, c1, c2, c3, c4, c5⟩ := HX.out
  go_wp2_with fail
  clear c0 c1 c2 c3 c4 c5
  refine (FF.out.1 _ hL).mono ?_
  rintro e w2 ⟨v, rfl, o, b⟩
  obtain ⟨a2, n2, rfl⟩ := own_slice o
  replace HX := hid (HX.out.below b (Nat.le_refl _))
  replace HQ := hid (HQ.out.below b (Nat.le_refl _))
  have HO := hid (owns_base o HZ.out)
  replace HA := hid (HA.out.trans (b.mono HA.out.size))
  replace HZ := hid (Nat.le_trans HZ.out b.size)
  clear b o
  obtain ⟨c0, c1, c2, c3, c4, c5⟩ := HX.out
  go_wp2_with fail
  clear c0 c1 c2 c3 c4 c5
  refine (FF.out.2.1 _ hX).mono ?_
  rintro e w03 ⟨v, rfl, o, b⟩
  obtain ⟨p0, n03, rfl, r⟩ := own_some o DD.out.2.1 (by omega)
  replace HX := hid (HX.out.below b (Nat.le_refl _))
  replace HQ := hid (HQ.out.below b (Nat.le_refl _))
  replace HO := hid (owns_below b (Nat.le_refl _) HO.out)
  replace HA := hid (HA.out.trans (b.mono HA.out.size))
  replace HZ := hid (Nat.le_trans HZ.out b.size)
  have HR := hid r
  clear b o r
  go_wp2_with (at_builtin; refine wpList_append_own _ rfl _ _ 22 rfl (w.heap.size + 1) 5 i0 (.int .u8 0) 1 1 Try.underlying22 hi hz0 hz1 hz2 rfl (by decide) _ _ _ rfl HO.out ⟨p0, 0, none⟩ 4 n03 (bys B2) rfl ?d1 HR.out.news (bys_one _) ?d3 ?d4 HZ.out ?_)
  case d1 => rw [bys_length, e2]
  case d3 => unfold maxLen; omega
  case d4 => omega
  intro v w04 o g _
  have hxo := HO.out.lt
  obtain ⟨a04, n04, rfl⟩ := own_slice o
  replace HX := hid (HX.out.other g (by intro e; have := hxo _ e.symm; omega))
  replace HA := hid (HA.out.grown g HA.out.size (fun k hk => by have := hxo k hk; omega))
  replace HQ := hid (HQ0.out.below HA.out (Nat.le_refl _))
  replace HZ := hid (Nat.le_trans HZ.out g.size)
  replace HO := hid o
  clear o g hxo HR
  obtain ⟨c0, c1, c2, c3, c4, c5⟩ := HX.out
  go_wp2_with fail
  clear c0 c1 c2 c3 c4 c5
  refine (FF.out.2.2.1 _ hP).mono ?_
  rintro e w13 ⟨v, rfl, o, b⟩
  obtain ⟨p1, n13, rfl, r⟩ := own_some o DD.out.2.2.1 (by omega)
  replace HX := hid (HX.out.below b (Nat.le_refl _))
  replace HQ := hid (HQ.out.below b (Nat.le_refl _))
  replace HO := hid (owns_below b (Nat.le_refl _) HO.out)
  replace HA := hid (HA.out.trans (b.mono HA.out.size))
  replace HZ := hid (Nat.le_trans HZ.out b.size)
  have HR := hid r
  clear b o r
  go_wp2_with (at_builtin; refine wpList_append_own _ rfl _ _ 22 rfl (w.heap.size + 1) 5 i0 (.int .u8 0) 1 1 Try.underlying22 hi hz0 hz1 hz2 rfl (by decide) _ _ _ rfl HO.out ⟨p1, 0, none⟩ 2 n13 (bys B3) rfl ?d1 HR.out.news (bys_one _) ?d3 ?d4 HZ.out ?_)
  case d1 => rw [bys_length, e3]
  case d3 => unfold maxLen; omega
  case d4 => omega
  intro v w14 o g _
  have hxo := HO.out.lt
  obtain ⟨a14, n14, rfl⟩ := own_slice o
  replace HX := hid (HX.out.other g (by intro e; have := hxo _ e.symm; omega))
  replace HA := hid (HA.out.grown g HA.out.size (fun k hk => by have := hxo k hk; omega))
  replace HQ := hid (HQ0.out.below HA.out (Nat.le_refl _))
  replace HZ := hid (Nat.le_trans HZ.out g.size)
  replace HO := hid o
  clear o g hxo HR
  obtain ⟨c0, c1, c2, c3, c4, c5⟩ := HX.out
  go_wp2_with fail
  clear c0 c1 c2 c3 c4 c5
  refine (FF.out.2.2.2 _ hS).mono ?_
  rintro e w23 ⟨v, rfl, o, b⟩
  obtain ⟨p2, n23, rfl, r⟩ := own_some o DD.out.2.2.2 (by omega)
  replace HX := hid (HX.out.below b (Nat.le_refl _))
  replace HQ := hid (HQ.out.below b (Nat.le_refl _))
  replace HO := hid (owns_below b (Nat.le_refl _) HO.out)
  replace HA := hid (HA.out.trans (b.mono HA.out.size))
  replace HZ := hid (Nat.le_trans HZ.out b.size)
  have HR := hid r
  clear b o r
  go_wp2_with (at_builtin; refine wpList_append_own _ rfl _ _ 22 rfl (w.heap.size + 1) 5 i0 (.int .u8 0) 1 1 Try.underlying22 hi hz0 hz1 hz2 rfl (by decide) _ _ _ rfl HO.out ⟨p2, 0, none⟩ 2 n23 (bys B4) rfl ?d1 HR.out.news (bys_one _) ?d3 ?d4 HZ.out ?_)
  case d1 => rw [bys_length, e4]
  case d3 => unfold maxLen; omega
  case d4 => omega
  intro v w24 o g _
  have hxo := HO.out.lt
  obtain ⟨a24, n24, rfl⟩ := own_slice o
  replace HX := hid (HX.out.other g (by intro e; have := hxo _ e.symm; omega))
  replace HA := hid (HA.out.grown g HA.out.size (fun k hk => by have := hxo k hk; omega))
  replace HQ := hid (HQ0.out.below HA.out (Nat.le_refl _))
  replace HZ := hid (Nat.le_trans HZ.out g.size)
  replace HO := hid o
  clear o g hxo HR
  obtain ⟨c0, c1, c2, c3, c4, c5⟩ := HX.out
  have hap := HBO.out
  rcases ha : ad with _ | pa
  · subst ha
    obtain rfl := hc rfl
    obtain rfl : n = 0 := by
      rcases HQ.out.cells with h0 | ⟨b, off, e, _⟩
      · exact h0
      · cases e
    obtain rfl : zs = [] := List.eq_nil_of_length_eq_zero hln
    go_wp2_with (at_builtin; refine wpList_append_own_none rfl _ _ 22 rfl (w.heap.size + 1) 5 i0 1 Try.underlying22 hi _ _ _ rfl HO.out rfl ?_)
    go_wp2_with fail
    clear c0 c1 c2 c3 c4 c5
    have o := HO.out
    rw [← bys_append, ← bys_append, ← bys_append] at o
    rw [List.append_nil] at hap
    simp only [List.append_assoc] at hap
    rw [← hap] at o
    have hbb := bodyR_bd (r := ⟨K, L, X, P, S, []⟩) Hbd.out
    have hbl : (bodyR ⟨K, L, X, P, S, []⟩).length = 12 := by rw [hap]; simp only [List.length_append, e1, e2, e3, e4] <;> omega
    clear hap HBO
    obtain ⟨q1, q2, eq, rq⟩ := own_some o hbb (by omega)
    obtain ⟨rfl, _, rfl⟩ := Value.slice.inj eq
    refine (spec_Frame _ rq (by omega) K).mono ?_
    rintro e w9 ⟨v, rfl, o9, b9⟩
    obtain ⟨a9, n9, rfl⟩ := own_slice o9
    have O9 := hid (owns_base o9 HA.out.size)
    have B9 := hid (HA.out.trans (b9.mono HA.out.size))
    clear o9 b9
    go_wp2_with fail
    go_ret
    exact ⟨_, rfl, by rw [HE.out]; exact O9.out, B9.out⟩
  · subst ha
    go_wp2_with (at_builtin; refine wpList_append_own _ rfl _ _ 22 rfl (w.heap.size + 1) 5 i0 (.int .u8 0) 1 1 Try.underlying22 hi hz0 hz1 hz2 rfl (by decide) _ _ _ rfl HO.out pa n cap (bys zs) rfl ?d1 HQ.out.news (bys_one _) ?d3 ?d4 HZ.out ?_)
    case d1 => rw [bys_length, hln, Nat.mul_one]
    case d3 => unfold maxLen; omega
    case d4 => omega
    intro v w84 o g _
    have hxo := HO.out.lt
    obtain ⟨a84, n84, rfl⟩ := own_slice o
    replace HX := hid (HX.out.other g (by intro e; have := hxo _ e.symm; omega))
    replace HA := hid (HA.out.grown g HA.out.size (fun k hk => by have := hxo k hk; omega))
    replace HO := hid o
    clear c0 c1 c2 c3 c4 c5 o g hxo HQ
    obtain ⟨c0, c1, c2, c3, c4, c5⟩ := HX.out
    go_wp2_with fail
    clear c0 c1 c2 c3 c4 c5
    have o := HO.out
    simp only [List.append_assoc] at hap
    rw [← bys_append, ← bys_append, ← bys_append, ← bys_append, ← hap] at o
    have hbb := bodyR_bd (r := ⟨K, L, X, P, S, zs⟩) Hbd.out
    have hbl : (bodyR ⟨K, L, X, P, S, zs⟩).length = 12 + n := by rw [hap]; simp only [List.length_append, e1, e2, e3, e4, hln] <;> omega
    clear hap HBO
    obtain ⟨q1, q2, eq, rq⟩ := own_some o hbb (by omega)
    obtain ⟨rfl, _, rfl⟩ := Value.slice.inj eq
    refine (spec_Frame _ rq (by omega) K).mono ?_
    rintro e w9 ⟨v, rfl, o9, b9⟩
    obtain ⟨a9, n9, rfl⟩ := own_slice o9
    have O9 := hid (owns_base o9 HA.out.size)
    have B9 := hid (HA.out.trans (b9.mono HA.out.size))
    clear o9 b9
    go_wp2_with fail
    go_ret
    exact ⟨_, rfl, by rw [HE.out]; exact O9.out, B9.out⟩
end Go.Proofs.Ytgdnjpdheghfoaa
