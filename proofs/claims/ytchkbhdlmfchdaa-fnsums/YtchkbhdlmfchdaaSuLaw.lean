/- FnSums' walk: for every code the law answers true and writes nothing that was there. -/
import Derived.Test.YtchkbhdlmfchdaaDrs
import Derived.Laws.AppendOwnNone
namespace Go.Proofs.Ytchkbhdlmfchdaa
open Go.RowKit

theorem fls_length (xs : List Nat) : (fls xs).length = xs.length := by simp [fls]
theorem fls_one (xs : List Nat) : ∀ u ∈ fls xs, u.oneCell' = true := by
  intro u hu
  simp only [fls, List.mem_map] at hu
  obtain ⟨x, _, rfl⟩ := hu
  rfl
/-- A row of the call's own, read. -/
theorem ReadsF.own {w : World} {base : Nat} {v : Value} {n : Nat} {xs : List Nat} (h : w.ownsRow base 35 1 v n (fls xs)) (hbd : ∀ i, xs.getD i 0 < 18446744073709551616) :
    ∃ ad cap, v = .slice ad n cap ∧ ReadsF w ad n xs ∧ (ad = none ∧ cap = 0 ∧ xs = [] ∨ ∃ g, ad = some ⟨g, 0, none⟩ ∧ base ≤ g ∧ g < w.heap.size) := by
  have hl : xs.length = n := by have := h.1; simpa [fls] using this
  rcases h.2 with ⟨rfl, rfl⟩ | ⟨g, cap, cur, rfl, hb, hg, hnc, hcm, hcs, htake⟩
  · exact ⟨none, 0, rfl, ⟨hl, .inl rfl, hbd⟩, .inl ⟨rfl, rfl, List.eq_nil_of_length_eq_zero hl⟩⟩
  · refine ⟨_, cap, rfl, ⟨hl, .inr ⟨g, 0, rfl, fun i hi => ?_⟩, hbd⟩, .inr ⟨g, rfl, hb, (Array.getElem?_eq_some_iff.1 hg).1⟩⟩
    rw [Nat.zero_add, h.cellAt i (by omega)]
    simp [fls, hl, hi]
/-- The cells that an append takes over. -/
theorem ReadsF.news {w : World} {a : Addr} {n : Nat} {xs : List Nat} (h : ReadsF w (some a) n xs) : ∀ j u, (fls xs)[j]? = some u → w.cell? (a.add j) = some u := by
  intro j u hu
  have hj : j < xs.length := by
    have := (List.getElem?_eq_some_iff.1 hu).1
    simpa [fls] using this
  rcases h.cells with h0 | ⟨b, off, hb, hc⟩
  · have := h.len; omega
  · cases hb
    have e : (⟨b, off, none⟩ : Addr).add j = ⟨b, off + j, none⟩ := by unfold Addr.add; split <;> simp_all
    rw [e, hc j (by have := h.len; omega)]
    simpa [fls, hj] using hu
theorem Still.readsF {w w' : World} (h : Still w w') {ad : Option Addr} {n : Nat} {xs : List Nat} (hr : ReadsF w ad n xs) : ReadsF w' ad n xs := hr.below (h.below w.heap.size) (Nat.le_refl _)

theorem fbits_same {x y : Nat} (h : Same x y) : fbits y = fbits x := by
  rcases h with ⟨a, b⟩ | ⟨a, rfl⟩
  · rw [fbits, fbits, if_pos a, if_pos b]
  · rfl
theorem fsum_snoc (L : List Nat) (x : Nat) : fsum (L ++ [x]) = fadd (fsum L) x := by unfold fsum; rw [List.foldl_append]; rfl
theorem sumOf_le (L : List Nat) (h : L.length ≤ 1000) : sumOf L = fsum L := by rw [sumOf, if_neg (by omega)]

set_option maxRecDepth 100000 in
set_option maxHeartbeats 6400000 in
theorem lawSums {ad : Option Addr} {n : Nat} (cap : Nat) {zs : List Int} {w : World} (h : Reads w ad n zs) (hm : n ≤ maxLen) :
    Calls Try.prog 6 #[.slice ad n cap] w fun e w' => e = .returned (.bool true) ∧ Below w.heap.size w w' := by
  unfold maxLen at hm
  obtain ⟨i0, hi, hz0, hz1, hz2⟩ := info_parts Try.info35
  by_cases hbig : 1048576 < n
  · go_enter Try.func6, Try.ntmps6
    go_wp2
    go_ret
    exact ⟨rfl, Below.refl _ _⟩
  have hn : n ≤ 1048576 := by omega
  go_enter Try.func6, Try.ntmps6
  go_wp2_with (go_at_call 7; go_in)
  refine (drawFloatSum cap h (by omega)).mono ?_
  rintro e w1 ⟨v, L, rfl, o1, hbd, hL, b1⟩
  have h1 := h.below b1 (Nat.le_refl _)
  go_wp2_with fail
  refine (drawFloatCompare cap h1 (by omega)).mono ?_
  rintro e w2 ⟨x, x', rfl, hx, -, b2⟩
  have o2 := owns_below b2 (Nat.le_refl _) o1
  have B2 := b1.trans (b2.mono b1.size)
  obtain ⟨ad1, cap1, rfl, r1, d1⟩ := ReadsF.own o2 hbd
  clear o1 o2 b1 b2 h1 h
  by_cases hmany : 1000 ≤ L.length
  · have hmany' : (1000 : Int) ≤ (L.length : Int) := by omega
    go_wp2_with fail
    go_ret
    exact ⟨rfl, B2⟩
  have hfew : ¬ (1000 : Int) ≤ (L.length : Int) := by omega
  go_wp2_with fail
  refine (impl_FloatSum cap1 r1 (by omega)).mono ?_
  rintro e w3 ⟨s, rfl, hs, S3, st3⟩
  have r3 := st3.readsF r1
  have B3 := B2.trans (st3.below _)
  rw [sumOf_le L (by omega)] at S3
  have hnil : ReadsF w3 none 0 [] := ⟨rfl, .inl rfl, fun i => by simp⟩
  rcases d1 with ⟨rfl, rfl, rfl⟩ | ⟨g, rfl, hg1, hg2⟩
  · have hsz : (w3.alloc (.cells #[] 35)).heap.size = w3.heap.size + 1 := by simp
    have hcell : ∀ j u, [Value.float .f64 x][j]? = some u → ((w3.alloc (.cells #[] 35)).alloc (.cells #[.float .f64 x] 35)).cell? ((⟨w3.heap.size + 1, 0, none⟩ : Addr).add j) = some u := by
      have := cell_one_new (w3.alloc (.cells #[] 35)) (.float .f64 x) 35
      rw [hsz] at this
      exact this
    have o6 : (w3.alloc (.cells #[] 35)).ownsRow w3.heap.size 35 1 (.slice (some ⟨w3.heap.size, 0, none⟩) 0 0) 0 (fls []) := World.ownsRow_lit w3 #[] 0 (Nat.le_refl _) (Nat.zero_le _) rfl
    have B6 : Below w.heap.size w (w3.alloc (.cells #[] 35)) := B3.alloc B3.size _
    have Z6 : w3.heap.size ≤ (w3.alloc (.cells #[] 35)).heap.size := by simp
    have O6 := hid o6
    have HC := hid hcell
    clear o6 hcell hsz
    go_wp2_with (first
      | (at_builtin; refine wpList_append_own_none rfl (.tmp 22) (.tmp 23) 44 rfl w3.heap.size 35 i0 1 Try.underlying44 hi (.slice (some ⟨w3.heap.size, 0, none⟩) 0 0) 0 [] rfl (World.ownsRow_lit w3 #[] 0 (Nat.le_refl _) (Nat.zero_le _) rfl) rfl ?_)
      | (at_builtin; refine wpList_append_own _ rfl (.tmp 24) (.tmp 26) 44 rfl w3.heap.size 35 i0 (.float .f64 0) 1 8 Try.underlying44 hi hz0 hz1 hz2 rfl (by decide) _ _ _ rfl (O6.out.alloc _) ⟨w3.heap.size + 1, 0, none⟩ 1 1 [.float .f64 x] rfl rfl HC.out ?c2 ?c3 ?c4 ?c5 ?_))
    case c2 => intro u hu; simp at hu; subst hu; rfl
    case c3 => unfold maxLen; omega
    case c4 => omega
    case c5 => simp <;> omega
    have o6 := O6.out
    generalize w3.alloc (.cells #[] 35) = w6 at *
    intro v7 w7 o7 g7 _
    have b7 : Below w3.heap.size w6 w7 := ((Below.refl _ _).alloc Z6 _).grown g7 (by simp; omega) (fun k hk => (o6.lt k hk).1)
    have B7 := B6.trans (b7.mono B3.size)
    have e7 : fls [] ++ [Value.float .f64 x] = fls (([] : List Nat) ++ [x]) := by simp [fls]
    rw [e7] at o7
    obtain ⟨ad7, cap7, rfl, r7, _⟩ := ReadsF.own o7 (fbd_snoc hbd hx)
    clear g7 b7 o6 o7
    go_wp2_with fail
    refine (impl_FloatSum cap7 r7 (by simp at * <;> omega)).mono ?_
    rintro e w8 ⟨t, rfl, ht, S8, st8⟩
    rw [sumOf_le _ (by simp at * <;> omega), fsum_snoc] at S8
    have B8 := B7.trans (st8.below _)
    go_wp2_with fail
    refine (spec_FloatBits t ht _).mono ?_
    rintro e w9 ⟨rfl, hw9⟩
    rw [hw9]
    clear hw9
    obtain ⟨y, w10, hrun, hy, S10, st10⟩ := add_run 35 (fsum ([] : List Nat)) s x (fsum_lt _) hs S3.out w8
    have hfb : fbits y = fbits t := fbits_same (S8.out.symm.trans S10.out)
    have B10 := B8.trans (st10.out.below _)
    go_wp2_with fail
    refine (spec_FloatBits y hy _).mono ?_
    rintro e w11 ⟨rfl, rfl⟩
    rw [hfb]
    go_wp2_with fail
    refine (impl_FloatSum 0 (n := 0) (xs := []) (ad := none) ⟨rfl, .inl rfl, fun i => by simp⟩ (by omega)).mono ?_
    rintro e w12 ⟨z, rfl, hz, S12, st12⟩
    obtain rfl : z = 0 := by
      rcases S12.out with ⟨p, _⟩ | ⟨_, q⟩
      · exact absurd p (by decide)
      · exact q
    go_wp2_with fail
    refine (impl_FloatBits 0 (by omega) _).mono ?_
    rintro e w13 ⟨rfl, rfl⟩
    go_wp2_with fail
    go_ret
    exact ⟨rfl, B10.trans (st12.below _)⟩
  · go_wp2_with (first
      | (at_builtin; refine wpList_append_own _ rfl (.tmp 22) (.tmp 23) 44 rfl w3.heap.size 35 i0 (.float .f64 0) 1 8 Try.underlying44 hi hz0 hz1 hz2 rfl (by decide) (.slice (some ⟨w3.heap.size, 0, none⟩) 0 0) 0 [] ?g0 (World.ownsRow_lit w3 #[] 0 (Nat.le_refl _) (Nat.zero_le _) rfl) ⟨g, 0, none⟩ L.length cap1 (fls L) ?g1 ?g2 (r3.below ((Below.refl _ _).alloc (Nat.le_refl _) _) (Nat.le_refl _)).news (fls_one _) ?g4 ?g5 ?g6 ?_))
    case g0 => rfl
    case g1 => rfl
    case g2 => rw [fls_length, Nat.mul_one]
    case g4 => unfold maxLen; omega
    case g5 => omega
    case g6 => simp
    intro v6 w6 o6 g6 _
    have b6 : Below w3.heap.size w3 w6 := ((Below.refl _ _).alloc (Nat.le_refl _) _).grown g6 (by simp) (fun k hk => by simp [Value.ownBlock] at hk; omega)
    have B6 := B3.trans (b6.mono B3.size)
    have Z6 := b6.size
    clear g6 b6 r3
    go_wp2_with (first
      | (at_builtin; refine wpList_append_own _ rfl (.tmp 24) (.tmp 26) 44 rfl w3.heap.size 35 i0 (.float .f64 0) 1 8 Try.underlying44 hi hz0 hz1 hz2 rfl (by decide) _ _ _ rfl (o6.alloc _) ⟨w6.heap.size, 0, none⟩ 1 1 [.float .f64 x] rfl rfl (cell_one_new _ _ _) ?c2 ?c3 ?c4 ?c5 ?_))
    case c2 => intro u hu; simp at hu; subst hu; rfl
    case c3 => unfold maxLen; omega
    case c4 => omega
    case c5 => simp; omega
    intro v7 w7 o7 g7 _
    have b7 : Below w3.heap.size w6 w7 := ((Below.refl _ _).alloc Z6 _).grown g7 (by simp; omega) (fun k hk => (o6.lt k hk).1)
    have B7 := B6.trans (b7.mono B3.size)
    have e7 : fls L ++ [Value.float .f64 x] = fls (L ++ [x]) := by simp [fls]
    rw [e7] at o7
    obtain ⟨ad7, cap7, rfl, r7, _⟩ := ReadsF.own o7 (fbd_snoc hbd hx)
    clear g7 b7 o6 o7
    go_wp2_with fail
    refine (impl_FloatSum cap7 r7 (by simp at * <;> omega)).mono ?_
    rintro e w8 ⟨t, rfl, ht, S8, st8⟩
    rw [sumOf_le _ (by simp at * <;> omega), fsum_snoc] at S8
    have B8 := B7.trans (st8.below _)
    go_wp2_with fail
    refine (spec_FloatBits t ht _).mono ?_
    rintro e w9 ⟨rfl, hw9⟩
    rw [hw9]
    clear hw9
    obtain ⟨y, w10, hrun, hy, S10, st10⟩ := add_run 35 (fsum L) s x (fsum_lt _) hs S3.out w8
    have hfb : fbits y = fbits t := fbits_same (S8.out.symm.trans S10.out)
    have B10 := B8.trans (st10.out.below _)
    go_wp2_with fail
    refine (spec_FloatBits y hy _).mono ?_
    rintro e w11 ⟨rfl, rfl⟩
    rw [hfb]
    go_wp2_with fail
    refine (impl_FloatSum 0 (n := 0) (xs := []) (ad := none) ⟨rfl, .inl rfl, fun i => by simp⟩ (by omega)).mono ?_
    rintro e w12 ⟨z, rfl, hz, S12, st12⟩
    obtain rfl : z = 0 := by
      rcases S12.out with ⟨p, _⟩ | ⟨_, q⟩
      · exact absurd p (by decide)
      · exact q
    go_wp2_with fail
    refine (impl_FloatBits 0 (by omega) _).mono ?_
    rintro e w13 ⟨rfl, rfl⟩
    go_wp2_with fail
    go_ret
    exact ⟨rfl, B10.trans (st12.below _)⟩
end Go.Proofs.Ytchkbhdlmfchdaa
