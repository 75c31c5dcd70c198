/- The program's readers of texts: bytesOfHex, floatOfWord; the library's Atoi. Conditions: at most 2^21 bytes; the library's variables are as its text lays them. -/
import Derived.Test.YtoppccfgcccijaaDoorYf18
import Derived.Test.YtoppccfgcccijaaDoorGh
import Derived.Lib.AtoiAllCases
namespace Go.Proofs.YtoppccfgcccijaaDoor
open Go.RowKit
set_option maxRecDepth 100000

/-- These bytes are what pairs of digits say, as far as they are digits. -/
structure PairX (ds L : List Int) : Prop where
  bd : byteL L
  at' : ∀ j, j < L.length → lowX (ds.getD (2 * j) 0) → lowX (ds.getD (2 * j + 1) 0) → L.getD j 0 = 16 * dv (ds.getD (2 * j) 0) + dv (ds.getD (2 * j + 1) 0)
theorem PairX.nil (ds : List Int) : PairX ds [] := ⟨fun i => by simp, fun j hj => by simp at hj⟩
theorem PairX.push {ds L : List Int} (h : PairX ds L) {n : Int} (h0 : 0 ≤ n ∧ n ≤ 255) (hn : lowX (ds.getD (2 * L.length) 0) → lowX (ds.getD (2 * L.length + 1) 0) → n = 16 * dv (ds.getD (2 * L.length) 0) + dv (ds.getD (2 * L.length + 1) 0)) : PairX ds (L ++ [n]) := by
  refine ⟨fun i => ?_, fun j hj x y => ?_⟩
  · by_cases hi : i < L.length
    · rw [show (L ++ [n]).getD i 0 = L.getD i 0 by simp [List.getD, List.getElem?_append, hi]]; exact h.bd i
    · by_cases he : i = L.length
      · subst he
        rw [show (L ++ [n]).getD L.length 0 = n by simp [List.getD]]
        exact h0
      · rw [show (L ++ [n]).getD i 0 = 0 by simp [List.getD, List.getElem?_eq_none (show (L ++ [n]).length ≤ i by simp; omega)]]
        omega
  · by_cases hi : j < L.length
    · rw [show (L ++ [n]).getD j 0 = L.getD j 0 by simp [List.getD, List.getElem?_append, hi]]; exact h.at' j hi x y
    · have : j = L.length := by simp at hj; omega
      subst this
      rw [show (L ++ [n]).getD L.length 0 = n by simp [List.getD]]
      exact hn x y
theorem PairX.hex {ds L Z : List Int} (h : PairX ds L) (hl : L.length = ds.length / 2) (hZ : byteL Z) (he : hexB Z = ds) : L = Z := by
  subst he
  rw [hexB_len] at hl
  apply List.ext_getElem?
  intro j
  by_cases hj : j < Z.length
  · have hz := hZ j
    obtain ⟨e1, e2⟩ := hexB_at Z j hj
    have hx := h.at' j (by omega)
    rw [e1, e2] at hx
    have hv := hx (lowX_hexD (by omega)) (lowX_hexD (by omega))
    rw [unD_hex (by omega), unD_hex (by omega)] at hv
    have e3 : L.getD j 0 = Z.getD j 0 := by omega
    rw [List.getD_eq_getElem?_getD, List.getD_eq_getElem?_getD, List.getElem?_eq_getElem (show j < L.length by omega), List.getElem?_eq_getElem hj] at e3
    rw [List.getElem?_eq_getElem (show j < L.length by omega), List.getElem?_eq_getElem hj]
    simpa using e3
  · rw [List.getElem?_eq_none (by omega), List.getElem?_eq_none (by omega)]
theorem cut_two18 (ds : List Int) (j : Nat) (h : 2 * j + 2 ≤ ds.length) : (str ds).extract (2 * j) (2 * j + 2) = str [ds.getD (2 * j) 0, ds.getD (2 * j + 1) 0] := by
  apply ByteArray.ext
  simp only [str, ByteArray.data_extract]
  apply Array.toList_inj.1
  rw [Array.toList_extract]
  simp only [List.extract, List.map_cons, List.map_nil]
  have e : (ds.map fun n => UInt8.ofNat n.toNat).drop (2 * j) = UInt8.ofNat (ds.getD (2 * j) 0).toNat :: UInt8.ofNat (ds.getD (2 * j + 1) 0).toNat :: (ds.map fun n => UInt8.ofNat n.toNat).drop (2 * j + 2) := by
    rw [List.drop_eq_getElem_cons (by simp; omega), List.drop_eq_getElem_cons (by simp; omega)]
    simp [List.getD, List.getElem?_eq_getElem (show 2 * j < ds.length by omega), List.getElem?_eq_getElem (show 2 * j + 1 < ds.length by omega)]
  rw [e, show 2 * j + 2 - 2 * j = 2 by omega]
  rfl
/-- The library's Atoi, whatever it is given. -/
theorem impl_Atoi {zs : List Int} (hl : zs.length ≤ 2097152) {w : World} (h : LibT w) :
    Calls Tryd.prog 54 #[.string (str zs)] w fun e w' => (∃ (n : Int) (x : Value), (-9223372036854775808 ≤ n ∧ n ≤ 9223372036854775807) ∧ Tells zs n ∧ e = .returned (.tuple #[.int .i64 n, x]) ∧ (x = .nilIface ∨ ∃ t p, x = .iface t p)) ∧ Below w.heap.size w w' := by
  have hs := str_size18 zs
  have hd : (str zs).data.toList = us zs := rfl
  have ht : ∀ {v : Int}, (∀ y, -9223372036854775808 ≤ y ∧ y ≤ 9223372036854775807 → decI y = zs → v = y) → Tells zs v := fun h => h
  cases hc : Lib.atoiAll (str zs).data.toList with
  | ok v =>
    refine (sh_strconv_Atoi_ok _ (by omega) v hc w).mono ?_
    rintro e w' ⟨rfl, hw⟩
    refine ⟨⟨v, _, Lib.atoiAll_bounds hc, ht (fun y hy e => ?_), rfl, .inl rfl⟩, ?_⟩
    · rw [hd, ← e, atoi_dec18 hy] at hc
      injection hc with hc
      exact hc.symm
    · rcases hw with rfl | ⟨t, rfl⟩
      · exact Below.refl _ _
      · exact bytes_below18 _ _ _
  | «syntax» =>
    obtain ⟨tp, p, hv⟩ := h.syn
    refine (sh_strconv_Atoi_syntax_var _ (by omega) hc tp p w hv).mono ?_
    rintro e w' ⟨N, rfl, _, _, b⟩
    refine ⟨⟨0, _, by omega, ht (fun y hy e => ?_), rfl, .inr ⟨_, _, rfl⟩⟩, b⟩
    rw [hd, ← e, atoi_dec18 hy] at hc
    cases hc
  | range =>
    obtain ⟨tp, p, hv⟩ := h.rng
    refine (sh_strconv_Atoi_range_var _ (by omega) hc tp p w hv).mono ?_
    rintro e w' ⟨N, rfl, _, _, b⟩
    refine ⟨⟨_, _, ?_, ht (fun y hy e => ?_), rfl, .inr ⟨_, _, rfl⟩⟩, b⟩
    · unfold Lib.atoiSat; split <;> omega
    · rw [hd, ← e, atoi_dec18 hy] at hc
      cases hc
set_option maxHeartbeats 3200000 in
theorem impl_bytesOfHex {ds : List Int} (hb : byteL ds) (hl : ds.length ≤ 2097152) {w : World} (h : LibT w) :
    Calls Tryd.prog 56 #[.string (str ds)] w fun e w' => ∃ (v : Value) (L : List Int), e = .returned v ∧ L.length = ds.length / 2 ∧ PairX ds L ∧ w'.ownsRow w.heap.size 5 1 v L.length (bys L) ∧ Below w.heap.size w w' := by
  obtain ⟨i0, hi, hz0, hz1, hz2⟩ := info_parts Tryd.info5
  have HT := hid h
  have HBy := hid hb
  have hs : (str ds).size = ds.length := str_size18 ds
  have hls := hl
  obtain ⟨sd, hsd⟩ : ∃ sd, str ds = sd := ⟨_, rfl⟩
  have HSd := hid hsd
  rw [hsd] at hs ⊢
  clear h hb hsd
  go_enter Tryd.func56, Tryd.ntmps56
  go_wp2_with fail
  go_loopw [3, 4] (fun v s wr => ∃ (k : Nat) (L : List Int), 2 * k ≤ ds.length ∧ s = .int .i64 (2 * (k : Int) + 2) ∧ Hid (L.length = k) ∧ Hid (PairX ds L) ∧ Hid (wr.ownsRow w.heap.size 5 1 v k (bys L)) ∧ Hid (Below w.heap.size w wr)) (fun _ s _ => ds.length + 2 - (intOf s).toNat)
  case atStart => exact ⟨0, [], by omega, rfl, hid rfl, hid (PairX.nil _), hid (World.ownsRow_nil _ _ _ _), hid (Below.refl _ _)⟩
  case round =>
    obtain ⟨k, L, hk, rfl, HL, HX, HO, HB⟩ := hrel
    have hsz := HB.out.size
    by_cases hlt : 2 * k + 2 ≤ ds.length
    · have hlt' : 2 * (k : Int) + 2 ≤ (ds.length : Int) := by omega
      have hcut := cut_two18 ds k hlt
      rw [HSd.out] at hcut
      obtain ⟨ao, co, rfl⟩ := own_sl18 HO.out
      have hx1 := HBy.out (2 * k)
      have hx2 := HBy.out (2 * k + 1)
      have HP := hid (fun (n : Int) (h0 : 0 ≤ n ∧ n ≤ 255) hn => HX.out.push (n := n) h0 hn)
      rw [HL.out] at HP
      generalize ds.getD (2 * k) 0 = c1 at *
      generalize ds.getD (2 * k + 1) 0 = c2 at *
      have HT1 := hid (HT.out.below HB.out (Nat.le_refl _))
      have X1 := hid hx1
      have X2 := hid hx2
      clear hx1 hx2
      have hkk := HL.out
      go_wp2_with (first
        | (go_at_call 72; refine (impl_ParseUint c1 c2 X1.out X2.out HT1.out).mono ?_; rintro e w1 ⟨⟨n, x, n0, n1, hn, rfl, hx⟩, b⟩; have HN := hid (HP.out n ⟨n0, n1⟩ hn); have HB1 := hid ((HB.out.trans (b.mono hsz)).alloc (Nat.le_trans hsz b.size) (.cells #[.int .u8 n] 5)); have HO1 := hid ((owns_below b (Nat.le_refl _) HO.out).alloc (.cells #[.int .u8 n] 5)); have HW := hid (show IntKind.u8.wrap n = n by rw [IntKind.wrap_u8]; omega); have hs1 := HB1.out.size; clear b hn)
        | (at_builtin; refine wpList_append_own _ rfl _ _ 23 rfl w.heap.size 5 i0 (.int .u8 0) 1 1 Tryd.underlying23 hi hz0 hz1 hz2 rfl (by decide) _ _ _ rfl HO1.out ⟨w1.heap.size, 0, none⟩ 1 1 [.int .u8 n] rfl rfl (cell_one_new _ _ _) ?a2 ?a3 ?a4 ?a5 ?_))
      case a2 => intro u hu; simp at hu; subst hu; rfl
      case a3 => unfold maxLen; omega
      case a4 => omega
      case a5 => exact hs1
      intro v1 w2 hown' hgrow _
      have HB2 := hid (HB1.out.grown hgrow hs1 (fun j hj => (HO1.out.lt j hj).1))
      have HO2 := hid (show w2.ownsRow w.heap.size 5 1 v1 (k + 1) (bys (L ++ [n])) by rw [bys_append]; exact hown')
      have HL2 := hid (show (L ++ [n]).length = k + 1 by rw [List.length_append, hkk]; rfl)
      clear hown' hgrow
      go_wp2_with fail
      go_roundw
      case rel => exact ⟨k + 1, L ++ [n], by omega, by go_num, HL2, HN, HO2, HB2⟩
      case measure => simp [intOf]; omega
    · have hlt' : ¬ 2 * (k : Int) + 2 ≤ (ds.length : Int) := by omega
      obtain ⟨ao, co, rfl⟩ := own_sl18 HO.out
      go_wp2_with fail
      go_ret
      refine ⟨_, rfl, L, by have := HL.out; omega, HX.out, ?_, HB.out⟩
      rw [HL.out]
      exact HO.out
set_option maxHeartbeats 3200000 in
theorem impl_floatOfWord {ds : List Int} (hb : byteL ds) (hl : ds.length ≤ 2097152) {w : World} (h : LibT w) :
    Calls Tryd.prog 55 #[.string (str ds)] w fun e w' => ∃ (L : List Int) (y : Nat), e = .returned (.float .f64 y) ∧ y < 18446744073709551616 ∧ L.length = ds.length / 2 ∧ PairX ds L ∧ y = (if L.length = 8 then low L else 0) ∧ Below w.heap.size w w' := by
  have HT := hid h
  have HBy := hid hb
  clear h hb
  go_enter Tryd.func55, Tryd.ntmps55
  go_wp2_with fail
  refine (impl_bytesOfHex HBy.out hl HT.out).mono ?_
  rintro e w1 ⟨v, L, rfl, hL, hx, o, b⟩
  obtain ⟨ad, cap, rfl, q, _⟩ := Reads.own o hx.bd
  obtain ⟨m, hm⟩ : ∃ m, L.length = m := ⟨_, rfl⟩
  rw [hm] at q
  simp only [hm]
  have HM := hid hm
  have HX := hid hx
  have HL := hid hL
  have HQ := hid q
  have HB := hid b
  clear o b q hx hL hm
  by_cases h8 : m = 8
  · subst h8
    go_wp2_with fail
    refine (impl_getHigh cap HQ.out rfl).mono ?_
    rintro e w2 ⟨rfl, e2⟩
    subst e2
    go_wp2_with fail
    refine (impl_FloatOf (low L) _).mono ?_
    rintro e w3 ⟨rfl, e3⟩
    subst e3
    go_wp2_with fail
    go_ret
    exact ⟨L, low L, rfl, low_lt L 0 (by omega), HL.out, HX.out, by rw [if_pos HM.out], HB.out⟩
  · go_wp2_with fail
    refine (impl_getHigh_no ad m cap h8 _).mono ?_
    rintro e w2 ⟨rfl, e2⟩
    subst e2
    go_wp2_with fail
    refine (impl_FloatOf 0 _).mono ?_
    rintro e w3 ⟨rfl, e3⟩
    subst e3
    go_wp2_with fail
    go_ret
    exact ⟨L, 0, rfl, by omega, HL.out, HX.out, by rw [if_neg (by rw [HM.out]; exact h8)], HB.out⟩
end Go.Proofs.YtoppccfgcccijaaDoor
