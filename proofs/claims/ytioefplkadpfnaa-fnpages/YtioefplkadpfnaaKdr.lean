/- Values' bytes, bytes read low and high, the bounds of keys' and values' bytes: four texts in one. -/
import Derived.Test.YtioefplkadpfnaaIt9
section
namespace Go.Proofs.Ytioefplkadpfnaa
open Go.RowKit

/-- A value's bytes. -/
def valB (K N : Int) (f n : Nat) (zs : List Int) : List Int := if okI K N f n = true ∧ K ≠ 0 then bytesI K N (fbits f) zs else []

set_option maxRecDepth 100000 in
set_option maxHeartbeats 3200000 in
theorem spec_ValueBytes (K N : Int) (f : Nat) {ad : Option Addr} {n : Nat} (cap : Nat) (hnil : ad = none → cap = 0) {zs : List Int} {w : World} (h : Reads w ad n zs) (hn : n ≤ 2097152) (hN0 : -9223372036854775808 ≤ N) (hN1 : N ≤ 9223372036854775807) (hf : f < 18446744073709551616) :
    Calls Try.prog 77 #[.agg #[.int .i64 K, .int .i64 N, .float .f64 f, .slice ad n cap]] w fun e w' => ∃ v, e = .returned v ∧ w'.ownsRow w.heap.size 5 1 v (valB K N f n zs).length (bys (valB K N f n zs)) ∧ Below w.heap.size w w' := by
  have hA : Below w.heap.size w (w.alloc (.cells #[.int .i64 K, .int .i64 N, .float .f64 f, .slice ad n cap] 63)) := (Below.refl _ _).alloc (Nat.le_refl _) _
  have hX := Box.new w K N f ad n cap 63
  have h0 := h.below hA (Nat.le_refl _)
  have z1 := alloc_size w (.cells #[.int .i64 K, .int .i64 N, .float .f64 f, .slice ad n cap] 63)
  have hI := spec_ItemOk K N f ad n cap hf hn
  by_cases hok : okI K N f n = true ∧ K ≠ 0
  · have e : valB K N f n zs = bytesI K N (fbits f) zs := by rw [valB, if_pos hok]
    rw [e]
    obtain ⟨hok1, hok2⟩ := hok
    rw [hok1] at hI
    have q : (K == 0) = false := beq_eq_false_iff_ne.2 hok2
    have hK : K = 1 ∨ K = 2 ∨ K = 3 := by
      simp only [okI, decide_eq_true_eq] at hok1
      omega
    clear e
    go_enter Try.func77, Try.ntmps77
    go_wp2_with fail
    refine (hI _).mono ?_
    rintro e w1 ⟨rfl, b1⟩
    have B1 := hA.trans (b1.mono hA.size)
    obtain ⟨c0, c1, c2, c3⟩ := hX.below b1 (by omega)
    have h1 := hid (h0.below b1 (Nat.le_refl _))
    have hr := hid (spec_FloatBits f hf)
    have hfl := fbits_lt f hf
    have HB := hid (fun (W : World) (hW : Reads W ad n zs) => spec_l3bytes K N f (fbits f) cap hnil hW hn hN0 hN1 hfl hK)
    have HB1 := hid B1
    have X1 := hid (hX.below b1 (by omega))
    have ZZ := hid (show w.heap.size < w1.heap.size by have := b1.size; omega)
    clear hA b1 B1 hX h0 z1 hI h hK hok1 hok2 hnil
    go_wp2_with fail
    go_region_held3 (fun W => W.cell? ⟨w.heap.size, 0, none⟩ = some (.int .i64 K) ∧ W.cell? ⟨w.heap.size, 1, none⟩ = some (.int .i64 N) ∧ W.cell? ⟨w.heap.size, 2, none⟩ = some (.float .f64 f) ∧ W.cell? ⟨w.heap.size, 3, none⟩ = some (.slice ad n cap)) (first | exact ⟨k0, k1, k2, k3⟩ | exact ⟨by simpa using c0, by simpa using c1, by simpa using c2, by simpa using c3⟩) (first
      | (go_at_call 94; refine (hr.out _).mono ?_; rintro e w2 ⟨rfl, rfl⟩)
      | (go_at_call 92; refine (HB.out _ (h1.out.below ((Still.drewN w1 _).below _) (Nat.le_refl _))).mono ?_; rintro e w3 ⟨v, rfl, o3, b3⟩; obtain ⟨k0, k1, k2, k3⟩ := (X1.out.below ((Still.drewN w1 _).below w1.heap.size) ZZ.out).below b3 ZZ.out))
    have B3 : Below w.heap.size w w3 := (HB1.out.trans ((Still.drewN w1 _).below _)).trans (b3.mono (by have := ZZ.out; show w.heap.size ≤ w1.heap.size; omega))
    have O3 := hid (owns_base (base' := w.heap.size) o3 (by have := ZZ.out; show w.heap.size ≤ w1.heap.size; omega))
    clear o3 b3
    go_wp2_with fail
    go_ret
    exact ⟨_, rfl, O3.out, B3⟩
  · have e : valB K N f n zs = [] := by rw [valB, if_neg hok]
    rw [e]
    clear e
    by_cases hok1 : okI K N f n = true
    · rw [hok1] at hI
      have q : (K == 0) = true := beq_iff_eq.2 (Classical.byContradiction fun e => hok ⟨hok1, e⟩)
      go_enter Try.func77, Try.ntmps77
      go_wp2_with fail
      refine (hI _).mono ?_
      rintro e w1 ⟨rfl, b1⟩
      have B1 := hA.trans (b1.mono hA.size)
      obtain ⟨c0, c1, c2, c3⟩ := hX.below b1 (by omega)
      clear hA b1 hX h0 z1
      go_wp2_with fail
      go_ret
      exact ⟨_, rfl, World.ownsRow_nil _ _ _ _, B1⟩
    · have hok' : okI K N f n = false := by simpa using hok1
      rw [hok'] at hI
      go_enter Try.func77, Try.ntmps77
      go_wp2_with fail
      refine (hI _).mono ?_
      rintro e w1 ⟨rfl, b1⟩
      have B1 := hA.trans (b1.mono hA.size)
      clear hA b1 hX h0 z1
      go_wp2_with fail
      go_ret
      exact ⟨_, rfl, World.ownsRow_nil _ _ _ _, B1⟩
end Go.Proofs.Ytioefplkadpfnaa
end

section
namespace Go.Proofs.Ytioefplkadpfnaa
open Go.RowKit

/-- The number that bytes are, modulo 2^64. -/
def low (zs : List Int) : Nat := zs.foldl (fun x b => (x * 256 + b.toNat) % 18446744073709551616) 0
theorem low_lt : ∀ (zs : List Int) (x : Nat), x < 18446744073709551616 → zs.foldl (fun x b => (x * 256 + b.toNat) % 18446744073709551616) x < 18446744073709551616
  | [], _, h => h
  | b :: zs, x, _ => low_lt zs _ (Nat.mod_lt _ (by omega))
theorem low_step (zs : List Int) (k : Nat) (h : k < zs.length) : low (zs.take (k + 1)) = (low (zs.take k) * 256 + (zs.getD k 0).toNat) % 18446744073709551616 := by
  unfold low
  rw [List.take_add_one, List.getElem?_eq_getElem h, Option.toList_some, List.foldl_append]
  simp [List.getD, h]
theorem or_shl (x b : Nat) (hb : b < 256) : bits .or .u64 (IntKind.u64.wrap ((x : Int) * 256)) (b : Int) = (((x * 256 + b) % 18446744073709551616 : Nat) : Int) := by
  have e : IntKind.u64.wrap ((x : Int) * 256) = ((x * 256 % 18446744073709551616 : Nat) : Int) := by simp [IntKind.wrap, IntKind.bits, IntKind.signed]
  rw [e, u64_or_nat _ _ (Nat.mod_lt _ (by omega)) (by omega), nat_join 8 _ _ (by omega) (by omega)]
  congr 1
  omega

end Go.Proofs.Ytioefplkadpfnaa
end

section
namespace Go.Proofs.Ytioefplkadpfnaa
open Go.RowKit

theorem own_nil {w : World} {base : Nat} {e : TypeId} {s n m cap : Nat} {ad : Option Addr} {xs : List Value} (h : w.ownsRow base e s (.slice ad n cap) m xs) : ad = none → cap = 0 := by
  intro hn
  rcases h.2 with ⟨h1, _⟩ | ⟨g, c, cur, h1, _⟩
  · exact (Value.slice.inj h1).2.2
  · rw [hn] at h1; cases (Value.slice.inj h1).1

theorem bytesI_bd (K N : Int) (B : Nat) (zs : List Int) (h0 : 0 ≤ K) (h1 : K ≤ 255) (hz : ∀ i, 0 ≤ zs.getD i 0 ∧ zs.getD i 0 ≤ 255) (hl : zs.length ≤ 1048576) : (∀ i, 0 ≤ (bytesI K N B zs).getD i 0 ∧ (bytesI K N B zs).getD i 0 ≤ 255) ∧ (bytesI K N B zs).length ≤ 2097152 := by
  have key : ∀ ts : List Int, (∀ i, 0 ≤ ts.getD i 0 ∧ ts.getD i 0 ≤ 255) → ts.length ≤ 1048576 → (∀ i, 0 ≤ ([K] ++ ts).getD i 0 ∧ ([K] ++ ts).getD i 0 ≤ 255) ∧ ([K] ++ ts).length ≤ 2097152 := by
    intro ts h hl
    refine ⟨fun i => ?_, by simp; omega⟩
    match i with
    | 0 => exact ⟨h0, h1⟩
    | i + 1 => exact h i
  unfold bytesI
  apply key
  · intro i
    split
    · exact hi8_bd _ _ i
    · split
      · exact hi8_bd _ _ i
      · exact hz i
  · split
    · rw [hi8_length]; omega
    · split
      · rw [hi8_length]; omega
      · exact hl

theorem nil_bd : (∀ i, 0 ≤ ([] : List Int).getD i 0 ∧ ([] : List Int).getD i 0 ≤ 255) ∧ ([] : List Int).length ≤ 2097152 := ⟨fun i => by simp, by simp⟩

theorem okI_K {K N : Int} {f n : Nat} (h : okI K N f n = true) : 0 ≤ K ∧ K ≤ 3 := by
  have := of_decide_eq_true h
  omega
theorem okK_I {K N : Int} {f n : Nat} (h : okK K N f n = true) : okI K N f n = true ∧ K ≠ 0 ∧ f ≠ 9223372036854775808 := by
  unfold okK at h
  rw [Bool.and_eq_true] at h
  exact ⟨h.1, of_decide_eq_true h.2⟩

theorem keyB_bd {K N : Int} {f n : Nat} {zs RZ : List Int} (hR : keyB K N f n zs = RZ) (hz : ∀ i, 0 ≤ zs.getD i 0 ∧ zs.getD i 0 ≤ 255) (hl : zs.length ≤ 1048576) : (∀ i, 0 ≤ RZ.getD i 0 ∧ RZ.getD i 0 ≤ 255) ∧ RZ.length ≤ 2097152 := by
  subst hR
  unfold keyB
  split
  · rename_i h
    have hk := okI_K (okK_I h).1
    exact bytesI_bd K N _ zs hk.1 (by omega) hz hl
  · exact nil_bd
theorem valB_bd {K N : Int} {f n : Nat} {zs RZ : List Int} (hR : valB K N f n zs = RZ) (hz : ∀ i, 0 ≤ zs.getD i 0 ∧ zs.getD i 0 ≤ 255) (hl : zs.length ≤ 1048576) : (∀ i, 0 ≤ RZ.getD i 0 ∧ RZ.getD i 0 ≤ 255) ∧ RZ.length ≤ 2097152 := by
  subst hR
  unfold valB
  split
  · rename_i h
    have hk := okI_K h.1
    exact bytesI_bd K N _ zs hk.1 (by omega) hz hl
  · exact nil_bd

end Go.Proofs.Ytioefplkadpfnaa
end

section
namespace Go.Proofs.Ytioefplkadpfnaa
open Go.RowKit

theorem eight {zs : List Int} (h : zs.length = 8) : ∃ a b c d e f g i, zs = [a, b, c, d, e, f, g, i] := by
  match zs, h with
  | [a, b, c, d, e, f, g, i], _ => exact ⟨a, b, c, d, e, f, g, i, rfl⟩

theorem low_eight (a b c d e f g i : Nat) (ha : a < 256) (hb : b < 256) (hc : c < 256) (hd : d < 256) (he : e < 256) (hf : f < 256) (hg : g < 256) (hi : i < 256) :
    low [(a : Int), b, c, d, e, f, g, i] = a * 72057594037927936 + b * 281474976710656 + c * 1099511627776 + d * 4294967296 + e * 16777216 + f * 65536 + g * 256 + i := by
  simp only [low, List.foldl_cons, List.foldl_nil, Int.toNat_natCast]
  omega

theorem hi8_low {zs : List Int} (h : zs.length = 8) (hB : ∀ i, 0 ≤ zs.getD i 0 ∧ zs.getD i 0 ≤ 255) : hi8 (low zs) 8 = zs := by
  obtain ⟨a, b, c, d, e, f, g, i, rfl⟩ := eight h
  have b0 := hB 0
  have b1 := hB 1
  have b2 := hB 2
  have b3 := hB 3
  have b4 := hB 4
  have b5 := hB 5
  have b6 := hB 6
  have b7 := hB 7
  simp only [List.getD_cons_zero, List.getD_cons_succ] at b0 b1 b2 b3 b4 b5 b6 b7
  obtain ⟨a, rfl⟩ := Int.eq_ofNat_of_zero_le b0.1
  obtain ⟨b, rfl⟩ := Int.eq_ofNat_of_zero_le b1.1
  obtain ⟨c, rfl⟩ := Int.eq_ofNat_of_zero_le b2.1
  obtain ⟨d, rfl⟩ := Int.eq_ofNat_of_zero_le b3.1
  obtain ⟨e, rfl⟩ := Int.eq_ofNat_of_zero_le b4.1
  obtain ⟨f, rfl⟩ := Int.eq_ofNat_of_zero_le b5.1
  obtain ⟨g, rfl⟩ := Int.eq_ofNat_of_zero_le b6.1
  obtain ⟨i, rfl⟩ := Int.eq_ofNat_of_zero_le b7.1
  rw [low_eight a b c d e f g i (by omega) (by omega) (by omega) (by omega) (by omega) (by omega) (by omega) (by omega)]
  have hr : List.range 8 = [0, 1, 2, 3, 4, 5, 6, 7] := by decide
  rw [hi8, hr]
  simp only [List.map_cons, List.map_nil, hb]
  simp only [show 8 * (7 - 0) = 56 from rfl, show 8 * (7 - 1) = 48 from rfl, show 8 * (7 - 2) = 40 from rfl, show 8 * (7 - 3) = 32 from rfl, show 8 * (7 - 4) = 24 from rfl, show 8 * (7 - 5) = 16 from rfl, show 8 * (7 - 6) = 8 from rfl, show 8 * (7 - 7) = 0 from rfl, List.cons.injEq, and_true]
  refine ⟨?_, ?_, ?_, ?_, ?_, ?_, ?_, ?_⟩ <;> omega

theorem low_hi8 (x : Nat) (hx : x < 18446744073709551616) : low (hi8 x 8) = x := by
  have hr : List.range 8 = [0, 1, 2, 3, 4, 5, 6, 7] := by decide
  rw [hi8, hr]
  simp only [List.map_cons, List.map_nil, hb]
  rw [low_eight _ _ _ _ _ _ _ _ (by omega) (by omega) (by omega) (by omega) (by omega) (by omega) (by omega) (by omega)]
  simp only [show 8 * (7 - 0) = 56 from rfl, show 8 * (7 - 1) = 48 from rfl, show 8 * (7 - 2) = 40 from rfl, show 8 * (7 - 3) = 32 from rfl, show 8 * (7 - 4) = 24 from rfl, show 8 * (7 - 5) = 16 from rfl, show 8 * (7 - 6) = 8 from rfl, show 8 * (7 - 7) = 0 from rfl]
  omega
end Go.Proofs.Ytioefplkadpfnaa
end
