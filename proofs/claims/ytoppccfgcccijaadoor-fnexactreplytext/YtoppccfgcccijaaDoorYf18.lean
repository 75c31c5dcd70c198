/- The library's ParseUint at two bytes, base 16, 8 bits: what it gives where both are hexadecimal digits; that it answers whatever they are. Conditions: the library's ErrSyntax is there. -/
import Derived.Test.YtoppccfgcccijaaDoorYe18
import Derived.Test.YtoppccfgcccijaaDoorShb18
import Derived.Test.YtoppccfgcccijaaDoorShd18
import Derived.Lib.Hide
import Derived.Laws.Strings3
import Derived.Laws.Closers25
import Derived.Laws.Closers25b
import Derived.BigCall
import Derived.BigGuard
namespace Go.Proofs.YtoppccfgcccijaaDoor
open Go.RowKit
set_option maxRecDepth 100000

/-- Is this a hexadecimal digit as texts have it? -/
def lowX (c : Int) : Prop := (48 ≤ c ∧ c ≤ 57) ∨ (97 ≤ c ∧ c ≤ 102)
theorem lowX_hexD {d : Int} (h : 0 ≤ d ∧ d ≤ 15) : lowX (hexD d) := hexD_bd h
theorem or_low18 (c : Int) (h : 97 ≤ c ∧ c ≤ 102) : bits .or .u8 c 32 = c := by
  have : c = 97 ∨ c = 98 ∨ c = 99 ∨ c = 100 ∨ c = 101 ∨ c = 102 := by omega
  rcases this with rfl | rfl | rfl | rfl | rfl | rfl <;> decide +kernel
/-- The value behind k of the two digits. -/
def accX (c1 c2 : Int) : Nat → Int
  | 0 => 0
  | 1 => dv c1
  | _ => 16 * dv c1 + dv c2
set_option maxHeartbeats 32000000 in
theorem lib_ParseUint16 (c1 c2 : Int) (h1 : 0 ≤ c1 ∧ c1 ≤ 255) (h2 : 0 ≤ c2 ∧ c2 ≤ 255) (w : World) :
    Calls Tryd.prog 82 #[.string (str [c1, c2]), .int .i64 16, .int .i64 8] w fun e w' => ((∃ n : Int, 0 ≤ n ∧ n ≤ 255 ∧ (lowX c1 → lowX c2 → n = 16 * dv c1 + dv c2) ∧ e = .returned (.tuple #[.int .u64 n, .nilIface])) ∨ (¬ (lowX c1 ∧ lowX c2) ∧ e = .returned (.tuple #[.int .u64 0, .iface 103 (.int .i64 2)]))) ∧ Below w.heap.size w w' := by
  have hemp : (str [c1, c2]).toList.isEmpty = false := by rw [str_list]; rfl
  have hcv := Lib.run_convert_string_bytes (P := Tryd.prog) w 9 23 5 (str [c1, c2]) (u := .string) Tryd.underlying9 Tryd.underlying23 Tryd.underlying5
  have HBw := hid (bytes_below18 w (str [c1, c2]) 5)
  obtain ⟨ad, cap, e1, q, _⟩ := Reads.ownF (bytes_own18 (L := [c1, c2]) (fun i => by rcases i with _ | _ | i; exact h1; exact h2; simp) w 0) (fun i => by rcases i with _ | _ | i; exact h1; exact h2; simp)
  obtain ⟨rfl, _, rfl⟩ := Value.slice.inj e1
  have hB : ∀ j, j < 2 → (Lib.bytesWorld w 5 (str [c1, c2])).cell? ⟨w.heap.size, j, none⟩ = some (.int .u8 ([c1, c2].getD j 0)) := fun j hj => by
    rcases q.cells with h0 | ⟨b, off, e, hc⟩
    · cases h0
    · cases e
      have := hc j hj
      rwa [Nat.zero_add] at this
  have hsz : (str [c1, c2]).size = 2 := str_size18 _
  rw [hsz] at hcv
  clear q e1
  generalize Lib.bytesWorld w 5 (str [c1, c2]) = W1 at *
  generalize w.heap.size = g at *
  have HB := hid hB
  have H1 := hid h1
  have H2 := hid h2
  generalize hs0 : str [c1, c2] = s0 at *
  have hmv : IntKind.u64.wrap (IntKind.u64.wrap 256 - 1) = 255 := by
    rw [IntKind.wrap_u64, IntKind.wrap_u64]
    decide
  clear hB h1 h2 hs0
  go_enter Tryd.func82, Tryd.ntmps82
  go_wp2
  go_loop [12, 13, 101] (fun vu vn vi => ∃ (k : Nat) (a : Int), vu = .bool false ∧ vn = .int .u64 a ∧ vi = .int .i64 k ∧ k ≤ 2 ∧ 0 ≤ a ∧ a ≤ 255 ∧ (k ≤ 1 → a ≤ 15) ∧ (k = 0 → a = 0) ∧ Hid (lowX c1 → lowX c2 → a = accX c1 c2 k))
    (fun _ _ vi => 2 - (intOf vi).toNat)
  case atStart => exact ⟨0, 0, rfl, rfl, rfl, by omega, by omega, by omega, fun _ => by omega, fun _ => rfl, hid (fun _ _ => rfl)⟩
  case round =>
    obtain ⟨k, a, rfl, rfl, rfl, hk, a0, a1, ha, ha0, hh⟩ := hrel
    by_cases hkn : k < 2
    · have hc := HB.out k hkn
      have a2 := ha (by omega)
      have hcb : 0 ≤ [c1, c2].getD k 0 ∧ [c1, c2].getD k 0 ≤ 255 := by
        have : k = 0 ∨ k = 1 := by omega
        rcases this with rfl | rfl
        · exact H1.out
        · exact H2.out
      have HL := hid (show lowX c1 → lowX c2 → lowX ([c1, c2].getD k 0) from fun x y => by
        have : k = 0 ∨ k = 1 := by omega
        rcases this with rfl | rfl
        · exact x
        · exact y)
      have HA := hid (show lowX c1 → lowX c2 → a * 16 + dv ([c1, c2].getD k 0) = accX c1 c2 (k + 1) from fun x y => by
        rw [hh.out x y]
        have : k = 0 ∨ k = 1 := by omega
        rcases this with rfl | rfl
        · show 0 * 16 + dv c1 = dv c1; omega
        · show dv c1 * 16 + dv c2 = 16 * dv c1 + dv c2; omega)
      generalize [c1, c2].getD k 0 = c at *
      obtain ⟨x0, x1⟩ := hcb
      have hz0 := hid ha0
      clear ha hh ha0
      by_cases hdig : 48 ≤ c ∧ c ≤ 57
      · obtain ⟨d0, d1⟩ := hdig
        have HD := hid (show dv c = c - 48 by unfold dv unD; rw [if_pos ⟨d0, d1⟩]; rfl)
        have iov : a * 16 + (c - 48) ≤ 255 := by omega
        have ilo : 0 ≤ a * 16 + (c - 48) := by omega
        go_wp2
        refine ⟨⟨k + 1, a * 16 + (c - 48), rfl, (by first | rfl | (congr 1; omega)), (by first | rfl | (congr 1; omega)), by omega, by omega, by omega, fun _ => by have := hz0.out (by omega); omega, fun _ => by omega, hid (fun x y => by rw [← HA.out x y, HD.out])⟩, by simp [intOf]; omega⟩
      · have hv0 := bits_lo_u8 .or c 32
        have hv1 := bits_hi_u8 .or c 32
        have hu0 := bits_lo_u8 .or 95 32
        have hu1 := bits_hi_u8 .or 95 32
        have HO := hid (show 97 ≤ c ∧ c ≤ 102 → bits .or .u8 c 32 = c from or_low18 c)
        have HNl := hid (show lowX c → 97 ≤ c ∧ c ≤ 102 from fun h => h.resolve_left hdig)
        have HD := hid (show 97 ≤ c ∧ c ≤ 102 → dv c = c - 87 from fun h => by unfold dv unD; rw [if_neg (by omega), if_pos h]; rfl)
        obtain ⟨l, hl⟩ : ∃ l, bits .or .u8 c 32 = l := ⟨_, rfl⟩
        rw [hl] at hv0 hv1 HO
        have HLl := hid hl
        clear hl
        by_cases hlet : 97 ≤ l ∧ l ≤ 102
        · obtain ⟨l0, l1⟩ := hlet
          have iov : a * 16 + (l - 87) ≤ 255 := by omega
          have ilo : 0 ≤ a * 16 + (l - 87) := by omega
          have h95 : ¬ c = 95 := fun e => by rw [e] at HLl; have := HLl.out; have h7 : bits .or .u8 95 32 = 127 := by decide +kernel
                                             omega
          have iw : l - 97 + 10 = l - 87 := by omega
          go_wp2_with (go_at_call 91; refine (sh_internal_strconv_lower _ _).mono ?_; rintro e w' ⟨rfl, rfl⟩; try rw [HLl.out])
          all_goals
            refine ⟨⟨k + 1, a * 16 + (l - 87), rfl, (by first | rfl | (congr 1; omega)), (by first | rfl | (congr 1; omega)), by omega, by omega, by omega, fun _ => by have := hz0.out (by omega); omega, fun _ => by omega, hid (fun x y => by have hc := HNl.out (HL.out x y); have h3 := HO.out hc; have h4 := HD.out hc; rw [← HA.out x y, h4, h3])⟩, by simp [intOf]; omega⟩
        · have HN := hid (show ¬ (lowX c1 ∧ lowX c2) from fun h => by have hc := HNl.out (HL.out h.1 h.2); have h3 := HO.out hc; omega)
          go_wp2_with (go_at_call 91; refine (sh_internal_strconv_lower _ _).mono ?_; rintro e w' ⟨rfl, rfl⟩; try rw [HLl.out])
          all_goals go_ret2
          all_goals first | exact ⟨.inr ⟨HN.out, rfl⟩, HBw.out⟩ | exact ⟨.inr ⟨fun x y => HN.out ⟨x, y⟩, rfl⟩, HBw.out⟩
    · obtain rfl : k = 2 := by omega
      clear ha ha0
      have HH := hid hh.out
      clear hh
      go_wp2
      go_ret2
      exact ⟨.inl ⟨a, a0, a1, fun x y => by rw [HH.out x y]; rfl, rfl⟩, HBw.out⟩
/-- What the library's variables hold: the table of powers of ten, the two errors. -/
structure LibT (w : World) : Prop where
  pow : PowT w
  syn : ∃ tp p, w.var? Tryd.prog "strconv.ErrSyntax" = some #[.iface tp p]
  rng : ∃ tp p, w.var? Tryd.prog "strconv.ErrRange" = some #[.iface tp p]
theorem LibT.below {w w' : World} {B : Nat} (h : LibT w) (b : Below B w w') (hB : w.heap.size ≤ B) : LibT w' := by
  obtain ⟨hp, ⟨tp, p, hs⟩, ⟨tq, q, hr⟩⟩ := h
  exact ⟨hp.below b hB, ⟨tp, p, var_below18 hs b hB⟩, ⟨tq, q, var_below18 hr b hB⟩⟩
theorem LibT.cell {w : World} (h : LibT w) : ∃ tp p, w.cell? ⟨1, 0, none⟩ = some (.iface tp p) := by
  obtain ⟨tp, p, hs⟩ := h.syn
  exact ⟨tp, p, by simpa using World.var?_cell (g := 1) (by kernel_rfl) hs 0⟩
set_option maxHeartbeats 3200000 in
theorem impl_ParseUint (c1 c2 : Int) (h1 : 0 ≤ c1 ∧ c1 ≤ 255) (h2 : 0 ≤ c2 ∧ c2 ≤ 255) {w : World} (h : LibT w) :
    Calls Tryd.prog 72 #[.string (str [c1, c2]), .int .i64 16, .int .i64 8] w fun e w' => (∃ (n : Int) (x : Value), 0 ≤ n ∧ n ≤ 255 ∧ (lowX c1 → lowX c2 → n = 16 * dv c1 + dv c2) ∧ e = .returned (.tuple #[.int .u64 n, x]) ∧ (x = .nilIface ∨ ∃ t p, x = .iface t p)) ∧ Below w.heap.size w w' := by
  have HL := hid h
  have hsz : (str [c1, c2]).size = 2 := str_size18 _
  have HS := hid (show (str [c1, c2]).size ≤ 281474976710656 by omega)
  clear h hsz
  go_enter Tryd.func72, Tryd.ntmps72
  go_wp2_with fail
  refine (lib_ParseUint16 c1 c2 h1 h2 _).mono ?_
  rintro e w1 ⟨hh, b⟩
  have HB := hid b
  have HL1 := hid (HL.out.below b (Nat.le_refl _))
  clear b
  rcases hh with ⟨n, n0, n1, hn, rfl⟩ | ⟨hn, rfl⟩
  · have HN := hid hn
    clear hn
    go_wp2_with fail
    go_ret2
    exact ⟨⟨n, .nilIface, n0, n1, HN.out, rfl, .inl rfl⟩, HB.out⟩
  · have HN := hid hn
    clear hn
    obtain ⟨tp, p, hv⟩ := HL1.out.cell
    go_wp2_with fail
    refine (sh_strconv_toError_syntax _ _ 16 8 (.iface tp p) _ HS.out hv (.inr ⟨tp, p, rfl⟩)).mono ?_
    rintro e w2 ⟨N, rfl, _, _, b⟩
    have HB2 := hid (HB.out.trans (b.mono HB.out.size))
    clear b
    go_wp2_with fail
    go_ret2
    exact ⟨⟨0, _, by omega, by omega, fun x y => absurd ⟨x, y⟩ HN.out, rfl, .inr ⟨_, _, rfl⟩⟩, HB2.out⟩
end Go.Proofs.YtoppccfgcccijaaDoor
