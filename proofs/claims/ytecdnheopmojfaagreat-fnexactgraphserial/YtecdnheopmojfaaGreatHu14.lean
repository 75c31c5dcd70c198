/- The contract of the program's lastWriter, with its plain meaning. Conditions: the writers are places of the numbers. -/
import Derived.Test.YtecdnheopmojfaaGreatHt14
namespace Go.Proofs.YtecdnheopmojfaaGreat
open Go.RowKit
set_option maxRecDepth 100000
def lwS (Nm : List Int) (lim : Int) (last : Int) (p : Nat) : Int := if Nm.getD p 0 < lim ∧ (last = -1 ∨ Nm.getD last.toNat 0 < Nm.getD p 0) then (p : Int) else last
def lastW (Nm : List Int) (lim : Int) (W : List Nat) : Int := W.foldl (lwS Nm lim) (-1)
theorem lastW_snoc (Nm : List Int) (lim : Int) (W : List Nat) {k : Nat} (h : k < W.length) : lastW Nm lim (W.take (k + 1)) = lwS Nm lim (lastW Nm lim (W.take k)) (W.getD k 0) := by
 unfold lastW
 rw [take_nat W h, List.foldl_append]; rfl
theorem lastW_is (Nm : List Int) (lim : Int) : ∀ (W : List Nat) (l : Int), (l = -1 ∨ ∃ q : Nat, l = (q : Int) ∧ q ∈ W) → ∀ V : List Nat, (∀ q ∈ V, q ∈ W) → (V.foldl (lwS Nm lim) l = -1 ∨ ∃ q : Nat, V.foldl (lwS Nm lim) l = (q : Int) ∧ q ∈ W)
 | W, l, h, [], _ => h
 | W, l, h, v :: V, hV => by
  refine lastW_is Nm lim W (lwS Nm lim l v) ?_ V (fun q hq => hV q (by simp [hq]))
  unfold lwS
  split
  · exact .inr ⟨v, rfl, hV v (by simp)⟩
  · exact h
theorem lastW_or (Nm : List Int) (lim : Int) (W : List Nat) (k : Nat) : lastW Nm lim (W.take k) = -1 ∨ ∃ q : Nat, lastW Nm lim (W.take k) = (q : Int) ∧ q ∈ W :=
 lastW_is Nm lim W (-1) (.inl rfl) (W.take k) (fun _ hq => List.mem_of_mem_take hq)
set_option maxHeartbeats 6400000 in
theorem impl_lastWriter {W : List Nat} {aw : Option Addr} {nw : Nat} (cw : Nat) (y : Value) {an : Option Addr} {n : Nat} (cn : Nat) {Nm : List Int} (lim : Int) {w : World} (hW : ReadsI w aw nw (nI W)) (hN : ReadsI w an n Nm) (hb : ∀ p ∈ W, p < n) (hnw : nw ≤ 1048576) :
 Calls Tryz.prog 46 #[.agg #[.slice aw nw cw, y], .slice an n cn, .int .i64 lim] w fun e w' => e = .returned (.int .i64 (lastW Nm lim W)) ∧ Below w.heap.size w w' := by
 have hWl : W.length = nw := by rw [← nI_len]; exact hW.len
 obtain ⟨V, hV⟩ : ∃ V, lastW Nm lim W = V := ⟨_, rfl⟩
 rw [hV]
 have HV := hid hV
 have HW := hid hW
 have HN := hid hN
 have HBd := hid hb
 have HB := hid (Below.alloc1 w (.cells #[.slice aw nw cw, y] 79))
 clear hV hW hN hb
 go_enter Tryz.func46, Tryz.ntmps46
 go_wp2_with fail
 go_loopw [7, 13] (fun s7 s13 wr => ∃ (k : Nat) (l : Int), k ≤ nw ∧ s13 = .int .i64 k ∧ s7 = .int .i64 l ∧ Hid (l = lastW Nm lim (W.take k)) ∧ Hid (Below w.heap.size w wr)) (fun _ s _ => nw - (intOf s).toNat)
 case atStart => exact ⟨0, -1, Nat.zero_le _, rfl, rfl, hid rfl, HB⟩
 case round =>
  clear HB
  obtain ⟨k, l, hk, rfl, rfl, HLa, HB⟩ := hrel
  by_cases hlt : k < nw
  · have hlt' : (k : Int) < (nw : Int) := by omega
    have hk0 : (0 : Int) ≤ (k : Int) := by omega
    obtain ⟨bw, ow, rfl, hc⟩ := readsI_at (HW.out.below HB.out (Nat.le_refl _)) hlt
    have hkW : k < W.length := by omega
    have hp1 : (nI W).getD k 0 = ((W.getD k 0 : Nat) : Int) := by simp [nI, List.getD, hkW]
    rw [hp1] at hc
    have hpn : W.getD k 0 < n := HBd.out _ (by rw [show W.getD k 0 = W[k] by simp [List.getD, hkW]]; exact List.getElem_mem hkW)
    have hor := lastW_or Nm lim W k
    have hsn := lastW_snoc Nm lim W hkW
    rw [← HLa.out] at hor hsn
    have HSn := hid hsn
    generalize W.getD k 0 = p at *
    clear hp1 hkW hsn
    obtain ⟨bn, on, rfl, hcp⟩ := readsI_at (HN.out.below HB.out (Nat.le_refl _)) hpn
    have hpn' : (p : Int) < (n : Int) := by omega
    have hp0 : (0 : Int) ≤ (p : Int) := by omega
    have HQ := hid (fun q (hq : q ∈ W) => show ∃ b off, (some ⟨bn, on, none⟩ : Option Addr) = some ⟨b, off, none⟩ ∧ wr.cell? ⟨b, off + q, none⟩ = some (.int .i64 (Nm.getD q 0)) from readsI_at (HN.out.below HB.out (Nat.le_refl _)) (HBd.out q hq))
    obtain ⟨x, hx⟩ : ∃ x, Nm.getD p 0 = x := ⟨_, rfl⟩
    rw [hx] at hcp
    have HX := hid hx
    clear hx
    by_cases hlim : x < lim
    · rcases hor with hl | ⟨q, hl, hq⟩
      · subst hl
        have HN2 := hid (show (p : Int) = lastW Nm lim (W.take (k + 1)) by rw [HSn.out]; unfold lwS; rw [HX.out, if_pos ⟨hlim, .inl rfl⟩])
        have hlim' : decide (x < lim) = true := decide_eq_true hlim
        go_wp2_with fail
        go_quiet (fail)
        go_wp2_with fail
        go_roundw
        case rel => exact ⟨k + 1, p, by omega, by go_num, rfl, HN2, by first | exact hid (bel_dN HB.out _) | exact hid (HB.out.trans ((Still.drew _).below _))⟩
        case measure => simp [intOf]; omega
      · subst hl
        obtain ⟨b2, o2, e2, hcq⟩ := HQ.out q hq
        obtain ⟨rfl, rfl⟩ : bn = b2 ∧ on = o2 := by simpa using e2
        have hqn : (q : Int) < (n : Int) := by have := HBd.out q hq; omega
        have hq0 : (0 : Int) ≤ (q : Int) := by omega
        have hm1 : ((q : Int) == -1) = false := by rw [beq_eq_false_iff_ne]; omega
        obtain ⟨z, hz⟩ : ∃ z, Nm.getD q 0 = z := ⟨_, rfl⟩
        rw [hz] at hcq
        have hlim' : decide (x < lim) = true := decide_eq_true hlim
        by_cases hzx : z < x
        · have HN2 := hid (show (p : Int) = lastW Nm lim (W.take (k + 1)) by rw [HSn.out]; unfold lwS; rw [HX.out, Int.toNat_natCast, hz, if_pos ⟨hlim, .inr hzx⟩])
          have hzx' : decide (z < x) = true := decide_eq_true hzx
          clear e2 hz
          go_wp2_with fail
          go_quiet (fail)
          go_wp2_with fail
          go_roundw
          case rel => exact ⟨k + 1, p, by omega, by go_num, rfl, HN2, by first | exact hid (bel_dN HB.out _) | exact hid (HB.out.trans ((Still.drew _).below _))⟩
          case measure => simp [intOf]; omega
        · have HN2 := hid (show (q : Int) = lastW Nm lim (W.take (k + 1)) by rw [HSn.out]; unfold lwS; rw [HX.out, Int.toNat_natCast, hz, if_neg (fun h => by rcases h.2 with h | h <;> omega)])
          have hzx' : decide (z < x) = false := decide_eq_false hzx
          clear e2 hz hzx
          go_wp2_with fail
          go_quiet (fail)
          go_wp2_with fail
          go_roundw
          case rel => exact ⟨k + 1, q, by omega, by go_num, rfl, HN2, by first | exact hid (bel_dN HB.out _) | exact hid (HB.out.trans ((Still.drew _).below _))⟩
          case measure => simp [intOf]; omega
    · have HN2 := hid (show l = lastW Nm lim (W.take (k + 1)) by rw [HSn.out]; unfold lwS; rw [HX.out, if_neg (fun h => hlim h.1)])
      have hlim' : decide (x < lim) = false := decide_eq_false hlim
      clear hor hlim
      go_wp2_with fail
      go_quiet (fail)
      go_wp2_with fail
      go_roundw
      case rel => exact ⟨k + 1, l, by omega, by go_num, rfl, HN2, by first | exact hid (bel_dN HB.out _) | exact hid (HB.out.trans ((Still.drew _).below _))⟩
      case measure => simp [intOf]; omega
  · have hlt' : ¬ (k : Int) < (nw : Int) := by omega
    have HE := hid (show V = l by rw [← HV.out, HLa.out, List.take_of_length_le (by omega)])
    go_wp2_with fail
    go_ret
    exact ⟨by rw [HE.out]; rfl, HB.out⟩
end Go.Proofs.YtecdnheopmojfaaGreat
