/- The contract of the specification's l14ahead. Conditions: at most 2^21 edges, among the deeds. -/
import Derived.Test.YtnbpblephmjfnaaGreatVh14
namespace Go.Proofs.YtnbpblephmjfnaaGreat
open Go.RowKit
set_option maxRecDepth 100000
theorem fI_at : ∀ (E : List Pr) (j : Nat) (h : j < E.length), (fI E).getD (j * 2) 0 = ((E[j].1 : Nat) : Int) ∧ (fI E).getD (j * 2 + 1) 0 = ((E[j].2 : Nat) : Int)
 | [], j, h => by simp at h
 | p :: E, 0, _ => by simp [fI]
 | p :: E, j + 1, h => by
  have := fI_at E j (by simpa using h)
  rw [show fI (p :: E) = (p.1 : Int) :: (p.2 : Int) :: fI E by simp [fI], show (j + 1) * 2 = j * 2 + 1 + 1 by omega]
  simpa using this
def toB (lf : List Bool) (d : Nat) (p : Pr) : Bool := decide (p.2 = d) && lf.getD p.1 false
def ahV (E : List Pr) (lf : List Bool) (d : Nat) : Int × Bool := match E.find? (toB lf d) with
 | none => (0, false)
 | some p => ((p.1 : Int), true)
theorem ahV_some {E : List Pr} {lf : List Bool} {d j : Nat} (hj : j < E.length) (h : ∀ i (hi : i < j), toB lf d (E[i]'(by omega)) = false) (h1 : toB lf d E[j] = true) : ahV E lf d = ((E[j].1 : Int), true) := by
 have e : E.find? (toB lf d) = some E[j] := by
  rw [List.find?_eq_some_iff_getElem]
  exact ⟨h1, j, hj, rfl, fun i hi => by simpa using h i hi⟩
 unfold ahV
 rw [e]
theorem ahV_none {E : List Pr} {lf : List Bool} {d : Nat} (h : ∀ i (hi : i < E.length), toB lf d E[i] = false) : ahV E lf d = (0, false) := by
 have e : E.find? (toB lf d) = none := by
  rw [List.find?_eq_none]
  intro p hp
  obtain ⟨i, hi, rfl⟩ := List.getElem_of_mem hp
  simp [h i hi]
 unfold ahV
 rw [e]
set_option maxHeartbeats 6400000 in
theorem spec_l14ahead {a : Option Addr} {m : Nat} (c : Nat) {E : List Pr} {bl ol n : Nat} (cl : Nat) {lf : List Bool} (d : Nat) {w : World} (hE : ReadsP w a m (fI E)) (hm : E.length = m) (hm2 : m ≤ 2097152) (hB : ∀ i, i < n → w.cell? ⟨bl, ol + i, none⟩ = some (.bool (lf.getD i false))) (hlt : ∀ p ∈ E, p.1 < n) :
 Calls Tryz.prog 56 #[.slice a m c, .slice (some ⟨bl, ol, none⟩) n cl, .int .i64 (d : Int)] w fun e w' => e = .returned (.tuple #[.int .i64 (ahV E lf d).1, .bool (ahV E lf d).2]) ∧ w' = w := by
 obtain ⟨V, hV⟩ : ∃ V, ahV E lf d = V := ⟨_, rfl⟩
 rw [hV]
 have HV := hid hV
 have HE := hid hE
 have HM := hid hm
 have HB := hid hB
 have HLt := hid hlt
 clear hV hE hm hB hlt
 go_enter Tryz.func56, Tryz.ntmps56
 go_wp2_with fail
 go_loopw [8] (fun s wr => ∃ j : Nat, j ≤ m ∧ s = .int .i64 j ∧ Hid (∀ i (hi : i < E.length), i < j → toB lf d E[i] = false) ∧ wr = w) (fun s _ => m - (intOf s).toNat)
 case atStart => exact ⟨0, Nat.zero_le _, rfl, hid (fun i hi h => by omega), rfl⟩
 case round =>
  obtain ⟨j, hj, rfl, HNo, rfl⟩ := hrel
  by_cases hjm : j < m
  · have hjm' : (j : Int) < (m : Int) := by omega
    have hj0 : (0 : Int) ≤ (j : Int) := by omega
    have hje : j < E.length := by have := HM.out; omega
    obtain ⟨b, off, rfl, hc⟩ : ∃ b off, a = some ⟨b, off, none⟩ ∧ (wr.cell? ⟨b, off + j * 2, none⟩ = some (.int .i64 ((E[j].1 : Nat) : Int)) ∧ wr.cell? ⟨b, off + j * 2 + 1, none⟩ = some (.int .i64 ((E[j].2 : Nat) : Int))) := by
     rcases HE.out.cells with q | ⟨b, off, e, hc⟩
     · omega
     · refine ⟨b, off, e, ?_⟩
       have h1 := hc j hjm
       rw [(fI_at E j hje).1, (fI_at E j hje).2] at h1
       exact h1
    obtain ⟨c0, c1⟩ := hc
    have hx1 : E[j].1 < n := HLt.out _ (List.getElem_mem hje)
    have HYe := hid (fun (q : toB lf d E[j] = true) => show V = ((E[j].1 : Int), true) by rw [← HV.out]; exact ahV_some hje (fun i hi => HNo.out i (by omega) hi) q)
    have HNx := hid (fun (q : toB lf d E[j] = false) i (hi : i < E.length) (h : i < j + 1) => show toB lf d E[i] = false by
     by_cases hc : i < j
     · exact HNo.out i hi hc
     · have : i = j := by omega
       subst this; exact q)
    have HTo := hid (show toB lf d E[j] = (decide (E[j].2 = d) && lf.getD E[j].1 false) from rfl)
    generalize E[j] = p at *
    obtain ⟨x, y⟩ := p
    simp only at c0 c1 hx1 HYe HTo
    have hcb := HB.out x hx1
    have hx0 : (0 : Int) ≤ (x : Int) := by omega
    have hxn : (x : Int) < (n : Int) := by omega
    by_cases hyd : y = d
    · have hq : ((y : Int) == (d : Int)) = true := by simpa using (show (y : Int) = (d : Int) by omega)
      cases hlf : lf.getD x false with
      | true =>
       rw [hlf] at hcb
       have HF := hid (HYe.out (by rw [HTo.out, hlf, decide_eq_true hyd]; rfl))
       clear hyd hlf
       go_wp2_with fail
       go_ret2
       exact ⟨by rw [HF.out]; rfl, rfl⟩
      | false =>
       rw [hlf] at hcb
       have HN2 := hid (HNx.out (by rw [HTo.out, hlf, Bool.and_false]))
       clear hyd hlf
       go_wp2_with fail
       go_roundw
       case rel => exact ⟨j + 1, by omega, by go_num, HN2, by first | trivial | rfl⟩
       case measure => simp [intOf]; omega
    · have hq : ((y : Int) == (d : Int)) = false := by
       have : ¬ (y : Int) = (d : Int) := by omega
       simpa using this
      have HN2 := hid (HNx.out (by rw [HTo.out, decide_eq_false hyd, Bool.false_and]))
      clear hyd
      go_wp2_with fail
      go_roundw
      case rel => exact ⟨j + 1, by omega, by go_num, HN2, by first | trivial | rfl⟩
      case measure => simp [intOf]; omega
  · have hjm' : ¬ (j : Int) < (m : Int) := by omega
    have HF := hid (show V = (0, false) by rw [← HV.out]; exact ahV_none (fun i hi => HNo.out i hi (by have := HM.out; omega)))
    go_wp2_with fail
    go_ret2
    exact ⟨by rw [HF.out]; rfl, rfl⟩
end Go.Proofs.YtnbpblephmjfnaaGreat
