/- Marks of tracks that are the call's own; EdgeBegin, plain, and the contract of the specification's. Conditions: at most 2^20 tracks, reads and writes, texts of at most 2^21 bytes. -/
import Derived.Test.YtnhlfkffllbpiaaGreatEo13
import Derived.Test.YtnhlfkffllbpiaaGreatEm13
namespace Go.Proofs.YtnhlfkffllbpiaaGreat
open Go.RowKit
set_option maxRecDepth 100000
theorem markTrackS_own {lo hi : Nat} {a : Option Addr} {n : Nat} (c : Nat) {ts : List Tk} {w : World} (k : Int) (h : OwnT w lo hi (.slice a n c) ts) (hl : ts.length = n) (hn : n ≤ 2097152) (hs : sumT ts ≤ 2097152) (hk0 : 0 ≤ k) (hk1 : k ≤ 300000000) :
 Calls Tryz.prog 12 #[.slice a n c, .int .i64 k] w fun e w' => e = .returned (.int .i64 (k + sumU ts)) ∧ OwnT w' lo hi (.slice a n c) (mkTs k ts) ∧ Within lo hi w w' := by
 obtain ⟨ms, o, hb⟩ := h.b
 rw [hl] at o
 refine (markTrackS c k o hb hl hn hs hk0 hk1).mono ?_
 rintro e w' ⟨rfl, o', hb', kp⟩
 refine ⟨rfl, hb'.t (by rw [mkTs_length, hl]; exact o') h.top, kp.within (fun b hb2 => ?_)⟩
 rcases hb2 with hb2 | ⟨i, hb2⟩
 · exact ⟨(o.lt b hb2).1, h.top b hb2⟩
 · by_cases hi' : i < ts.length
   · exact (hb.own i hi').inr hb2
   · exfalso
     rw [List.getD_eq_getElem?_getD, List.getElem?_eq_none (by rw [hb.len]; omega)] at hb2
     rcases hb2 with (q | ⟨x, hx, _⟩) | (q | ⟨x, hx, _⟩)
     · cases q
     · cases hx
     · cases q
     · cases hx
def newT (xid now : Int) : Tk := ⟨xid, now, 0, false, [], [], false, false⟩
open Classical in
noncomputable def beginS (ts : List Tk) (xid now : Int) : List Tk := if tracksB ts = true ∧ tracksB (ts ++ [newT xid now]) = true then ts ++ [newT xid now] else []
open Classical in
noncomputable def beginC (ts : List Tk) (xid now : Int) : Int := if tracksB ts = true ∧ tracksB (ts ++ [newT xid now]) = true then 0 else 1
def AnsE (w' : World) (R : List Tk) (C : Int) (e : Ending) : Prop := ∃ a c, e = .returned (.tuple #[.slice a R.length c, .int .i64 C]) ∧ ReadsT w' a R
end Go.Proofs.YtnhlfkffllbpiaaGreat
