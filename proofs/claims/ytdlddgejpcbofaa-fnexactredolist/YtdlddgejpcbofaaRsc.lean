/- Scans of a log, plain; a list of records and one more. No conditions. -/
import Derived.Test.YtdlddgejpcbofaaRl
namespace Go.Proofs.Ytdlddgejpcbofaa
open Go.RowKit
set_option maxRecDepth 100000

def scanF (zs : List Int) : Nat → Int → Int → List Rc × Int
  | 0, at', _ => ([], at')
  | f + 1, at', lsn => if (raOf zs at').c = 0 ∧ (raOf zs at').r.L = lsn then ((raOf zs at').r :: (scanF zs f (raOf zs at').n (lsn + 1)).1, (scanF zs f (raOf zs at').n (lsn + 1)).2) else ([], at')
def scanL (zs : List Int) (lsn : Int) : List Rc × Int := scanF zs (zs.length + 1) 0 lsn
theorem scan_step {zs : List Int} {f : Nat} {at' lsn : Int} (h : (raOf zs at').c = 0 ∧ (raOf zs at').r.L = lsn) : scanF zs (f + 1) at' lsn = ((raOf zs at').r :: (scanF zs f (raOf zs at').n (lsn + 1)).1, (scanF zs f (raOf zs at').n (lsn + 1)).2) := by rw [scanF, if_pos h]
theorem scan_stop {zs : List Int} {f : Nat} {at' lsn : Int} (h : ¬ ((raOf zs at').c = 0 ∧ (raOf zs at').r.L = lsn)) : scanF zs f at' lsn = ([], at') := by
  cases f with
  | zero => rfl
  | succ f => rw [scanF, if_neg h]
theorem scan_big {zs : List Int} (hz : bdL zs) (h : 65536 < zs.length) (lsn : Int) : scanL zs lsn = ([], 0) := scan_stop (fun e => by have := (ra_pos e.1 hz).1; omega)
theorem scanF_bd {zs : List Int} (hz : bdL zs) : ∀ (f : Nat) (at' lsn : Int), (∀ r ∈ (scanF zs f at' lsn).1, bdL r.D ∧ r.D.length ≤ 1000) ∧ (0 ≤ at' → at' ≤ 65536 → (scanF zs f at' lsn).1.length ≤ f ∧ 0 ≤ (scanF zs f at' lsn).2 ∧ (scanF zs f at' lsn).2 ≤ 65536)
  | 0, at', lsn => ⟨by simp [scanF], fun h1 h2 => ⟨by simp [scanF], h1, h2⟩⟩
  | f + 1, at', lsn => by
    by_cases h : (raOf zs at').c = 0 ∧ (raOf zs at').r.L = lsn
    · rw [scan_step h]
      obtain ⟨i1, i2⟩ := scanF_bd hz f (raOf zs at').n (lsn + 1)
      have hn := ra_n_bd hz at'
      obtain ⟨j1, j2, j3⟩ := i2 hn.1 hn.2.1
      refine ⟨fun r hr => ?_, fun _ _ => ⟨by simpa using j1, j2, j3⟩⟩
      rcases List.mem_cons.1 hr with rfl | hr
      · exact ⟨ra_r_bd hz at', ra_r_len zs at'⟩
      · exact i1 r hr
    · rw [scan_stop h]
      exact ⟨by simp, fun h1 h2 => ⟨by simp, h1, h2⟩⟩
theorem scanL_big0 {zs : List Int} (hz : bdL zs) (lsn : Int) : (scanL zs lsn).1.length ≤ 65537 := by
  by_cases h : 65536 < zs.length
  · rw [scan_big hz h]; simp
  · have := ((scanF_bd hz (zs.length + 1) 0 lsn).2 (by omega) (by omega)).1
    unfold scanL; omega

theorem OwnR.push {u2 w4 : World} {lo mid : Nat} {va a3 : Option Addr} {k vc m3 c3 : Nat} {v' : Value} {acc : List Rc} {K L X P S : Int} {Dt : List Int} {ys : List Value} (hy : ys.length = acc.length) (hB : Bands u2 lo mid ys (acc.map (·.D))) (h1 : lo ≤ mid) (h2 : mid ≤ u2.heap.size)
    (ho2 : u2.ownsRow lo 41 6 (.slice va k vc) k (cellsR acc ys)) (od : u2.ownsRow mid 5 1 (.slice a3 m3 c3) m3 (bys Dt)) (hbd : bdL Dt) (hm : Dt.length = m3) (hk : acc.length = k)
    (o4 : w4.ownsRow lo 41 6 v' (k + 1) (cellsR acc ys ++ [.int .i64 K, .int .i64 L, .int .i64 X, .int .i64 P, .int .i64 S, .slice a3 m3 c3])) (g4 : u2.grownBy w4 (Value.slice va k vc).ownBlock) : OwnR w4 lo w4.heap.size v' (acc ++ [⟨K, L, X, P, S, Dt⟩]) := by
  have hB3 := hB.snoc h1 h2 (by rw [hm]; exact od) hbd (Nat.le_refl _)
  have hB4 := (hB3.beside g4 (fun i => owns_ne (hB3.own i) ho2 (by decide))).mono (Nat.le_refl _) g4.size
  refine ⟨⟨ys ++ [.slice a3 m3 c3], by simp [hy], by rw [List.map_append]; exact hB4, ?_⟩, fun g hg => (o4.lt g hg).2⟩
  rw [cellsR_snoc acc ys _ _ hy]
  simpa [hk] using o4
theorem Try.infoRc : (Try.prog.info? 41).map (fun i => (i.zero, i.size, i.bytes)) = some (some (.agg #[.int .i64 0, .int .i64 0, .int .i64 0, .int .i64 0, .int .i64 0, .slice none 0 0]), 6, 64) := by kernel_rfl
end Go.Proofs.Ytdlddgejpcbofaa
