/- Slices of whole numbers: what they read as; the contracts of the laws' toIntS, eqIntS, markIntS, heldIntS. Conditions: at most 2^21 of them. -/
import Derived.Test.YtoppccfgcccijaaDoorMga
namespace Go.Proofs.YtoppccfgcccijaaDoor
open Go.RowKit
set_option maxRecDepth 100000

/-- The byte cells of a list of numbers. -/
def ins (zs : List Int) : List Value := zs.map (Value.int .i64)

theorem ins_length (zs : List Int) : (ins zs).length = zs.length := by simp [ins]


/-- A slice of n bytes at 'ad' reads, in the world w, as the numbers zs. -/
structure ReadsI (w : World) (ad : Option Addr) (n : Nat) (zs : List Int) : Prop where
  len : zs.length = n
  cells : n = 0 ∨ ∃ b off, ad = some ⟨b, off, none⟩ ∧ ∀ i, i < n → w.cell? ⟨b, off + i, none⟩ = some (.int .i64 (zs.getD i 0))
  bd : ∀ i, -9223372036854775808 ≤ zs.getD i 0 ∧ zs.getD i 0 ≤ 9223372036854775807


theorem ReadsI.below {w w' : World} {ad : Option Addr} {n : Nat} {zs : List Int} (h : ReadsI w ad n zs) {B : Nat} (hb : Below B w w') (hB : w.heap.size ≤ B) : ReadsI w' ad n zs := by
  refine ⟨h.len, ?_, h.bd⟩
  rcases h.cells with h0 | ⟨b, off, rfl, hc⟩
  · exact .inl h0
  · refine .inr ⟨b, off, rfl, fun i hi => ?_⟩
    have hc' := hc i hi
    have := World.block_lt_of_cell? w _ hc'
    rw [hb.cell (p := ⟨b, off + i, none⟩) (by simp at this ⊢; omega)]
    exact hc'


/-- A row of the call's own, read. -/
theorem ReadsI.own {w : World} {base : Nat} {v : Value} {n : Nat} {zs : List Int} (h : w.ownsRow base 3 1 v n (ins zs)) (hbd : ∀ i, -9223372036854775808 ≤ zs.getD i 0 ∧ zs.getD i 0 ≤ 9223372036854775807) :
    ∃ ad cap, v = .slice ad n cap ∧ ReadsI w ad n zs ∧ (ad = none ∨ ∃ g, ad = some ⟨g, 0, none⟩ ∧ base ≤ g ∧ g < w.heap.size) := by
  have hl : zs.length = n := by have := h.1; simpa [ins] using this
  rcases h.2 with ⟨rfl, rfl⟩ | ⟨g, cap, cur, rfl, hb, hg, hnc, hcm, hcs, htake⟩
  · exact ⟨none, 0, rfl, ⟨hl, .inl rfl, hbd⟩, .inl rfl⟩
  · refine ⟨_, cap, rfl, ⟨hl, .inr ⟨g, 0, rfl, fun i hi => ?_⟩, hbd⟩, .inr ⟨g, rfl, hb, (Array.getElem?_eq_some_iff.1 hg).1⟩⟩
    rw [Nat.zero_add, h.cellAt i (by omega)]
    simp [ins, hl, hi]


/-- Reading is kept while another row is written. -/
theorem ReadsI.other {w w' : World} {ad : Option Addr} {n : Nat} {zs : List Int} (h : ReadsI w ad n zs) {row : Option Nat} (hg : w.grownBy w' row) (hne : ∀ a, ad = some a → some a.block ≠ row) : ReadsI w' ad n zs := by
  refine ⟨h.len, ?_, h.bd⟩
  rcases h.cells with h0 | ⟨b, off, rfl, hc⟩
  · exact .inl h0
  · exact .inr ⟨b, off, rfl, fun i hi => hg.cell (hc i hi) (hne ⟨b, off, none⟩ rfl)⟩


/-- What markIntS writes: k, k + 1 .., as bytes. -/
def marksI (k : Int) (n : Nat) : List Int := (List.range n).map fun i => (k + (i : Nat)) 

theorem marksI_length (k : Int) (n : Nat) : (marksI k n).length = n := by simp [marksI]

theorem marksI_succ (k : Int) (n : Nat) : marksI k (n + 1) = marksI k n ++ [(k + (n : Nat)) ] := by simp [marksI, List.range_succ]

theorem marksI_at (k : Int) (n i : Nat) (h : i < n) : (marksI k n).getD i 0 = (k + (i : Nat))  := by simp [marksI, h]

theorem ins_append (a b : List Int) : ins (a ++ b) = ins a ++ ins b := by simp [ins]


/-- A slice of bytes that came in, as the row's step tells it, read. -/
theorem readsI_in {w : World} {a : Option Addr} {len cap : Nat} {zs : List Int}
    (h : (a = none ∧ len = 0 ∧ cap = 0 ∧ zs = []) ∨ ∃ x, a = some x ∧ len ≤ cap ∧ cap ≤ maxLen ∧ zs.length = cap ∧ (∀ i, i < zs.length → w.cell? (x.add i) = some (.int .i64 (zs.getD i 0))) ∧ ∀ n ∈ zs, (Lit.int .i64 n).wf = true) :
    ReadsI w a len (zs.take len) := by
  rcases h with ⟨rfl, rfl, rfl, rfl⟩ | ⟨x, rfl, hlc, hm, hz, hc, hwf⟩
  · exact ⟨rfl, .inl rfl, by simp⟩
  · refine ⟨by simp; omega, ?_, ?_⟩
    · by_cases h0 : len = 0
      · exact .inl h0
      · obtain ⟨b, off, rfl, hc'⟩ := ints_at hc (by omega)
        refine .inr ⟨b, off, rfl, fun i hi => ?_⟩
        rw [hc' i (by omega)]
        simp [hi]
    · intro i
      by_cases hi : i < (zs.take len).length
      · rw [List.getD_eq_getElem?_getD, List.getElem?_eq_getElem hi]
        exact bounds_i64 (hwf _ (List.mem_of_mem_take (List.getElem_mem hi)))
      · rw [List.getD_eq_getElem?_getD, List.getElem?_eq_none (by omega)]; simp


/-- The cells that an append or a copy takes over. -/
theorem ReadsI.news {w : World} {a : Addr} {n : Nat} {zs : List Int} (h : ReadsI w (some a) n zs) : ∀ j u, (ins zs)[j]? = some u → w.cell? (a.add j) = some u := by
  intro j u hu
  have hj : j < zs.length := by
    have := (List.getElem?_eq_some_iff.1 hu).1
    simpa [ins] using this
  rcases h.cells with h0 | ⟨b, off, hb, hc⟩
  · have := h.len; omega
  · cases hb
    have e : (⟨b, off, none⟩ : Addr).add j = ⟨b, off + j, none⟩ := by unfold Addr.add; split <;> simp_all
    rw [e, hc j (by have := h.len; omega)]
    simpa [ins, hj] using hu

theorem ins_one (zs : List Int) : ∀ u ∈ ins zs, u.oneCell' = true := by
  intro u hu
  simp only [ins, List.mem_map] at hu
  obtain ⟨x, _, rfl⟩ := hu
  rfl

theorem ReadsI.pos {w : World} {ad : Option Addr} {n : Nat} {zs : List Int} (h : ReadsI w ad n zs) (hn : 0 < n) : ∃ b off, ad = some ⟨b, off, none⟩ := by
  rcases h.cells with h0 | ⟨b, off, hb, _⟩
  · omega
  · exact ⟨b, off, hb⟩


theorem getD_ins (zs : List Int) (i : Nat) : (ins zs)[i]? = (zs[i]?).map (Value.int .i64) := by simp [ins]
theorem ReadsI.alloc {w : World} {ad : Option Addr} {n : Nat} {zs : List Int} (h : ReadsI w ad n zs) (o : Obj) : ReadsI (w.alloc o) ad n zs := h.below ((Below.refl w.heap.size w).alloc (Nat.le_refl _) o) (Nat.le_refl _)
theorem Still.readsI {w w' : World} (h : Still w w') {ad : Option Addr} {n : Nat} {zs : List Int} (hr : ReadsI w ad n zs) : ReadsI w' ad n zs := hr.below (h.below w.heap.size) (Nat.le_refl _)
theorem marksI_bd (k : Int) (n i : Nat) (h0 : 0 ≤ k) (h1 : k ≤ 1000000000) (hn : n ≤ 2097152) : -9223372036854775808 ≤ (marksI k n).getD i 0 ∧ (marksI k n).getD i 0 ≤ 9223372036854775807 := by
  by_cases h : i < n
  · rw [marksI_at k n i h]; omega
  · simp [marksI, h]

theorem Tryd.infoI : (Tryd.prog.info? 3).map (fun i => (i.zero, i.size, i.bytes)) = some (some (.int .i64 0), 1, 8) := by kernel_rfl

theorem set_take_stepI (zs : List Int) (k : Nat) (hk : k < zs.length) (m : Nat) (hm : m = zs.length) :
    (ins (zs.take k) ++ List.replicate (m - k) (Value.int .i64 0)).set k (.int .i64 (zs.getD k 0)) = ins (zs.take (k + 1)) ++ List.replicate (m - (k + 1)) (Value.int .i64 0) := by
  subst hm
  apply List.ext_getElem?
  intro j
  simp only [ins, List.getElem?_set, List.getElem?_append, List.getElem?_map, List.getElem?_replicate, List.length_map, List.length_take, List.length_append, List.length_replicate, List.getElem?_take]
  by_cases h1 : k = j
  · subst h1
    simp [hk, show min (k + 1) zs.length = k + 1 by omega, show min k zs.length = k by omega, show zs.length - k ≠ 0 by omega]
  · by_cases h2 : j < k
    · simp [h1, show j < min k zs.length by omega, show j < min (k+1) zs.length by omega, show j < k + 1 by omega, h2]
    · by_cases h3 : j < zs.length
      · simp [h1, show ¬ j < min k zs.length by omega, show ¬ j < min (k+1) zs.length by omega, show j - min k zs.length < zs.length - k by omega, show j - min (k+1) zs.length < zs.length - (k+1) by omega]
      · simp [h1, show ¬ j < min k zs.length by omega, show ¬ j < min (k+1) zs.length by omega, show ¬ j - min k zs.length < zs.length - k by omega, show ¬ j - min (k+1) zs.length < zs.length - (k+1) by omega]

end Go.Proofs.YtoppccfgcccijaaDoor
