/- How great the answers may be; what stays while disks are written. -/
import Derived.Test.YtnnnehjlegjejaaDoorDh
import Derived.Test.YtnnnehjlegjejaaDoorDa
namespace Go.Proofs.YtnnnehjlegjejaaDoor
open Go.RowKit

structure Small (RS : List (List Int)) (RW : List (Int × List Int)) : Prop where
  s : RS.length ≤ 512
  w : RW.length ≤ 601
  bs : ∀ i, (RS.getD i []).length ≤ 64
  bw : ∀ i, (RW.getD i w0).2.length ≤ 64
theorem Small.nil : Small [] [] := ⟨by simp, by simp, fun i => by simp, fun i => by simp [w0]⟩
theorem Small.ok {ss : List (List Int)} {ws : List (Int × List Int)} {F : Int} {D : Bool} (h : okD ⟨ss, ws, F, D⟩ = true) : Small ss ws := by
  have o := okD_of h
  refine ⟨o.s1, Nat.le_succ_of_le o.w1, fun i => ?_, fun i => ?_⟩
  · by_cases hi : i < ss.length
    · exact Nat.le_of_eq (o.s i hi)
    · rw [List.getD_eq_getElem?_getD, List.getElem?_eq_none (by omega)]; simp
  · by_cases hi : i < ws.length
    · exact Nat.le_of_eq (o.w i hi).2.2
    · rw [List.getD_eq_getElem?_getD, List.getElem?_eq_none (by omega)]; simp [w0]
theorem Small.bd {RS : List (List Int)} {RW : List (Int × List Int)} (h : Small RS RW) : RS.length ≤ 512 ∧ RW.length ≤ 601 ∧ tot RS ≤ 32768 ∧ tw RW ≤ 39065 ∧ (∀ i, (RS.getD i []).length ≤ 64) ∧ (∀ i, (RW.getD i w0).2.length ≤ 64) := by
  have h1 := tot_le (m := 64) RS (fun i _ => h.bs i)
  have h2 := tot_le (m := 64) (RW.map (·.2)) (fun i _ => by rw [map2_getD]; exact h.bw i)
  rw [List.length_map] at h2
  have h3 := h.s
  have h4 := h.w
  refine ⟨h3, h4, by omega, ?_, h.bs, h.bw⟩
  unfold tw totW
  omega

theorem fuse_small {d : Dk} {n : Int} {RS : List (List Int)} {RW : List (Int × List Int)} {RF : Int} {RD : Bool} {RC : Int} (h : fuseD d n = (⟨RS, RW, RF, RD⟩, RC)) : Small RS RW := by
  unfold fuseD at h
  by_cases hc : okD d = true ∧ -1 ≤ n
  · rw [if_pos hc] at h
    simp only [Prod.mk.injEq, Dk.mk.injEq] at h
    obtain ⟨⟨rfl, rfl, _, _⟩, _⟩ := h
    exact Small.ok (F := d.F) (D := d.D) hc.1
  · rw [if_neg hc] at h
    simp only [z0, Prod.mk.injEq, Dk.mk.injEq] at h
    obtain ⟨⟨rfl, rfl, _, _⟩, _⟩ := h
    exact Small.nil

theorem Reads.alloc {w : World} {ad : Option Addr} {n : Nat} {zs : List Int} (h : Reads w ad n zs) (o : Obj) : Reads (w.alloc o) ad n zs := h.below (Below.alloc1 w o) (Nat.le_refl _)
theorem Reads.within {w w' : World} {ad : Option Addr} {n : Nat} {zs : List Int} (h : Reads w ad n zs) {lo hi : Nat} (hg : Within lo hi w w') (ho : ∀ a, ad = some a → a.block < lo ∨ hi ≤ a.block) : Reads w' ad n zs := by
  refine ⟨h.len, ?_, h.bd⟩
  rcases h.cells with h0 | ⟨b, off, rfl, hc⟩
  · exact .inl h0
  · refine .inr ⟨b, off, rfl, fun i hi => ?_⟩
    have := hc i hi
    rw [World.cell?_of_block (w := w) (a := ⟨b, off + i, none⟩) (hg.block b (World.block_lt_of_cell? w _ this) (ho _ rfl))]
    exact this
theorem owns_within {w w' : World} {lo hi base : Nat} {e : TypeId} {s : Nat} {v : Value} {n : Nat} {xs : List Value} (hg : Within lo hi w w') (ho : w.ownsRow base e s v n xs) (h : ∀ k, v.ownBlock = some k → k < lo ∨ hi ≤ k) : w'.ownsRow base e s v n xs := by
  refine ⟨ho.1, ?_⟩
  rcases ho.2 with hn | ⟨g, cap, cur, rfl, hbg, hh, rest⟩
  · exact .inl hn
  · exact .inr ⟨g, cap, cur, rfl, hbg, by rw [hg.block g (Array.getElem?_eq_some_iff.1 hh).1 (h g rfl)]; exact hh, rest⟩
theorem in_rng {ad : Option Addr} {a b lo hi : Nat} (h : ad = none ∨ ∃ g, ad = some ⟨g, 0, none⟩ ∧ a ≤ g ∧ g < b) (hk : b ≤ lo ∨ hi ≤ a) : ∀ x, ad = some x → x.block < lo ∨ hi ≤ x.block := by
  intro x hx
  rcases h with rfl | ⟨g, rfl, h3, h4⟩
  · cases hx
  · cases hx; simp; omega
theorem own_rng {ad : Option Addr} {a b lo hi n cap : Nat} (h : ad = none ∨ ∃ g, ad = some ⟨g, 0, none⟩ ∧ a ≤ g ∧ g < b) (hk : b ≤ lo ∨ hi ≤ a) : ∀ k, (Value.slice ad n cap).ownBlock = some k → k < lo ∨ hi ≤ k := by
  intro x hx
  rcases h with rfl | ⟨g, rfl, h3, h4⟩
  · simp [Value.ownBlock] at hx
  · simp [Value.ownBlock] at hx; omega
theorem ne_blk {ad : Option Addr} {lo hi k n cap : Nat} (h : ad = none ∨ ∃ g, ad = some ⟨g, 0, none⟩ ∧ lo ≤ g ∧ g < hi) (hk : k < lo ∨ hi ≤ k) : some k ≠ (Value.slice ad n cap).ownBlock := by
  rcases h with rfl | ⟨g, rfl, h3, h4⟩
  · simp [Value.ownBlock]
  · simp [Value.ownBlock]; omega
theorem ArgD.grown {w w' : World} {g : Nat} {aS : Option Addr} {nS cS : Nat} {aW : Option Addr} {nW cW : Nat} {F : Int} {D : Bool} {ss : List (List Int)} {ws : List (Int × List Int)} (a : ArgD w g aS nS cS aW nW cW F D ss ws) {row : Option Nat} (h : w.grownBy w' row) (hg : some g ≠ row) (hr : ReadsD w' aS aW ss ws) : ArgD w' g aS nS cS aW nW cW F D ss ws :=
  ⟨a.box.agree (h.block g a.lt hg), hr⟩
end Go.Proofs.YtnnnehjlegjejaaDoor
