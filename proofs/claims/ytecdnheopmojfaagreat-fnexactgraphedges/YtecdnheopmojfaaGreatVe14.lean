/- The order of pairs and the sort of a row of pairs. Conditions: none. -/
import Derived.Test.YtecdnheopmojfaaGreatHf14
import Derived.Test.YtecdnheopmojfaaGreatVc14
namespace Go.Proofs.YtecdnheopmojfaaGreat
open Go.RowKit
set_option maxRecDepth 100000
def or2V (c d : Int) : Int := if c ≠ 0 then c else d
set_option maxHeartbeats 1600000 in
theorem impl_or2V (c d : Int) {b off cap : Nat} {w : World} (h0 : w.cell? ⟨b, off, none⟩ = some (.int .i64 c)) (h1 : w.cell? ⟨b, off + 1, none⟩ = some (.int .i64 d)) :
 Calls Tryz.prog 70 #[.slice (some ⟨b, off, none⟩) 2 cap] w fun e w' => e = .returned (.int .i64 (or2V c d)) ∧ w' = w := by
 have HO := hid (show or2V c d = if c ≠ 0 then c else d from rfl)
 go_enter Tryz.func70, Tryz.ntmps70
 go_wp2_with fail
 go_loopw [8] (fun s8 wr => ∃ k : Nat, k ≤ 2 ∧ s8 = .int .i64 k ∧ (1 ≤ k → c = 0) ∧ (2 ≤ k → d = 0) ∧ wr = w) (fun i _ => 2 - (intOf i).toNat)
 case atStart => exact ⟨0, by omega, rfl, fun h => by omega, fun h => by omega, rfl⟩
 case round =>
  obtain ⟨k, hk, rfl, q1, q2, rfl⟩ := hrel
  rcases (show k = 0 ∨ k = 1 ∨ k = 2 by omega) with rfl | rfl | rfl
  · by_cases hc : c = 0
    · subst hc
      go_wp2_with fail
      go_roundw
      case rel => exact ⟨1, by omega, by go_num, fun _ => (by first | trivial | rfl), fun h => by omega, by trivial⟩
      case measure => simp [intOf]
    · have e0 := hid (show or2V c d = c by rw [HO.out, if_pos hc])
      have hc' : (c != 0) = true := by simp [hc]
      go_wp2_with fail
      go_ret
      exact ⟨by rw [e0.out]; rfl, rfl⟩
  · have hc := q1 (Nat.le_refl _)
    subst hc
    have e0 := hid (show or2V 0 d = d by rw [HO.out]; simp)
    by_cases hd : d = 0
    · subst hd
      go_wp2_with fail
      go_roundw
      case rel => exact ⟨2, by omega, by go_num, fun _ => (by first | trivial | rfl), fun _ => (by first | trivial | rfl), by trivial⟩
      case measure => simp [intOf]
    · have hd' : (d != 0) = true := by simp [hd]
      go_wp2_with fail
      go_ret
      exact ⟨by rw [e0.out]; rfl, rfl⟩
  · have hc := q1 (by omega)
    have hd := q2 (Nat.le_refl _)
    subst hc hd
    have e0 := hid (show or2V 0 0 = 0 by rw [HO.out]; simp)
    go_wp2_with fail
    go_ret
    exact ⟨by rw [e0.out]; rfl, rfl⟩
theorem new2V (w : World) (x y : Value) (T : TypeId) : (w.alloc (.cells #[x, y] T)).cell? ⟨w.heap.size, 0, none⟩ = some x ∧ (w.alloc (.cells #[x, y] T)).cell? ⟨w.heap.size, 0 + 1, none⟩ = some y :=
 ⟨by rw [cell_of_row _ _ _ _ _ _ (heap_alloc_new w _)]; rfl, by rw [cell_of_row _ _ _ _ _ _ (heap_alloc_new w _)]; rfl⟩
set_option maxHeartbeats 6400000 in
theorem impl_pairCmp (a b c d : Int) (w : World) :
 Calls Tryz.prog 69 #[.agg #[.int .i64 a, .int .i64 b], .agg #[.int .i64 c, .int .i64 d]] w fun e w' => e = .returned (.int .i64 (or2V (ci a c) (ci b d))) ∧ Gw w w' := by
 have hG := hid (((Gw.refl w).alloc (.cells #[.int .i64 a, .int .i64 b] 33)).alloc (.cells #[.int .i64 c, .int .i64 d] 33))
 obtain ⟨R1, R2, z⟩ := two_rows13 w (.cells #[.int .i64 a, .int .i64 b] 33) (.cells #[.int .i64 c, .int .i64 d] 33)
 have C := hid (show (fun W : World => (W.cell? ⟨w.heap.size, 0, none⟩ = some (.int .i64 a) ∧ W.cell? ⟨w.heap.size, 1, none⟩ = some (.int .i64 b)) ∧ W.cell? ⟨w.heap.size + 1, 0, none⟩ = some (.int .i64 c) ∧ W.cell? ⟨w.heap.size + 1, 1, none⟩ = some (.int .i64 d)) ((w.alloc (.cells #[.int .i64 a, .int .i64 b] 33)).alloc (.cells #[.int .i64 c, .int .i64 d] 33)) from ⟨⟨by rw [cell_of_row _ _ _ _ _ _ R1]; rfl, by rw [cell_of_row _ _ _ _ _ _ R1]; rfl⟩, by rw [cell_of_row _ _ _ _ _ _ R2]; rfl, by rw [cell_of_row _ _ _ _ _ _ R2]; rfl⟩)
 clear R1 R2 z
 go_enter Tryz.func69, Tryz.ntmps69
 go_wp2_with fail
 generalize (w.alloc (.cells #[.int .i64 a, .int .i64 b] 33)).alloc (.cells #[.int .i64 c, .int .i64 d] 33) = w2 at *
 obtain ⟨⟨c0, c1⟩, d0, d1⟩ := C.out
 clear C
 go_region_held3 (fun W : World => (W.cell? ⟨w.heap.size, 0, none⟩ = some (.int .i64 a) ∧ W.cell? ⟨w.heap.size, 1, none⟩ = some (.int .i64 b)) ∧ W.cell? ⟨w.heap.size + 1, 0, none⟩ = some (.int .i64 c) ∧ W.cell? ⟨w.heap.size + 1, 1, none⟩ = some (.int .i64 d))
  (first
   | exact ⟨⟨by simpa using c0, by simpa using c1⟩, by simpa using d0, by simpa using d1⟩
   | exact ⟨⟨cell_oldx _ (by simpa using c0), cell_oldx _ (by simpa using c1)⟩, cell_oldx _ (by simpa using d0), cell_oldx _ (by simpa using d1)⟩)
  (first
  | (go_at_call 71; refine (impl_ordInt _ _ _).mono ?_; rintro e w3 ⟨rfl, rfl⟩)
  | (go_at_call 70; refine (impl_or2V (ci a c) (ci b d) (new2V w2.drew _ _ 3).1 (new2V w2.drew _ _ 3).2).mono ?_; rintro e w3 ⟨rfl, rfl⟩))
 go_wp2_with fail
 go_ret
 first | exact ⟨rfl, (hG.out.drew).alloc _⟩ | exact ⟨rfl, (hG.out.alloc _).drew⟩
def cfP (x y : Pr) : Int := or2V (ci (x.1 : Int) (y.1 : Int)) (ci (x.2 : Int) (y.2 : Int))
def ltP (x y : Pr) : Prop := x.1 < y.1 ∨ (x.1 = y.1 ∧ x.2 < y.2)
theorem cfP_lt (x y : Pr) : cfP x y < 0 ↔ ltP x y := by
 unfold cfP or2V ci ltP
 by_cases h1 : x.1 < y.1
 · have : (x.1 : Int) < (y.1 : Int) := by omega
   simp [this, h1]
 · by_cases h2 : y.1 < x.1
   · have a1 : ¬ (x.1 : Int) < (y.1 : Int) := by omega
     have a2 : (y.1 : Int) < (x.1 : Int) := by omega
     rw [if_neg a1, if_pos a2]
     constructor
     · intro h; simp at h
     · intro h; omega
   · have a1 : ¬ (x.1 : Int) < (y.1 : Int) := by omega
     have a2 : ¬ (y.1 : Int) < (x.1 : Int) := by omega
     rw [if_neg a1, if_neg a2, if_neg (by simp)]
     by_cases h3 : x.2 < y.2
     · rw [if_pos (by omega)]; constructor
       · intro _; omega
       · intro _; omega
     · rw [if_neg (by omega)]
       constructor
       · intro h; split at h <;> omega
       · intro h; omega
theorem encP_len (p : Pr) : (encP p).length = 2 := rfl
theorem encP_one (p : Pr) : ∀ v ∈ encP p, v.oneCell' = true := by
 intro v hv
 simp only [encP, List.mem_cons, List.not_mem_nil, or_false] at hv
 rcases hv with rfl | rfl <;> rfl
theorem sort_pairs {base : Nat} {a : Option Addr} {cap n : Nat} (l : List Pr) (hn : l.length = n) (w : World) (own : w.ownsRow base 33 2 (.slice a n cap) n (l.flatMap encP)) (hsz : n ≤ 2097152) :
 Calls Tryz.prog 68 #[.slice a n cap, .func (.func 69) #[] #[]] w fun e w' => e = .returned (.tuple #[]) ∧ ∃ l' : List Pr, l'.Perm l ∧ l'.Pairwise (fun x y => ¬ ltP y x) ∧ w'.ownsRow base 33 2 (.slice a n cap) n (l'.flatMap encP) ∧ w.grownBy w' (Value.ownBlock (.slice a n cap)) := by
 have eg : ∀ args w, (callFunc 69 args).run Tryz.prog w = .ok (.enter 69 args) w := enters_of Tryz.func69 (by kernel_rfl) rfl
 have hcon := sortOwnP sortPairs 2 (fun w => Tryz.isAgg33 w) (fun w => Tryz.sizeOf33 w) encP encP_len encP_one cfP (fun _ => True)
  (fun x _ => by rw [cfP_lt]; unfold ltP; omega) (fun x y z _ _ _ => by rw [cfP_lt, cfP_lt, cfP_lt]; unfold ltP; omega) (fun x y z _ _ _ => by rw [cfP_lt, cfP_lt, cfP_lt]; unfold ltP; omega) 69 #[] l hn (fun _ _ => trivial) w own eg
  (fun blk e W hW x y _ _ => impl_pairCmp (x.1 : Int) (x.2 : Int) (y.1 : Int) (y.2 : Int) W) (by omega)
 refine hcon.mono ?_
 rintro e w' ⟨he, l', hp, hs, ho, hgr⟩
 exact ⟨he, l', hp, hs.imp (fun {x y} h => by rw [cfP_lt] at h; exact h), ho, hgr⟩
theorem asc_eq : ∀ (l m : List Pr), l.Pairwise ltP → m.Pairwise ltP → (∀ p, p ∈ l ↔ p ∈ m) → l = m
 | [], [], _, _, _ => rfl
 | [], y :: m, _, _, h => by have := (h y).2 (by simp); cases this
 | x :: l, [], _, _, h => by have := (h x).1 (by simp); cases this
 | x :: l, y :: m, hl, hm, h => by
  rw [List.pairwise_cons] at hl hm
  have irr : ∀ a : Pr, ¬ ltP a a := fun a => by unfold ltP; omega
  have exy : x = y := by
   rcases List.mem_cons.1 ((h x).1 (by simp)) with e | e
   · exact e
   · rcases List.mem_cons.1 ((h y).2 (by simp)) with e' | e'
     · exact e'.symm
     · have q1 := hm.1 x e
       have q2 := hl.1 y e'
       unfold ltP at q1 q2
       omega
  subst exy
  rw [asc_eq l m hl.2 hm.2 (fun p => ?_)]
  constructor
  · intro hp
    rcases List.mem_cons.1 ((h p).1 (by simp [hp])) with e | e
    · subst e; exact absurd (hl.1 p hp) (irr p)
    · exact e
  · intro hp
    rcases List.mem_cons.1 ((h p).2 (by simp [hp])) with e | e
    · subst e; exact absurd (hm.1 p hp) (irr p)
    · exact e
theorem rowE_asc (ts : List Tk) (i m : Nat) : (rowE ts i m).Pairwise ltP := by
 unfold rowE
 rw [List.pairwise_map]
 exact List.Pairwise.imp (fun {a b} h => .inr ⟨rfl, h⟩) (List.Pairwise.filter _ List.pairwise_lt_range)
theorem prE_asc (ts : List Tk) (n : Nat) : ∀ m, (prE ts n m).Pairwise ltP
 | 0 => by simp [prE]
 | m + 1 => by
  rw [prE_succ, List.pairwise_append]
  refine ⟨prE_asc ts n m, rowE_asc ts m n, fun x hx y hy => ?_⟩
  have hx1 : x.1 < m := by
   unfold prE rowE at hx
   simp only [List.mem_flatMap, List.mem_map, List.mem_range] at hx
   obtain ⟨i, hi, j, _, rfl⟩ := hx
   exact hi
  have hy1 : y.1 = m := by
   unfold rowE at hy
   simp only [List.mem_map] at hy
   obtain ⟨j, _, rfl⟩ := hy
   rfl
  exact .inl (by omega)
end Go.Proofs.YtecdnheopmojfaaGreat
