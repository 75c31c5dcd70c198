/- The contract of the draw that bends a record. For codes of at most 2^21 bytes. -/
import Derived.Test.YtgdnjpdheghfoaaD5r
import Derived.Test.YtgdnjpdheghfoaaD5p
import Derived.Test.YtgdnjpdheghfoaaD5s
namespace Go.Proofs.Ytgdnjpdheghfoaa
open Go.RowKit

/-- What stays beside the cursor g, the box p and the data's first row. -/
structure Kp (U wr : World) (g p : Nat) (v0 v : Value) : Prop where
  blk : ∀ k, k < U.heap.size → k ≠ g → k ≠ p → v0.ownBlock ≠ some k → wr.heap[k]? = U.heap[k]?
  new : ∀ k, v.ownBlock = some k → v0.ownBlock = some k ∨ U.heap.size ≤ k
  size : U.heap.size ≤ wr.heap.size
theorem Kp.refl (U : World) (g p : Nat) (v : Value) : Kp U U g p v v := ⟨fun _ _ _ _ _ => rfl, fun _ h => .inl h, Nat.le_refl _⟩
theorem Kp.grown {U wr w' : World} {g p : Nat} {v0 v : Value} (h : Kp U wr g p v0 v) {row : Option Nat} (hg : wr.grownBy w' row) (hr : ∀ k, row = some k → k = g ∨ k = p ∨ U.heap.size ≤ k ∨ v0.ownBlock = some k) : Kp U w' g p v0 v := by
  refine ⟨fun k h1 h2 h3 h4 => ?_, h.new, Nat.le_trans h.size hg.size⟩
  rw [← h.blk k h1 h2 h3 h4]
  refine hg.block k (Nat.lt_of_lt_of_le h1 h.size) (fun e => ?_)
  rcases hr k e.symm with h5 | h5 | h5 | h5
  · exact h2 h5
  · exact h3 h5
  · omega
  · exact h4 h5
theorem Kp.still {U wr w' : World} {g p : Nat} {v0 v : Value} (h : Kp U wr g p v0 v) (hs : Still wr w') : Kp U w' g p v0 v := ⟨fun k h1 h2 h3 h4 => by rw [hs.heap]; exact h.blk k h1 h2 h3 h4, h.new, by rw [hs.heap]; exact h.size⟩
theorem Kp.cur {U wr w' : World} {g p : Nat} {v0 v : Value} (h : Kp U wr g p v0 v) (hg : wr.grownBy w' (some g)) : Kp U w' g p v0 v := h.grown hg (fun _ hk => .inl (Option.some.inj hk).symm)
theorem Kp.box {U wr : World} {g p : Nat} {v0 v : Value} (h : Kp U wr g p v0 v) (i : Nat) (u : Value) : Kp U (wr.setCell ⟨p, i, none⟩ u) g p v0 v := h.grown (grown_setCell wr p i u) (fun _ hk => .inr (.inl (Option.some.inj hk).symm))
theorem Kp.alloc {U wr : World} {g p : Nat} {v0 v : Value} (h : Kp U wr g p v0 v) (o : Obj) : Kp U (wr.alloc o) g p v0 v := h.grown (World.grownBy_alloc wr o none) (fun k hk => by cases hk)
theorem Kp.app {U wr w' : World} {g p gg : Nat} {v0 v : Value} (h : Kp U wr g p v0 v) (hg : wr.grownBy w' v.ownBlock) {m c : Nat} (hn : v.ownBlock = some gg ∨ gg = wr.heap.size) : Kp U w' g p v0 (.slice (some ⟨gg, 0, none⟩) m c) := by
  have h1 := h.grown hg (fun k hk => by rcases h.new k hk with h2 | h2; exact .inr (.inr (.inr h2)); exact .inr (.inr (.inl h2)))
  refine ⟨h1.blk, fun k hk => ?_, h1.size⟩
  obtain rfl := Option.some.inj hk
  rcases hn with h2 | h2
  · exact h.new _ h2
  · right; rw [h2]; exact h.size

/-- nil is appended, in a region that draws its order. -/
theorem step_append_none {P : Program} {w : World} {ops : Array Oper} {o : Oper} {a : Act} {K : Act → World → Prop} {Q : Exit → Act → World → Prop} {E : Prop} (hgd : o.guard = none) (s x : Operand) (t : TypeId)
    (ho : o.op = .call { callee := .builtin .append, args := #[s, x], argTypes := #[t, t] })
    (base : Nat) (e : TypeId) (i : TypeInfo) (size : Nat) (ht : P.underlying t = some (.slice e)) (hi : P.info? e = some i)
    (v : Value) (n : Nat) (xs : List Value) (hs : a.eval s = v) (hown : w.ownsRow base e size v n xs) (hx : a.eval x = .slice none 0 0)
    (h : K (a.put o.dst v) w) : if Region.wanted o (yielded ops a.tmps) = true then Oper.wp P o a w K Q else E := by
  rw [if_pos (by simp [Region.wanted, hgd])]
  have hrun := run_append_owned_none (P := P) (w := w) base t o.type e i size ht hi v n xs hown
  unfold Oper.wp
  simp [execOp, ho, resolve, invoke, builtin, hs, hx, hrun, Result.andThen]
  exact h

/-- What the draw answers. -/
structure AnsE (w0 w : World) (v0 : Value) (g : Nat) (ad : Option Addr) (n cap : Nat) (zs : List Int) (e : Ending) (w' : World) : Prop where
  ans : AnsB maxLen w0 g ad n cap zs e w'
  blk : ∀ k, k < w.heap.size → k ≠ g → v0.ownBlock ≠ some k → w'.heap[k]? = w.heap[k]?
  size : w.heap.size ≤ w'.heap.size
theorem own_max {w : World} {B : Nat} {v : Value} {m : Nat} {xs : List Value} (o : w.ownsRow B 5 1 v m xs) : m ≤ maxLen := by
  rcases o.2 with ⟨_, h1⟩ | ⟨_, _, _, _, _, _, h1, h2, _⟩
  · rw [h1]; exact Nat.zero_le _
  · exact Nat.le_trans h1 h2
theorem finE {w0 w U wr : World} {g p q0 N : Nat} {ad : Option Addr} {n cap : Nat} {zs : List Int} {K L X P S : Int} {v0 v : Value} {D : List Int} {zc : Array Value} (hN : w.heap.size = N) (hU : ∀ k, k < N → U.heap[k]? = w.heap[k]?) (hs : N ≤ U.heap.size) (hl : w0.heap.size ≤ N) (hgl : g < w0.heap.size) (hq : N ≤ q0) (hp : N ≤ p) (hqp : q0 ≠ p) (T0 : U.heap[q0]? = some (.cells zc 36)) (hv0 : ∀ k, v0.ownBlock = some k → k < N)
    (h : Br w0 g p ad n cap zs wr K L X P S v D) (hk : Kp U wr g p v0 v) :
    wr.heap[q0]? = some (.cells zc 36) ∧ AnsE w0 w v0 g ad n cap zs (.returned (.agg #[.int .i64 K, .int .i64 L, .int .i64 X, .int .i64 P, .int .i64 S, v])) (wr.setRow q0 #[.int .i64 K, .int .i64 L, .int .i64 X, .int .i64 P, .int .i64 S, v]) := by
  subst hN
  have T1 : wr.heap[q0]? = some (.cells zc 36) := (hk.blk q0 (Array.getElem?_eq_some_iff.1 T0).1 (by omega) hqp (fun e => by have := hv0 _ e; omega)).trans T0
  refine ⟨T1, ⟨?_, fun k h1 h2 h3 => ?_, ?_⟩⟩
  · have hg : wr.grownBy (wr.setRow q0 #[.int .i64 K, .int .i64 L, .int .i64 X, .int .i64 P, .int .i64 S, v]) (some q0) := ⟨rfl, rfl, rfl, by simp, fun q _ hq => setRow_other _ _ _ _ (fun e => hq (by rw [e]))⟩
    exact ⟨K, L, X, P, S, v, D, rfl, h.own.kept hg (own_ty_ne h.own T1 (by decide)), h.bd, own_max h.own, h.cur.other hg (fun q hq => by cases hq; omega), grown_new h.gr hg (fun r hr => by cases hr; omega)⟩
  · rw [setRow_other _ _ _ _ (by omega), hk.blk k (by omega) h2 (by omega) h3, hU k h1]
  · have := hk.size; simp; omega

set_option maxRecDepth 100000 in
set_option maxHeartbeats 12800000 in
theorem l5bent {w0 w : World} {g : Nat} {ad : Option Addr} {n cap : Nat} {zs : List Int} (hgl : g < w0.heap.size) (hgr : w0.grownBy w (some g)) (c : Cur w g ad n cap zs) (hn : n ≤ 2097152) (K L X P S : Int) {a0 : Option Addr} {m0 c0 : Nat} {D : List Int} (o : w.ownsRow w0.heap.size 5 1 (.slice a0 m0 c0) D.length (bys D)) (hb : ∀ i, 0 ≤ D.getD i 0 ∧ D.getD i 0 ≤ 255) (hD : D.length ≤ 1100) :
    Calls Try.prog 56 #[.pointer (some ⟨g, 0, none⟩), .agg #[.int .i64 K, .int .i64 L, .int .i64 X, .int .i64 P, .int .i64 S, .slice a0 m0 c0]] w fun e w' => AnsE w0 w (.slice a0 m0 c0) g ad n cap zs e w' := by
  obtain rfl : D.length = m0 := by
    rcases o.2 with ⟨h1, h2⟩ | ⟨g', cap', cur, h1, _⟩
    · rw [h2]; exact (Value.slice.inj h1).2.1.symm
    · exact (Value.slice.inj h1).2.1.symm
  have HO := hid o
  have HGR := hid hgr
  have HBD := hid hb
  have hzl := hgr.size
  have HV0 := hid (show ∀ k, (Value.slice a0 D.length c0).ownBlock = some k → k < w.heap.size from fun k hk => (o.lt k hk).2)
  clear o hgr hb
  go_enter Try.func56, Try.ntmps56
  go_wp2_with fail
  have B0 := hid ((Br.start (K := K) (L := L) (X := X) (P := P) (S := S) hgl HGR.out c HO.out HBD.out).alloc (.cells #[.int .i64 0, .int .i64 0, .int .i64 0, .int .i64 0, .int .i64 0, .slice none 0 0] 36))
  have bU := two w (.cells #[.int .i64 K, .int .i64 L, .int .i64 X, .int .i64 P, .int .i64 S, .slice a0 D.length c0] 36) (.cells #[.int .i64 0, .int .i64 0, .int .i64 0, .int .i64 0, .int .i64 0, .slice none 0 0] 36)
  have T0 := hid (show ((w.alloc (.cells #[.int .i64 K, .int .i64 L, .int .i64 X, .int .i64 P, .int .i64 S, .slice a0 D.length c0] 36)).alloc (.cells #[.int .i64 0, .int .i64 0, .int .i64 0, .int .i64 0, .int .i64 0, .slice none 0 0] 36)).heap[w.heap.size + 1]? = some (.cells #[.int .i64 0, .int .i64 0, .int .i64 0, .int .i64 0, .int .i64 0, .slice none 0 0] 36) by have hh := heap_alloc_new (w.alloc (.cells #[.int .i64 K, .int .i64 L, .int .i64 X, .int .i64 P, .int .i64 S, .slice a0 D.length c0] 36)) (.cells #[.int .i64 0, .int .i64 0, .int .i64 0, .int .i64 0, .int .i64 0, .slice none 0 0] 36); rwa [alloc_size] at hh)
  have HU := hid (And.intro (show ∀ k, k < w.heap.size → _ from fun k hk => bU.block k hk) bU.size)
  have Q0 := hid (Kp.refl ((w.alloc (.cells #[.int .i64 K, .int .i64 L, .int .i64 X, .int .i64 P, .int .i64 S, .slice a0 D.length c0] 36)).alloc (.cells #[.int .i64 0, .int .i64 0, .int .i64 0, .int .i64 0, .int .i64 0, .slice none 0 0] 36)) g w.heap.size (.slice a0 D.length c0))
  clear bU c HO HBD HGR
  generalize (w.alloc (.cells #[.int .i64 K, .int .i64 L, .int .i64 X, .int .i64 P, .int .i64 S, .slice a0 D.length c0] 36)).alloc (.cells #[.int .i64 0, .int .i64 0, .int .i64 0, .int .i64 0, .int .i64 0, .slice none 0 0] 36) = U at *
  have HP := hid (And.intro (Nat.le_refl w.heap.size) hzl)
  generalize hp : w.heap.size = p at *
  have HPE := hid hp
  clear hp hzl
  refine (l1Below B0.out.cur hn 16 (by omega) (by omega)).mono ?_
  rintro e w1 ⟨t, rfl, ht0, ht1, cc, gg⟩
  have B1 := hid (B0.out.cursor cc gg)
  have Q1 := hid (Q0.out.cur gg)
  clear cc gg B0 Q0
  by_cases t0 : t = 0
  · subst t0
    go_wp2_with fail
    refine (l1Below B1.out.cur hn 8 (by omega) (by omega)).mono ?_
    rintro e w2 ⟨y, rfl, hy0, hy1, cc, gg⟩
    have B2 := hid (B1.out.cursor cc gg)
    have Q2 := hid (Q1.out.cur gg)
    clear cc gg B1 Q1
    obtain ⟨z0, z1, z2, z3, z4, z5⟩ : BoxR w2 p K L X P S a0 D.length c0 := B2.out.cells
    have zf := B2.out.froz 0
    have B3 := hid (B2.out.setK (y - 1))
    have Q3 := hid (Q2.out.box 0 (.int .i64 (y - 1)))
    clear B2 Q2
    have FA := finE HPE.out HU.out.1 HU.out.2 HP.out.2 hgl (show p ≤ p + 1 from Nat.le_succ p) (Nat.le_refl p) (by omega) T0.out HV0.out B3.out Q3.out
    have TQ := hid FA.1
    have AN := hid FA.2
    have TP := hid B3.out.box
    clear FA 
    go_wp2_with (first
      | (refine wpList_load_row rfl 36 (.tmp 3) rfl p rfl 36 _ (0, 0) _ TP.out Try.underlying36 rfl sizeRc' ?_)
      | (refine wpList_store_row rfl 36 (.tmp 4) (.tmp 59) rfl (p + 1) #[.int .i64 (y - 1), .int .i64 L, .int .i64 X, .int .i64 P, .int .i64 S, .slice a0 D.length c0] rfl rfl 36 _ TQ.out ?s1x1 ?s2x1 ?s3x1 ?_))
    case s1x1 => simpa using sizeRc'
    try case s2x1 => rfl
    case s3x1 => simp [Value.oneCell']
    refine bodyPost_ret (results_cell_row Try.results56 _ _ (p + 1) 36 #[.int .i64 (y - 1), .int .i64 L, .int .i64 X, .int .i64 P, .int .i64 S, .slice a0 D.length c0] (0, 0) _ rfl (setRow_heap _ _ _ _ _ _ TQ.out) Try.underlying36 rfl sizeRc') rfl ?_
    exact AN.out
  by_cases t1 : t = 1
  · subst t1
    go_wp2_with fail
    have B2 := hid (B1.out.alloc (.cells #[.int .i64 (0), .int .i64 (-1), .int .i64 (1000000), .int .i64 (1000001)] 3))
    have Q2 := hid (Q1.out.alloc (.cells #[.int .i64 (0), .int .i64 (-1), .int .i64 (1000000), .int .i64 (1000001)] 3))
    have hne : w1.heap.size ≠ g := by have := B1.out.cur.lt; omega
    have hcs : ∀ i, i < 4 → ∃ x, (w1.alloc (.cells #[.int .i64 (0), .int .i64 (-1), .int .i64 (1000000), .int .i64 (1000001)] 3)).cell? ⟨w1.heap.size, i, none⟩ = some (.int .i64 x) := fun i hi => by
      have hh := heap_alloc_new w1 (.cells #[.int .i64 (0), .int .i64 (-1), .int .i64 (1000000), .int .i64 (1000001)] 3)
      have hi' : i = 0 ∨ i = 1 ∨ i = 2 ∨ i = 3 := by omega
      rcases hi' with rfl | rfl | rfl | rfl <;> exact ⟨_, by rw [cell_of_row _ _ _ _ _ _ hh]; rfl⟩
    clear B1 Q1
    refine (l1PickInt B2.out.cur hn (by omega) (by omega) hne hcs).mono ?_
    rintro e w2 ⟨y, rfl, cc, gg⟩
    have B3 := hid (B2.out.cursor cc gg)
    have Q3 := hid (Q2.out.cur gg)
    clear cc gg B2 Q2 hcs hne
    obtain ⟨z0, z1, z2, z3, z4, z5⟩ : BoxR w2 p K L X P S a0 D.length c0 := B3.out.cells
    have zf := B3.out.froz 1
    have B4 := hid (B3.out.setL y)
    have Q4 := hid (Q3.out.box 1 (.int .i64 y))
    clear B3 Q3
    have FA := finE HPE.out HU.out.1 HU.out.2 HP.out.2 hgl (show p ≤ p + 1 from Nat.le_succ p) (Nat.le_refl p) (by omega) T0.out HV0.out B4.out Q4.out
    have TQ := hid FA.1
    have AN := hid FA.2
    have TP := hid B4.out.box
    clear FA 
    go_wp2_with (first
      | (refine wpList_load_row rfl 36 (.tmp 3) rfl p rfl 36 _ (0, 0) _ TP.out Try.underlying36 rfl sizeRc' ?_)
      | (refine wpList_store_row rfl 36 (.tmp 4) (.tmp 59) rfl (p + 1) #[.int .i64 K, .int .i64 y, .int .i64 X, .int .i64 P, .int .i64 S, .slice a0 D.length c0] rfl rfl 36 _ TQ.out ?s1x2 ?s2x2 ?s3x2 ?_))
    case s1x2 => simpa using sizeRc'
    try case s2x2 => rfl
    case s3x2 => simp [Value.oneCell']
    refine bodyPost_ret (results_cell_row Try.results56 _ _ (p + 1) 36 #[.int .i64 K, .int .i64 y, .int .i64 X, .int .i64 P, .int .i64 S, .slice a0 D.length c0] (0, 0) _ rfl (setRow_heap _ _ _ _ _ _ TQ.out) Try.underlying36 rfl sizeRc') rfl ?_
    exact AN.out
  by_cases t2 : t = 2
  · subst t2
    go_wp2_with fail
    have B2 := hid (B1.out.alloc (.cells #[.int .i64 (0), .int .i64 (400), .int .i64 (401), .int .i64 (-1)] 3))
    have Q2 := hid (Q1.out.alloc (.cells #[.int .i64 (0), .int .i64 (400), .int .i64 (401), .int .i64 (-1)] 3))
    have hne : w1.heap.size ≠ g := by have := B1.out.cur.lt; omega
    have hcs : ∀ i, i < 4 → ∃ x, (w1.alloc (.cells #[.int .i64 (0), .int .i64 (400), .int .i64 (401), .int .i64 (-1)] 3)).cell? ⟨w1.heap.size, i, none⟩ = some (.int .i64 x) := fun i hi => by
      have hh := heap_alloc_new w1 (.cells #[.int .i64 (0), .int .i64 (400), .int .i64 (401), .int .i64 (-1)] 3)
      have hi' : i = 0 ∨ i = 1 ∨ i = 2 ∨ i = 3 := by omega
      rcases hi' with rfl | rfl | rfl | rfl <;> exact ⟨_, by rw [cell_of_row _ _ _ _ _ _ hh]; rfl⟩
    clear B1 Q1
    refine (l1PickInt B2.out.cur hn (by omega) (by omega) hne hcs).mono ?_
    rintro e w2 ⟨y, rfl, cc, gg⟩
    have B3 := hid (B2.out.cursor cc gg)
    have Q3 := hid (Q2.out.cur gg)
    clear cc gg B2 Q2 hcs hne
    obtain ⟨z0, z1, z2, z3, z4, z5⟩ : BoxR w2 p K L X P S a0 D.length c0 := B3.out.cells
    have zf := B3.out.froz 2
    have B4 := hid (B3.out.setX y)
    have Q4 := hid (Q3.out.box 2 (.int .i64 y))
    clear B3 Q3
    have FA := finE HPE.out HU.out.1 HU.out.2 HP.out.2 hgl (show p ≤ p + 1 from Nat.le_succ p) (Nat.le_refl p) (by omega) T0.out HV0.out B4.out Q4.out
    have TQ := hid FA.1
    have AN := hid FA.2
    have TP := hid B4.out.box
    clear FA 
    go_wp2_with (first
      | (refine wpList_load_row rfl 36 (.tmp 3) rfl p rfl 36 _ (0, 0) _ TP.out Try.underlying36 rfl sizeRc' ?_)
      | (refine wpList_store_row rfl 36 (.tmp 4) (.tmp 59) rfl (p + 1) #[.int .i64 K, .int .i64 L, .int .i64 y, .int .i64 P, .int .i64 S, .slice a0 D.length c0] rfl rfl 36 _ TQ.out ?s1x3 ?s2x3 ?s3x3 ?_))
    case s1x3 => simpa using sizeRc'
    try case s2x3 => rfl
    case s3x3 => simp [Value.oneCell']
    refine bodyPost_ret (results_cell_row Try.results56 _ _ (p + 1) 36 #[.int .i64 K, .int .i64 L, .int .i64 y, .int .i64 P, .int .i64 S, .slice a0 D.length c0] (0, 0) _ rfl (setRow_heap _ _ _ _ _ _ TQ.out) Try.underlying36 rfl sizeRc') rfl ?_
    exact AN.out
  by_cases t3 : t = 3
  · subst t3
    go_wp2_with fail
    have B2 := hid (B1.out.alloc (.cells #[.int .i64 (-1), .int .i64 (15), .int .i64 (16)] 3))
    have Q2 := hid (Q1.out.alloc (.cells #[.int .i64 (-1), .int .i64 (15), .int .i64 (16)] 3))
    have hne : w1.heap.size ≠ g := by have := B1.out.cur.lt; omega
    have hcs : ∀ i, i < 3 → ∃ x, (w1.alloc (.cells #[.int .i64 (-1), .int .i64 (15), .int .i64 (16)] 3)).cell? ⟨w1.heap.size, i, none⟩ = some (.int .i64 x) := fun i hi => by
      have hh := heap_alloc_new w1 (.cells #[.int .i64 (-1), .int .i64 (15), .int .i64 (16)] 3)
      have hi' : i = 0 ∨ i = 1 ∨ i = 2 := by omega
      rcases hi' with rfl | rfl | rfl <;> exact ⟨_, by rw [cell_of_row _ _ _ _ _ _ hh]; rfl⟩
    clear B1 Q1
    refine (l1PickInt B2.out.cur hn (by omega) (by omega) hne hcs).mono ?_
    rintro e w2 ⟨y, rfl, cc, gg⟩
    have B3 := hid (B2.out.cursor cc gg)
    have Q3 := hid (Q2.out.cur gg)
    clear cc gg B2 Q2 hcs hne
    obtain ⟨z0, z1, z2, z3, z4, z5⟩ : BoxR w2 p K L X P S a0 D.length c0 := B3.out.cells
    have zf := B3.out.froz 3
    have B4 := hid (B3.out.setP y)
    have Q4 := hid (Q3.out.box 3 (.int .i64 y))
    clear B3 Q3
    have FA := finE HPE.out HU.out.1 HU.out.2 HP.out.2 hgl (show p ≤ p + 1 from Nat.le_succ p) (Nat.le_refl p) (by omega) T0.out HV0.out B4.out Q4.out
    have TQ := hid FA.1
    have AN := hid FA.2
    have TP := hid B4.out.box
    clear FA 
    go_wp2_with (first
      | (refine wpList_load_row rfl 36 (.tmp 3) rfl p rfl 36 _ (0, 0) _ TP.out Try.underlying36 rfl sizeRc' ?_)
      | (refine wpList_store_row rfl 36 (.tmp 4) (.tmp 59) rfl (p + 1) #[.int .i64 K, .int .i64 L, .int .i64 X, .int .i64 y, .int .i64 S, .slice a0 D.length c0] rfl rfl 36 _ TQ.out ?s1x4 ?s2x4 ?s3x4 ?_))
    case s1x4 => simpa using sizeRc'
    try case s2x4 => rfl
    case s3x4 => simp [Value.oneCell']
    refine bodyPost_ret (results_cell_row Try.results56 _ _ (p + 1) 36 #[.int .i64 K, .int .i64 L, .int .i64 X, .int .i64 y, .int .i64 S, .slice a0 D.length c0] (0, 0) _ rfl (setRow_heap _ _ _ _ _ _ TQ.out) Try.underlying36 rfl sizeRc') rfl ?_
    exact AN.out
  by_cases t4 : t = 4
  · subst t4
    go_wp2_with fail
    have B2 := hid (B1.out.alloc (.cells #[.int .i64 (-1), .int .i64 (15), .int .i64 (16)] 3))
    have Q2 := hid (Q1.out.alloc (.cells #[.int .i64 (-1), .int .i64 (15), .int .i64 (16)] 3))
    have hne : w1.heap.size ≠ g := by have := B1.out.cur.lt; omega
    have hcs : ∀ i, i < 3 → ∃ x, (w1.alloc (.cells #[.int .i64 (-1), .int .i64 (15), .int .i64 (16)] 3)).cell? ⟨w1.heap.size, i, none⟩ = some (.int .i64 x) := fun i hi => by
      have hh := heap_alloc_new w1 (.cells #[.int .i64 (-1), .int .i64 (15), .int .i64 (16)] 3)
      have hi' : i = 0 ∨ i = 1 ∨ i = 2 := by omega
      rcases hi' with rfl | rfl | rfl <;> exact ⟨_, by rw [cell_of_row _ _ _ _ _ _ hh]; rfl⟩
    clear B1 Q1
    refine (l1PickInt B2.out.cur hn (by omega) (by omega) hne hcs).mono ?_
    rintro e w2 ⟨y, rfl, cc, gg⟩
    have B3 := hid (B2.out.cursor cc gg)
    have Q3 := hid (Q2.out.cur gg)
    clear cc gg B2 Q2 hcs hne
    obtain ⟨z0, z1, z2, z3, z4, z5⟩ : BoxR w2 p K L X P S a0 D.length c0 := B3.out.cells
    have zf := B3.out.froz 4
    have B4 := hid (B3.out.setS y)
    have Q4 := hid (Q3.out.box 4 (.int .i64 y))
    clear B3 Q3
    have FA := finE HPE.out HU.out.1 HU.out.2 HP.out.2 hgl (show p ≤ p + 1 from Nat.le_succ p) (Nat.le_refl p) (by omega) T0.out HV0.out B4.out Q4.out
    have TQ := hid FA.1
    have AN := hid FA.2
    have TP := hid B4.out.box
    clear FA 
    go_wp2_with (first
      | (refine wpList_load_row rfl 36 (.tmp 3) rfl p rfl 36 _ (0, 0) _ TP.out Try.underlying36 rfl sizeRc' ?_)
      | (refine wpList_store_row rfl 36 (.tmp 4) (.tmp 59) rfl (p + 1) #[.int .i64 K, .int .i64 L, .int .i64 X, .int .i64 P, .int .i64 y, .slice a0 D.length c0] rfl rfl 36 _ TQ.out ?s1x5 ?s2x5 ?s3x5 ?_))
    case s1x5 => simpa using sizeRc'
    try case s2x5 => rfl
    case s3x5 => simp [Value.oneCell']
    refine bodyPost_ret (results_cell_row Try.results56 _ _ (p + 1) 36 #[.int .i64 K, .int .i64 L, .int .i64 X, .int .i64 P, .int .i64 y, .slice a0 D.length c0] (0, 0) _ rfl (setRow_heap _ _ _ _ _ _ TQ.out) Try.underlying36 rfl sizeRc') rfl ?_
    exact AN.out
  by_cases t5 : t = 5
  · subst t5
    have H4 := hid B1.out.drew.c5
    go_wp2_with fail
    obtain ⟨i0, hi, hz0, hz1, hz2⟩ := info_parts Try.info5
    refine region_K 6 (fun X => X.cell? ⟨p, 5, none⟩ = some (.slice a0 D.length c0)) (by kernel_rfl) ?_ (fun hHeld => ?_)
    · exact H4.out
    refine anyK_take (i := 0) (v := ?v9001) rfl (by kernel_rfl) (by kernel_rfl) (by kernel_rfl) (by kernel_rfl) (fun _ _ _ h => h) (by rfl) hHeld ?hy9001 (some 39) (by rfl) ?rest9001
    case hy9001 => (intro W hSw; (try dsimp only at hSw); go_simp; (try with_reducible rfl))
    try simp only [Act.put]
    try simp only [List.setIfInBounds_toArray]
    try simp only [List.set_cons_succ, List.set_cons_zero]
    refine anyK_take (i := 1) (v := ?v9002) rfl (by kernel_rfl) (by kernel_rfl) (by kernel_rfl) (by kernel_rfl) (fun _ _ _ h => h) (by rfl) hHeld ?hy9002 (some 40) (by rfl) ?rest9002
    case hy9002 => (intro W hSw; (try dsimp only at hSw); go_simp; (try with_reducible rfl))
    try simp only [Act.put]
    try simp only [List.setIfInBounds_toArray]
    try simp only [List.set_cons_succ, List.set_cons_zero]
    refine anyK_take (i := 2) (v := ?v9003) rfl (by kernel_rfl) (by kernel_rfl) (by kernel_rfl) (by kernel_rfl) (fun _ _ _ h => h) (by rfl) hHeld ?hy9003 (some 41) (by rfl) ?rest9003
    case hy9003 => (intro W hSw; (try dsimp only at hSw); go_simp; (try with_reducible rfl))
    try simp only [Act.put]
    try simp only [List.setIfInBounds_toArray]
    try simp only [List.set_cons_succ, List.set_cons_zero]
    refine anyK_step (i := 3) (by kernel_rfl) rfl (fun K hK => ?_)
    go_simp
    refine (l1some2 B1.out.drew.cur hn 2 (by omega) (by omega)).mono ?_
    rintro e w2 ⟨sv, SL, rfl, o8, bd8, hSL, hnl, cc, gg⟩
    have B2 := hid (B1.out.drew.cursor cc gg)
    have Q2 := hid ((Q1.out.still (Still.drew w1)).cur gg)
    have S8 := hid o8
    have HNL := hid hnl
    have BD8 := hid bd8
    clear cc gg o8 hnl bd8 B1 Q1
    go_wp2_with fail
    refine hK.out _ _ ?_ (fun hH2 => ?_)
    · exact B2.out.c5
    clear hK K hHeld
    have hHeld := hH2
    clear hH2
    try simp only [Act.put]
    try simp only [List.setIfInBounds_toArray]
    try simp only [List.set_cons_succ, List.set_cons_zero]
    by_cases hs0 : SL.length = 0
    · obtain rfl := HNL.out hs0
      refine anyK_step (i := 4) (by kernel_rfl) rfl (fun K hK => ?_)
      refine step_append_none (by rfl) _ _ _ (by rfl) w0.heap.size 5 i0 1 Try.underlying22 hi (.slice a0 D.length c0) D.length (bys D) (by rfl) B2.out.own (by rfl) ?_
      have z5 := B2.out.c5
      have zf := B2.out.froz 5
      have B3 := hid (B2.out.setV B2.out.own B2.out.bd)
      have Q3 := hid (Q2.out.box 5 (.slice a0 D.length c0))
      refine hK.out _ _ ?_ (fun hH2 => ?_)
      · exact z5
      clear hK K hHeld
      have hHeld := hH2
      clear hH2
      try simp only [Act.put]
      try simp only [List.setIfInBounds_toArray]
      try simp only [List.set_cons_succ, List.set_cons_zero]
      refine anyK_step (i := 5) (by kernel_rfl) rfl (fun K hK => ?_)
      go_simp
      refine hK.out _ _ ?_ (fun hH2 => ?_)
      · exact z5
      clear hK K hHeld
      have hHeld := hH2
      clear hH2
      try simp only [Act.put]
      try simp only [List.setIfInBounds_toArray]
      try simp only [List.set_cons_succ, List.set_cons_zero]
      refine anyK_last (by kernel_rfl) rfl (fun K hK => ?_)
      go_simp
      refine hK.out _ _ ?_
      clear hK K hHeld
      refine anyK_done (by kernel_rfl) ?_ _
      clear z5 zf
      clear hi hz0 hz1 hz2 B2 Q2
      have FA := finE HPE.out HU.out.1 HU.out.2 HP.out.2 hgl (show p ≤ p + 1 from Nat.le_succ p) (Nat.le_refl p) (by omega) T0.out HV0.out B3.out Q3.out
      have TQ := hid FA.1
      have AN := hid FA.2
      have TP := hid B3.out.box
      clear FA 
      go_wp2_with (first
        | (refine wpList_load_row rfl 36 (.tmp 3) rfl p rfl 36 _ (0, 0) _ TP.out Try.underlying36 rfl sizeRc' ?_)
        | (refine wpList_store_row rfl 36 (.tmp 4) (.tmp 59) rfl (p + 1) #[.int .i64 K, .int .i64 L, .int .i64 X, .int .i64 P, .int .i64 S, .slice a0 D.length c0] rfl rfl 36 _ TQ.out ?s1x6 ?s2x6 ?s3x6 ?_))
      case s1x6 => simpa using sizeRc'
      try case s2x6 => rfl
      case s3x6 => simp [Value.oneCell']
      refine bodyPost_ret (results_cell_row Try.results56 _ _ (p + 1) 36 #[.int .i64 K, .int .i64 L, .int .i64 X, .int .i64 P, .int .i64 S, .slice a0 D.length c0] (0, 0) _ rfl (setRow_heap _ _ _ _ _ _ TQ.out) Try.underlying36 rfl sizeRc') rfl ?_
      exact AN.out
    · obtain ⟨sb, so, sc, rfl⟩ : ∃ b o c, sv = .slice (some ⟨b, o, none⟩) SL.length c := by
        obtain ⟨x1, x2, e, r1, -⟩ := Reads.own S8.out BD8.out
        obtain ⟨b, o, rfl⟩ := r1.pos (by omega)
        exact ⟨b, o, x2, e⟩
      have RS8 := hid (show Reads w2 (some ⟨sb, so, none⟩) SL.length SL by obtain ⟨x1, x2, e, r1, -⟩ := Reads.own S8.out BD8.out; obtain ⟨rfl, -, -⟩ := Value.slice.inj e; exact r1)
      have hUz := B2.out.size
      refine anyK_step (i := 4) (by kernel_rfl) rfl (fun K hK => ?_)
      refine step_append_lies _ (by rfl) _ _ _ (by rfl) w0.heap.size 5 i0 (.int .u8 0) 1 1 Try.underlying22 hi hz0 hz1 hz2 rfl (by omega) (.slice a0 D.length c0) D.length (bys D) (by rfl) B2.out.own ⟨sb, so, none⟩ SL.length sc (bys SL) (by rfl) (by rw [bys_length]; omega) RS8.out.news (bys_one _) (by omega) (by unfold maxLen; omega) (by omega) hUz _ rfl ?_
      intro vg vc w9 o9 g9 hat _
      have T9 := (B2.out.grow g9).1
      have z5 : w9.cell? ⟨p, 5, none⟩ = some (.slice a0 D.length c0) := by rw [cell_of_row _ _ _ _ _ _ T9]; rfl
      have zf : w9.frozen? ⟨p, 5, none⟩ = false := frozen_of_row _ _ _ _ _ T9
      have B3 := hid (B2.out.app (D' := D ++ SL) g9 (by rw [List.length_append, bys_append]; exact o9) (bd_append B2.out.bd BD8.out))
      have Q3 := hid ((Q2.out.app (m := D.length + SL.length) (c := vc) g9 hat).box 5 (.slice (some ⟨vg, 0, none⟩) (D.length + SL.length) vc))
      clear o9 g9 hat T9
      refine hK.out _ _ ?_ (fun hH2 => ?_)
      · exact z5
      clear hK K hHeld
      have hHeld := hH2
      clear hH2
      try simp only [Act.put]
      try simp only [List.setIfInBounds_toArray]
      try simp only [List.set_cons_succ, List.set_cons_zero]
      refine anyK_step (i := 5) (by kernel_rfl) rfl (fun K hK => ?_)
      go_simp
      refine hK.out _ _ ?_ (fun hH2 => ?_)
      · exact z5
      clear hK K hHeld
      have hHeld := hH2
      clear hH2
      try simp only [Act.put]
      try simp only [List.setIfInBounds_toArray]
      try simp only [List.set_cons_succ, List.set_cons_zero]
      refine anyK_last (by kernel_rfl) rfl (fun K hK => ?_)
      go_simp
      refine hK.out _ _ ?_
      clear hK K hHeld
      refine anyK_done (by kernel_rfl) ?_ _
      clear z5 zf
      clear hi hz0 hz1 hz2 B2 Q2
      have FA := finE HPE.out HU.out.1 HU.out.2 HP.out.2 hgl (show p ≤ p + 1 from Nat.le_succ p) (Nat.le_refl p) (by omega) T0.out HV0.out B3.out Q3.out
      have TQ := hid FA.1
      have AN := hid FA.2
      have TP := hid B3.out.box
      clear FA 
      go_wp2_with (first
        | (refine wpList_load_row rfl 36 (.tmp 3) rfl p rfl 36 _ (0, 0) _ TP.out Try.underlying36 rfl sizeRc' ?_)
        | (refine wpList_store_row rfl 36 (.tmp 4) (.tmp 59) rfl (p + 1) #[.int .i64 K, .int .i64 L, .int .i64 X, .int .i64 P, .int .i64 S, .slice (some ⟨vg, 0, none⟩) (D.length + SL.length) vc] rfl rfl 36 _ TQ.out ?s1x7 ?s2x7 ?s3x7 ?_))
      case s1x7 => simpa using sizeRc'
      try case s2x7 => rfl
      case s3x7 => simp [Value.oneCell']
      refine bodyPost_ret (results_cell_row Try.results56 _ _ (p + 1) 36 #[.int .i64 K, .int .i64 L, .int .i64 X, .int .i64 P, .int .i64 S, .slice (some ⟨vg, 0, none⟩) (D.length + SL.length) vc] (0, 0) _ rfl (setRow_heap _ _ _ _ _ _ TQ.out) Try.underlying36 rfl sizeRc') rfl ?_
      exact AN.out
  by_cases t6 : t = 6
  · subst t6
    obtain ⟨i0, hi, hz0, hz1, hz2⟩ := info_parts Try.info5
    go_wp2_with fail
    go_loopw [] (fun wr => ∃ (D2 : List Int) (a2 : Option Addr) (c2 : Nat), D2.length ≤ 1100 ∧ Hid (Br w0 g p ad n cap zs wr K L X P S (.slice a2 D2.length c2) D2) ∧ Hid (Kp U wr g p (.slice a0 D.length c0) (.slice a2 D2.length c2))) (fun wr => 2000 - lenOf ((wr.cell? ⟨p, 5, none⟩).getD undef))
    case atStart => exact ⟨D, a0, c0, hD, B1, Q1⟩
    case round =>
      obtain ⟨D2, a2, c2, hD2, hB, hQ⟩ := hrel
      clear B1 Q1
      have Y1 := hid hB.out.c5
      have y1d := hB.out.drew.c5
      go_wp2_with fail
      go_region_held3 (fun X => X.cell? ⟨p, 5, none⟩ = some (.slice a2 D2.length c2)) (first | exact z1 | exact y1d)
        (first
        | (go_at_call_of 53 (Value.int IntKind.i64 2); refine (l1Below hB.out.drew.cur hn 2 (by omega) (by omega)).mono ?_; rintro e w2 ⟨y, rfl, hy0, hy1, cc, gg⟩; have B2 := hid (hB.out.drew.cursor cc gg); have Q2 := hid ((hQ.out.still (Still.drew _)).cur gg); have z1 := B2.out.c5))
      clear cc gg z1 y1d
      rw [show IntKind.i64.wrap (92 + y) = 92 + y by rw [IntKind.wrap_i64]; omega]
      by_cases hco : (D2.length : Int) < 92 + y
      · have B3 := hid (B2.out.alloc (.cells #[.int .u8 1] 5))
        have Q3 := hid (Q2.out.alloc (.cells #[.int .u8 1] 5))
        have hUz := B3.out.size
        have y5 := B2.out.c5
        have x5 := B3.out.c5
        clear hB hQ
        go_wp2_with (at_builtin; refine wpList_append_lies _ rfl _ _ 22 rfl w0.heap.size 5 i0 (.int .u8 0) 1 1 Try.underlying22 hi hz0 hz1 hz2 rfl (by omega) (.slice a2 D2.length c2) D2.length (bys D2) rfl B3.out.own ⟨w2.heap.size, 0, none⟩ 1 1 [.int .u8 1] rfl rfl (World.news_of_block (heap_alloc_new w2 _)) (by simp [Value.oneCell']) (by omega) (by unfold maxLen; omega) (by omega) hUz _ rfl ?_)
        intro vg vc w9 o9 g9 hat _
        have T9 := (B3.out.grow g9).1
        have z5 : w9.cell? ⟨p, 5, none⟩ = some (.slice a2 D2.length c2) := by rw [cell_of_row _ _ _ _ _ _ T9]; rfl
        have zf : w9.frozen? ⟨p, 5, none⟩ = false := frozen_of_row _ _ _ _ _ T9
        have B4 := hid (B3.out.app (D' := D2 ++ [1]) g9 (by rw [List.length_append, bys_append]; exact o9) (bd_append B3.out.bd (bd_one 1 (by omega) (by omega))))
        have Q4 := hid ((Q3.out.app (m := D2.length + 1) (c := vc) g9 (by rw [alloc_size]; exact hat)).box 5 (.slice (some ⟨vg, 0, none⟩) (D2.length + 1) vc))
        clear o9 g9 hat T9 y5 x5 B3 Q3 B2 Q2
        go_wp2_with fail
        go_roundw
        case rel => exact ⟨D2 ++ [1], some ⟨vg, 0, none⟩, vc, by simp; omega, by rw [List.length_append]; exact B4, by rw [List.length_append]; exact Q4⟩
        case measure => rw [B4.out.c5, Y1.out]; simp [lenOf]; omega
      · clear hB hQ Y1 hi hz0 hz1 hz2
        have FA := finE HPE.out HU.out.1 HU.out.2 HP.out.2 hgl (show p ≤ p + 1 from Nat.le_succ p) (Nat.le_refl p) (by omega) T0.out HV0.out B2.out Q2.out
        have TQ := hid FA.1
        have AN := hid FA.2
        have TP := hid B2.out.box
        clear FA 
        go_wp2_with (first
          | (refine wpList_load_row rfl 36 (.tmp 3) rfl p rfl 36 _ (0, 0) _ TP.out Try.underlying36 rfl sizeRc' ?_)
          | (refine wpList_store_row rfl 36 (.tmp 4) (.tmp 59) rfl (p + 1) #[.int .i64 K, .int .i64 L, .int .i64 X, .int .i64 P, .int .i64 S, .slice a2 D2.length c2] rfl rfl 36 _ TQ.out ?s1x8 ?s2x8 ?s3x8 ?_))
        case s1x8 => simpa using sizeRc'
        try case s2x8 => rfl
        case s3x8 => simp [Value.oneCell']
        refine bodyPost_ret (results_cell_row Try.results56 _ _ (p + 1) 36 #[.int .i64 K, .int .i64 L, .int .i64 X, .int .i64 P, .int .i64 S, .slice a2 D2.length c2] (0, 0) _ rfl (setRow_heap _ _ _ _ _ _ TQ.out) Try.underlying36 rfl sizeRc') rfl ?_
        exact AN.out
  have FA := finE HPE.out HU.out.1 HU.out.2 HP.out.2 hgl (show p ≤ p + 1 from Nat.le_succ p) (Nat.le_refl p) (by omega) T0.out HV0.out B1.out Q1.out
  have TQ := hid FA.1
  have AN := hid FA.2
  have TP := hid B1.out.box
  clear FA 
  go_wp2_with (first
    | (refine wpList_load_row rfl 36 (.tmp 3) rfl p rfl 36 _ (0, 0) _ TP.out Try.underlying36 rfl sizeRc' ?_)
    | (refine wpList_store_row rfl 36 (.tmp 4) (.tmp 59) rfl (p + 1) #[.int .i64 K, .int .i64 L, .int .i64 X, .int .i64 P, .int .i64 S, .slice a0 D.length c0] rfl rfl 36 _ TQ.out ?s1x9 ?s2x9 ?s3x9 ?_))
  case s1x9 => simpa using sizeRc'
  try case s2x9 => rfl
  case s3x9 => simp [Value.oneCell']
  refine bodyPost_ret (results_cell_row Try.results56 _ _ (p + 1) 36 #[.int .i64 K, .int .i64 L, .int .i64 X, .int .i64 P, .int .i64 S, .slice a0 D.length c0] (0, 0) _ rfl (setRow_heap _ _ _ _ _ _ TQ.out) Try.underlying36 rfl sizeRc') rfl ?_
  exact AN.out
end Go.Proofs.Ytgdnjpdheghfoaa
