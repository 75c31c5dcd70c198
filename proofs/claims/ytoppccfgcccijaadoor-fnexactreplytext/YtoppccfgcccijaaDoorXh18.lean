/- The specification's ItemRead. Conditions: at most 2^20 bytes, and room for them. -/
import Derived.Test.YtoppccfgcccijaaDoorXg18
import Derived.Test.YtoppccfgcccijaaDoorSx7
import Derived.Test.YtoppccfgcccijaaDoorMga
import Derived.Deep.CutBlock
namespace Go.Proofs.YtoppccfgcccijaaDoor
open Go.RowKit
set_option maxRecDepth 100000

theorem two_rows18 (w : World) (a b : Obj) : ((w.alloc a).alloc b).heap[w.heap.size]? = some a ∧ ((w.alloc a).alloc b).heap[w.heap.size + 1]? = some b ∧ ((w.alloc a).alloc b).heap.size = w.heap.size + 2 := by
  have h1 := heap_alloc_new w a
  have h2 := heap_alloc_new (w.alloc a) b
  have z1 := alloc_size w a
  have z2 := alloc_size (w.alloc a) b
  rw [z1] at h2
  exact ⟨((Below.alloc1 (w.alloc a) b).block _ (by omega)).trans h1, h2, by omega⟩
theorem results_cell_tmp18 {P : Program} {fn : Func} {p q : Tmp} {ty : TypeId} (h : fn.results = #[.cell p ty, .tmp q]) (tmps : Array Value) (w : World) (g : Nat) (t : TypeId) (cs : Array Value) (fr : Nat × Nat) (d : TypeDesc)
    (hp : tmps.getD p undef = .pointer (some ⟨g, 0, none⟩)) (hg : w.heap[g]? = some (.cells cs t fr))
    (hu : P.underlying ty = some d) (hd : (match d with | .struct _ | .array _ _ => true | _ => false) = true) (hi : (P.info? ty).map (·.size) = some cs.size) :
    (results fn tmps).run P w = .ok (.tuple #[.agg cs, tmps.getD q undef]) w := by
  have hp' : tmps[p]?.getD undef = .pointer (some ⟨g, 0, none⟩) := by simpa using hp
  simp [results, h, hp', asAddr, run_loadVar_row w g t ty cs fr d hg hu hd hi]
/-- What ItemRead answers. -/
def ItAns (zs : List Int) (w' : World) (e : Ending) : Prop := ∃ (K N : Int) (f : Nat) (a : Option Addr) (n c : Nat) (Z : List Int) (fl : Bool), e = .returned (.tuple #[.agg #[.int .i64 K, .int .i64 N, .float .f64 f, .slice a n c], .bool fl]) ∧ Reads w' a n Z ∧ f < 18446744073709551616 ∧ (fl = true → ItB K N f Z ∧ txtI K N f Z = zs) ∧ (fl = false → (K = 0 ∧ N = 0 ∧ f = 0 ∧ a = none ∧ n = 0 ∧ c = 0) ∧ ∀ K' N' f' Z', ItB K' N' f' Z' → txtI K' N' f' Z' ≠ zs)
theorem Reads.nil18 (w : World) : Reads w none 0 [] := ⟨rfl, .inl rfl, fun i => by simp⟩
theorem ItAns.no {zs : List Int} (w' : World) (h : ∀ K' N' f' Z', ItB K' N' f' Z' → txtI K' N' f' Z' ≠ zs) : ItAns zs w' (.returned (.tuple #[.agg #[.int .i64 0, .int .i64 0, .float .f64 0, .slice none 0 0], .bool false])) :=
  ⟨0, 0, 0, none, 0, 0, [], false, rfl, Reads.nil18 _, by omega, fun e => (by cases e), fun _ => ⟨⟨rfl, rfl, rfl, rfl, rfl, rfl⟩, h⟩⟩
theorem TxB.rd {B : Nat} {w : World} {v : Value} {L : List Int} (h : TxB B w v L) (hL : ∀ i, 0 ≤ L.getD i 0 ∧ L.getD i 0 ≤ 255) : ∃ a c, v = .slice a L.length c ∧ Reads w a L.length L := by
  rcases h with ⟨rfl, rfl⟩ | h
  · exact ⟨none, 0, rfl, Reads.nil18 w⟩
  · exact h.rd hL
theorem txtI_byte {K N : Int} {f : Nat} {Z : List Int} (hN : -9223372036854775808 ≤ N ∧ N ≤ 9223372036854775807) (hZ : byteL Z) : byteL (txtI K N f Z) := by
  have hc : ∀ (c : Int) (L : List Int), 0 ≤ c ∧ c ≤ 255 → byteL L → byteL (c :: L) := fun c L h1 h2 i => by
    cases i with
    | zero => exact h1
    | succ i => rw [List.getD_cons_succ]; exact h2 i
  unfold txtI
  split
  · split
    · exact hc _ _ (by omega) (fun i => decI_byte hN i)
    · split
      · exact hc _ _ (by omega) (hexB_byte (hi8_bd _ 8))
      · split
        · exact hc _ _ (by omega) (hexB_byte hZ)
        · exact hc _ _ (by omega) (fun i => by simp)
  · intro i; simp
theorem set_ne18 (w : World) (g o k : Nat) (u : Value) (h : k ≠ g) : (w.setCell ⟨g, o, none⟩ u).heap[k]? = w.heap[k]? := heap_setCell_other w ⟨g, o, none⟩ k u (by simpa using h)
theorem Reads.set18 {w : World} {a : Option Addr} {n : Nat} {zs : List Int} (h : Reads w a n zs) (g o : Nat) (u : Value) (hne : ∀ x, a = some x → x.block ≠ g) : Reads (w.setCell ⟨g, o, none⟩ u) a n zs := by
  refine ⟨h.len, ?_, h.bd⟩
  rcases h.cells with h0 | ⟨b, off, rfl, hc⟩
  · exact .inl h0
  · exact .inr ⟨b, off, rfl, fun i hi => (World.cell?_of_block (set_ne18 w g o b u (hne _ rfl))).trans (hc i hi)⟩
theorem Reads.row18 {w : World} {a : Option Addr} {n : Nat} {zs : List Int} (h : Reads w a n zs) (g : Nat) (cs : Array Value) (hne : ∀ x, a = some x → x.block ≠ g) : Reads (w.setRow g cs) a n zs := by
  refine ⟨h.len, ?_, h.bd⟩
  rcases h.cells with h0 | ⟨b, off, rfl, hc⟩
  · exact .inl h0
  · exact .inr ⟨b, off, rfl, fun i hi => (World.cell?_of_block (setRow_other w g b cs (hne _ rfl))).trans (hc i hi)⟩
theorem exec_load18 {P : Program} {o : Oper} {a : Act} {w : World} (ty : TypeId) (x : Operand) (ho : o.op = .load ty x)
    (g : Nat) (hx : a.eval x = .pointer (some ⟨g, 0, none⟩)) (t : TypeId) (cs : Array Value) (fr : Nat × Nat) (d : TypeDesc) (hg : w.heap[g]? = some (.cells cs t fr))
    (hu : P.underlying ty = some d) (hd : (match d with | .struct _ | .array _ _ => true | _ => false) = true) (hi : (P.info? ty).map (·.size) = some cs.size) :
    (execOp a.eval o).run P w = .ok (.value (.agg cs)) w := by
  unfold execOp
  simp only [ho, hx, Instr.loadAt, Instr.sureAddr, Sem.run_bind, Sem.run_pure, Result.andThen_ok, run_loadVar_row w g t ty cs fr d hg hu hd hi]
theorem drop1_at (zs : List Int) (i : Nat) : (zs.drop 1).getD i 0 = zs.getD (1 + i) 0 := by simp [List.getD, Nat.add_comm]
theorem unH_len (zs : List Int) : (unH zs).1.length ≤ zs.length := by
  unfold unH
  split
  · rw [prN_len]; omega
  · simp
/-- What stands in memory once the first guess is made. -/
def MidI (w : World) (p2 p4 : Nat) (zs : List Int) (wx : World) : Prop := ∃ (K N : Int) (f : Nat) (a : Option Addr) (m c : Nat) (Z : List Int), Cand zs K N f Z ∧ (-9223372036854775808 ≤ N ∧ N ≤ 9223372036854775807) ∧ f < 18446744073709551616 ∧ m ≤ 1048576 ∧ wx.heap[p4]? = some (.cells #[.int .i64 K, .int .i64 N, .float .f64 f, .slice a m c] 28) ∧ wx.heap[p2]? = some (.cells #[.int .i64 0, .int .i64 0, .float .f64 0, .slice none 0 0] 28) ∧ Reads wx a m Z ∧ (∀ x, a = some x → x.block ≠ p2) ∧ Below w.heap.size w wx
theorem MidI.ok {zs : List Int} {K N : Int} {f : Nat} {Z : List Int} (hN : -9223372036854775808 ≤ N ∧ N ≤ 9223372036854775807) (hf : f < 18446744073709551616) (hZ : byteL Z) (he : txtI K N f Z = zs) (hz : 1 ≤ zs.length) : ItB K N f Z := by
  refine ⟨hN, hf, hZ, ?_⟩
  by_cases h : okI K N f Z.length = true
  · exact h
  · unfold txtI at he; rw [if_neg h] at he; rw [← he] at hz; simp at hz
set_option maxHeartbeats 12800000 in
theorem spec_ItemRead {ad : Option Addr} {n : Nat} (cap : Nat) (hcap : n ≤ cap) {zs : List Int} {w : World} (h : Reads w ad n zs) (hn : n ≤ 1048576) :
    Calls Tryd.prog 15 #[.slice ad n cap] w fun e w' => ItAns zs w' e ∧ Below w.heap.size w w' := by
  have HR := hid h
  have HBd := hid h.bd
  have HL := hid h.len
  have hst0 := fun w a m => run_store Tryd.prog w a (.float .f64 0) m rfl
  have HB0 := hid (two w (.cells #[.int .i64 0, .int .i64 0, .float .f64 0, .slice none 0 0] 28) (.cells #[.int .i64 0, .int .i64 0, .float .f64 0, .slice none 0 0] 28))
  obtain ⟨q1, q2, q3⟩ := two_rows18 w (.cells #[.int .i64 0, .int .i64 0, .float .f64 0, .slice none 0 0] 28) (.cells #[.int .i64 0, .int .i64 0, .float .f64 0, .slice none 0 0] 28)
  have HR2 := hid q1
  have HR4 := hid q2
  have HZ := hid q3
  clear h q1 q2 q3
  go_enter Tryd.func15, Tryd.ntmps15
  go_upto_region 2 with fail
  generalize (w.alloc (.cells #[.int .i64 0, .int .i64 0, .float .f64 0, .slice none 0 0] 28)).alloc (.cells #[.int .i64 0, .int .i64 0, .float .f64 0, .slice none 0 0] 28) = U at *
  obtain ⟨p2, hp2⟩ : ∃ p2, w.heap.size = p2 := ⟨_, rfl⟩
  have HP2 := hid hp2
  rw [hp2] at HR2 HR4 HZ
  try simp only [hp2]
  obtain ⟨p4, hp4⟩ : ∃ p4, p2 + 1 = p4 := ⟨_, rfl⟩
  have HP4 := hid hp4
  rw [hp4] at HR4
  try simp only [hp4]
  clear hp2 hp4
  by_cases hn1 : n < 1
  · have hn1' : (n : Int) < 1 := by omega
    have HNo := hid (show ∀ K' N' f' Z', ItB K' N' f' Z' → txtI K' N' f' Z' ≠ zs from fun K' N' f' Z' hi e => by have := txtI_len hi; rw [e, HL.out] at this; omega)
    have d0 : U.cell? ⟨p4, 0, none⟩ = some (.int .i64 0) := by rw [cell_of_row _ _ _ _ _ _ HR4.out]; rfl
    have d1 : U.cell? ⟨p4, 1, none⟩ = some (.int .i64 0) := by rw [cell_of_row _ _ _ _ _ _ HR4.out]; rfl
    have d2 : U.cell? ⟨p4, 2, none⟩ = some (.float .f64 0) := by rw [cell_of_row _ _ _ _ _ _ HR4.out]; rfl
    have d3 : U.cell? ⟨p4, 3, none⟩ = some (.slice none 0 0) := by rw [cell_of_row _ _ _ _ _ _ HR4.out]; rfl
    go_wp2_with (refine wpList_store_row rfl 28 (.tmp 2) _ rfl p2 #[.int .i64 0, .int .i64 0, .float .f64 0, .slice none 0 0] rfl rfl 28 _ HR2.out size28 rfl (by simp [Value.oneCell']) ?_)
    exact bodyPost_ret (results_cell_tmp18 Tryd.results15 _ _ p2 28 #[.int .i64 0, .int .i64 0, .float .f64 0, .slice none 0 0] (0, 0) _ rfl (setRow_heap _ _ _ _ _ _ HR2.out) Tryd.underlying28 rfl size28) rfl ⟨ItAns.no _ HNo.out, below_setRow HB0.out (by have := HP2.out; omega) _⟩
  have hn1' : ¬ (n : Int) < 1 := by omega
  by_cases h81 : 81 < n
  · have h81' : (81 : Int) < (n : Int) := by omega
    have HNo := hid (show ∀ K' N' f' Z', ItB K' N' f' Z' → txtI K' N' f' Z' ≠ zs from fun K' N' f' Z' hi e => by have := txtI_len hi; rw [e, HL.out] at this; omega)
    have d0 : U.cell? ⟨p4, 0, none⟩ = some (.int .i64 0) := by rw [cell_of_row _ _ _ _ _ _ HR4.out]; rfl
    have d1 : U.cell? ⟨p4, 1, none⟩ = some (.int .i64 0) := by rw [cell_of_row _ _ _ _ _ _ HR4.out]; rfl
    have d2 : U.cell? ⟨p4, 2, none⟩ = some (.float .f64 0) := by rw [cell_of_row _ _ _ _ _ _ HR4.out]; rfl
    have d3 : U.cell? ⟨p4, 3, none⟩ = some (.slice none 0 0) := by rw [cell_of_row _ _ _ _ _ _ HR4.out]; rfl
    go_wp2_with (refine wpList_store_row rfl 28 (.tmp 2) _ rfl p2 #[.int .i64 0, .int .i64 0, .float .f64 0, .slice none 0 0] rfl rfl 28 _ HR2.out size28 rfl (by simp [Value.oneCell']) ?_)
    exact bodyPost_ret (results_cell_tmp18 Tryd.results15 _ _ p2 28 #[.int .i64 0, .int .i64 0, .float .f64 0, .slice none 0 0] (0, 0) _ rfl (setRow_heap _ _ _ _ _ _ HR2.out) Tryd.underlying28 rfl size28) rfl ⟨ItAns.no _ HNo.out, below_setRow HB0.out (by have := HP2.out; omega) _⟩
  have h81' : ¬ (81 : Int) < (n : Int) := by omega
  obtain ⟨b, off, rfl, hcell⟩ : ∃ b off, ad = some ⟨b, off, none⟩ ∧ ∀ i, i < n → w.cell? ⟨b, off + i, none⟩ = some (.int .u8 (zs.getD i 0)) := by
    rcases HR.out.cells with h0 | h1
    · omega
    · exact h1
  have c00 := hcell 0 (by omega)
  rw [Nat.add_zero] at c00
  have c0 : U.cell? ⟨b, off, none⟩ = some (.int .u8 (zs.getD 0 0)) := (HB0.out.cell (World.block_lt_of_cell? w _ c00)).trans c00
  have hz := HBd.out 0
  have HRd1 := hid (show ∀ W, Below w.heap.size w W → ∀ a1, (cap = 1 ∧ a1 = some (⟨b, off, none⟩ : Addr)) ∨ (¬ cap = 1 ∧ a1 = some ⟨b, off + 1, none⟩) → Reads W a1 (n - 1) (zs.drop 1) from fun W bb a1 ha => by
    refine ⟨by rw [List.length_drop, HL.out], ?_, fun i => by rw [show (zs.drop 1).getD i 0 = zs.getD (1 + i) 0 from drop1_at zs _]; exact HBd.out _⟩
    rcases ha with ⟨e, _⟩ | ⟨_, rfl⟩
    · exact .inl (by omega)
    · refine .inr ⟨b, off + 1, rfl, fun i hi => ?_⟩
      rw [show (zs.drop 1).getD i 0 = zs.getD (1 + i) 0 from drop1_at zs _, show off + 1 + i = off + (1 + i) by omega]
      have h := hcell (1 + i) (by omega)
      exact (bb.cell (World.block_lt_of_cell? w _ h)).trans h)
  obtain ⟨z0, hz0⟩ : ∃ z0, zs.getD 0 0 = z0 := ⟨_, rfl⟩
  rw [hz0] at c0 hz
  have HZ0 := hid hz0
  have hc1 : 1 ≤ cap := by omega
  have hn1 : (1 : Int) ≤ (n : Int) := by omega
  have hc1' : (1 : Int) ≤ (cap : Int) := by omega
  have hw1 : IntKind.i64.wrap ((n : Int) - 1) = (n : Int) - 1 := by simp [IntKind.wrap, IntKind.bits, IntKind.signed]; omega
  clear hcell c00 hz0
  obtain ⟨D, hD⟩ : ∃ D, zs.drop 1 = D := ⟨_, rfl⟩
  rw [hD] at HRd1
  have HD := hid hD
  have HLD := hid (show D.length = n - 1 by rw [← hD, List.length_drop, HL.out])
  clear hD
  go_upto_block 0 with fail
  go_cut [] (fun wx => Hid (MidI w p2 p4 zs wx))
  case first =>
    have HBU := hid HB0.out
    by_cases ec : cap = 1
    · subst ec
      have en : n = 1 := by omega
      subst en
      have HRd0 := hid (fun W (bb : Below w.heap.size w W) => (show Reads W (some ⟨b, off, none⟩) 0 D from HRd1.out W bb _ (by simp)))
      clear HRd1
      by_cases hi : z0 = 105
      · subst hi
        have f0 : U.cell? ⟨p4, 0, none⟩ = some (.int .i64 0) := by rw [cell_of_row _ _ _ _ _ _ HR4.out]; rfl
        have g0 : U.frozen? ⟨p4, 0, none⟩ = false := frozen_of_row _ _ 0 _ _ HR4.out
        go_wp2_with fail
        replace HR2 := hid ((set_ne18 U p4 0 p2 (.int .i64 1) (by have := HP4.out; omega)).trans HR2.out)
        replace HBU := hid (HBU.out.setCell (show w.heap.size ≤ (⟨p4, 0, none⟩ : Addr).block by have := HP4.out; have := HP2.out; simp only; omega) (.int .i64 1))
        replace HR4 := hid (show (U.setCell ⟨p4, 0, none⟩ (.int .i64 1)).heap[p4]? = some (.cells #[.int .i64 (1), .int .i64 0, .float .f64 0, .slice none 0 0] 28 (0, 0)) by rw [heap_setCell_same _ _ _ _ _ _ HR4.out]; rfl)
        clear f0 g0
        refine (spec_l18number _ (HRd0.out _ HBU.out) (by omega)).mono ?_
        rintro e w1 ⟨x, hxb, ⟨fl, rfl⟩, ht, b1⟩
        replace HR2 := hid ((b1.block p2 (Array.getElem?_eq_some_iff.1 HR2.out).1).trans HR2.out)
        replace HR4 := hid ((b1.block p4 (Array.getElem?_eq_some_iff.1 HR4.out).1).trans HR4.out)
        replace HBU := hid (HBU.out.trans (b1.mono HBU.out.size))
        have HT := hid ht
        have HXb := hid hxb
        clear ht hxb b1
        have f1 : w1.cell? ⟨p4, 1, none⟩ = some (.int .i64 0) := by rw [cell_of_row _ _ _ _ _ _ HR4.out]; rfl
        have g1 : w1.frozen? ⟨p4, 1, none⟩ = false := frozen_of_row _ _ 1 _ _ HR4.out
        have HV := hid (show ∀ X, X = w1.setCell ⟨p4, 1, none⟩ (.int .i64 x) → MidI w p2 p4 zs X from fun X e => by
          replace HR2 := hid ((set_ne18 w1 p4 1 p2 (.int .i64 x) (by have := HP4.out; omega)).trans HR2.out)
          replace HBU := hid (HBU.out.setCell (show w.heap.size ≤ (⟨p4, 1, none⟩ : Addr).block by have := HP4.out; have := HP2.out; simp only; omega) (.int .i64 x))
          replace HR4 := hid (show (w1.setCell ⟨p4, 1, none⟩ (.int .i64 x)).heap[p4]? = some (.cells #[.int .i64 (1), .int .i64 x, .float .f64 0, .slice none 0 0] 28 (0, 0)) by rw [heap_setCell_same _ _ _ _ _ _ HR4.out]; rfl)
          clear f1 g1
          rw [e]
          exact ⟨1, x, 0, none, 0, 0, [], cand_int HZ0.out (by rw [HD.out]; exact HT.out), HXb.out, by omega, by omega, HR4.out, HR2.out, Reads.nil18 _, (fun _ e => by cases e), HBU.out⟩)
        go_wp2_with fail
        go_meet
        case rel => exact hid (HV.out _ rfl)
      · have hi' : ¬ (z0 : Int) = 105 := hi
        by_cases hf : z0 = 102
        · subst hf
          have f0 : U.cell? ⟨p4, 0, none⟩ = some (.int .i64 0) := by rw [cell_of_row _ _ _ _ _ _ HR4.out]; rfl
          have g0 : U.frozen? ⟨p4, 0, none⟩ = false := frozen_of_row _ _ 0 _ _ HR4.out
          go_wp2_with fail
          replace HR2 := hid ((set_ne18 U p4 0 p2 (.int .i64 2) (by have := HP4.out; omega)).trans HR2.out)
          replace HBU := hid (HBU.out.setCell (show w.heap.size ≤ (⟨p4, 0, none⟩ : Addr).block by have := HP4.out; have := HP2.out; simp only; omega) (.int .i64 2))
          replace HR4 := hid (show (U.setCell ⟨p4, 0, none⟩ (.int .i64 2)).heap[p4]? = some (.cells #[.int .i64 (2), .int .i64 0, .float .f64 0, .slice none 0 0] 28 (0, 0)) by rw [heap_setCell_same _ _ _ _ _ _ HR4.out]; rfl)
          clear f0 g0
          refine (spec_l18unhex _ (HRd0.out _ HBU.out) (by omega)).mono ?_
          rintro e w1 ⟨v1, rfl, o1, b1⟩
          obtain ⟨a1, d1, rfl, r1, hx⟩ := Reads.own o1 (unH_byte _)
          have HRV := hid r1
          replace HR2 := hid ((b1.block p2 (Array.getElem?_eq_some_iff.1 HR2.out).1).trans HR2.out)
          replace HR4 := hid ((b1.block p4 (Array.getElem?_eq_some_iff.1 HR4.out).1).trans HR4.out)
          replace HBU := hid (HBU.out.trans (b1.mono HBU.out.size))
          clear hx r1 o1 b1
          go_wp2_with fail
          refine (spec_l3low d1 HRV.out (by have := unH_len D; rw [HLD.out] at this; omega)).mono ?_
          rintro e w2 ⟨rfl, e2⟩
          subst w2
          have HLo := hid (low_lt (unH D).1 0 (by omega))
          go_wp2_with fail
          refine (spec_FloatOf (low (unH D).1) HLo.out w1).mono ?_
          rintro e w2 ⟨y, rfl, hy, hy1, hy2, st⟩
          have b2 := st.below w1.heap.size
          have HY := hid hy
          have hst1 := fun w a m => run_store Tryd.prog w a (.float .f64 y) m rfl
          replace HR2 := hid ((b2.block p2 (Array.getElem?_eq_some_iff.1 HR2.out).1).trans HR2.out)
          replace HR4 := hid ((b2.block p4 (Array.getElem?_eq_some_iff.1 HR4.out).1).trans HR4.out)
          replace HBU := hid (HBU.out.trans (b2.mono HBU.out.size))
          clear b2 st hy
          have f2 : w2.cell? ⟨p4, 2, none⟩ = some (.float .f64 0) := by rw [cell_of_row _ _ _ _ _ _ HR4.out]; rfl
          have g2 : w2.frozen? ⟨p4, 2, none⟩ = false := frozen_of_row _ _ 2 _ _ HR4.out
          have HV := hid (show ∀ X, X = w2.setCell ⟨p4, 2, none⟩ (.float .f64 y) → MidI w p2 p4 zs X from fun X e => by
            replace HR2 := hid ((set_ne18 w2 p4 2 p2 (.float .f64 y) (by have := HP4.out; omega)).trans HR2.out)
            replace HBU := hid (HBU.out.setCell (show w.heap.size ≤ (⟨p4, 2, none⟩ : Addr).block by have := HP4.out; have := HP2.out; simp only; omega) (.float .f64 y))
            replace HR4 := hid (show (w2.setCell ⟨p4, 2, none⟩ (.float .f64 y)).heap[p4]? = some (.cells #[.int .i64 (2), .int .i64 0, .float .f64 y, .slice none 0 0] 28 (0, 0)) by rw [heap_setCell_same _ _ _ _ _ _ HR4.out]; rfl)
            clear f2 g2
            rw [e]
            exact ⟨2, 0, y, none, 0, 0, [], cand_float HZ0.out (by rw [HD.out]; exact hy1.out) (by rw [HD.out]; exact hy2.out), by omega, HY.out, by omega, HR4.out, HR2.out, Reads.nil18 _, (fun _ e => by cases e), HBU.out⟩)
          go_wp2_with fail
          go_meet
          case rel => exact hid (HV.out _ rfl)
        · have hf' : ¬ (z0 : Int) = 102 := hf
          by_cases ht : z0 = 116
          · subst ht
            have f0 : U.cell? ⟨p4, 0, none⟩ = some (.int .i64 0) := by rw [cell_of_row _ _ _ _ _ _ HR4.out]; rfl
            have g0 : U.frozen? ⟨p4, 0, none⟩ = false := frozen_of_row _ _ 0 _ _ HR4.out
            go_wp2_with fail
            replace HR2 := hid ((set_ne18 U p4 0 p2 (.int .i64 3) (by have := HP4.out; omega)).trans HR2.out)
            replace HBU := hid (HBU.out.setCell (show w.heap.size ≤ (⟨p4, 0, none⟩ : Addr).block by have := HP4.out; have := HP2.out; simp only; omega) (.int .i64 3))
            replace HR4 := hid (show (U.setCell ⟨p4, 0, none⟩ (.int .i64 3)).heap[p4]? = some (.cells #[.int .i64 (3), .int .i64 0, .float .f64 0, .slice none 0 0] 28 (0, 0)) by rw [heap_setCell_same _ _ _ _ _ _ HR4.out]; rfl)
            clear f0 g0
            refine (spec_l18unhex _ (HRd0.out _ HBU.out) (by omega)).mono ?_
            rintro e w1 ⟨v1, rfl, o1, b1⟩
            obtain ⟨a1, d1, rfl, r1, hx⟩ := Reads.own o1 (unH_byte _)
            have HX := hid (show ∀ y, a1 = some y → y.block ≠ p4 ∧ y.block ≠ p2 from fun y e => by
              rcases hx with h | ⟨g, h, h1, _⟩
              · rw [h] at e; cases e
              · rw [h] at e; cases e; have := (Array.getElem?_eq_some_iff.1 HR4.out).1; have := HP4.out; simp only at *; constructor <;> omega)
            have HRV := hid r1
            replace HR2 := hid ((b1.block p2 (Array.getElem?_eq_some_iff.1 HR2.out).1).trans HR2.out)
            replace HR4 := hid ((b1.block p4 (Array.getElem?_eq_some_iff.1 HR4.out).1).trans HR4.out)
            replace HBU := hid (HBU.out.trans (b1.mono HBU.out.size))
            clear hx r1 o1 b1
            have f3 : w1.cell? ⟨p4, 3, none⟩ = some (.slice none 0 0) := by rw [cell_of_row _ _ _ _ _ _ HR4.out]; rfl
            have g3 : w1.frozen? ⟨p4, 3, none⟩ = false := frozen_of_row _ _ 3 _ _ HR4.out
            have HV := hid (show ∀ X, X = w1.setCell ⟨p4, 3, none⟩ (.slice a1 (unH D).1.length d1) → MidI w p2 p4 zs X from fun X e => by
              replace HR2 := hid ((set_ne18 w1 p4 3 p2 (.slice a1 (unH D).1.length d1) (by have := HP4.out; omega)).trans HR2.out)
              replace HBU := hid (HBU.out.setCell (show w.heap.size ≤ (⟨p4, 3, none⟩ : Addr).block by have := HP4.out; have := HP2.out; simp only; omega) (.slice a1 (unH D).1.length d1))
              replace HR4 := hid (show (w1.setCell ⟨p4, 3, none⟩ (.slice a1 (unH D).1.length d1)).heap[p4]? = some (.cells #[.int .i64 (3), .int .i64 0, .float .f64 0, .slice a1 (unH D).1.length d1] 28 (0, 0)) by rw [heap_setCell_same _ _ _ _ _ _ HR4.out]; rfl)
              clear f3 g3
              rw [e]
              exact ⟨3, 0, 0, a1, _, d1, (unH D).1, by have := cand_text HZ0.out; rw [HD.out] at this; exact this, by omega, by omega, (by have := unH_len D; rw [HLD.out] at this; omega), HR4.out, HR2.out, HRV.out.set18 p4 3 _ (fun y e => (HX.out y e).1), (fun y e => (HX.out y e).2), HBU.out⟩)
            go_wp2_with fail
            go_meet
            case rel => exact hid (HV.out _ rfl)
          · have ht' : ¬ (z0 : Int) = 116 := ht
            have HM := hid (show MidI w p2 p4 zs U from ⟨0, 0, 0, none, 0, 0, [], cand_none (by rw [HZ0.out]; exact hi) (by rw [HZ0.out]; exact hf) (by rw [HZ0.out]; exact ht), by omega, by omega, by omega, HR4.out, HR2.out, Reads.nil18 _, (fun _ e => by cases e), HBU.out⟩)
            go_wp2_with fail
            go_meet
            case rel => exact HM
    · have HRd0 := hid (fun W (bb : Below w.heap.size w W) => HRd1.out W bb (some ⟨b, off + 1, none⟩) (.inr ⟨ec, rfl⟩))
      clear HRd1
      by_cases hi : z0 = 105
      · subst hi
        have f0 : U.cell? ⟨p4, 0, none⟩ = some (.int .i64 0) := by rw [cell_of_row _ _ _ _ _ _ HR4.out]; rfl
        have g0 : U.frozen? ⟨p4, 0, none⟩ = false := frozen_of_row _ _ 0 _ _ HR4.out
        go_wp2_with fail
        replace HR2 := hid ((set_ne18 U p4 0 p2 (.int .i64 1) (by have := HP4.out; omega)).trans HR2.out)
        replace HBU := hid (HBU.out.setCell (show w.heap.size ≤ (⟨p4, 0, none⟩ : Addr).block by have := HP4.out; have := HP2.out; simp only; omega) (.int .i64 1))
        replace HR4 := hid (show (U.setCell ⟨p4, 0, none⟩ (.int .i64 1)).heap[p4]? = some (.cells #[.int .i64 (1), .int .i64 0, .float .f64 0, .slice none 0 0] 28 (0, 0)) by rw [heap_setCell_same _ _ _ _ _ _ HR4.out]; rfl)
        clear f0 g0
        refine (spec_l18number _ (HRd0.out _ HBU.out) (by omega)).mono ?_
        rintro e w1 ⟨x, hxb, ⟨fl, rfl⟩, ht, b1⟩
        replace HR2 := hid ((b1.block p2 (Array.getElem?_eq_some_iff.1 HR2.out).1).trans HR2.out)
        replace HR4 := hid ((b1.block p4 (Array.getElem?_eq_some_iff.1 HR4.out).1).trans HR4.out)
        replace HBU := hid (HBU.out.trans (b1.mono HBU.out.size))
        have HT := hid ht
        have HXb := hid hxb
        clear ht hxb b1
        have f1 : w1.cell? ⟨p4, 1, none⟩ = some (.int .i64 0) := by rw [cell_of_row _ _ _ _ _ _ HR4.out]; rfl
        have g1 : w1.frozen? ⟨p4, 1, none⟩ = false := frozen_of_row _ _ 1 _ _ HR4.out
        have HV := hid (show ∀ X, X = w1.setCell ⟨p4, 1, none⟩ (.int .i64 x) → MidI w p2 p4 zs X from fun X e => by
          replace HR2 := hid ((set_ne18 w1 p4 1 p2 (.int .i64 x) (by have := HP4.out; omega)).trans HR2.out)
          replace HBU := hid (HBU.out.setCell (show w.heap.size ≤ (⟨p4, 1, none⟩ : Addr).block by have := HP4.out; have := HP2.out; simp only; omega) (.int .i64 x))
          replace HR4 := hid (show (w1.setCell ⟨p4, 1, none⟩ (.int .i64 x)).heap[p4]? = some (.cells #[.int .i64 (1), .int .i64 x, .float .f64 0, .slice none 0 0] 28 (0, 0)) by rw [heap_setCell_same _ _ _ _ _ _ HR4.out]; rfl)
          clear f1 g1
          rw [e]
          exact ⟨1, x, 0, none, 0, 0, [], cand_int HZ0.out (by rw [HD.out]; exact HT.out), HXb.out, by omega, by omega, HR4.out, HR2.out, Reads.nil18 _, (fun _ e => by cases e), HBU.out⟩)
        go_wp2_with fail
        go_meet
        case rel => exact hid (HV.out _ rfl)
      · have hi' : ¬ (z0 : Int) = 105 := hi
        by_cases hf : z0 = 102
        · subst hf
          have f0 : U.cell? ⟨p4, 0, none⟩ = some (.int .i64 0) := by rw [cell_of_row _ _ _ _ _ _ HR4.out]; rfl
          have g0 : U.frozen? ⟨p4, 0, none⟩ = false := frozen_of_row _ _ 0 _ _ HR4.out
          go_wp2_with fail
          replace HR2 := hid ((set_ne18 U p4 0 p2 (.int .i64 2) (by have := HP4.out; omega)).trans HR2.out)
          replace HBU := hid (HBU.out.setCell (show w.heap.size ≤ (⟨p4, 0, none⟩ : Addr).block by have := HP4.out; have := HP2.out; simp only; omega) (.int .i64 2))
          replace HR4 := hid (show (U.setCell ⟨p4, 0, none⟩ (.int .i64 2)).heap[p4]? = some (.cells #[.int .i64 (2), .int .i64 0, .float .f64 0, .slice none 0 0] 28 (0, 0)) by rw [heap_setCell_same _ _ _ _ _ _ HR4.out]; rfl)
          clear f0 g0
          refine (spec_l18unhex _ (HRd0.out _ HBU.out) (by omega)).mono ?_
          rintro e w1 ⟨v1, rfl, o1, b1⟩
          obtain ⟨a1, d1, rfl, r1, hx⟩ := Reads.own o1 (unH_byte _)
          have HRV := hid r1
          replace HR2 := hid ((b1.block p2 (Array.getElem?_eq_some_iff.1 HR2.out).1).trans HR2.out)
          replace HR4 := hid ((b1.block p4 (Array.getElem?_eq_some_iff.1 HR4.out).1).trans HR4.out)
          replace HBU := hid (HBU.out.trans (b1.mono HBU.out.size))
          clear hx r1 o1 b1
          go_wp2_with fail
          refine (spec_l3low d1 HRV.out (by have := unH_len D; rw [HLD.out] at this; omega)).mono ?_
          rintro e w2 ⟨rfl, e2⟩
          subst w2
          have HLo := hid (low_lt (unH D).1 0 (by omega))
          go_wp2_with fail
          refine (spec_FloatOf (low (unH D).1) HLo.out w1).mono ?_
          rintro e w2 ⟨y, rfl, hy, hy1, hy2, st⟩
          have b2 := st.below w1.heap.size
          have HY := hid hy
          have hst1 := fun w a m => run_store Tryd.prog w a (.float .f64 y) m rfl
          replace HR2 := hid ((b2.block p2 (Array.getElem?_eq_some_iff.1 HR2.out).1).trans HR2.out)
          replace HR4 := hid ((b2.block p4 (Array.getElem?_eq_some_iff.1 HR4.out).1).trans HR4.out)
          replace HBU := hid (HBU.out.trans (b2.mono HBU.out.size))
          clear b2 st hy
          have f2 : w2.cell? ⟨p4, 2, none⟩ = some (.float .f64 0) := by rw [cell_of_row _ _ _ _ _ _ HR4.out]; rfl
          have g2 : w2.frozen? ⟨p4, 2, none⟩ = false := frozen_of_row _ _ 2 _ _ HR4.out
          have HV := hid (show ∀ X, X = w2.setCell ⟨p4, 2, none⟩ (.float .f64 y) → MidI w p2 p4 zs X from fun X e => by
            replace HR2 := hid ((set_ne18 w2 p4 2 p2 (.float .f64 y) (by have := HP4.out; omega)).trans HR2.out)
            replace HBU := hid (HBU.out.setCell (show w.heap.size ≤ (⟨p4, 2, none⟩ : Addr).block by have := HP4.out; have := HP2.out; simp only; omega) (.float .f64 y))
            replace HR4 := hid (show (w2.setCell ⟨p4, 2, none⟩ (.float .f64 y)).heap[p4]? = some (.cells #[.int .i64 (2), .int .i64 0, .float .f64 y, .slice none 0 0] 28 (0, 0)) by rw [heap_setCell_same _ _ _ _ _ _ HR4.out]; rfl)
            clear f2 g2
            rw [e]
            exact ⟨2, 0, y, none, 0, 0, [], cand_float HZ0.out (by rw [HD.out]; exact hy1.out) (by rw [HD.out]; exact hy2.out), by omega, HY.out, by omega, HR4.out, HR2.out, Reads.nil18 _, (fun _ e => by cases e), HBU.out⟩)
          go_wp2_with fail
          go_meet
          case rel => exact hid (HV.out _ rfl)
        · have hf' : ¬ (z0 : Int) = 102 := hf
          by_cases ht : z0 = 116
          · subst ht
            have f0 : U.cell? ⟨p4, 0, none⟩ = some (.int .i64 0) := by rw [cell_of_row _ _ _ _ _ _ HR4.out]; rfl
            have g0 : U.frozen? ⟨p4, 0, none⟩ = false := frozen_of_row _ _ 0 _ _ HR4.out
            go_wp2_with fail
            replace HR2 := hid ((set_ne18 U p4 0 p2 (.int .i64 3) (by have := HP4.out; omega)).trans HR2.out)
            replace HBU := hid (HBU.out.setCell (show w.heap.size ≤ (⟨p4, 0, none⟩ : Addr).block by have := HP4.out; have := HP2.out; simp only; omega) (.int .i64 3))
            replace HR4 := hid (show (U.setCell ⟨p4, 0, none⟩ (.int .i64 3)).heap[p4]? = some (.cells #[.int .i64 (3), .int .i64 0, .float .f64 0, .slice none 0 0] 28 (0, 0)) by rw [heap_setCell_same _ _ _ _ _ _ HR4.out]; rfl)
            clear f0 g0
            refine (spec_l18unhex _ (HRd0.out _ HBU.out) (by omega)).mono ?_
            rintro e w1 ⟨v1, rfl, o1, b1⟩
            obtain ⟨a1, d1, rfl, r1, hx⟩ := Reads.own o1 (unH_byte _)
            have HX := hid (show ∀ y, a1 = some y → y.block ≠ p4 ∧ y.block ≠ p2 from fun y e => by
              rcases hx with h | ⟨g, h, h1, _⟩
              · rw [h] at e; cases e
              · rw [h] at e; cases e; have := (Array.getElem?_eq_some_iff.1 HR4.out).1; have := HP4.out; simp only at *; constructor <;> omega)
            have HRV := hid r1
            replace HR2 := hid ((b1.block p2 (Array.getElem?_eq_some_iff.1 HR2.out).1).trans HR2.out)
            replace HR4 := hid ((b1.block p4 (Array.getElem?_eq_some_iff.1 HR4.out).1).trans HR4.out)
            replace HBU := hid (HBU.out.trans (b1.mono HBU.out.size))
            clear hx r1 o1 b1
            have f3 : w1.cell? ⟨p4, 3, none⟩ = some (.slice none 0 0) := by rw [cell_of_row _ _ _ _ _ _ HR4.out]; rfl
            have g3 : w1.frozen? ⟨p4, 3, none⟩ = false := frozen_of_row _ _ 3 _ _ HR4.out
            have HV := hid (show ∀ X, X = w1.setCell ⟨p4, 3, none⟩ (.slice a1 (unH D).1.length d1) → MidI w p2 p4 zs X from fun X e => by
              replace HR2 := hid ((set_ne18 w1 p4 3 p2 (.slice a1 (unH D).1.length d1) (by have := HP4.out; omega)).trans HR2.out)
              replace HBU := hid (HBU.out.setCell (show w.heap.size ≤ (⟨p4, 3, none⟩ : Addr).block by have := HP4.out; have := HP2.out; simp only; omega) (.slice a1 (unH D).1.length d1))
              replace HR4 := hid (show (w1.setCell ⟨p4, 3, none⟩ (.slice a1 (unH D).1.length d1)).heap[p4]? = some (.cells #[.int .i64 (3), .int .i64 0, .float .f64 0, .slice a1 (unH D).1.length d1] 28 (0, 0)) by rw [heap_setCell_same _ _ _ _ _ _ HR4.out]; rfl)
              clear f3 g3
              rw [e]
              exact ⟨3, 0, 0, a1, _, d1, (unH D).1, by have := cand_text HZ0.out; rw [HD.out] at this; exact this, by omega, by omega, (by have := unH_len D; rw [HLD.out] at this; omega), HR4.out, HR2.out, HRV.out.set18 p4 3 _ (fun y e => (HX.out y e).1), (fun y e => (HX.out y e).2), HBU.out⟩)
            go_wp2_with fail
            go_meet
            case rel => exact hid (HV.out _ rfl)
          · have ht' : ¬ (z0 : Int) = 116 := ht
            have HM := hid (show MidI w p2 p4 zs U from ⟨0, 0, 0, none, 0, 0, [], cand_none (by rw [HZ0.out]; exact hi) (by rw [HZ0.out]; exact hf) (by rw [HZ0.out]; exact ht), by omega, by omega, by omega, HR4.out, HR2.out, Reads.nil18 _, (fun _ e => by cases e), HBU.out⟩)
            go_wp2_with fail
            go_meet
            case rel => exact HM
  clear HR2 HR4 HZ HB0
  clear c0 hz hw1 hc1 hc1'
  obtain ⟨K, N, f, aI, m, cI, Z, hcd, hN, hf, hm, h4, h2, hrd, hne, hbu⟩ := hcut.out
  clear hcut
  have HCd := hid hcd
  have HN := hid hN
  have HF := hid hf
  have H4 := hid h4
  have H2 := hid h2
  have HI := hid hrd
  have HNE := hid hne
  have HB := hid hbu
  have HLT := hid (show p4 < wc.heap.size from (Array.getElem?_eq_some_iff.1 h4).1)
  have HL2 := hid (show p2 < wc.heap.size from (Array.getElem?_eq_some_iff.1 h2).1)
  have HTb := hid (show byteL (txtI K N f Z) from txtI_byte hN hrd.bd)
  have HSE := hid (str_eq7 HTb.out HBd.out)
  have HK := hid (fun X (bX : Below wc.heap.size wc X) => show X.heap[p4]? = some (.cells #[.int .i64 K, .int .i64 N, .float .f64 f, .slice aI m cI] 28) ∧ (convert 23 9 (.slice (some ⟨b, off, none⟩) n cap)).run Tryd.prog X = .ok (.string (str zs)) X from ⟨(bX.block p4 HLT.out).trans H4.out, (HR.out.below (HB.out.trans (bX.mono HB.out.size)) (Nat.le_refl _)).str cap 23 Tryd.underlying23 Tryd.underlying5 Tryd.underlying9⟩)
  clear hcd hN hf h4 h2 hrd hne hbu
  go_wp2_with fail
  refine region_K 99 (fun X => X.heap[p4]? = some (.cells #[.int .i64 K, .int .i64 N, .float .f64 f, .slice aI m cI] 28) ∧ (convert 23 9 (.slice (some ⟨b, off, none⟩) n cap)).run Tryd.prog X = .ok (.string (str zs)) X) (by kernel_rfl) ?_ (fun hHeld => ?_)
  · exact HK.out _ ((Below.refl _ wc).drew)
  refine anyK_take2 (i := 3) (v := ?v3) rfl (by kernel_rfl) (by kernel_rfl) (by kernel_rfl) (by kernel_rfl) (fun _ _ _ h => h) (by rfl) hHeld ?hy3 (some 55) (by rfl) ?rest3
  case hy3 => (intro W hSw; (try dsimp only at hSw); go_simp; (try with_reducible rfl))
  try simp only [Act.put]
  try simp only [List.setIfInBounds_toArray]
  try simp only [List.set_cons_succ, List.set_cons_zero]
  refine anyK_take2 (i := 4) (v := ?v4) rfl (by kernel_rfl) (by kernel_rfl) (by kernel_rfl) (by kernel_rfl) (fun _ _ _ h => h) (by rfl) hHeld ?hy4 (some 56) (by rfl) ?rest4
  case hy4 => (intro W hSw; obtain ⟨q1, q2⟩ := hSw; go_simp; (try with_reducible rfl))
  try simp only [Act.put]
  try simp only [List.setIfInBounds_toArray]
  try simp only [List.set_cons_succ, List.set_cons_zero]
  refine anyK_take2 (i := 0) (v := .agg #[.int .i64 K, .int .i64 N, .float .f64 f, .slice aI m cI]) rfl (by kernel_rfl) (by kernel_rfl) (by kernel_rfl) (by kernel_rfl) (fun _ _ _ h => h) (by rfl) hHeld (fun W hSw => exec_load18 28 (.tmp 4) rfl p4 rfl 28 _ (0, 0) _ hSw.1 Tryd.underlying28 rfl size28) (some 52) (by rfl) ?rest0
  try simp only [Act.put]
  try simp only [List.setIfInBounds_toArray]
  try simp only [List.set_cons_succ, List.set_cons_zero]
  refine anyK_step (i := 1) (by kernel_rfl) rfl (fun K0 hK => ?_)
  go_simp
  refine (spec_ItemText K N f cI (HI.out.below ((Below.refl wc.heap.size wc).drew) (Nat.le_refl _)) (by omega) HN.out HF.out).mono ?_
  rintro e y1 ⟨s1, rfl, o1, b1⟩
  obtain ⟨x1, d1, rfl, rp1⟩ := o1.rd HTb.out
  have RP1 := hid rp1
  have Y1 := hid (((Below.refl wc.heap.size wc).drew).trans (b1.mono (Nat.le_refl _)))
  clear rp1 o1 b1
  go_wp2_with fail
  refine hK.out _ _ ?_ (fun hH2 => ?_)
  · exact HK.out _ Y1.out
  clear hK K0 hHeld
  have hHeld := hH2
  clear hH2
  try simp only [Act.put]
  try simp only [List.setIfInBounds_toArray]
  try simp only [List.set_cons_succ, List.set_cons_zero]
  refine anyK_more (fun X => (X.heap[p4]? = some (.cells #[.int .i64 K, .int .i64 N, .float .f64 f, .slice aI m cI] 28) ∧ (convert 23 9 (.slice (some ⟨b, off, none⟩) n cap)).run Tryd.prog X = .ok (.string (str zs)) X) ∧ (convert 23 9 (.slice x1 (txtI K N f Z).length d1)).run Tryd.prog X = .ok (.string (str (txtI K N f Z))) X) (fun _ h => h.1) ⟨HK.out _ Y1.out, RP1.out.str d1 23 Tryd.underlying23 Tryd.underlying5 Tryd.underlying9⟩ (fun hH3 => ?_)
  clear hHeld
  have hHeld := hH3
  clear hH3
  refine anyK_take2 (i := 2) (v := ?v2) rfl (by kernel_rfl) (by kernel_rfl) (by kernel_rfl) (by kernel_rfl) (fun _ _ _ h => h) (by rfl) hHeld ?hy2 (some 54) (by rfl) ?rest2
  case hy2 => (intro W hSw; obtain ⟨q1, q2⟩ := hSw; go_simp; (try with_reducible rfl))
  try simp only [Act.put]
  try simp only [List.setIfInBounds_toArray]
  try simp only [List.set_cons_succ, List.set_cons_zero]
  refine anyK_take2 (i := 5) (v := ?v5) rfl (by kernel_rfl) (by kernel_rfl) (by kernel_rfl) (by kernel_rfl) (fun _ _ _ h => h) (by rfl) hHeld ?hy5 (some 57) (by rfl) ?rest5
  case hy5 => (intro W hSw; (try dsimp only at hSw); go_simp; (try with_reducible rfl))
  try simp only [Act.put]
  try simp only [List.setIfInBounds_toArray]
  try simp only [List.set_cons_succ, List.set_cons_zero]
  refine anyK_done (by kernel_rfl) ?_ _
  clear hHeld
  have R4 := hid ((Y1.out.block p4 HLT.out).trans H4.out)
  have R2 := hid ((Y1.out.block p2 HL2.out).trans H2.out)
  have HI2 := hid (HI.out.below Y1.out (Nat.le_refl _))
  have B6 := hid (HB.out.trans (Y1.out.mono HB.out.size))
  clear H4 H2 HI HB
  by_cases he : txtI K N f Z = zs
  · have hse : ((str (txtI K N f Z)).toList == (str zs).toList) = true := by rw [HSE.out]; exact decide_eq_true he
    have HY := hid (MidI.ok HN.out HF.out HI2.out.bd he (by rw [HL.out]; omega))
    have HE := hid he
    clear he
    simp only [hse, Bool.not_true]
    go_wp2_with (first
      | (refine wpList_load_row rfl 28 (.tmp 4) rfl p4 rfl 28 _ (0, 0) _ R4.out Tryd.underlying28 rfl size28 ?_)
      | (refine wpList_store_row rfl 28 (.tmp 2) _ rfl p2 #[.int .i64 K, .int .i64 N, .float .f64 f, .slice aI m cI] rfl rfl 28 _ R2.out ?s7a ?s8a ?s9a ?_))
    case s7a => exact size28
    case s8a => rfl
    case s9a => simp [Value.oneCell']
    exact bodyPost_ret (results_cell_tmp18 Tryd.results15 _ _ p2 28 #[.int .i64 K, .int .i64 N, .float .f64 f, .slice aI m cI] (0, 0) _ rfl (setRow_heap _ _ _ _ _ _ R2.out) Tryd.underlying28 rfl size28) rfl ⟨⟨K, N, f, aI, m, cI, Z, true, rfl, HI2.out.row18 p2 _ HNE.out, HF.out, fun _ => ⟨HY.out, HE.out⟩, fun e => (by cases e)⟩, below_setRow B6.out (by have := HP2.out; omega) _⟩
  · have hse : ((str (txtI K N f Z)).toList == (str zs).toList) = false := by rw [HSE.out]; exact decide_eq_false he
    have HNo := hid (show ∀ K' N' f' Z', ItB K' N' f' Z' → txtI K' N' f' Z' ≠ zs from fun K' N' f' Z' hi e => he (HCd.out K' N' f' Z' hi e))
    clear he
    simp only [hse, Bool.not_false]
    go_wp2_with (refine wpList_store_row rfl 28 (.tmp 2) _ rfl p2 #[.int .i64 0, .int .i64 0, .float .f64 0, .slice none 0 0] rfl rfl 28 _ R2.out size28 rfl (by simp [Value.oneCell']) ?_)
    exact bodyPost_ret (results_cell_tmp18 Tryd.results15 _ _ p2 28 #[.int .i64 0, .int .i64 0, .float .f64 0, .slice none 0 0] (0, 0) _ rfl (setRow_heap _ _ _ _ _ _ R2.out) Tryd.underlying28 rfl size28) rfl ⟨ItAns.no _ HNo.out, below_setRow B6.out (by have := HP2.out; omega) _⟩
end Go.Proofs.YtoppccfgcccijaaDoor
