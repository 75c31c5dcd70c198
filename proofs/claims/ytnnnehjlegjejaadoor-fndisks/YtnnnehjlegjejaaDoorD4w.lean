/- The contracts of the draws for a disk's write and for a crash. For codes of at most 2^21 bytes. -/
import Derived.Test.YtnnnehjlegjejaaDoorD4d
import Derived.Test.YtnnnehjlegjejaaDoorD4k
import Derived.Test.YtnnnehjlegjejaaDoorD4a
import Derived.Test.YtnnnehjlegjejaaDoorDfh
namespace Go.Proofs.YtnnnehjlegjejaaDoor
open Go.RowKit

set_option maxRecDepth 100000 in
set_option maxHeartbeats 1600000 in
theorem l1Below_none {w : World} (g : Nat) (m : Int) (hm : m ≤ 0) :
    Calls Tryd.prog 31 #[.pointer (some ⟨g, 0, none⟩), .int .i64 m] w fun e w' => e = .returned (.int .i64 0) ∧ w' = w := by
  go_enter Tryd.func31, Tryd.ntmps31
  go_wp2_with fail
  go_ret
  exact ⟨rfl, rfl⟩
theorem l1Below_any {w : World} {g : Nat} {ad : Option Addr} {n cap : Nat} {zs : List Int} (c : Cur w g ad n cap zs) (hn : n ≤ 2097152) (m : Int) (hm' : m ≤ 1000000) :
    Calls Tryd.prog 31 #[.pointer (some ⟨g, 0, none⟩), .int .i64 m] w fun e w' => ∃ x : Int, e = .returned (.int .i64 x) ∧ 0 ≤ x ∧ x ≤ 1000000 ∧ Cur w' g ad n cap zs ∧ w.grownBy w' (some g) := by
  by_cases hm : 0 < m
  · refine (l1Below c hn m hm hm').mono ?_
    rintro e w' ⟨x, rfl, h0, h1, c', g'⟩
    exact ⟨x, rfl, h0, by omega, c', g'⟩
  · refine (l1Below_none g m (by omega)).mono ?_
    rintro e w' ⟨rfl, rfl⟩
    exact ⟨0, rfl, by omega, by omega, c, ⟨rfl, rfl, rfl, Nat.le_refl _, fun _ _ _ => rfl⟩⟩

/-- Results: a cell and two slots. -/
theorem results_cell_tmp2 {P : Program} {fn : Func} {p q r : Tmp} {ty : TypeId} (h : fn.results = #[.cell p ty, .tmp q, .tmp r]) (tmps : Array Value) (w : World) (g : Nat) (t : TypeId) (cs : Array Value) (fr : Nat × Nat) (d : TypeDesc)
    (hp : tmps.getD p undef = .pointer (some ⟨g, 0, none⟩)) (hg : w.heap[g]? = some (.cells cs t fr))
    (hu : P.underlying ty = some d) (hd : (match d with | .struct _ | .array _ _ => true | _ => false) = true) (hi : (P.info? ty).map (·.size) = some cs.size) :
    (results fn tmps).run P w = .ok (.tuple #[.agg cs, tmps.getD q undef, tmps.getD r undef]) w := by
  have hp' : tmps[p]?.getD undef = .pointer (some ⟨g, 0, none⟩) := by simpa using hp
  simp [results, h, hp', asAddr, run_loadVar_row w g t ty cs fr d hg hu hd hi]

/-- While a write or a crash is being drawn. -/
structure Dw (w : World) (q0 g pD : Nat) (ad : Option Addr) (n cap : Nat) (zs : List Int) (u : World) (row : Array Value) (vS vW : Value) (S : List (List Int)) (W : List (Int × List Int)) : Prop where
  gl : q0 < g
  gp : g < pD
  wq : w.heap.size = q0
  bel : Below w.heap.size w u
  cur : Cur u g ad n cap zs
  tq : u.heap[q0]? = some (.cells #[.slice none 0 0, .slice none 0 0, .int .i64 0, .bool false] 27)
  td : u.heap[pD]? = some (.cells row 27)
  rows : ∃ B xs ys, Rws B u vS vW S W xs ys
section
variable {w : World} {q0 g pD : Nat} {ad : Option Addr} {n cap : Nat} {zs : List Int} {u u' : World} {row : Array Value} {vS vW : Value} {S : List (List Int)} {W : List (Int × List Int)}
theorem Dw.move (h : Dw w q0 g pD ad n cap zs u row vS vW S W) (c' : Cur u' g ad n cap zs) (hg : u.grownBy u' (some g)) : Dw w q0 g pD ad n cap zs u' row vS vW S W := by
  obtain ⟨B, xs, ys, r⟩ := h.rows
  have h1 := h.gl
  have h2 := h.gp
  have h3 := h.wq
  exact ⟨h.gl, h.gp, h.wq, h.bel.grown hg h.bel.size (fun k hk => by cases hk; omega), c', (hg.block q0 (Array.getElem?_eq_some_iff.1 h.tq).1 (by simp; omega)).trans h.tq, (hg.block pD (Array.getElem?_eq_some_iff.1 h.td).1 (by simp; omega)).trans h.td, B, xs, ys, r.cursor h.cur hg⟩
theorem Dw.fin {aS aW : Option Addr} {nS cS nW cW : Nat} {F : Int} {D : Bool} (h : Dw w q0 g pD ad n cap zs u #[.slice aS nS cS, .slice aW nW cW, .int .i64 F, .bool D] (.slice aS nS cS) (.slice aW nW cW) S W) (hS : S.length = nS) (hW : W.length = nW) (hF : F ≤ 1000000) (x : Int) {aD : Option Addr} {nD cD : Nat} {z : List Int} (hz : Ry u (.slice aD nD cD) z) (hn : nD ≤ 64) :
    AnsW w (.returned (.tuple #[.agg #[.slice aS nS cS, .slice aW nW cW, .int .i64 F, .bool D], .int .i64 x, .slice aD nD cD])) (u.setRow q0 #[.slice aS nS cS, .slice aW nW cW, .int .i64 F, .bool D]) := by
  obtain ⟨B, xs, ys, r⟩ := h.rows
  have hg : u.grownBy (u.setRow q0 #[.slice aS nS cS, .slice aW nW cW, .int .i64 F, .bool D]) (some q0) := ⟨rfl, rfl, rfl, by simp, fun q _ hq => setRow_other _ _ _ _ (fun e => hq (by rw [e]))⟩
  have r' := r.keep hg (fun k hk => by obtain rfl := Option.some.inj hk; exact ⟨_, _, _, h.tq, by decide, by decide, by decide⟩)
  obtain ⟨a1, c1, a2, c2, e1, e2, rd⟩ := r'.rd
  obtain ⟨rfl, -, rfl⟩ := Value.slice.inj e1
  obtain ⟨rfl, -, rfl⟩ := Value.slice.inj e2
  have hz' := hz.grown hg (fun k hk => by obtain rfl := Option.some.inj hk; exact ⟨_, _, _, h.tq, by decide⟩)
  obtain ⟨a3, c3, e3, rz, -⟩ := hz'.row
  obtain ⟨rfl, rfl, rfl⟩ := Value.slice.inj e3
  exact ⟨aS, nS, cS, aW, nW, cW, F, D, S, W, x, aD, z.length, cD, z, rfl, hS, hW, hF, rd, rz, hn, below_setRow h.bel (by rw [h.wq]; exact Nat.le_refl _) _⟩
theorem Dw.finC {aS aW : Option Addr} {nS cS nW cW : Nat} {F : Int} {D : Bool} (h : Dw w q0 g pD ad n cap zs u #[.slice aS nS cS, .slice aW nW cW, .int .i64 F, .bool D] (.slice aS nS cS) (.slice aW nW cW) S W) {base : Nat} {v : Value} {bs : List Bool} (hb : u.ownsRow base 4 1 v bs.length (bls bs)) (hn : bs.length ≤ 1000) :
    AnsC w (.returned (.tuple #[.agg #[.slice aS nS cS, .slice aW nW cW, .int .i64 F, .bool D], v])) (u.setRow q0 #[.slice aS nS cS, .slice aW nW cW, .int .i64 F, .bool D]) := by
  have hg : u.grownBy (u.setRow q0 #[.slice aS nS cS, .slice aW nW cW, .int .i64 F, .bool D]) (some q0) := ⟨rfl, rfl, rfl, by simp, fun q _ hq => setRow_other _ _ _ _ (fun e => hq (by rw [e]))⟩
  have hb' := hb.kept hg (own_ty_ne hb h.tq (by decide))
  obtain ⟨a, c, rfl, rb⟩ := ReadsB.owned hb'
  exact ⟨aS, nS, cS, aW, nW, cW, F, D, a, bs.length, c, bs, rfl, rb, hn, below_setRow h.bel (by rw [h.wq]; exact Nat.le_refl _) _⟩
theorem Dw.start {aS aW : Option Addr} {nS cS nW cW : Nat} {F : Int} {D : Bool} {w1 w2 U : World} (hU : U = w.alloc (.cells #[.slice none 0 0, .slice none 0 0, .int .i64 0, .bool false] 27)) (hg : U.heap.size ≤ g) (b1 : Below U.heap.size U w1) {B : Nat} {xs ys : List Value} (r : Rws B w2 (.slice aS nS cS) (.slice aW nW cW) S W xs ys) (c2 : Cur w2 g ad n cap zs) (g2 : w1.grownBy w2 (some g)) :
    Dw w w.heap.size g w2.heap.size ad n cap zs (w2.alloc (.cells #[.slice aS nS cS, .slice aW nW cW, .int .i64 F, .bool D] 27)) #[.slice aS nS cS, .slice aW nW cW, .int .i64 F, .bool D] (.slice aS nS cS) (.slice aW nW cW) S W := by
  subst hU
  have z := alloc_size w (.cells #[.slice none 0 0, .slice none 0 0, .int .i64 0, .bool false] 27)
  have B0 := Below.alloc1 w (.cells #[.slice none 0 0, .slice none 0 0, .int .i64 0, .bool false] 27)
  have T0 := heap_alloc_new w (.cells #[.slice none 0 0, .slice none 0 0, .int .i64 0, .bool false] 27)
  have B1 := B0.trans (b1.mono B0.size)
  have B2 : Below w.heap.size w w2 := B1.grown g2 B1.size (fun k hk => by cases hk; omega)
  have l1 := b1.size
  have T1 := (b1.block w.heap.size (by omega)).trans T0
  have T2 := (g2.block w.heap.size (by omega) (by simp; omega)).trans T1
  have bA := Below.alloc1 w2 (.cells #[.slice aS nS cS, .slice aW nW cW, .int .i64 F, .bool D] 27)
  have l2 := g2.size
  exact ⟨by omega, c2.lt, rfl, B2.trans (bA.mono B2.size), c2.alloc _, (bA.block w.heap.size (by omega)).trans T2, heap_alloc_new w2 _, B, xs, ys, r.alloc _⟩
end

theorem Ry.take {w : World} {ad : Option Addr} {c : Nat} {z : List Int} {m : Nat} (h : Ry w (.slice ad m c) z) (hm : z.length = m) (y : Nat) (hy : y ≤ m) : Ry w (.slice ad y c) (z.take y) := by
  obtain ⟨a, c', e, h2, h3, h4⟩ := h.row
  obtain ⟨rfl, -, rfl⟩ := Value.slice.inj e
  have hl : (z.take y).length = y := by simp; omega
  refine ⟨⟨ad, c, by rw [hl], ?_, h3, by omega⟩, fun x q hx hz => ?_, fun x q r hx => ?_⟩
  · rw [hl]
    refine ⟨hl, ?_, fun i => ?_⟩
    · rcases h2.cells with h0 | ⟨b, off, rfl, hc⟩
      · exact .inl (by omega)
      · refine .inr ⟨b, off, rfl, fun i hi => ?_⟩
        rw [hc i (by omega), List.getD_eq_getElem?_getD, List.getD_eq_getElem?_getD, List.getElem?_take, if_pos hi]
    · have := h2.bd i
      rw [List.getD_eq_getElem?_getD, List.getElem?_take]
      split
      · rwa [← List.getD_eq_getElem?_getD]
      · simp
  · obtain ⟨rfl, _, rfl⟩ := Value.slice.inj hx
    exact h.ty x c (by rw [hm]) (by omega)
  · obtain ⟨_, rfl, rfl⟩ := Value.slice.inj hx
    have := h.cp _ _ _ rfl
    omega

set_option maxRecDepth 100000 in
set_option maxHeartbeats 6400000 in
theorem drawWrite {w : World} {ad : Option Addr} {n : Nat} (cap : Nat) {zs : List Int} (h : Reads w ad n zs) (hn : n ≤ 2097152) :
    Calls Tryd.prog 8 #[.slice ad n cap] w fun e w' => AnsW w e w' := by
  have HR := hid h
  clear h
  go_enter Tryd.func8, Tryd.ntmps8
  go_wp2_with fail
  have HU := hid (Eq.refl (w.alloc (.cells #[.slice none 0 0, .slice none 0 0, .int .i64 0, .bool false] 27)))
  replace HR := hid (HR.out.below (Below.alloc1 w (.cells #[.slice none 0 0, .slice none 0 0, .int .i64 0, .bool false] 27)) (Nat.le_refl _))
  refine (l1New cap HR.out (by omega)).mono ?_
  rintro e w1 ⟨g, rfl, hg, c1, b1⟩
  have B1 := hid b1
  have HG := hid hg
  clear b1 HR hg HU
  go_wp2_with fail
  refine (l4disk c1 hn).mono ?_
  rintro e w2 ⟨aS, nS, cS, aW, nW, cW, F, D, S, W, rfl, lS, lW, hF, hnS, ⟨B, xs, ys, r⟩, c2, g2⟩
  have L2 := hid (And.intro lS lW)
  have D2 := hid (Dw.start (F := F) (D := D) rfl HG.out B1.out r c2 g2)
  clear r lS lW g2 c1 c2 B1 HG
  go_wp2_with fail
  generalize w2.alloc (.cells #[.slice aS nS cS, .slice aW nW cW, .int .i64 F, .bool D] 27) = U at *
  generalize w2.heap.size = pD at *
  generalize hq0 : w.heap.size = q0 at *
  clear hq0
  refine (l1Below_any D2.out.cur hn (nS : Int) (by omega)).mono ?_
  rintro e w3 ⟨x, rfl, hx0, hx1, c3, g3⟩
  have D3 := hid (D2.out.move c3 g3)
  clear c3 g3 D2
  go_wp2_with fail
  refine (l4sector D3.out.cur hn).mono ?_
  rintro e w4 ⟨v, L, rfl, hL, o4, bd4, c4, g4⟩
  have D4 := hid (D3.out.move c4 g4)
  have R4 := hid (Ry.own o4 bd4)
  obtain ⟨av, cv, rfl, -⟩ := R4.out.row
  have HL := hid hL
  rw [hL] at R4
  simp only [hL]
  clear o4 bd4 c4 g4 D3
  go_wp2_with fail
  refine (l1Below D4.out.cur hn 12 (by omega) (by omega)).mono ?_
  rintro e w5 ⟨t, rfl, ht0, ht1, c5, g5⟩
  have R5 := hid (R4.out.cursor D4.out.cur g5)
  have D5 := hid (D4.out.move c5 g5)
  clear c5 g5 D4 R4
  by_cases t0 : t = 0
  · subst t0
    have y0 : w5.cell? ⟨pD, 0, none⟩ = some (.slice aS nS cS) := by rw [cell_of_row _ _ _ _ _ _ D5.out.td]; rfl
    have AN := hid (D5.out.fin L2.out.1 L2.out.2 hF (nS : Int) R5.out (by omega))
    have TP := hid D5.out.td
    have TQ := hid D5.out.tq
    go_wp2_with (first
      | (refine wpList_load_row rfl 27 (.tmp 6) rfl pD rfl 27 _ (0, 0) _ TP.out Tryd.underlying27 rfl sizeDk ?_)
      | (refine wpList_store_row rfl 27 (.tmp 2) (.tmp 33) rfl q0 #[.slice aS nS cS, .slice aW nW cW, .int .i64 F, .bool D] rfl rfl 27 _ TQ.out ?s1x1 ?s2x1 ?s3x1 ?_))
    case s1x1 => simpa using sizeDk
    try case s2x1 => rfl
    case s3x1 => simp [Value.oneCell']
    go_wp2_with fail
    refine bodyPost_ret (results_cell_tmp2 Tryd.results8 _ _ q0 27 #[.slice aS nS cS, .slice aW nW cW, .int .i64 F, .bool D] (0, 0) _ rfl (setRow_heap _ _ _ _ _ _ TQ.out) Tryd.underlying27 rfl sizeDk) rfl ?_
    exact AN.out
  by_cases t1 : t = 1
  · subst t1
    go_wp2_with fail
    refine (l1Below D5.out.cur hn 64 (by omega) (by omega)).mono ?_
    rintro e w6 ⟨y, rfl, hy0, hy1, c6, g6⟩
    obtain ⟨y, rfl⟩ := Int.eq_ofNat_of_zero_le hy0
    have R6 := hid (R5.out.cursor D5.out.cur g6)
    have D6 := hid (D5.out.move c6 g6)
    have hcv := R6.out.cp _ _ _ rfl
    have R7 := hid (R6.out.take HL.out y (by omega))
    clear c6 g6 D5 R5
    have hyc : (y : Int) ≤ (cv : Int) := by omega
    obtain ⟨a9, c9, e9, r9, -⟩ := R6.out.row
    obtain ⟨rfl, -, rfl⟩ := Value.slice.inj e9
    obtain ⟨bb, oo, rfl⟩ := r9.pos (by have := HL.out; omega)
    clear e9 r9 R6
    have AN := hid (D6.out.fin L2.out.1 L2.out.2 hF x R7.out (by omega))
    have TP := hid D6.out.td
    have TQ := hid D6.out.tq
    go_wp2_with (first
      | (refine wpList_load_row rfl 27 (.tmp 6) rfl pD rfl 27 _ (0, 0) _ TP.out Tryd.underlying27 rfl sizeDk ?_)
      | (refine wpList_store_row rfl 27 (.tmp 2) (.tmp 33) rfl q0 #[.slice aS nS cS, .slice aW nW cW, .int .i64 F, .bool D] rfl rfl 27 _ TQ.out ?s1x2 ?s2x2 ?s3x2 ?_))
    case s1x2 => simpa using sizeDk
    try case s2x2 => rfl
    case s3x2 => simp [Value.oneCell']
    go_wp2_with fail
    refine bodyPost_ret (results_cell_tmp2 Tryd.results8 _ _ q0 27 #[.slice aS nS cS, .slice aW nW cW, .int .i64 F, .bool D] (0, 0) _ rfl (setRow_heap _ _ _ _ _ _ TQ.out) Tryd.underlying27 rfl sizeDk) rfl ?_
    exact AN.out
  have AN := hid (D5.out.fin L2.out.1 L2.out.2 hF x R5.out (by omega))
  have TP := hid D5.out.td
  have TQ := hid D5.out.tq
  go_wp2_with (first
    | (refine wpList_load_row rfl 27 (.tmp 6) rfl pD rfl 27 _ (0, 0) _ TP.out Tryd.underlying27 rfl sizeDk ?_)
    | (refine wpList_store_row rfl 27 (.tmp 2) (.tmp 33) rfl q0 #[.slice aS nS cS, .slice aW nW cW, .int .i64 F, .bool D] rfl rfl 27 _ TQ.out ?s1x3 ?s2x3 ?s3x3 ?_))
  case s1x3 => simpa using sizeDk
  try case s2x3 => rfl
  case s3x3 => simp [Value.oneCell']
  go_wp2_with fail
  refine bodyPost_ret (results_cell_tmp2 Tryd.results8 _ _ q0 27 #[.slice aS nS cS, .slice aW nW cW, .int .i64 F, .bool D] (0, 0) _ rfl (setRow_heap _ _ _ _ _ _ TQ.out) Tryd.underlying27 rfl sizeDk) rfl ?_
  exact AN.out

set_option maxRecDepth 100000 in
set_option maxHeartbeats 6400000 in
theorem drawCrash {w : World} {ad : Option Addr} {n : Nat} (cap : Nat) {zs : List Int} (h : Reads w ad n zs) (hn : n ≤ 2097152) :
    Calls Tryd.prog 9 #[.slice ad n cap] w fun e w' => AnsC w e w' := by
  have HR := hid h
  clear h
  go_enter Tryd.func9, Tryd.ntmps9
  go_wp2_with fail
  have HU := hid (Eq.refl (w.alloc (.cells #[.slice none 0 0, .slice none 0 0, .int .i64 0, .bool false] 27)))
  replace HR := hid (HR.out.below (Below.alloc1 w (.cells #[.slice none 0 0, .slice none 0 0, .int .i64 0, .bool false] 27)) (Nat.le_refl _))
  refine (l1New cap HR.out (by omega)).mono ?_
  rintro e w1 ⟨g, rfl, hg, c1, b1⟩
  have B1 := hid b1
  have HG := hid hg
  clear b1 HR hg HU
  go_wp2_with fail
  refine (l4disk c1 hn).mono ?_
  rintro e w2 ⟨aS, nS, cS, aW, nW, cW, F, D, S, W, rfl, lS, lW, hF, hnS, ⟨B, xs, ys, r⟩, c2, g2⟩
  have L2 := hid (And.intro lS lW)
  have D2 := hid (Dw.start (F := F) (D := D) rfl HG.out B1.out r c2 g2)
  clear r lS lW g2 c1 c2 B1 HG
  go_wp2_with fail
  generalize w2.alloc (.cells #[.slice aS nS cS, .slice aW nW cW, .int .i64 F, .bool D] 27) = U at *
  generalize w2.heap.size = pD at *
  generalize hq0 : w.heap.size = q0 at *
  clear hq0
  refine (l4keep D2.out.cur hn 7 (by omega) (by omega)).mono ?_
  rintro e w3 ⟨v, rfl, bs, o3, hbs, c3, g3⟩
  have D3 := hid (D2.out.move c3 g3)
  have AN := hid (D3.out.finC o3 hbs)
  have TP := hid D3.out.td
  have TQ := hid D3.out.tq
  clear c3 g3 D2 o3
  go_wp2_with (first
    | (refine wpList_load_row rfl 27 (.tmp 5) rfl pD rfl 27 _ (0, 0) _ TP.out Tryd.underlying27 rfl sizeDk ?_)
    | (refine wpList_store_row rfl 27 (.tmp 2) (.tmp 13) rfl q0 #[.slice aS nS cS, .slice aW nW cW, .int .i64 F, .bool D] rfl rfl 27 _ TQ.out ?s1 ?s2 ?s3 ?_))
  case s1 => simpa using sizeDk
  try case s2 => rfl
  case s3 => simp [Value.oneCell']
  go_wp2_with fail
  refine bodyPost_ret (results_cell_tmp Tryd.results9 _ _ q0 27 #[.slice aS nS cS, .slice aW nW cW, .int .i64 F, .bool D] (0, 0) _ rfl (setRow_heap _ _ _ _ _ _ TQ.out) Tryd.underlying27 rfl sizeDk) rfl ?_
  exact AN.out
end Go.Proofs.YtnnnehjlegjejaaDoor
