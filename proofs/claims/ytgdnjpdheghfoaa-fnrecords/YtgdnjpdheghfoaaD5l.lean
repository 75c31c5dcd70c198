/- The contract of the draw of a log's records. For codes of at most 2^21 bytes. -/
import Derived.Test.YtgdnjpdheghfoaaD5b
import Derived.Test.YtgdnjpdheghfoaaD5g
import Derived.Test.YtgdnjpdheghfoaaRsc
import Derived.Deep.AppendLies
namespace Go.Proofs.Ytgdnjpdheghfoaa
open Go.RowKit

/-- While records are being drawn: w the law's world, u the world with the new cursor. -/
structure Dl (w u : World) (g : Nat) (ad : Option Addr) (n cap : Nat) (zs : List Int) (wr : World) (v : Value) (rs : List Rc) : Prop where
  lo : w.heap.size ≤ g
  gl : g < u.heap.size
  bel : Below w.heap.size w u
  gr : u.grownBy wr (some g)
  cur : Cur wr g ad n cap zs
  rows : ∃ ys, Rs u.heap.size wr v rs ys
section
variable {w u : World} {g : Nat} {ad : Option Addr} {n cap : Nat} {zs : List Int} {wr w' : World} {v : Value} {rs : List Rc}
theorem Dl.still (h : Dl w u g ad n cap zs wr v rs) (hs : Still wr w') : Dl w u g ad n cap zs w' v rs := by
  obtain ⟨ys, r⟩ := h.rows
  exact ⟨h.lo, h.gl, h.bel, grown_still h.gr hs, h.cur.still hs, ys, r.still hs⟩
theorem Dl.cursor (h : Dl w u g ad n cap zs wr v rs) (c : Cur w' g ad n cap zs) (hg : wr.grownBy w' (some g)) : Dl w u g ad n cap zs w' v rs := by
  obtain ⟨ys, r⟩ := h.rows
  exact ⟨h.lo, h.gl, h.bel, grown_trans h.gr hg, c, ys, r.cursor h.gl h.cur hg⟩
theorem Dl.alloc (h : Dl w u g ad n cap zs wr v rs) (o : Obj) : Dl w u g ad n cap zs (wr.alloc o) v rs := by
  obtain ⟨ys, r⟩ := h.rows
  exact ⟨h.lo, h.gl, h.bel, grown_new h.gr (World.grownBy_alloc wr o none) (fun r hr => by cases hr), h.cur.alloc o, ys, r.alloc o⟩
theorem Dl.fresh (h : Dl w u g ad n cap zs wr v rs) (hg : wr.grownBy w' none) : Dl w u g ad n cap zs w' v rs := by
  obtain ⟨ys, r⟩ := h.rows
  exact ⟨h.lo, h.gl, h.bel, grown_new h.gr hg (fun r hr => by cases hr), h.cur.other hg (fun r hr => by cases hr), ys, r.keep hg fun k hk => by cases hk⟩
theorem Dl.size (h : Dl w u g ad n cap zs wr v rs) : u.heap.size ≤ wr.heap.size := h.gr.size
theorem Dl.form (h : Dl w u g ad n cap zs wr v rs) : ∃ a c, v = .slice a rs.length c := by
  obtain ⟨ys, r⟩ := h.rows
  exact r.form
/-- A box, new since x, is written: the records stand. -/
theorem Dl.box (h : Dl w u g ad n cap zs wr v rs) {p : Nat} {cs : Array Value} {t : TypeId} {fz : Nat × Nat} (hp : wr.heap[p]? = some (.cells cs t fz)) (ht : t ≠ 5) (hv : v.ownBlock ≠ some p) (hup : u.heap.size ≤ p) (cs' : Array Value) : Dl w u g ad n cap zs (wr.setRow p cs') v rs := by
  obtain ⟨ys, r⟩ := h.rows
  have hg : wr.grownBy (wr.setRow p cs') (some p) := ⟨rfl, rfl, rfl, by simp, fun q _ hq => setRow_other _ _ _ _ (fun e => hq (by rw [e]))⟩
  have hgl := h.gl
  exact ⟨h.lo, h.gl, h.bel, grown_new h.gr hg (fun q hq => by cases hq; exact hup), h.cur.other hg (fun q hq => by cases hq; omega), ys, r.keep hg (fun k hk => by obtain rfl := Option.some.inj hk; exact ⟨hv, _, _, _, hp, ht⟩)⟩
/-- Since wr nothing but the cursor and what is new has turned. -/
theorem Dl.since (h : Dl w u g ad n cap zs wr v rs) (c : Cur w' g ad n cap zs) (hg : wr.grownBy w' (some g)) : Dl w u g ad n cap zs w' v rs := h.cursor c hg
theorem Dl.app (h : Dl w u g ad n cap zs wr v rs) {ys : List Value} (r : Rs u.heap.size wr v rs ys) {q : Rc} {x : Value} (hx : Ry wr x q.D) {v' : Value} (o : w'.ownsRow u.heap.size 36 6 v' (rs.length + 1) (cellsR rs ys ++ [.int .i64 q.K, .int .i64 q.L, .int .i64 q.X, .int .i64 q.P, .int .i64 q.S, x])) (hg : wr.grownBy w' v.ownBlock) : Dl w u g ad n cap zs w' v' (rs ++ [q]) := by
  have hgl := h.gl
  exact ⟨h.lo, h.gl, h.bel, grown_new h.gr hg (fun k hk => (r.own.lt k hk).1), h.cur.other hg (fun k hk => by have := (r.own.lt k hk).1; omega), _, r.app hx o hg⟩
end

/-- What the draw answers. -/
structure AnsL (w : World) (e : Ending) (w' : World) : Prop where
  ex : ∃ v rs ys B, e = .returned v ∧ w.heap.size ≤ B ∧ Rs B w' v rs ys ∧ rs.length ≤ 1000 ∧ Below w.heap.size w w'
theorem Dl.fin {w u : World} {g : Nat} {ad : Option Addr} {n cap : Nat} {zs : List Int} {wr : World} {v : Value} {rs : List Rc} (h : Dl w u g ad n cap zs wr v rs) (hl : rs.length ≤ 1000) : AnsL w (.returned v) wr := by
  obtain ⟨ys, r⟩ := h.rows
  exact ⟨v, rs, ys, u.heap.size, rfl, h.bel.size, r, hl, h.bel.grown h.gr h.bel.size (fun k hk => by obtain rfl := Option.some.inj hk; exact h.lo)⟩

set_option maxRecDepth 100000 in
set_option maxHeartbeats 12800000 in
theorem drawLog {w : World} {ad : Option Addr} {n : Nat} (cap : Nat) {zs : List Int} (h : Reads w ad n zs) (hn : n ≤ 2097152) :
    Calls Try.prog 16 #[.slice ad n cap] w fun e w' => AnsL w e w' := by
  have HR := hid h
  clear h
  obtain ⟨j0, ji, jz0, jz1, jz2⟩ := info_parts Try.infoRc
  go_enter Try.func16, Try.ntmps16
  go_wp2_with fail
  refine (l1New cap HR.out (by omega)).mono ?_
  rintro e u ⟨g, rfl, hg, c1, b1⟩
  have D0 := hid (show Dl w u g ad n cap zs u (.slice none 0 0) [] from ⟨hg, c1.lt, b1, ⟨rfl, rfl, rfl, Nat.le_refl _, fun _ _ _ => rfl⟩, c1, [], Rs.nil _ _⟩)
  clear HR hg c1 b1
  go_wp2_with fail
  refine (l1Size ad n cap hn u).mono ?_
  rintro e u2 ⟨m, rfl, hm0, hm1, h2⟩
  obtain rfl := h2.symm
  go_wp2_with fail
  refine (l1Below D0.out.cur hn m hm0 (by omega)).mono ?_
  rintro e w1 ⟨x, rfl, hx0, hx1, c1, g1⟩
  obtain ⟨x, rfl⟩ := Int.eq_ofNat_of_zero_le hx0
  have D1 := hid (D0.out.cursor c1 g1)
  clear c1 g1 D0
  go_wp2_with fail
  go_loopw [4, 6] (fun v i wr => ∃ (k : Nat) (rs : List Rc), k ≤ x ∧ i = .int .i64 k ∧ rs.length = k ∧ Hid (Dl w u g ad n cap zs wr v rs)) (fun _ i _ => x - (intOf i).toNat)
  case atStart => exact ⟨0, [], Nat.zero_le _, rfl, rfl, D1⟩
  case round =>
    obtain ⟨k, rs, hk, rfl, hrs, hD⟩ := hrel
    subst hrs
    clear D1
    obtain ⟨av, cv, rfl⟩ := hD.out.form
    by_cases hlt : rs.length < x
    · have hlt' : (rs.length : Int) < (x : Int) := by omega
      go_wp2_with fail
      refine (l5record hD.out.cur hn (1 + (rs.length : Int))).mono ?_
      rintro e w2 ⟨K, L, X, P, S, v2, D, rfl, o2, bd2, hDl, c2, g2⟩
      obtain ⟨a2, c2', hv2⟩ : ∃ a c, v2 = .slice a D.length c := by
        rcases o2.2 with ⟨h1, h2⟩ | ⟨g', cap', cur, h1, _⟩
        · exact ⟨none, 0, by rw [h1, h2]⟩
        · exact ⟨_, _, h1⟩
      subst hv2
      have D2 := hid ((hD.out.since c2 g2).alloc (.cells #[.int .i64 K, .int .i64 L, .int .i64 X, .int .i64 P, .int .i64 S, .slice a2 D.length c2'] 36))
      have TB := hid (heap_alloc_new w2 (.cells #[.int .i64 K, .int .i64 L, .int .i64 X, .int .i64 P, .int .i64 S, .slice a2 D.length c2'] 36))
      have O2 := hid (o2.alloc (.cells #[.int .i64 K, .int .i64 L, .int .i64 X, .int .i64 P, .int .i64 S, .slice a2 D.length c2'] 36))
      have BD2 := hid bd2
      have G2 := hid (grown_new g2 (World.grownBy_alloc w2 (.cells #[.int .i64 K, .int .i64 L, .int .i64 X, .int .i64 P, .int .i64 S, .slice a2 D.length c2'] 36) none) (fun r hr => by cases hr))
      have HS := hid (And.intro g2.size hD.out.size)
      have HV := hid (show ∀ q, (Value.slice av rs.length cv).ownBlock = some q → q < wr.heap.size from fun q hq => by obtain ⟨ys, r⟩ := hD.out.rows; exact (r.own.lt q hq).2)
      have HL := hid hDl
      have HC := hid (hD.out.gl)
      clear o2 bd2 c2 g2 hDl
      go_wp2_with fail
      generalize w2.alloc (.cells #[.int .i64 K, .int .i64 L, .int .i64 X, .int .i64 P, .int .i64 S, .slice a2 D.length c2'] 36) = V at *
      generalize w2.heap.size = p at *
      refine (l1Once D2.out.cur hn 40 (by omega) (by omega)).mono ?_
      rintro e w3 ⟨q, rfl, c3, g3⟩
      have D3 := hid (D2.out.cursor c3 g3)
      have TB3 := hid ((g3.block p (Array.getElem?_eq_some_iff.1 TB.out).1 (by have := HS.out; have := HC.out; simp; omega)).trans TB.out)
      have G3 := hid (grown_trans G2.out g3)
      have O3 := hid (O2.out.kept g3 (by cases hq : (Value.slice a2 D.length c2').ownBlock with | none => exact .inl rfl | some z => exact .inr (by have := (O2.out.lt z hq).1; have := HS.out; have := HC.out; simp; omega)))
      clear c3 g3 D2 TB G2 O2
      cases q
      · skip
        have DA := hid (D3.out.alloc (.cells #[.int .i64 K, .int .i64 L, .int .i64 X, .int .i64 P, .int .i64 S, .slice a2 D.length c2'] 36))
        have RyA := hid ((Ry.own O3.out BD2.out).grown (World.grownBy_alloc w3 (.cells #[.int .i64 K, .int .i64 L, .int .i64 X, .int .i64 P, .int .i64 S, .slice a2 D.length c2'] 36) none) (fun k hk => by cases hk))
        obtain ⟨ys, r⟩ := DA.out.rows
        have HRs := hid r
        have hsz := DA.out.size
        clear r
        have TPx := hid TB3.out
        go_wp2_with (first
          | (refine wpList_load_row rfl 36 (.tmp 7) rfl p rfl 36 _ (0, 0) _ TPx.out Try.underlying36 rfl sizeRc' ?_)
          | (at_builtin; refine wpList_append_lies _ rfl _ _ 33 rfl u.heap.size 36 j0 (.agg #[.int .i64 0, .int .i64 0, .int .i64 0, .int .i64 0, .int .i64 0, .slice none 0 0]) 6 64 Try.underlying33 ji jz0 jz1 jz2 rfl (by omega) (.slice av rs.length cv) rs.length (cellsR rs ys) rfl HRs.out.own ⟨(w3).heap.size, 0, none⟩ 1 1 [.int .i64 K, .int .i64 L, .int .i64 X, .int .i64 P, .int .i64 S, .slice a2 D.length c2'] rfl rfl (World.news_of_block (heap_alloc_new w3 _)) (by simp [Value.oneCell']) (by omega) (by unfold maxLen; omega) (by omega) hsz _ rfl ?_))
        intro gg cc w9 o9 g9 _ _
        have D9 := hid (DA.out.app (q := ⟨K, L, X, P, S, D⟩) HRs.out RyA.out o9 g9)
        clear o9 g9
        go_wp2_with fail
        go_roundw
        case rel => exact ⟨rs.length + 1, rs ++ [⟨K, L, X, P, S, D⟩], by omega, by go_num, by simp, D9⟩
        case measure => simp [intOf]; omega
      · have TPy := hid TB3.out
        go_wp2_with (first
          | (refine wpList_load_row rfl 36 (.tmp 7) rfl p rfl 36 _ (0, 0) _ TPy.out Try.underlying36 rfl sizeRc' ?_))
        refine (l5bent (w0 := wr) (by have := HC.out; have := HS.out; omega) G3.out D3.out.cur hn K L X P S O3.out BD2.out HL.out).mono ?_
        rintro e w4 ⟨⟨K', L', X', P', S', v4, D4, rfl, o4, bd4, hD4, c4, g4⟩, blk4, sz4⟩
        obtain ⟨a4, c4', hv4⟩ : ∃ a c, v4 = .slice a D4.length c := by
          rcases o4.2 with ⟨h1, h2⟩ | ⟨g', cap', cur, h1, _⟩
          · exact ⟨none, 0, by rw [h1, h2]⟩
          · exact ⟨_, _, h1⟩
        subst hv4
        have TB4 := (blk4 p (Array.getElem?_eq_some_iff.1 TB3.out).1 (by have := HS.out; have := HC.out; omega) (fun e => by rcases own_ty_ne O3.out TB3.out (by decide) with h1 | h1; rw [h1] at e; cases e; exact h1 e)).trans TB3.out
        have DD := hid ((hD.out.since c4 g4).box TB4 (by decide) (fun e => by have := HV.out p e; have := HS.out; omega) (by have := HS.out; omega) #[.int .i64 K', .int .i64 L', .int .i64 X', .int .i64 P', .int .i64 S', .slice a4 D4.length c4'])
        have hgS : w4.grownBy (w4.setRow p #[.int .i64 K', .int .i64 L', .int .i64 X', .int .i64 P', .int .i64 S', .slice a4 D4.length c4']) (some p) := ⟨rfl, rfl, rfl, by simp, fun q _ hq => setRow_other _ _ _ _ (fun e => hq (by rw [e]))⟩
        have O4 := hid (o4.kept hgS (own_ty_ne o4 TB4 (by decide)))
        have BD4 := hid bd4
        have TB5 := hid (setRow_heap w4 p _ #[.int .i64 K', .int .i64 L', .int .i64 X', .int .i64 P', .int .i64 S', .slice a4 D4.length c4'] _ _ TB4)
        have TB4h := hid TB4
        clear o4 bd4 hD4 c4 g4 blk4 sz4 TB4 hgS D3 TB3 G3 O3 TPy
        have NB := hid (show ((w4.setRow p #[.int .i64 K', .int .i64 L', .int .i64 X', .int .i64 P', .int .i64 S', .slice a4 D4.length c4']).alloc (.cells #[.int .i64 K', .int .i64 L', .int .i64 X', .int .i64 P', .int .i64 S', .slice a4 D4.length c4'] 36)).heap[w4.heap.size]? = some (.cells #[.int .i64 K', .int .i64 L', .int .i64 X', .int .i64 P', .int .i64 S', .slice a4 D4.length c4'] 36) by have hh := heap_alloc_new (w4.setRow p #[.int .i64 K', .int .i64 L', .int .i64 X', .int .i64 P', .int .i64 S', .slice a4 D4.length c4']) (.cells #[.int .i64 K', .int .i64 L', .int .i64 X', .int .i64 P', .int .i64 S', .slice a4 D4.length c4'] 36); rwa [show (w4.setRow p #[.int .i64 K', .int .i64 L', .int .i64 X', .int .i64 P', .int .i64 S', .slice a4 D4.length c4']).heap.size = w4.heap.size by simp] at hh)
        have DA := hid (DD.out.alloc (.cells #[.int .i64 K', .int .i64 L', .int .i64 X', .int .i64 P', .int .i64 S', .slice a4 D4.length c4'] 36))
        have RyA := hid ((Ry.own O4.out BD4.out).grown (World.grownBy_alloc (w4.setRow p #[.int .i64 K', .int .i64 L', .int .i64 X', .int .i64 P', .int .i64 S', .slice a4 D4.length c4']) (.cells #[.int .i64 K', .int .i64 L', .int .i64 X', .int .i64 P', .int .i64 S', .slice a4 D4.length c4'] 36) none) (fun k hk => by cases hk))
        obtain ⟨ys, r⟩ := DA.out.rows
        have HRs := hid r
        have hsz := DA.out.size
        clear r
        have TPx := hid TB5.out
        go_wp2_with (first
          | (refine wpList_store_row rfl 36 (.tmp 7) (.tmp 28) rfl p #[.int .i64 K', .int .i64 L', .int .i64 X', .int .i64 P', .int .i64 S', .slice a4 D4.length c4'] rfl rfl 36 _ TB4h.out ?s1 ?s2 ?s3 ?_)
          | (refine wpList_load_row rfl 36 (.tmp 7) rfl p rfl 36 _ (0, 0) _ TPx.out Try.underlying36 rfl sizeRc' ?_)
          | (at_builtin; refine wpList_append_lies _ rfl _ _ 33 rfl u.heap.size 36 j0 (.agg #[.int .i64 0, .int .i64 0, .int .i64 0, .int .i64 0, .int .i64 0, .slice none 0 0]) 6 64 Try.underlying33 ji jz0 jz1 jz2 rfl (by omega) (.slice av rs.length cv) rs.length (cellsR rs ys) rfl HRs.out.own ⟨w4.heap.size, 0, none⟩ 1 1 [.int .i64 K', .int .i64 L', .int .i64 X', .int .i64 P', .int .i64 S', .slice a4 D4.length c4'] rfl rfl (World.news_of_block NB.out) (by simp [Value.oneCell']) (by omega) (by unfold maxLen; omega) (by omega) hsz _ rfl ?_))
        case s1 => simpa using sizeRc'
        try case s2 => rfl
        case s3 => simp [Value.oneCell']
        intro gg cc w9 o9 g9 _ _
        have D9 := hid (DA.out.app (q := ⟨K', L', X', P', S', D4⟩) HRs.out RyA.out o9 g9)
        clear o9 g9
        go_wp2_with fail
        go_roundw
        case rel => exact ⟨rs.length + 1, rs ++ [⟨K', L', X', P', S', D4⟩], by omega, by go_num, by simp, D9⟩
        case measure => simp [intOf]; omega
    · have hlt' : ¬ (rs.length : Int) < (x : Int) := by omega
      go_wp2_with fail
      refine (l1Once hD.out.cur hn 50 (by omega) (by omega)).mono ?_
      rintro e w2 ⟨q, rfl, c2, g2⟩
      have D2 := hid (hD.out.cursor c2 g2)
      have hrl : rs.length ≤ 12 := by omega
      clear c2 g2 hD hlt hlt' hk
      cases q
      · go_wp2_with fail
        go_ret
        exact D2.out.fin (by omega)
      · go_wp2_with fail
        go_loopw [4, 8] (fun v i wr => ∃ (k : Nat) (rs : List Rc), k ≤ 241 ∧ i = .int .i64 k ∧ rs.length ≤ 12 + k ∧ Hid (Dl w u g ad n cap zs wr v rs)) (fun _ i _ => 300 - (intOf i).toNat)
        case atStart => exact ⟨0, rs, by omega, rfl, by omega, D2⟩
        case round =>
          obtain ⟨k, rs2, hk, rfl, hr2, hD⟩ := hrel
          clear D2
          obtain ⟨av, cv, rfl⟩ := hD.out.form
          go_wp2_with fail
          refine (l1Below hD.out.cur hn 4 (by omega) (by omega)).mono ?_
          rintro e w3 ⟨y, rfl, hy0, hy1, c3, g3⟩
          have D3 := hid (hD.out.cursor c3 g3)
          clear c3 g3 hD
          by_cases hco : (k : Int) < 238 + y
          · obtain ⟨i0, hi, hz0, hz1, hz2⟩ := info_parts Try.info5
            have hs3 := D3.out.size
            go_wp2_with (at_make; refine wpList_make_full _ rfl _ _ 22 rfl u.heap.size 5 i0 (.int .u8 0) 1 Try.underlying22 hi hz0 hz1 _ _ _ _ 256 rfl rfl (by omega) (by omega) ?b2 ?b3 hs3 ?_)
            case b2 => rw [hz2]; omega
            case b3 => unfold maxLen; omega
            intro w5 o5 g5
            rw [toList_madeCells_one] at o5
            have D5 := hid (D3.out.fresh g5)
            have O5 := hid (show w5.ownsRow u.heap.size 5 1 (.slice (some ⟨w3.heap.size, 0, none⟩) 256 256) (List.replicate 256 (0 : Int)).length (bys (List.replicate 256 0)) by simpa [bys] using o5)
            clear o5 g5 hi hz0 hz1 hz2 D3 hs3
            generalize w3.heap.size = b5 at *
            have HZ := hid (show ∀ i, 0 ≤ (List.replicate 256 (0 : Int)).getD i 0 ∧ (List.replicate 256 (0 : Int)).getD i 0 ≤ 255 from fun i => by rw [List.getD_eq_getElem?_getD, List.getElem?_replicate]; split <;> simp)
            have DA := hid (D5.out.alloc (.cells #[.int .i64 1, .int .i64 (1 + (k : Int)), .int .i64 0, .int .i64 0, .int .i64 0, .slice (some ⟨b5, 0, none⟩) 256 256] 36))
            have RyA := hid ((Ry.own O5.out HZ.out).grown (World.grownBy_alloc w5 (.cells #[.int .i64 1, .int .i64 (1 + (k : Int)), .int .i64 0, .int .i64 0, .int .i64 0, .slice (some ⟨b5, 0, none⟩) 256 256] 36) none) (fun k hk => by cases hk))
            obtain ⟨ys, r⟩ := DA.out.rows
            have HRs := hid r
            have hsz := DA.out.size
            clear r
            go_wp2_with (at_builtin; refine wpList_append_lies _ rfl _ _ 33 rfl u.heap.size 36 j0 (.agg #[.int .i64 0, .int .i64 0, .int .i64 0, .int .i64 0, .int .i64 0, .slice none 0 0]) 6 64 Try.underlying33 ji jz0 jz1 jz2 rfl (by omega) (.slice av rs2.length cv) rs2.length (cellsR rs2 ys) rfl HRs.out.own ⟨w5.heap.size, 0, none⟩ 1 1 [.int .i64 1, .int .i64 (1 + (k : Int)), .int .i64 0, .int .i64 0, .int .i64 0, .slice (some ⟨b5, 0, none⟩) 256 256] rfl rfl (World.news_of_block (heap_alloc_new w5 _)) (by simp [Value.oneCell']) (by omega) (by unfold maxLen; omega) (by omega) hsz _ rfl ?_)
            intro gg cc w9 o9 g9 _ _
            have D9 := hid (DA.out.app (q := ⟨1, 1 + (k : Int), 0, 0, 0, List.replicate 256 0⟩) HRs.out RyA.out o9 g9)
            clear o9 g9
            go_wp2_with fail
            go_roundw
            case rel => exact ⟨k + 1, rs2 ++ [⟨1, 1 + (k : Int), 0, 0, 0, List.replicate 256 0⟩], by omega, by go_num, by simp; omega, D9⟩
            case measure => simp [intOf]; omega
          · go_wp2_with fail
            go_ret
            exact D3.out.fin (by omega)
end Go.Proofs.Ytgdnjpdheghfoaa
