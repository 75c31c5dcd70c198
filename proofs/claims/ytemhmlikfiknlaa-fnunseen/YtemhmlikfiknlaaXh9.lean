/- The draws of a list of snapshots and of statuses (DrawHorizon, DrawDead). For codes of at most 2^20 bytes. -/
import Derived.Test.YtemhmlikfiknlaaXg9
namespace Go.Proofs.Ytemhmlikfiknlaa
open Go.RowKit
set_option maxRecDepth 100000

/-- Snapshots that are being drawn: their slice a row of its own, their lists rows of their own, the cursor going on. -/
structure NsS (w0 w : World) (g : Nat) (ad : Option Addr) (n cap : Nat) (zs : List Int) (a : Option Addr) (m c : Nat) (ws : List (Int × List Int)) (ys : List Value) : Prop where
  own : w.ownsRow w0.heap.size 32 2 (.slice a m c) m (cellsN ws ys)
  len : ws.length = m
  ylen : ys.length = m
  bands : BandsI w w0.heap.size w.heap.size ys (ws.map (·.2))
  bd : ∀ p ∈ ws, -1 ≤ p.1 ∧ p.1 ≤ 402
  sm : ∀ p ∈ ws, p.2.length ≤ 20
  cur : Cur w g ad n cap zs
  grown : w0.grownBy w (some g)
  gn : g < w0.heap.size
variable {w0 w w' : World} {g : Nat} {ad : Option Addr} {n cap : Nat} {zs : List Int} {a : Option Addr} {m c : Nat} {ws : List (Int × List Int)} {ys : List Value}
theorem NsS.draw (h : NsS w0 w g ad n cap zs a m c ws ys) (k : w.grownBy w' (some g)) (hc : Cur w' g ad n cap zs) : NsS w0 w' g ad n cap zs a m c ws ys := by
  have h2 := h.gn
  refine ⟨own_other h.own k (own_blk h.own h2), h.len, h.ylen, (h.bands.beside k (fun i => ?_)).mono (Nat.le_refl _) k.size, h.bd, h.sm, hc, grown_trans h.grown k, h2⟩
  cases e : (ys.getD i nilS).ownBlock with
  | none => exact .inl rfl
  | some r => right; intro e2; cases e2; have := (h.bands.inr i _ e).1; omega
theorem NsS.alloc (h : NsS w0 w g ad n cap zs a m c ws ys) (o : Obj) : NsS w0 (w.alloc o) g ad n cap zs a m c ws ys := by
  have k := World.grownBy_alloc w o none
  refine ⟨h.own.alloc _, h.len, h.ylen, (h.bands.beside k (fun i => ?_)).mono (Nat.le_refl _) k.size, h.bd, h.sm, h.cur.alloc _, grown_new h.grown k (fun r hr => by cases hr), h.gn⟩
  cases e : (ys.getD i nilS).ownBlock with
  | none => exact .inl rfl
  | some r => right; simp
theorem NsS.nil (c0 : Cur w0 g ad n cap zs) : NsS w0 w0 g ad n cap zs none 0 0 [] [] :=
  ⟨World.ownsRow_nil _ _ _ _, rfl, rfl, BandsI.nil _ _ _, (fun p hp => by cases hp), (fun p hp => by cases hp), c0, grown_refl _ _, c0.lt⟩
/-- One more: its list is a row of the call's own behind 'mid', its pair has been appended. -/
theorem NsS.push {mid : Nat} (h : NsS w0 w g ad n cap zs a m c ws ys) (hm0 : w0.heap.size ≤ mid) (hmw : mid ≤ w.heap.size) (hm : ∀ x ∈ ys, ∀ r, x.ownBlock = some r → r < mid) {S : Int} {a1 : Option Addr} {m1 c1 : Nat} {L : List Int} (o1 : w.ownsRow mid 3 1 (.slice a1 m1 c1) m1 (ins L)) (hL : bdI L) (hm1 : m1 ≤ 20) (hS : -1 ≤ S ∧ S ≤ 402)
    {a' : Option Addr} {c' : Nat} (o : w'.ownsRow w0.heap.size 32 2 (.slice a' (m + 1) c') (m + 1) (cellsN ws ys ++ [.int .i64 S, .slice a1 m1 c1])) (k : w.grownBy w' (Value.slice a m c).ownBlock) :
    NsS w0 w' g ad n cap zs a' (m + 1) c' (ws ++ [(S, L)]) (ys ++ [.slice a1 m1 c1]) := by
  have hl : L.length = m1 := by have := o1.1; simpa [ins] using this
  have B1 : BandsI w w0.heap.size mid ys (ws.map (·.2)) := ⟨h.bands.len, h.bands.own, hm, h.bands.apart, h.bands.bd⟩
  have B2 : BandsI w w0.heap.size w.heap.size (ys ++ [.slice a1 m1 c1]) (ws.map (·.2) ++ [L]) := B1.snoc hm0 hmw (by rw [hl]; exact o1) hL (Nat.le_refl _)
  refine ⟨by rw [cellsN_snoc _ _ _ _ (by rw [h.ylen, h.len])]; exact o, by simp [h.len], by simp [h.ylen], ?_, ?_, ?_, h.cur.other k (fun r hr => by have := (h.own.lt r hr).1; have := h.gn; omega), grown_new h.grown k (fun r hr => (h.own.lt r hr).1), h.gn⟩
  · rw [List.map_append]
    exact (B2.beside k (fun i => owns_ne (B2.own i) h.own (by decide))).mono (Nat.le_refl _) k.size
  · intro p hp
    rcases List.mem_append.1 hp with hp | hp
    · exact h.bd p hp
    · obtain rfl := List.mem_singleton.1 hp; exact hS
  · intro p hp
    rcases List.mem_append.1 hp with hp | hp
    · exact h.sm p hp
    · obtain rfl := List.mem_singleton.1 hp; simpa [hl] using hm1
theorem NsS.reads (h : NsS w0 w g ad n cap zs a m c ws ys) : ReadsN w a ws := readsN_own h.ylen h.len h.own h.bands
theorem NsS.top (h : NsS w0 w g ad n cap zs a m c ws ys) : ∀ x ∈ ys, ∀ r, x.ownBlock = some r → r < w.heap.size := h.bands.top

set_option maxHeartbeats 3200000 in
theorem drawHorizon {w : World} {ad : Option Addr} {n : Nat} (cap : Nat) {zs : List Int} (h : Reads w ad n zs) (hn : n ≤ 1048576) :
    Calls Try.prog 10 #[.slice ad n cap] w fun e w' => ∃ (a1 : Option Addr) (m c1 : Nat) (ws : List (Int × List Int)) (x : Int), e = .returned (.tuple #[.slice a1 m c1, .int .i64 x]) ∧ ReadsN w' a1 ws ∧ ws.length = m ∧ m ≤ 3 ∧ (∀ p ∈ ws, -1 ≤ p.1 ∧ p.1 ≤ 402) ∧ (∀ p ∈ ws, p.2.length ≤ 20) ∧ Below w.heap.size w w' := by
  obtain ⟨i0, hi, hz0, hz1, hz2⟩ := info_parts Try.infoSn
  go_enter Try.func10, Try.ntmps10
  go_wp2_with fail
  refine (l1New cap h (by omega)).mono ?_
  rintro e w1 ⟨g, rfl, hg, c1, b1⟩
  have HB := hid b1
  have hz1 : w.heap.size ≤ w1.heap.size := b1.size
  have HC := hid c1
  clear b1 h
  go_wp2_with fail
  refine (l1Below HC.out (by omega) 4 (by omega) (by omega)).mono ?_
  rintro e w2 ⟨y, rfl, hy0, hy1, c2, g2⟩
  obtain ⟨y, rfl⟩ := Int.eq_ofNat_of_zero_le hy0
  have HS := hid ((NsS.nil HC.out).draw g2 c2)
  clear c1 c2 g2 HC
  go_wp2_with fail
  go_loopw [5, 6] (fun sl i wr => ∃ (k m c2 : Nat) (a : Option Addr) (ws : List (Int × List Int)) (ys : List Value), i = .int .i64 k ∧ k + m ≤ 3 ∧ sl = .slice a m c2 ∧ Hid (NsS w1 wr g ad n cap zs a m c2 ws ys)) (fun _ i _ => (intOf i).toNat)
  case atStart => exact ⟨y, 0, 0, none, [], [], rfl, by omega, rfl, HS⟩
  case round =>
    clear HS
    obtain ⟨k, m, c2, a, ws, ys, rfl, hk, rfl, HS⟩ := hrel
    by_cases hlt : 0 < k
    · have hlt' : (0 : Int) < (k : Int) := by omega
      go_wp2_with fail
      refine (l9snap HS.out.cur (by omega)).mono ?_
      rintro e w3 ⟨S, a3, m3, c3, L, rfl, o3, d3, hm3, hS3, k3, g3⟩
      have T3 := hid HS.out.top
      have M0 := hid HS.out.grown.size
      have M1 := hid g3.size
      have HN := hid ((HS.out.draw g3 k3).alloc (.cells #[.int .i64 S, .slice a3 m3 c3] 32))
      have O3 := hid (o3.alloc (.cells #[.int .i64 S, .slice a3 m3 c3] 32))
      have D3 := hid d3
      have OW := hid HN.out.own
      clear o3 k3 g3 d3
      go_wp2_with (at_builtin; refine wpList_append_row rfl _ _ 24 rfl w1.heap.size 32 i0 (.agg #[.int .i64 0, .slice none 0 0]) 2 32 Try.underlying24 hi hz0 (by assumption) hz2 rfl (by decide) _ _ _ rfl OW.out (some ⟨w3.heap.size, 0, none⟩) 1 1 [.int .i64 S, .slice a3 m3 c3] rfl rfl (.inr ⟨_, rfl, World.news_of_block (heap_alloc_new w3 _)⟩) (fun e => by cases e) (by intro u hu; simp at hu; rcases hu with rfl | rfl <;> rfl) (by unfold maxLen; omega) (by omega) (by have := M0.out; have := M1.out; simp; omega) ?_)
      intro a5 c5 w5 o gA
      have HN2 := hid (HN.out.push M0.out (by have := M1.out; rw [alloc_size]; omega) T3.out O3.out D3.out hm3 hS3 o gA)
      clear o gA HN OW O3 T3
      go_wp2_with fail
      go_roundw
      case rel => exact ⟨k - 1, m + 1, c5, a5, _, _, by go_num, by omega, rfl, HN2⟩
      case measure => simp [intOf]; omega
    · have hlt' : ¬ (0 : Int) < (k : Int) := by omega
      go_wp2_with fail
      refine (l1Below HS.out.cur (by omega) 6 (by omega) (by omega)).mono ?_
      rintro e w3 ⟨z, rfl, hz0, hz1, c3, g3⟩
      replace HS := hid (HS.out.draw g3 c3)
      clear c3 g3
      have HF := hid (fun (W : World) (hW : NsS w1 W g ad n cap zs a m c2 ws ys) => show Below w.heap.size w W from HB.out.grown hW.grown HB.out.size (fun k hk => by cases hk; exact hg))
      rcases (show z = 0 ∨ z = 1 ∨ 1 < z by omega) with rfl | rfl | hzz
      · have HA := hid (HS.out.alloc (.cells #[.int .i64 0, .int .i64 1, .int .i64 401, .int .i64 402] 3))
        have PC := hid (heap_alloc_new w3 (.cells #[.int .i64 0, .int .i64 1, .int .i64 401, .int .i64 402] 3))
        have M2 := hid HS.out.grown.size
        go_wp2_with fail
        refine (l1Pick9 (b := w3.heap.size) (m := 4) HA.out.cur (by omega) (by omega) (by omega) (by have := HS.out.gn; have := M2.out; omega) (fun i hi => ?_)).mono ?_
        · have hcell := cell_of_row _ _ i _ _ _ PC.out
          rcases (show i = 0 ∨ i = 1 ∨ i = 2 ∨ i = 3 by omega) with rfl | rfl | rfl | rfl
          · exact ⟨0, by rw [hcell]; rfl, by omega, by omega⟩
          · exact ⟨1, by rw [hcell]; rfl, by omega, by omega⟩
          · exact ⟨401, by rw [hcell]; rfl, by omega, by omega⟩
          · exact ⟨402, by rw [hcell]; rfl, by omega, by omega⟩
        rintro e w4 ⟨q, rfl, hq, c4, g4⟩
        have HN := hid (HA.out.draw g4 c4)
        clear c4 g4 PC HA
        go_wp2_with fail
        go_ret2
        exact ⟨a, m, c2, ws, q, rfl, HN.out.reads, HN.out.len, by omega, HN.out.bd, HN.out.sm, HF.out _ HN.out⟩
      · go_wp2_with fail
        refine (l1Below HS.out.cur (by omega) 12 (by omega) (by omega)).mono ?_
        rintro e w4 ⟨q, rfl, hq0, hq1, c4, g4⟩
        have HN := hid (HS.out.draw g4 c4)
        clear c4 g4
        go_wp2_with fail
        go_ret2
        exact ⟨a, m, c2, ws, _, rfl, HN.out.reads, HN.out.len, by omega, HN.out.bd, HN.out.sm, HF.out _ HN.out⟩
      · have g1 : (z == 0) = false := by simp; omega
        have g2 : (z == 1) = false := by simp; omega
        go_wp2_with fail
        go_ret2
        exact ⟨a, m, c2, ws, _, rfl, HS.out.reads, HS.out.len, by omega, HS.out.bd, HS.out.sm, HF.out _ HS.out⟩

set_option maxHeartbeats 3200000 in
theorem drawDead {w : World} {ad : Option Addr} {n : Nat} (cap : Nat) {zs : List Int} (h : Reads w ad n zs) (hn : n ≤ 1048576) :
    Calls Try.prog 11 #[.slice ad n cap] w fun e w' => ∃ (a1 : Option Addr) (m c1 : Nat) (L : List Int) (x y z : Int), e = .returned (.tuple #[.slice a1 m c1, .int .i64 x, .int .i64 y, .int .i64 z]) ∧ ReadsI w' a1 m L ∧ m ≤ 12 ∧ (0 ≤ x ∧ x ≤ 13) ∧ (0 ≤ y ∧ y ≤ 13) ∧ Below w.heap.size w w' := by
  go_enter Try.func11, Try.ntmps11
  go_wp2_with fail
  refine (l1New cap h (by omega)).mono ?_
  rintro e w1 ⟨g, rfl, hg, c1, b1⟩
  have HB := hid b1
  have HC := hid c1
  have hgl : g < w1.heap.size := c1.lt
  clear b1 c1 h
  go_wp2_with fail
  refine (l8list HC.out (by omega) 12 (by omega)).mono ?_
  rintro e w2 ⟨a1, c1, L, rfl, o1, d1, l1, k1, g1⟩
  have HO := hid o1
  have HD := hid d1
  replace HC := hid k1
  have HG := hid g1
  clear o1 d1 k1 g1
  obtain ⟨m, hml⟩ : ∃ m, L.length = m := ⟨_, rfl⟩
  rw [hml] at HO l1
  rw [hml]
  clear hml
  go_wp2_with fail
  refine (l1Below HC.out (by omega) 13 (by omega) (by omega)).mono ?_
  rintro e w3 ⟨x, rfl, hx0, hx1, c3, g3⟩
  replace HO := hid (own_other HO.out g3 (own_blk HO.out hgl))
  replace HG := hid (grown_trans HG.out g3)
  replace HC := hid c3
  clear c3 g3
  go_wp2_with fail
  refine (l1Below HC.out (by omega) 13 (by omega) (by omega)).mono ?_
  rintro e w4 ⟨y, rfl, hy0, hy1, c3, g3⟩
  replace HO := hid (own_other HO.out g3 (own_blk HO.out hgl))
  replace HG := hid (grown_trans HG.out g3)
  replace HC := hid c3
  clear c3 g3
  go_wp2_with fail
  refine (l1Below HC.out (by omega) 14 (by omega) (by omega)).mono ?_
  rintro e w5 ⟨z, rfl, hz0, hz1, c3, g3⟩
  replace HO := hid (own_other HO.out g3 (own_blk HO.out hgl))
  replace HG := hid (grown_trans HG.out g3)
  clear c3 g3 HC
  go_wp2_with fail
  exact bodyPost_ret (v := .tuple #[_, _, _, _]) (by simp [results, Try.results11, go_sem]) rfl ⟨a1, m, c1, L, x, y, z, rfl, reads_own9 HO.out HD.out, l1, by omega, by omega, HB.out.grown HG.out HB.out.size (fun k hk => by cases hk; exact hg)⟩
end Go.Proofs.Ytemhmlikfiknlaa
