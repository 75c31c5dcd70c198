/- The program's texts of items: hexOf, floatWord, itemWord, ItemText. Conditions: texts of at most 2^21 bytes; the library's table of powers of ten is as its text lays it. -/
import Derived.Test.YtoppccfgcccijaaDoorYa18
import Derived.Test.YtoppccfgcccijaaDoorYc18
import Derived.Test.YtoppccfgcccijaaDoorXf18
import Derived.Test.YtoppccfgcccijaaDoorSha18
import Derived.Test.YtoppccfgcccijaaDoorRk2
import Derived.Test.YtoppccfgcccijaaDoorRk3
import Derived.Test.YtoppccfgcccijaaDoorMga
import Derived.Test.YtoppccfgcccijaaDoorPh
import Derived.Test.YtoppccfgcccijaaDoorIm1
import Derived.Maps.AppendAt
namespace Go.Proofs.YtoppccfgcccijaaDoor
open Go.RowKit
set_option maxRecDepth 100000

theorem own_sl18 {w : World} {base : Nat} {e : TypeId} {s : Nat} {v : Value} {n : Nat} {xs : List Value} (h : w.ownsRow base e s v n xs) : ∃ a c, v = .slice a n c := by
  rcases h.2 with ⟨rfl, rfl⟩ | ⟨g, c, cur, rfl, _⟩
  · exact ⟨none, 0, rfl⟩
  · exact ⟨_, c, rfl⟩
section
variable {P : Program} {w : World}
theorem step_append18 {ops : Array Oper} {o : Oper} {a : Act} {K : Act → World → Prop} {Q : Exit → Act → World → Prop} {E : Prop} (hgd : o.guard = none) (s x : Operand) (t : TypeId)
    (ho : o.op = .call { callee := .builtin .append, args := #[s, x], argTypes := #[t, t] })
    (base : Nat) (e : TypeId) (i : TypeInfo) (z : Value) (size bytes : Nat) (ht : P.underlying t = some (.slice e)) (hi : P.info? e = some i) (hz : i.zero = some z)
    (hsize : i.size = size) (hby : i.bytes = bytes) (hzs : z.cells.size = size) (hsz : 0 < size)
    (v : Value) (n : Nat) (xs : List Value) (hs : a.eval s = v) (hown : w.ownsRow base e size v n xs)
    (ad : Addr) (m c : Nat) (news : List Value) (hx : a.eval x = .slice (some ad) m c) (hl : news.length = m * size) (hnews : ∀ j u, news[j]? = some u → w.cell? (ad.add j) = some u) (h1 : ∀ u ∈ news, u.oneCell' = true)
    (h63 : n + m ≤ maxLen) (hbytes : (n + m) * bytes ≤ 140737488355328) (hbase : base ≤ w.heap.size)
    (h : ∀ a' cap w', w'.ownsRow base e size (.slice a' (n + m) cap) (n + m) (xs ++ news) → w.grownBy w' v.ownBlock → ((Value.slice a' (n + m) cap).ownBlock = v.ownBlock ∨ (Value.slice a' (n + m) cap).ownBlock = some w.heap.size) → K (a.put o.dst (.slice a' (n + m) cap)) w') :
    if Region.wanted o (yielded ops a.tmps) = true then Oper.wp P o a w K Q else E := by
  have hw : Region.wanted o (yielded ops a.tmps) = true := by simp [Region.wanted, hgd]
  rw [if_pos hw]
  obtain ⟨v', w', hr, h2, h3, _, h5⟩ := run_append_own_at (P := P) w base t o.type e i z size bytes ht hi hz hsize hby hzs hsz v n xs hown ad m c news hl hnews h1 h63 hbytes hbase
  obtain ⟨a', c', rfl⟩ := own_sl18 h2
  unfold Oper.wp execOp
  simp only [ho, resolve, invoke, builtin, Sem.run_bind, Sem.run_pure, Result.andThen_ok, List.map_toArray, List.map_cons, List.map_nil, hs, hx, hr]
  exact h a' c' w' h2 h3 h5
end
theorem hex_take18 (zs : List Int) {k : Nat} (h : k < zs.length) : hexB (zs.take (k + 1)) = hexB (zs.take k) ++ [hexD (zs.getD k 0 / 16), hexD (zs.getD k 0 % 16)] := by
  rw [List.take_succ_eq_append_getElem h, hexB_app]
  congr 1
  simp [hexB, List.getD, h]
theorem hex_digit18 (d : Int) (h0 : 0 ≤ d) (h1 : d < 16) (W : World) : (Instr.index 9 (.string ⟨#[48, 49, 50, 51, 52, 53, 54, 55, 56, 57, 97, 98, 99, 100, 101, 102]⟩) (.int .u8 d)).run Tryd.prog W = .ok (.int .u8 (hexD d)) W := by
  rw [run_index_string (P := Tryd.prog) W 9 _ .u8 d Tryd.underlying9]
  have : d = 0 ∨ d = 1 ∨ d = 2 ∨ d = 3 ∨ d = 4 ∨ d = 5 ∨ d = 6 ∨ d = 7 ∨ d = 8 ∨ d = 9 ∨ d = 10 ∨ d = 11 ∨ d = 12 ∨ d = 13 ∨ d = 14 ∨ d = 15 := by omega
  rcases this with rfl | rfl | rfl | rfl | rfl | rfl | rfl | rfl | rfl | rfl | rfl | rfl | rfl | rfl | rfl | rfl <;> rfl
theorem hex_exec18 {P : Program} {o : Oper} {a : Act} {W : World} {x i : Operand} {u v z : Value} (ho : o.op = .index 9 x i) (hx : a.eval x = u ∧ a.eval i = v) (h : (Instr.index 9 u v).run P W = .ok z W) : (execOp a.eval o).run P W = .ok (.value z) W := by
  unfold execOp
  simp only [ho, hx.1, hx.2, Sem.run_bind, Sem.run_pure, Result.andThen_ok, h]
set_option maxHeartbeats 3200000 in
theorem impl_hexOf {ad : Option Addr} {n : Nat} (cap : Nat) {zs : List Int} {w : World} (h : Reads w ad n zs) (hn : n ≤ 2097152) :
    Calls Tryd.prog 53 #[.slice ad n cap] w fun e w' => e = .returned (.string (str (hexB zs))) ∧ Below w.heap.size w w' := by
  obtain ⟨i0, hi, hz0, hz1, hz2⟩ := info_parts Tryd.info5
  have HR := hid h
  have HBd := hid h.bd
  have hl := h.len
  clear h
  go_enter Tryd.func53, Tryd.ntmps53
  go_wp2_with fail
  go_loopw [3, 8] (fun v s wr => ∃ k : Nat, k ≤ n ∧ s = .int .i64 (k : Int) ∧ Hid (wr.ownsRow w.heap.size 5 1 v (2 * k) (bys (hexB (zs.take k)))) ∧ Hid (Below w.heap.size w wr)) (fun _ s _ => n - (intOf s).toNat)
  case atStart => exact ⟨0, Nat.zero_le _, rfl, hid (World.ownsRow_nil _ _ _ _), hid (Below.refl _ _)⟩
  case round =>
    obtain ⟨k, hk, rfl, HO, HB⟩ := hrel
    have hsz := HB.out.size
    by_cases hlt : k < n
    · have hlt' : (k : Int) < (n : Int) := by omega
      have hk0 : (0 : Int) ≤ (k : Int) := by omega
      have hrd := HR.out.below HB.out (Nat.le_refl _)
      obtain ⟨b, off, rfl, hcell⟩ : ∃ b off, ad = some ⟨b, off, none⟩ ∧ ∀ i, i < n → wr.cell? ⟨b, off + i, none⟩ = some (.int .u8 (zs.getD i 0)) := by
        rcases hrd.cells with h0 | h1
        · omega
        · exact h1
      have hz := HBd.out k
      have HT := hid (hex_take18 zs (k := k) (by omega))
      have hc := hcell k hlt
      obtain ⟨z, hzk⟩ : ∃ z, zs.getD k 0 = z := ⟨_, rfl⟩
      rw [hzk] at hz HT hc
      obtain ⟨hz0', hz1'⟩ := hz
      clear hcell hrd hzk
      have x1 := hid (hex_digit18 (z / 16) (by omega) (by omega))
      have x2 := hid (hex_digit18 (z % 16) (by omega) (by omega))
      have E1 := hid (show IntKind.u8.wrap (z.tdiv 16) = z / 16 by rw [Int.tdiv_eq_ediv_of_nonneg (by omega), IntKind.wrap_u8]; omega)
      have E3 := hid (show z.tmod 16 = z % 16 from Int.tmod_eq_emod_of_nonneg (by omega))
      have E2 := hid (show IntKind.u8.wrap (z.tmod 16) = z % 16 by rw [Int.tmod_eq_emod_of_nonneg (by omega), IntKind.wrap_u8]; omega)
      obtain ⟨ao, co, rfl⟩ := own_sl18 HO.out
      go_wp2_with fail
      have HBd2 := hid (HB.out.trans (((Still.drew wr).below wr.heap.size).mono hsz))
      have HOd := hid (show wr.drew.ownsRow w.heap.size 5 1 (.slice ao (2 * k) co) (2 * k) (bys (hexB (zs.take k))) from HO.out.drew)
      refine region_K 99 (fun _ => True) (by kernel_rfl) trivial (fun hHeld => ?_)
      generalize wr.drew = vd at *
      refine anyK_take2 (i := 0) (v := ?v0_1) rfl (by kernel_rfl) (by kernel_rfl) (by kernel_rfl) (by rfl) (fun _ _ _ h => h) (by rfl) hHeld ?hy0_1 (some 12) (by rfl) ?rest0_1
      case hy0_1 => (intro W hSw; obtain _ := hSw; go_simp; (try with_reducible rfl))
      (try simp only [Act.put]); (try simp only [List.setIfInBounds_toArray]); (try simp only [List.set_cons_succ]); (try simp only [List.set_cons_zero])
      refine anyK_take2 (i := 1) (v := ?v1_2) rfl (by kernel_rfl) (by kernel_rfl) (by kernel_rfl) (by rfl) (fun _ _ _ h => h) (by rfl) hHeld ?hy1_2 (some 13) (by rfl) ?rest1_2
      case hy1_2 => (intro W hSw; obtain _ := hSw; go_simp; (try with_reducible rfl))
      (try simp only [Act.put]); (try simp only [List.setIfInBounds_toArray]); (try simp only [List.set_cons_succ]); (try simp only [List.set_cons_zero])
      refine anyK_take2 (i := 2) (v := .int .u8 (z / 16)) rfl (by kernel_rfl) (by kernel_rfl) (by kernel_rfl) (by rfl) (fun _ _ _ h => h) (by rfl) hHeld ?hy2_3 (some 14) (by rfl) ?rest2_3
      case hy2_3 => (intro W hSw; obtain _ := hSw; go_simp; (try rw [E1.out]))
      (try simp only [Act.put]); (try simp only [List.setIfInBounds_toArray]); (try simp only [List.set_cons_succ]); (try simp only [List.set_cons_zero])
      refine anyK_take2 (i := 3) (v := .int .u8 (hexD (z / 16))) rfl (by kernel_rfl) (by kernel_rfl) (by kernel_rfl) (by rfl) (fun _ _ _ h => h) (by rfl) hHeld ?hy3_4 (some 15) (by rfl) ?rest3_4
      case hy3_4 => (intro W hSw; exact hex_exec18 (by rfl) ⟨by rfl, by rfl⟩ (x1.out W))
      (try simp only [Act.put]); (try simp only [List.setIfInBounds_toArray]); (try simp only [List.set_cons_succ]); (try simp only [List.set_cons_zero])
      refine anyK_take2 (i := 4) (v := ?v4_5) rfl (by kernel_rfl) (by kernel_rfl) (by kernel_rfl) (by rfl) (fun _ _ _ h => h) (by rfl) hHeld ?hy4_5 (some 16) (by rfl) ?rest4_5
      case hy4_5 => (intro W hSw; obtain _ := hSw; go_simp; (try with_reducible rfl))
      (try simp only [Act.put]); (try simp only [List.setIfInBounds_toArray]); (try simp only [List.set_cons_succ]); (try simp only [List.set_cons_zero])
      refine anyK_take2 (i := 5) (v := .int .u8 (z % 16)) rfl (by kernel_rfl) (by kernel_rfl) (by kernel_rfl) (by rfl) (fun _ _ _ h => h) (by rfl) hHeld ?hy5_6 (some 17) (by rfl) ?rest5_6
      case hy5_6 => (intro W hSw; obtain _ := hSw; go_simp; (first | rw [E2.out] | rw [E3.out] | skip))
      (try simp only [Act.put]); (try simp only [List.setIfInBounds_toArray]); (try simp only [List.set_cons_succ]); (try simp only [List.set_cons_zero])
      refine anyK_take2 (i := 6) (v := .int .u8 (hexD (z % 16))) rfl (by kernel_rfl) (by kernel_rfl) (by kernel_rfl) (by rfl) (fun _ _ _ h => h) (by rfl) hHeld ?hy6_7 (some 18) (by rfl) ?rest6_7
      case hy6_7 => (intro W hSw; exact hex_exec18 (by rfl) ⟨by rfl, by rfl⟩ (x2.out W))
      (try simp only [Act.put]); (try simp only [List.setIfInBounds_toArray]); (try simp only [List.set_cons_succ]); (try simp only [List.set_cons_zero])
      refine anyK_step (i := 7) (by kernel_rfl) rfl (fun KP hK => ?_)
      go_simp
      have HBA := hid (HBd2.out.trans ((Below.alloc1 vd (.cells #[.int .u8 (hexD (z / 16)), .int .u8 (hexD (z % 16))] 5)).mono HBd2.out.size))
      have HN := hid (heap_alloc_new vd (.cells #[.int .u8 (hexD (z / 16)), .int .u8 (hexD (z % 16))] 5))
      have HOa := hid (HOd.out.alloc (.cells #[.int .u8 (hexD (z / 16)), .int .u8 (hexD (z % 16))] 5))
      clear hHeld HOd
      refine hK.out _ _ trivial (fun hHeld => ?_)
      clear hK KP
      (try simp only [Act.put]); (try simp only [List.setIfInBounds_toArray]); (try simp only [List.set_cons_succ]); (try simp only [List.set_cons_zero])
      have hsa := HBA.out.size
      refine anyK_step (i := 8) (by kernel_rfl) rfl (fun KP hK => ?_)
      refine step_append18 rfl _ _ 23 rfl w.heap.size 5 i0 (.int .u8 0) 1 1 Tryd.underlying23 hi hz0 hz1 hz2 rfl (by decide) _ (2 * k) _ rfl HOa.out ⟨vd.heap.size, 0, none⟩ 2 2 [.int .u8 (hexD (z / 16)), .int .u8 (hexD (z % 16))] rfl rfl (World.news_of_block HN.out) ?g3 (by unfold maxLen; omega) (by omega) hsa ?_
      case g3 => intro u hu; simp only [List.mem_cons, List.not_mem_nil, or_false] at hu; rcases hu with rfl | rfl <;> rfl
      intro a8 c8 w8 o8 g8 _
      have HB8 := hid (HBA.out.grown g8 hsa (fun j hj => (HOa.out.lt j hj).1))
      have HO8 := hid (show w8.ownsRow w.heap.size 5 1 (.slice a8 (2 * k + 2) c8) (2 * (k + 1)) (bys (hexB (zs.take (k + 1)))) by
        rw [HT.out, bys_append]
        exact o8)
      clear o8 g8 HOa HBA hHeld
      refine hK.out _ _ trivial (fun hHeld => ?_)
      clear hK KP
      (try simp only [Act.put]); (try simp only [List.setIfInBounds_toArray]); (try simp only [List.set_cons_succ]); (try simp only [List.set_cons_zero])
      refine anyK_take2 (i := 9) (v := ?v9_8) rfl (by kernel_rfl) (by kernel_rfl) (by kernel_rfl) (by rfl) (fun _ _ _ h => h) (by rfl) hHeld ?hy9_8 (some 3) (by rfl) ?rest9_8
      case hy9_8 => (intro W hSw; obtain _ := hSw; go_simp; (try with_reducible rfl))
      (try simp only [Act.put]); (try simp only [List.setIfInBounds_toArray]); (try simp only [List.set_cons_succ]); (try simp only [List.set_cons_zero])
      refine anyK_done (by kernel_rfl) ?_ _
      go_wp2_with fail
      go_roundw
      case rel => exact ⟨k + 1, by omega, by go_num, HO8, HB8⟩
      case measure => simp [intOf]; omega
    · have hlt' : ¬ (k : Int) < (n : Int) := by omega
      obtain rfl : k = n := by omega
      obtain ⟨ao, co, rfl⟩ := own_sl18 HO.out
      have ho := HO.out
      rw [List.take_of_length_le (by omega)] at ho
      obtain ⟨ad2, cap2, e2, r2, _⟩ := Reads.own ho (fun i => hexB_byte HBd.out i)
      obtain ⟨rfl, _, rfl⟩ := Value.slice.inj e2
      have hcv := r2.str co 23 Tryd.underlying23 Tryd.underlying5 Tryd.underlying9
      go_wp2_with fail
      go_ret
      exact ⟨rfl, HB.out⟩
theorem impl_floatWord (f : Nat) (hf : f < 18446744073709551616) (w : World) :
    Calls Tryd.prog 48 #[.float .f64 f] w fun e w' => e = .returned (.string (str (hexB (hi8 (fbits f) 8)))) ∧ Below w.heap.size w w' := by
  go_enter Tryd.func48, Tryd.ntmps48
  go_wp2_with (first
    | (go_at_call 52; refine (impl_FloatBits f hf _).mono ?_; rintro e w1 ⟨rfl, e1'⟩; subst w1)
    | (go_at_call 61; refine (impl_putHigh (fbits f) (fbits_lt f hf) _).mono ?_; rintro e w3 ⟨v3, rfl, o3, b3⟩; obtain ⟨a3, c3, rfl, r3, _⟩ := Reads.own o3 (fun i => hi8_bd (fbits f) 8 i); have HB3 := hid b3; have HR3 := hid r3; clear o3 b3 r3)
    | (go_at_call 53; refine (impl_hexOf c3 HR3.out (by omega)).mono ?_; rintro e w4 ⟨rfl, b4⟩; have HB4 := hid (HB3.out.trans (b4.mono HB3.out.size)); clear b4))
  go_ret
  exact ⟨rfl, HB4.out⟩
theorem str_cons18 (c : Int) (L : List Int) : (⟨#[UInt8.ofNat c.toNat]⟩ : ByteArray) ++ str L = str (c :: L) := by
  apply ByteArray.ext
  simp [str]
end Go.Proofs.YtoppccfgcccijaaDoor
