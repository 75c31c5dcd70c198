/- Texts of this proof in one: Uc11 Ud11 Ue11 Rk4. -/
import Derived.Test.YtlkoghdajpbffaaGreatMgu
import Derived.Test.YtlkoghdajpbffaaGreatMge
/- A list of entries with one more. Conditions: at most four entries before. -/


namespace Go.Proofs.YtlkoghdajpbffaaGreat
open Go.RowKit
set_option maxRecDepth 100000
theorem Pt.split {w : World} {st b off n c c1 c2 k : Nat} {A B : List Value} (h : Pt w st (some ⟨b, off, none⟩) n c (A ++ B)) (hA : A.length = k * st) : Pt w st (some ⟨b, off, none⟩) k c1 A ∧ Pt w st (some ⟨b, off + k * st, none⟩) (n - k) c2 B := by
 obtain ⟨h1, h2, _⟩ := h
 rcases h2 with ⟨e, _⟩ | ⟨p, e, hc⟩
 · cases e
 cases e
 have hB : B.length = (n - k) * st := by rw [List.length_append] at h1; rw [Nat.sub_mul]; omega
 refine ⟨⟨hA, .inr ⟨_, rfl, fun j u hu => hc j u ?_⟩, fun q => by cases q⟩, ⟨hB, .inr ⟨_, rfl, fun j u hu => ?_⟩, fun q => by cases q⟩⟩
 · rw [List.getElem?_append_left (List.getElem?_eq_some_iff.1 hu).1]; exact hu
 · have := hc (k * st + j) u (by rw [List.getElem?_append_right (by omega), hA, show k * st + j - k * st = j by omega]; exact hu)
   rw [Addr.add_lit] at this ⊢
   rw [show off + k * st + j = off + (k * st + j) by omega]
   exact this
theorem cellsE_split (es : List En) (xs : List Value) (k : Nat) (hx : xs.length = es.length) : cellsE es xs = cellsE (es.take k) (xs.take k) ++ cellsE (es.drop k) (xs.drop k) := by
 have := cellsE_app (es.take k) (es.drop k) (xs.take k) (xs.drop k) (by simp [hx])
 rw [List.take_append_drop, List.take_append_drop] at this
 exact this
theorem cellsE_put (es : List En) (xs : List Value) (k : Nat) (e : En) (x : Value) (hx : xs.length = es.length) : cellsE (es.take k) (xs.take k) ++ cellsE1 e x ++ cellsE (es.drop k) (xs.drop k) = cellsE (putL es k e) (putL xs k x) := by
 unfold putL
 rw [cellsE_app _ _ _ _ (by simp [hx]), cellsE_cons, List.append_assoc]
set_option maxHeartbeats 6400000 in
theorem impl_with_E {es : List En} {xs : List Value} {a : Option Addr} {n c k : Nat} {e : En} {x : Value} {w : World} (hp : Pt w 5 a n c (cellsE es xs)) (ha : a = none ∨ ∃ b off, a = some ⟨b, off, none⟩) (hx : xs.length = es.length) (hn : es.length = n) (hn4 : n ≤ 4) (hk : k ≤ n) (hc : n ≤ c ∧ c ≤ maxLen) (h1 : ∀ u ∈ cellsE es xs, u.oneCell' = true) (he : ∀ u ∈ cellsE1 e x, u.oneCell' = true) (hsx : ∃ ax nx cx, x = .slice ax nx cx) :
 Calls Tryz.prog 88 #[.slice a n c, .int .i64 k, .agg #[.int .i64 e.K, .int .i64 e.N, .float .f64 e.F, x, .int .i64 e.id]] w fun r w' => ∃ a' c', r = .returned (.slice a' (n + 1) c') ∧ w'.ownsRow w.heap.size 48 5 (.slice a' (n + 1) c') (n + 1) (cellsE (putL es k e) (putL xs k x)) ∧ Below w.heap.size w w' := by
 have hst := fun w a m => run_store Tryz.prog w a (.float .f64 e.F) m rfl
 obtain ⟨ax, nx, cx, rfl⟩ := hsx
 have HP := hid hp
 have HX := hid hx
 have HN := hid hn
 have HOe := hid he
 have HO1 := hid (show ∀ k, ∀ u ∈ cellsE (es.take k) (xs.take k), u.oneCell' = true from fun k u hu => h1 u (by rw [cellsE_split es xs k hx]; exact List.mem_append_left _ hu))
 have HO3 := hid (show ∀ k, ∀ u ∈ cellsE (es.drop k) (xs.drop k), u.oneCell' = true from fun k u hu => h1 u (by rw [cellsE_split es xs k hx]; exact List.mem_append_right _ hu))
 have HB0 := hid (Below.alloc1 w (.cells #[.int .i64 e.K, .int .i64 e.N, .float .f64 e.F, .slice ax nx cx, .int .i64 e.id] 48))
 have HR0 := hid (heap_alloc_new w (.cells #[.int .i64 e.K, .int .i64 e.N, .float .f64 e.F, .slice ax nx cx, .int .i64 e.id] 48))
 have hmx := hc.2
 have hnc := hc.1
 unfold maxLen at hmx
 clear hp hx hn he h1
 go_enter Tryz.func88, Tryz.ntmps88
 go_wp2_with fail
 generalize w.alloc (.cells #[.int .i64 e.K, .int .i64 e.N, .float .f64 e.F, .slice ax nx cx, .int .i64 e.id] 48) = u at *
 obtain ⟨g0, hg0⟩ : ∃ g0, w.heap.size = g0 := ⟨_, rfl⟩
 rw [hg0] at HR0
 try simp only [hg0]
 have HKp := hid (show ∀ W, Below u.heap.size u W → W.cell? ⟨g0, 0, none⟩ = some (.int .i64 e.K) ∧ W.cell? ⟨g0, 1, none⟩ = some (.int .i64 e.N) ∧ W.cell? ⟨g0, 2, none⟩ = some (.float .f64 e.F) ∧ W.cell? ⟨g0, 3, none⟩ = some (.slice ax nx cx) ∧ W.cell? ⟨g0, 4, none⟩ = some (.int .i64 e.id) from fun W bb => by
  have r := (bb.block g0 (qL HR0.out)).trans HR0.out
  exact ⟨qC r, qC r, qC r, qC r, qC r⟩)
 have HV := hid ((Still.drew u).below u.heap.size)
 refine region_K 99 (fun W => W.cell? ⟨g0, 0, none⟩ = some (.int .i64 e.K) ∧ W.cell? ⟨g0, 1, none⟩ = some (.int .i64 e.N) ∧ W.cell? ⟨g0, 2, none⟩ = some (.float .f64 e.F) ∧ W.cell? ⟨g0, 3, none⟩ = some (.slice ax nx cx) ∧ W.cell? ⟨g0, 4, none⟩ = some (.int .i64 e.id)) (by kernel_rfl) (HKp.out _ HV.out) (fun hh => ?_)
 generalize u.drew = vd at *
 subst hg0
 rcases ha with rfl | ⟨b, off, rfl⟩
 · obtain ⟨q1, q2, q3⟩ := HP.out
   have hn0 := q3 rfl
   subst hn0
   obtain rfl : k = 0 := by omega
   obtain rfl : c = 0 := by
    rcases q2 with ⟨_, e0⟩ | ⟨p, e0, _⟩
    · exact e0
    · cases e0
   clear q1 q2 q3
   refine qT 0 rfl hh 7 rfl ?_
   refine qT 1 rfl hh 8 rfl ?_
   refine qT 2 rfl hh 9 rfl ?_
   refine qT 3 rfl hh 10 rfl ?_
   refine qT 5 rfl hh 12 rfl ?_
   refine qT 6 rfl hh 13 rfl ?_
   refine anyK_take2 (i := 7) (v := .slice none 0 0) rfl (by kernel_rfl) (by kernel_rfl) (by kernel_rfl) (by rfl) (fun _ _ _ h => h) (by rfl) hh ?hz7 (some 14) (by rfl) ?rz7
   case hz7 => (intro W hSw; go_simp; (try with_reducible rfl))
   try simp only [qP]
   refine qS 4 rfl fun KP hK => ?_
   go_simp
   have HBA := hid (Below.alloc1 vd (.cells #[.int .i64 e.K, .int .i64 e.N, .float .f64 e.F, .slice ax nx cx, .int .i64 e.id] 48))
   have HN1 := hid (heap_alloc_new vd (.cells #[.int .i64 e.K, .int .i64 e.N, .float .f64 e.F, .slice ax nx cx, .int .i64 e.id] 48))
   have HL1 := hid (alloc_size vd (.cells #[.int .i64 e.K, .int .i64 e.N, .float .f64 e.F, .slice ax nx cx, .int .i64 e.id] 48))
   have HBB := hid (HV.out.trans (HBA.out.mono HV.out.size))
   clear hh
   refine hK.out _ _ (HKp.out _ HBB.out) (fun hh => ?_)
   clear hK KP
   try simp only [qP]
   generalize vd.alloc (.cells #[.int .i64 e.K, .int .i64 e.N, .float .f64 e.F, .slice ax nx cx, .int .i64 e.id] 48) = v1 at *
   obtain ⟨g1, hg1⟩ : ∃ g1, vd.heap.size = g1 := ⟨_, rfl⟩
   rw [hg1] at HN1 HL1
   try simp only [hg1]
   refine qS 8 rfl fun KP hK => ?_
   go_simp
   have HBC := hid (Below.alloc1 v1 (.cells #[.slice none 0 0, .slice (some ⟨g1, 0, none⟩) 1 1, .slice none 0 0] 110))
   have HN2 := hid (heap_alloc_new v1 (.cells #[.slice none 0 0, .slice (some ⟨g1, 0, none⟩) 1 1, .slice none 0 0] 110))
   have HBD := hid (HBB.out.trans (HBC.out.mono HBB.out.size))
   clear hh
   refine hK.out _ _ (HKp.out _ HBD.out) (fun hh => ?_)
   clear hK KP
   try simp only [qP]
   generalize v1.alloc (.cells #[.slice none 0 0, .slice (some ⟨g1, 0, none⟩) 1 1, .slice none 0 0] 110) = v2 at *
   refine qS 9 rfl fun KP hK => ?_
   go_simp
   have HBw := hid (HB0.out.trans (HBD.out.mono HB0.out.size))
   have HM := hid (show Pt v2 5 (some ⟨g1, 0, none⟩) 1 1 (cellsE1 e (.slice ax nx cx)) from Pt.below (w := v1) ⟨rfl, .inr ⟨_, rfl, fun j u hu => by
    rw [Addr.add_lit, Nat.zero_add, cell_of_row _ _ _ _ _ _ HN1.out]
    rw [← hu]
    simp [cellsE1]⟩, fun q => by cases q⟩ HBC.out)
   have HP1 := hid (show Pt v2 5 none 0 0 (cellsE (es.take 0) (xs.take 0)) from ⟨by rw [List.take_zero, List.take_zero, cellsE_nil]; rfl, .inl ⟨rfl, rfl⟩, fun _ => rfl⟩)
   have HP3 := hid (show Pt v2 5 none 0 0 (cellsE (es.drop 0) (xs.drop 0)) from HP.out.below HBw.out)
   refine (concat3_E v1.heap.size HP1.out HM.out HP3.out (HO1.out _) HOe.out (HO3.out _) (by omega) (by omega) (by omega) (qC HN2.out) (qC HN2.out) (qC HN2.out)).mono ?_
   rintro e' v3 ⟨a', c', rfl, o3, b3⟩
   rw [cellsE_put es xs 0 e (.slice ax nx cx) HX.out] at o3
   rw [show 0 + 1 + 0 = 0 + 1 by omega] at o3 ⊢
   have HO := hid (owns_lower o3 HBw.out.size)
   have HBE := hid (HBD.out.trans (b3.mono HBD.out.size))
   have HBF := hid (HBw.out.trans (b3.mono HBw.out.size))
   clear o3 b3 hh
   go_wp2_with fail
   refine hK.out _ _ (HKp.out _ HBE.out) (fun hh => ?_)
   clear hK KP
   try simp only [qP]
   refine qS 10 rfl fun KP hK => ?_
   go_simp
   clear hh
   refine hK.out _ _ (HKp.out _ HBE.out) (fun hh => ?_)
   clear hK KP
   try simp only [qP]
   refine anyK_done (by kernel_rfl) ?_ _
   clear hh
   go_wp2_with fail
   go_ret
   exact ⟨a', c', rfl, HO.out, HBF.out⟩
 · have hs := HP.out
   rw [cellsE_split es xs k HX.out] at hs
   obtain ⟨hA, hB⟩ := hs.split (k := k) (c1 := c) (c2 := c - k) (by rw [cellsE_len _ _ (by simp [HX.out])]; have := HN.out; rw [List.length_take, Nat.min_eq_left (by omega)])
   have HPA := hid hA
   obtain ⟨a3, ha3, hB3⟩ : ∃ a3, (if c = k then some (⟨b, off, none⟩ : Addr) else some ⟨b, off + k * 5, none⟩) = a3 ∧ Pt w 5 a3 (n - k) (c - k) (cellsE (es.drop k) (xs.drop k)) := by
    by_cases ec : c = k
    · rw [if_pos ec]
      obtain ⟨b1, b2, b3⟩ := hB
      refine ⟨_, rfl, b1, .inr ⟨_, rfl, fun j u hu => ?_⟩, fun q => by cases q⟩
      have := (List.getElem?_eq_some_iff.1 hu).1
      rw [b1] at this
      omega
    · rw [if_neg ec]
      exact ⟨_, rfl, hB⟩
   have HA3 := hid ha3
   have HPB := hid hB3
   have hkc : (k : Int) ≤ (c : Int) := by omega
   have hkn : (k : Int) ≤ (n : Int) := by omega
   have hk0 : (0 : Int) ≤ (k : Int) := by omega
   have hnc' : (n : Int) ≤ (c : Int) := by omega
   clear hs hA hB hB3 ha3
   refine qT 0 rfl hh 7 rfl ?_
   refine qT 1 rfl hh 8 rfl ?_
   refine qT 2 rfl hh 9 rfl ?_
   refine qT 3 rfl hh 10 rfl ?_
   refine qT 5 rfl hh 12 rfl ?_
   refine qT 6 rfl hh 13 rfl ?_
   refine anyK_take2 (i := 7) (v := .slice a3 (n - k) (c - k)) rfl (by kernel_rfl) (by kernel_rfl) (by kernel_rfl) (by rfl) (fun _ _ _ h => h) (by rfl) hh ?hz77 (some 14) (by rfl) ?rz77
   case hz77 => (intro W hSw; go_simp; exact HA3.out)
   try simp only [qP]
   refine qS 4 rfl fun KP hK => ?_
   go_simp
   have HBA := hid (Below.alloc1 vd (.cells #[.int .i64 e.K, .int .i64 e.N, .float .f64 e.F, .slice ax nx cx, .int .i64 e.id] 48))
   have HN1 := hid (heap_alloc_new vd (.cells #[.int .i64 e.K, .int .i64 e.N, .float .f64 e.F, .slice ax nx cx, .int .i64 e.id] 48))
   have HL1 := hid (alloc_size vd (.cells #[.int .i64 e.K, .int .i64 e.N, .float .f64 e.F, .slice ax nx cx, .int .i64 e.id] 48))
   have HBB := hid (HV.out.trans (HBA.out.mono HV.out.size))
   clear hh
   refine hK.out _ _ (HKp.out _ HBB.out) (fun hh => ?_)
   clear hK KP
   try simp only [qP]
   generalize vd.alloc (.cells #[.int .i64 e.K, .int .i64 e.N, .float .f64 e.F, .slice ax nx cx, .int .i64 e.id] 48) = v1 at *
   obtain ⟨g1, hg1⟩ : ∃ g1, vd.heap.size = g1 := ⟨_, rfl⟩
   rw [hg1] at HN1 HL1
   try simp only [hg1]
   refine qS 8 rfl fun KP hK => ?_
   go_simp
   have HBC := hid (Below.alloc1 v1 (.cells #[.slice (some ⟨b, off, none⟩) k c, .slice (some ⟨g1, 0, none⟩) 1 1, .slice a3 (n - k) (c - k)] 110))
   have HN2 := hid (heap_alloc_new v1 (.cells #[.slice (some ⟨b, off, none⟩) k c, .slice (some ⟨g1, 0, none⟩) 1 1, .slice a3 (n - k) (c - k)] 110))
   have HBD := hid (HBB.out.trans (HBC.out.mono HBB.out.size))
   clear hh
   refine hK.out _ _ (HKp.out _ HBD.out) (fun hh => ?_)
   clear hK KP
   try simp only [qP]
   generalize v1.alloc (.cells #[.slice (some ⟨b, off, none⟩) k c, .slice (some ⟨g1, 0, none⟩) 1 1, .slice a3 (n - k) (c - k)] 110) = v2 at *
   refine qS 9 rfl fun KP hK => ?_
   go_simp
   have HBw := hid (HB0.out.trans (HBD.out.mono HB0.out.size))
   have HM := hid (show Pt v2 5 (some ⟨g1, 0, none⟩) 1 1 (cellsE1 e (.slice ax nx cx)) from Pt.below (w := v1) ⟨rfl, .inr ⟨_, rfl, fun j u hu => by
    rw [Addr.add_lit, Nat.zero_add, cell_of_row _ _ _ _ _ _ HN1.out]
    rw [← hu]
    simp [cellsE1]⟩, fun q => by cases q⟩ HBC.out)
   have HP1 := hid (HPA.out.below HBw.out)
   have HP3 := hid (HPB.out.below HBw.out)
   refine (concat3_E v1.heap.size HP1.out HM.out HP3.out (HO1.out _) HOe.out (HO3.out _) (by omega) (by omega) (by omega) (qC HN2.out) (qC HN2.out) (qC HN2.out)).mono ?_
   rintro e' v3 ⟨a', c', rfl, o3, b3⟩
   rw [cellsE_put es xs k e (.slice ax nx cx) HX.out] at o3
   rw [show k + 1 + (n - k) = n + 1 by omega] at o3 ⊢
   have HO := hid (owns_lower o3 HBw.out.size)
   have HBE := hid (HBD.out.trans (b3.mono HBD.out.size))
   have HBF := hid (HBw.out.trans (b3.mono HBw.out.size))
   clear o3 b3 hh
   go_wp2_with fail
   refine hK.out _ _ (HKp.out _ HBE.out) (fun hh => ?_)
   clear hK KP
   try simp only [qP]
   refine qS 10 rfl fun KP hK => ?_
   go_simp
   clear hh
   refine hK.out _ _ (HKp.out _ HBE.out) (fun hh => ?_)
   clear hK KP
   try simp only [qP]
   refine anyK_done (by kernel_rfl) ?_ _
   clear hh
   go_wp2_with fail
   go_ret
   exact ⟨a', c', rfl, HO.out, HBF.out⟩
end Go.Proofs.YtlkoghdajpbffaaGreat
/- A list of nodes with one more. Conditions: at most five nodes before. -/

namespace Go.Proofs.YtlkoghdajpbffaaGreat
open Go.RowKit
set_option maxRecDepth 100000
set_option maxHeartbeats 6400000 in
theorem impl_with_P {L : List Value} {b off n c k g : Nat} {w : World} (hp : Pt w 1 (some ⟨b, off, none⟩) n c L) (hn5 : n ≤ 5) (hk : k ≤ n) (hc : n ≤ c ∧ c ≤ maxLen) (h1 : ∀ u ∈ L, u.oneCell' = true) :
 Calls Tryz.prog 89 #[.slice (some ⟨b, off, none⟩) n c, .int .i64 k, .pointer (some ⟨g, 0, none⟩)] w fun r w' => ∃ a' c', r = .returned (.slice a' (n + 1) c') ∧ w'.ownsRow w.heap.size 70 1 (.slice a' (n + 1) c') (n + 1) (putL L k (.pointer (some ⟨g, 0, none⟩))) ∧ Below w.heap.size w w' := by
 have hL : L.length = n := by have := hp.1; omega
 have HO1 := hid (show ∀ u ∈ L.take k, u.oneCell' = true from fun u hu => h1 u (List.mem_of_mem_take hu))
 have HO3 := hid (show ∀ u ∈ L.drop k, u.oneCell' = true from fun u hu => h1 u (List.mem_of_mem_drop hu))
 have hmx := hc.2
 have hnc := hc.1
 unfold maxLen at hmx
 have hs := hp
 rw [← List.take_append_drop k L] at hs
 obtain ⟨hA, hB⟩ := hs.split (k := k) (c1 := c) (c2 := c - k) (by rw [List.length_take, Nat.min_eq_left (by omega), Nat.mul_one])
 rw [Nat.mul_one] at hB
 have HPA := hid hA
 obtain ⟨a3, ha3, hB3⟩ : ∃ a3, (if c = k then some (⟨b, off, none⟩ : Addr) else some ⟨b, off + k, none⟩) = a3 ∧ Pt w 1 a3 (n - k) (c - k) (L.drop k) := by
  by_cases ec : c = k
  · rw [if_pos ec]
    obtain ⟨b1, b2, b3⟩ := hB
    refine ⟨_, rfl, b1, .inr ⟨_, rfl, fun j u hu => ?_⟩, fun q => by cases q⟩
    have := (List.getElem?_eq_some_iff.1 hu).1
    rw [b1] at this
    omega
  · rw [if_neg ec]
    exact ⟨_, rfl, hB⟩
 have HA3 := hid ha3
 have HPB := hid hB3
 have hkc : (k : Int) ≤ (c : Int) := by omega
 have hkn : (k : Int) ≤ (n : Int) := by omega
 have hk0 : (0 : Int) ≤ (k : Int) := by omega
 have hnc' : (n : Int) ≤ (c : Int) := by omega
 clear hs hA hB hB3 ha3 hp h1 hL
 go_enter Tryz.func89, Tryz.ntmps89
 go_wp2_with fail
 have HV := hid ((Still.drew w).below w.heap.size)
 refine region_K 99 (fun _ => True) (by kernel_rfl) trivial (fun hh => ?_)
 generalize w.drew = vd at *
 refine qT 0 rfl hh 7 rfl ?_
 refine qT 1 rfl hh 8 rfl ?_
 refine qT 2 rfl hh 9 rfl ?_
 refine qT 3 rfl hh 10 rfl ?_
 refine qT 5 rfl hh 12 rfl ?_
 refine qT 6 rfl hh 13 rfl ?_
 refine anyK_take2 (i := 7) (v := .slice a3 (n - k) (c - k)) rfl (by kernel_rfl) (by kernel_rfl) (by kernel_rfl) (by rfl) (fun _ _ _ h => h) (by rfl) hh ?hz7 (some 14) (by rfl) ?rz7
 case hz7 => (intro W hSw; go_simp; exact HA3.out)
 try simp only [qP]
 refine qS 4 rfl fun KP hK => ?_
 go_simp
 have HBA := hid (Below.alloc1 vd (.cells #[.pointer (some ⟨g, 0, none⟩)] 70))
 have HN1 := hid (heap_alloc_new vd (.cells #[.pointer (some ⟨g, 0, none⟩)] 70))
 have HBB := hid (HV.out.trans (HBA.out.mono HV.out.size))
 clear hh
 refine hK.out _ _ trivial (fun hh => ?_)
 clear hK KP
 try simp only [qP]
 generalize vd.alloc (.cells #[.pointer (some ⟨g, 0, none⟩)] 70) = v1 at *
 obtain ⟨g1, hg1⟩ : ∃ g1, vd.heap.size = g1 := ⟨_, rfl⟩
 rw [hg1] at HN1
 try simp only [hg1]
 refine qS 8 rfl fun KP hK => ?_
 go_simp
 have HBC := hid (Below.alloc1 v1 (.cells #[.slice (some ⟨b, off, none⟩) k c, .slice (some ⟨g1, 0, none⟩) 1 1, .slice a3 (n - k) (c - k)] 75))
 have HN2 := hid (heap_alloc_new v1 (.cells #[.slice (some ⟨b, off, none⟩) k c, .slice (some ⟨g1, 0, none⟩) 1 1, .slice a3 (n - k) (c - k)] 75))
 have HBD := hid (HBB.out.trans (HBC.out.mono HBB.out.size))
 clear hh
 refine hK.out _ _ trivial (fun hh => ?_)
 clear hK KP
 try simp only [qP]
 generalize v1.alloc (.cells #[.slice (some ⟨b, off, none⟩) k c, .slice (some ⟨g1, 0, none⟩) 1 1, .slice a3 (n - k) (c - k)] 75) = v2 at *
 refine qS 9 rfl fun KP hK => ?_
 go_simp
 have HM := hid (show Pt v2 1 (some ⟨g1, 0, none⟩) 1 1 [.pointer (some ⟨g, 0, none⟩)] from Pt.below (w := v1) ⟨rfl, .inr ⟨_, rfl, fun j u hu => by
  rw [Addr.add_lit, Nat.zero_add, cell_of_row _ _ _ _ _ _ HN1.out]
  rw [← hu]
  simp⟩, fun q => by cases q⟩ HBC.out)
 have HP1 := hid (HPA.out.below HBD.out)
 have HP3 := hid (HPB.out.below HBD.out)
 refine (concat3_P v1.heap.size HP1.out HM.out HP3.out HO1.out (fun u hu => by obtain rfl := List.mem_singleton.1 hu; rfl) HO3.out (by omega) (by omega) (by omega) (qC HN2.out) (qC HN2.out) (qC HN2.out)).mono ?_
 rintro e' v3 ⟨a', c', rfl, o3, b3⟩
 rw [show k + 1 + (n - k) = n + 1 by omega] at o3 ⊢
 have HO := hid (show v3.ownsRow w.heap.size 70 1 (.slice a' (n + 1) c') (n + 1) (putL L k (.pointer (some ⟨g, 0, none⟩))) from by
  have := owns_lower o3 HBD.out.size
  unfold putL
  rw [List.append_assoc] at this
  exact this)
 have HBE := hid (HBD.out.trans (b3.mono HBD.out.size))
 clear o3 b3 hh
 go_wp2_with fail
 refine hK.out _ _ trivial (fun hh => ?_)
 clear hK KP
 try simp only [qP]
 refine qS 10 rfl fun KP hK => ?_
 go_simp
 clear hh
 refine hK.out _ _ trivial (fun hh => ?_)
 clear hK KP
 try simp only [qP]
 refine anyK_done (by kernel_rfl) ?_ _
 clear hh
 go_wp2_with fail
 go_ret
 exact ⟨a', c', rfl, HO.out, HBE.out⟩
end Go.Proofs.YtlkoghdajpbffaaGreat
/- A node more in a linked tree: grow. Conditions: at most a thousand nodes. -/

namespace Go.Proofs.YtlkoghdajpbffaaGreat
open Go.RowKit
set_option maxRecDepth 100000
theorem owns_other {w : World} {lo st n : Nat} {v : Value} {xs : List Value} {el ty : TypeId} {p j : Nat} {cs : Array Value} {fz : Nat × Nat} (h : w.ownsRow lo el st v n xs) (hp : w.heap[p]? = some (.cells cs ty fz)) (ht : ty ≠ el) (u : Value) : (w.setCell ⟨p, j, none⟩ u).ownsRow lo el st v n xs := by
 refine ⟨h.1, ?_⟩
 rcases h.2 with hn | ⟨g, cap, cur, rfl, hb, hg, rest⟩
 · exact .inl hn
 · refine .inr ⟨g, cap, cur, rfl, hb, (heap_set_ne w p j g u (fun e => ?_)).trans hg, rest⟩
   rw [e, hp] at hg
   simp only [Option.some.injEq, Obj.cells.injEq] at hg
   exact ht hg.2.1
theorem owns_block_ne {w : World} {lo st n : Nat} {v : Value} {xs : List Value} {el ty : TypeId} {p : Nat} {cs : Array Value} {fz : Nat × Nat} (h : w.ownsRow lo el st v n xs) (hp : w.heap[p]? = some (.cells cs ty fz)) (ht : ty ≠ el) : v.ownBlock ≠ some p := by
 intro e
 rcases h.2 with ⟨hn, _⟩ | ⟨g, cap, cur, rfl, hb, hg, rest⟩
 · rw [hn] at e; cases e
 · have e3 : g = p := by simpa [Value.ownBlock] using e
   rw [e3, hp] at hg
   simp only [Option.some.injEq, Obj.cells.injEq] at hg
   exact ht hg.2.1
structure Grew (w w' : World) (q lo N : Nat) (nv gp : Value) (L : List Value) (lf : Bool) (ev kv : Value) : Prop where
 ex : ∃ nv', w'.heap[q]? = some (.cells #[nv', gp] 77) ∧ w'.ownsRow lo 70 1 nv' (N + 1) (L ++ [.pointer (some ⟨w.heap.size, 0, none⟩)]) ∧ (nv'.ownBlock = nv.ownBlock ∨ ∀ b, nv'.ownBlock = some b → w.heap.size ≤ b)
 new : w'.heap[w.heap.size]? = some (.cells #[.int .i64 N, .bool lf, ev, kv] 112)
 kept : Kept (fun b => b = q ∨ nv.ownBlock = some b) w w'
set_option maxHeartbeats 6400000 in
theorem impl_grow {q lo N : Nat} {nv gp : Value} {L : List Value} {z : Int} {lf : Bool} {ae ak : Option Addr} {ne ce nk ck : Nat} {w : World} (hq : w.heap[q]? = some (.cells #[nv, gp] 77)) (hown : w.ownsRow lo 70 1 nv N L) (hN : N ≤ 1000) (hlo : lo ≤ w.heap.size) :
 Calls Tryz.prog 60 #[.pointer (some ⟨q, 0, none⟩), .agg #[.int .i64 z, .bool lf, .slice ae ne ce, .slice ak nk ck]] w fun e w' => e = .returned (.pointer (some ⟨w.heap.size, 0, none⟩)) ∧ Grew w w' q lo N nv gp L lf (.slice ae ne ce) (.slice ak nk ck) := by
 obtain ⟨i0, hi, hz0, hz1, hz2⟩ := info_parts Tryz.infoPn
 obtain ⟨a, c, rfl⟩ := own_sl hown
 have HQl := hid (qL hq)
 have HB := hid (Below.alloc1 w (.cells #[.int .i64 z, .bool lf, .slice ae ne ce, .slice ak nk ck] 112))
 have HR := hid (heap_alloc_new w (.cells #[.int .i64 z, .bool lf, .slice ae ne ce, .slice ak nk ck] 112))
 have HZ := hid (alloc_size w (.cells #[.int .i64 z, .bool lf, .slice ae ne ce, .slice ak nk ck] 112))
 have HQ := hid hq
 have HOw := hid hown
 have hN0 : (0 : Int) ≤ (N : Int) := by omega
 have hN1 : (N : Int) ≤ 1000 := by omega
 clear hq hown
 go_enter Tryz.func60, Tryz.ntmps60
 go_upto_region 1 with fail
 generalize w.alloc (.cells #[.int .i64 z, .bool lf, .slice ae ne ce, .slice ak nk ck] 112) = u at *
 obtain ⟨g, hg⟩ : ∃ g, w.heap.size = g := ⟨_, rfl⟩
 rw [hg] at HR
 try simp only [hg]
 have HQu := hid ((HB.out.block q HQl.out).trans HQ.out)
 have HQg := hid (show q < g by have := HQl.out; omega)
 have c0 : u.cell? ⟨q, 0, none⟩ = some (.slice a N c) := qC HQu.out
 have c1 : u.cell? ⟨g, 0, none⟩ = some (.int .i64 z) := qC HR.out
 have f1 : u.frozen? ⟨g, 0, none⟩ = false := frozen_of_row _ _ 0 _ _ HR.out
 go_upto_region 2 with fail
 clear c0 c1 f1
 have HRv := hid (show (u.setCell ⟨g, 0, none⟩ (.int .i64 N)).heap[g]? = some (.cells #[.int .i64 N, .bool lf, .slice ae ne ce, .slice ak nk ck] 112) by rw [heap_setCell_same _ _ _ _ _ _ HR.out]; rfl)
 have HQv := hid ((heap_set_ne u g 0 q (.int .i64 N) (by have := HQg.out; omega)).trans HQu.out)
 have HBv := hid (HB.out.setCell (p := ⟨g, 0, none⟩) (show w.heap.size ≤ g by omega) (.int .i64 N))
 have HZv := hid (show (u.setCell ⟨g, 0, none⟩ (.int .i64 N)).heap.size = g + 1 by rw [set_size, HZ.out, hg])
 generalize u.setCell ⟨g, 0, none⟩ (.int .i64 N) = v at *
 have HOv := hid (show v.ownsRow lo 70 1 (.slice a N c) N L from owns_below HBv.out qN HOw.out)
 have c0 : v.cell? ⟨q, 0, none⟩ = some (.slice a N c) := qC HQv.out
 go_wp2_with (at_builtin; refine wpList_append_own_at _ rfl _ _ 75 rfl lo 70 i0 (.pointer none) 1 8 Tryz.underlying75 hi hz0 hz1 hz2 rfl (by decide) _ _ _ rfl (HOv.out.alloc _) ⟨v.heap.size, 0, none⟩ 1 1 [.pointer (some ⟨g, 0, none⟩)] rfl rfl (cell_one_new _ _ _) (by intro u hu; simp at hu; subst hu; rfl) (by unfold maxLen; omega) (by omega) (by have := HZv.out; simp; omega) ?_)
 intro nv' w3 o3 gr3 _ hat
 have HB3 := hid (Below.alloc1 v (.cells #[.pointer (some ⟨g, 0, none⟩)] 70))
 have hz3 := alloc_size v (.cells #[.pointer (some ⟨g, 0, none⟩)] 70)
 have HQ3 := hid ((gr3.block q (by have := HZv.out; have := HQg.out; omega) (fun e => owns_block_ne HOv.out HQv.out (by decide) e.symm)).trans ((HB3.out.block q (by have := HZv.out; have := HQg.out; omega)).trans HQv.out))
 have HR3 := hid ((gr3.block g (by have := HZv.out; omega) (fun e => owns_block_ne HOv.out HRv.out (by decide) e.symm)).trans ((HB3.out.block g (by have := HZv.out; omega)).trans HRv.out))
 have HO3 := hid o3
 have HG3 := hid gr3
 have c3 : w3.cell? ⟨q, 0, none⟩ = some (.slice a N c) := qC HQ3.out
 have f3 : w3.frozen? ⟨q, 0, none⟩ = false := frozen_of_row _ _ 0 _ _ HQ3.out
 obtain ⟨a', c', rfl⟩ := own_sl o3
 have HAT := hid hat
 clear c0 o3 gr3 hat
 go_wp2_with fail
 go_ret
 refine ⟨by rw [hg]; rfl, ⟨.slice a' (N + 1) c', by rw [heap_setCell_same _ _ _ _ _ _ HQ3.out]; rfl, ?_, HAT.out.imp id (fun e b hb => by rw [e] at hb; cases hb; have := hz3; have := HZv.out; omega)⟩, ?_, ?_⟩
 · rw [hg]; exact owns_other HO3.out HQ3.out (by decide) _
 · rw [hg]; exact (heap_set_ne w3 q 0 g _ (by have := HQg.out; omega)).trans HR3.out
 · refine ((((Kept.of_below (X := fun b => b = q ∨ (Value.slice a N c).ownBlock = some b) HBv.out)).trans (Kept.of_below (X := fun _ => False) HB3.out) (fun _ _ h => h.elim)).trans (Kept.of_grown HG3.out) (fun i _ h => .inr h.symm)).trans (Kept.set (X := fun b => b = q) w3 (p := ⟨q, 0, none⟩) rfl _) (fun i _ h => .inl h)
end Go.Proofs.YtlkoghdajpbffaaGreat
/- A region that draws its order, one of whose operations (number L, a store) comes behind all that read: a condition on the world that is shown behind every operation up to that one. No statement of its own; no conditions. -/

namespace Go.Proofs.YtlkoghdajpbffaaGreat
open Go
section
variable {P : Program} {ops : Array Oper} {Q : Exit → Act → World → Prop} {md : Region.Mode} {S : World → Prop} {L : Nat}
def anyU (P : Program) (md : Region.Mode) (ops : Array Oper) (Q : Exit → Act → World → Prop) (S : World → Prop) (L : Nat) : Nat → Bool → Array Bool → Act → World → Prop
 | 0, _, listed, a, w => Region.ready md ops listed = [] ∧ Q .normal a w
 | n + 1, b, listed, a, w => (Region.ready md ops listed = [] → Q .normal a w) ∧
  ∀ i ∈ Region.ready md ops listed, wpOp P ops Q i (fun a' w' => ((b || i == L) = true ∨ S w') ∧ anyU P md ops Q S L n (b || i == L) (listed.setIfInBounds i true) a' w') a w
theorem anyU_any : ∀ (n : Nat) (b : Bool) (listed : Array Bool) (a : Act) (w : World), anyU P md ops Q S L n b listed a w → wpAny P md ops Q n listed a w
 | 0, _, _, _, _, h => h
 | n + 1, _, _, _, _, h => ⟨h.1, fun i hi => wpOp_mono (fun a' w' k => anyU_any n _ _ a' w' k.2) (h.2 i hi)⟩
theorem anyU_first {i : Nat} {oi : Oper} {v : Value} {Si : World → Prop} (hi : ops[i]? = some oi) (hsel : ∀ (j : Nat) (o : Oper) cs b, ops[j]? = some o → o.op ≠ .select cs b)
 (hQ : ∀ c a w, Q (.panic c) (a.put oi.dst v) w → Q (.panic c) a w) (hiL : i ≠ L) (n : Nat) : ∀ (b : Bool) (listed : Array Bool) (a : Act) (w : World),
  (∀ j oj, ops[j]? = some oj → j ≠ i → listed.getD j true = false → (∀ e ∈ oj.after, Region.binds md e = true → e.on ≠ i) → oi.apart ops oj = true) →
  i ∈ Region.ready md ops listed → YieldsIf P ops Si oi v a → (b = true ∨ S w) → Si w → ((∀ w, Si w) ∨ (waitsFor md ops L i = true ∧ b = false ∧ ∀ w, S w → Si w)) →
  anyU P md ops Q S L n b (listed.setIfInBounds i true) (a.put oi.dst v) w → anyU P md ops Q S L (n + 1) b listed a w := by
 have hb : ∀ b : Bool, (b || i == L) = b := fun b => by simp [hiL]
 induction n with
 | zero =>
  intro b listed a w _ hr hy hI hS _ H
  refine ⟨fun e => absurd hr (by rw [e]; simp), fun j hj => ?_⟩
  rcases Nat.decEq j i with hne | heq
  · have hm := ready_mono hj hne
    rw [H.1] at hm
    cases hm
  · subst heq
    rw [hb]
    exact hy.wpOp hi hS ⟨hI, H⟩
 | succ n ih =>
  intro b listed a w hfree hr hy hI hS hc H
  refine ⟨fun e => absurd hr (by rw [e]; simp), fun j hj => ?_⟩
  rcases Nat.decEq j i with hne | heq
  · obtain ⟨hju, oj, hoj, hall⟩ := mem_ready.1 hj
    have hunl := (mem_ready.1 hr).1
    have hno : ∀ e ∈ oj.after, Region.binds md e = true → e.on ≠ i := by
     intro e he hb heq
     have h1 := hall e he hb
     rw [heq] at h1
     by_cases hsz : i < listed.size
     · simp [hsz] at hunl h1
       rw [hunl] at h1
       cases h1
     · simp [Array.getElem?_eq_none (Nat.le_of_not_lt hsz)] at h1
    have step := wpOp_putIf hoj (hfree j oj hoj hne hju hno) (fun cs b => hsel i oi cs b hi) (fun cs b => hsel j oj cs b hoj) hQ hy (H.2 j (ready_mono hj hne))
    refine wpOp_mono (fun a' w' k => ?_) step
    obtain ⟨k1, k2, k3⟩ := k
    have hc' : (∀ w, Si w) ∨ (waitsFor md ops L i = true ∧ (b || j == L) = false ∧ ∀ w, S w → Si w) := by
     rcases hc with h | ⟨hL, hbf, h⟩
     · exact .inl h
     · have hjL : j ≠ L := by
        intro e
        subst e
        simp only [waitsFor, hoj] at hL
        obtain ⟨e, he, hb⟩ := Array.any_eq_true'.1 hL
        simp only [Bool.and_eq_true, beq_iff_eq] at hb
        exact hno e he hb.1 hb.2
       exact .inr ⟨hL, by simp [hbf, hjL], h⟩
    have hS' : Si w' := by
     rcases hc' with h | ⟨_, hbf, h⟩
     · exact h w'
     · rcases k2 with k2 | k2
       · rw [hbf] at k2; cases k2
       · exact h w' k2
    refine ⟨k2, ih (b || j == L) (listed.setIfInBounds j true) a' w' ?_ (ready_mono hr (fun e => hne e.symm)) k1 k2 hS' hc' ?_⟩
    · intro q oq hq hqi hun hnq
      refine hfree q oq hq hqi ?_ hnq
      by_cases hjq : j = q
      · subst hjq; exact hju
      · rw [getD_set_ne true hjq] at hun; exact hun
    · rw [Array.setIfInBounds_comm _ _ hne]
      exact k3
  · subst heq
    rw [hb]
    exact hy.wpOp hi hS ⟨hI, H⟩
theorem anyU_take {i : Nat} {oi : Oper} {v : Value} {n : Nat} {b : Bool} {listed : Array Bool} {a : Act} {w : World} (hi : ops[i]? = some oi) (hs : Region.noSelect ops = true) (hf : Region.free md ops listed i = true) (hr : (Region.ready md ops listed).contains i = true) (hiL : (i == L) = false)
 (hQ : ∀ c a w, Q (.panic c) (a.put oi.dst v) w → Q (.panic c) a w) (hw : Region.wanted oi (yielded ops a.tmps) = true) (hI : b = true ∨ S w) (hy : ∀ w, (execOp a.eval oi).run P w = .ok (.value v) w) (d : Option Tmp) (hd : oi.dst = d)
 (h : anyU P md ops Q S L n b (listed.setIfInBounds i true) (a.put d v) w) : anyU P md ops Q S L (n + 1) b listed a w :=
 anyU_first (Si := fun _ => True) hi (Region.noSelect_spec hs) hQ (by simpa using hiL) n b listed a w (Region.free_spec hi hf) (by simpa using hr) (.inl ⟨hw, fun w _ => hy w⟩) hI trivial (.inl fun _ => trivial) (by rw [hd]; exact h)
theorem anyU_read {i : Nat} {oi : Oper} {v : Value} {n : Nat} {listed : Array Bool} {a : Act} {w : World} (hi : ops[i]? = some oi) (hs : Region.noSelect ops = true) (hf : Region.free md ops listed i = true) (hr : (Region.ready md ops listed).contains i = true) (hL : waitsFor md ops L i = true) (hiL : (i == L) = false)
 (hQ : ∀ c a w, Q (.panic c) (a.put oi.dst v) w → Q (.panic c) a w) (hw : Region.wanted oi (yielded ops a.tmps) = true) (hS : S w) (hy : ∀ w, S w → (execOp a.eval oi).run P w = .ok (.value v) w) (d : Option Tmp) (hd : oi.dst = d)
 (h : anyU P md ops Q S L n false (listed.setIfInBounds i true) (a.put d v) w) : anyU P md ops Q S L (n + 1) false listed a w :=
 anyU_first (Si := S) hi (Region.noSelect_spec hs) hQ (by simpa using hiL) n false listed a w (Region.free_spec hi hf) (by simpa using hr) (.inl ⟨hw, hy⟩) (.inr hS) hS (.inr ⟨hL, rfl, fun _ h => h⟩) (by rw [hd]; exact h)
theorem anyU_step {i : Nat} {o : Oper} {n : Nat} {listed : Array Bool} {a : Act} {w : World} (hr : Region.ready md ops listed = [i]) (ho : ops[i]? = some o) (hiL : (i == L) = false)
 (h : ∀ K : Act → World → Prop, Shut (∀ a w, S w → (S w → anyU P md ops Q S L n false (listed.setIfInBounds i true) a w) → K a w) → if Region.wanted o (yielded ops a.tmps) = true then Oper.wp P o a w K Q else K (a.put o.dst undef) w) : anyU P md ops Q S L (n + 1) false listed a w := by
 refine ⟨fun e => absurd e (by rw [hr]; simp), fun j hj => ?_⟩
 rw [hr] at hj
 obtain rfl := List.mem_singleton.1 hj
 rw [hiL]
 exact wpOp_step ho (fun K hK => h K (fun a w hS hW => hK a w ⟨.inr hS, hW hS⟩))
theorem anyU_last {o : Oper} {n : Nat} {b : Bool} {listed : Array Bool} {a : Act} {w : World} (hr : Region.ready md ops listed = [L]) (ho : ops[L]? = some o)
 (h : ∀ K : Act → World → Prop, Shut (∀ a w, anyU P md ops Q S L n true (listed.setIfInBounds L true) a w → K a w) → if Region.wanted o (yielded ops a.tmps) = true then Oper.wp P o a w K Q else K (a.put o.dst undef) w) : anyU P md ops Q S L (n + 1) b listed a w := by
 refine ⟨fun e => absurd e (by rw [hr]; simp), fun j hj => ?_⟩
 rw [hr] at hj
 obtain rfl := List.mem_singleton.1 hj
 rw [show (b || j == j) = true by simp]
 exact wpOp_step ho (fun K hK => h K (fun a w hW => hK a w ⟨.inl rfl, hW⟩))
theorem anyU_tail {i : Nat} {o : Oper} {n : Nat} {listed : Array Bool} {a : Act} {w : World} (hr : Region.ready md ops listed = [i]) (ho : ops[i]? = some o)
 (h : ∀ K : Act → World → Prop, Shut (∀ a w, anyU P md ops Q S L n true (listed.setIfInBounds i true) a w → K a w) → if Region.wanted o (yielded ops a.tmps) = true then Oper.wp P o a w K Q else K (a.put o.dst undef) w) : anyU P md ops Q S L (n + 1) true listed a w := by
 refine ⟨fun e => absurd e (by rw [hr]; simp), fun j hj => ?_⟩
 rw [hr] at hj
 obtain rfl := List.mem_singleton.1 hj
 rw [Bool.true_or]
 exact wpOp_step ho (fun K hK => h K (fun a w hW => hK a w ⟨.inl rfl, hW⟩))
theorem anyU_done {b : Bool} {listed : Array Bool} {a : Act} {w : World} (hr : Region.ready md ops listed = []) (h : Q .normal a w) : ∀ n, anyU P md ops Q S L n b listed a w
 | 0 => ⟨hr, h⟩
 | _ + 1 => ⟨fun _ => h, by rw [hr]; simp⟩
theorem region_U {id : Nat} {a : Act} {w : World} (L : Nat) (S : World → Prop) (hm : P.follows .mixedOrders = true) (hS : S w.drew)
 (h : S w.drew → anyU P .any ops Q S L ops.size false (Array.replicate ops.size false) a w.drew) : (Code.region id ops true).wp P Q a w :=
 wp_region_any hm (anyU_any _ _ _ _ _ (h hS))
end
end Go.Proofs.YtlkoghdajpbffaaGreat
