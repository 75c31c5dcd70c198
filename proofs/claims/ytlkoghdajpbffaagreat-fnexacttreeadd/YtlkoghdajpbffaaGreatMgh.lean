/- Texts of this proof in one: Im2 Sb St Oc Ix Kj11. -/
import Derived.Test.YtlkoghdajpbffaaGreatMgg
import Derived.Test.YtlkoghdajpbffaaGreatMga
import Derived.Laws.BytesArg
import Derived.Laws.Cover1
import Derived.Test.YtlkoghdajpbffaaGreatMgd
import Derived.Deep.RegionHeld3
/- The program's KeyOk. -/

namespace Go.Proofs.YtlkoghdajpbffaaGreat
open Go.RowKit
theorem fbits_top (f : Nat) : fbits f = 9223372036854775808 ↔ f = 9223372036854775808 := by
 by_cases h : isN f = true
 · rw [fbits, if_pos h]
   constructor
   · intro h'; omega
   · intro h'; subst h'; exact absurd h (by decide)
 · rw [fbits, if_neg h]
set_option maxRecDepth 100000 in
set_option maxHeartbeats 1600000 in
theorem impl_KeyOk (K N : Int) (f : Nat) (ad : Option Addr) (n cap : Nat) (hf : f < 18446744073709551616) (hn : n ≤ 2097152) (w : World) :
 Calls Tryz.prog 53 #[.agg #[.int .i64 K, .int .i64 N, .float .f64 f, .slice ad n cap]] w fun e w' => e = .returned (.bool (okK K N f n)) ∧ Below w.heap.size w w' := by
 have hI := impl_ItemOk K N f ad n cap hf hn
 have hA : Below w.heap.size w (w.alloc (.cells #[.int .i64 K, .int .i64 N, .float .f64 f, .slice ad n cap] 37)) := (Below.refl _ _).alloc qN _
 have hB := Box.new w K N f ad n cap 37
 by_cases hok : okI K N f n = true
 · rw [hok] at hI
   by_cases hK : K = 0
   · rw [show okK K N f n = false by rw [okK, decide_eq_false (by omega), Bool.and_false]]
     have q : (K != 0) = false := by simp [hK]
     clear hK hok
     go_enter Tryz.func53, Tryz.ntmps53
     go_wp2_with fail
     refine (hI _).mono ?_
     rintro e w1 ⟨rfl, b1⟩
     have B := hid (hA.trans (b1.mono hA.size))
     obtain ⟨c0, c1, c2, c3⟩ := hB.below b1 (by simp)
     clear hA b1 hB hI
     go_wp2_with fail
     go_ret
     exact ⟨rfl, B.out⟩
   · have q : (K != 0) = true := by simp [hK]
     by_cases hF : f = 9223372036854775808
     · rw [show okK K N f n = false by rw [okK, decide_eq_false (fun h => h.2 hF), Bool.and_false]]
       have q2 : ((fbits f : Int) != 9223372036854775808) = false := by rw [(fbits_top f).2 hF]; rfl
       clear hK hok hF
       go_enter Tryz.func53, Tryz.ntmps53
       go_wp2_with fail
       refine (hI _).mono ?_
       rintro e w1 ⟨rfl, b1⟩
       have B := hid (hA.trans (b1.mono hA.size))
       obtain ⟨c0, c1, c2, c3⟩ := hB.below b1 (by simp)
       clear hA b1 hB hI
       go_wp2_with fail
       refine (impl_FloatBits f hf _).mono ?_
       rintro e w2 ⟨rfl, rfl⟩
       go_wp2_with fail
       go_ret
       exact ⟨rfl, B.out⟩
     · rw [show okK K N f n = true by rw [okK, hok, decide_eq_true ⟨hK, hF⟩]; rfl]
       have q2 : ((fbits f : Int) != 9223372036854775808) = true := by
        have : ¬ fbits f = 9223372036854775808 := fun e => hF ((fbits_top f).1 e)
        simp only [bne_iff_ne]; omega
       clear hK hok hF
       go_enter Tryz.func53, Tryz.ntmps53
       go_wp2_with fail
       refine (hI _).mono ?_
       rintro e w1 ⟨rfl, b1⟩
       have B := hid (hA.trans (b1.mono hA.size))
       obtain ⟨c0, c1, c2, c3⟩ := hB.below b1 (by simp)
       clear hA b1 hB hI
       go_wp2_with fail
       refine (impl_FloatBits f hf _).mono ?_
       rintro e w2 ⟨rfl, rfl⟩
       go_wp2_with fail
       go_ret
       exact ⟨rfl, B.out⟩
 · have hok' : okI K N f n = false := by simpa using hok
   rw [show okK K N f n = false by rw [okK, hok', Bool.false_and]]
   rw [hok'] at hI
   clear hok hok'
   go_enter Tryz.func53, Tryz.ntmps53
   go_wp2_with fail
   refine (hI _).mono ?_
   rintro e w1 ⟨rfl, b1⟩
   have B := hid (hA.trans (b1.mono hA.size))
   clear hA b1 hB hI
   go_wp2_with fail
   go_ret
   exact ⟨rfl, B.out⟩
end Go.Proofs.YtlkoghdajpbffaaGreat
/- Bytes as strings: what the conversion gives. No conditions. -/



namespace Go.Proofs.YtlkoghdajpbffaaGreat
open Go.RowKit
def str (zs : List Int) : ByteArray := ⟨(zs.map fun n => UInt8.ofNat n.toNat).toArray⟩
theorem Reads.str {w : World} {ad : Option Addr} {n : Nat} {zs : List Int} (h : Reads w ad n zs) (cap : Nat) (src : TypeId) (hs : Tryz.prog.underlying src = some (.slice 5)) (he : Tryz.prog.underlying 5 = some (.int .u8)) (hd : Tryz.prog.underlying 9 = some .string) :
 (convert src 9 (.slice ad n cap)).run Tryz.prog w = .ok (.string (str zs)) w := by
 have hl := h.len
 rcases h.cells with h0 | ⟨b, off, rfl, hc⟩
 · subst h0
   have hz : zs = [] := List.length_eq_zero_iff.1 hl
   subst hz
   cases ad with
   | none => exact run_convert_bytes_nil w src 5 hs he 0 cap 9 hd
   | some a =>
    rw [run_convert_bytes_string w src 9 5 _ 0 cap hs he hd, run_bytesToString w a 0 cap [] (by simp [loadCells, loadCellsFrom])]
    rfl
 · exact run_convert_bytes_arg w src 5 hs he b off n cap zs hl hc 9 hd
end Go.Proofs.YtlkoghdajpbffaaGreat
/- Bytes as strings: what the conversion gives, and how two such strings are held against each other. -/




namespace Go.Proofs.YtlkoghdajpbffaaGreat
open Go.RowKit
def us (zs : List Int) : List UInt8 := zs.map fun n => UInt8.ofNat n.toNat
def inB (zs : List Int) : Prop := ∀ i, 0 ≤ zs.getD i 0 ∧ zs.getD i 0 ≤ 255
theorem str_list (zs : List Int) : (str zs).toList = us zs := by
 rw [ByteArray.toList_eq]
 rfl
theorem inB.head {x : Int} {xs : List Int} (h : inB (x :: xs)) : 0 ≤ x ∧ x ≤ 255 := h 0
theorem inB.tail {x : Int} {xs : List Int} (h : inB (x :: xs)) : inB xs := fun i => h (i + 1)
theorem u8_lt (x y : Int) (hx : 0 ≤ x ∧ x ≤ 255) (hy : 0 ≤ y ∧ y ≤ 255) : (UInt8.ofNat x.toNat < UInt8.ofNat y.toNat) ↔ x < y := by
 rw [UInt8.lt_iff_toNat_lt, UInt8.toNat_ofNat', UInt8.toNat_ofNat']
 omega
theorem u8_eq (x y : Int) (hx : 0 ≤ x ∧ x ≤ 255) (hy : 0 ≤ y ∧ y ≤ 255) : (UInt8.ofNat x.toNat = UInt8.ofNat y.toNat) ↔ x = y := by
 rw [← UInt8.toNat_inj, UInt8.toNat_ofNat', UInt8.toNat_ofNat']
 omega
theorem less_txt : ∀ (zs ys : List Int), inB zs → inB ys → Op.bytesLess (us zs) (us ys) = decide (txt zs ys = -1)
 | [], [], _, _ => rfl
 | [], _ :: _, _, _ => rfl
 | _ :: _, [], _, _ => rfl
 | x :: xs, y :: ys, hx, hy => by
  have ih := less_txt xs ys hx.tail hy.tail
  show (decide (UInt8.ofNat x.toNat < UInt8.ofNat y.toNat) || (UInt8.ofNat x.toNat == UInt8.ofNat y.toNat && Op.bytesLess (us xs) (us ys))) = _
  rw [ih]
  have e1 := u8_lt x y hx.head hy.head
  have e2 := u8_eq x y hx.head hy.head
  show _ = decide ((if x < y then -1 else if y < x then 1 else txt xs ys) = -1)
  by_cases h1 : x < y
  · rw [if_pos h1, decide_eq_true (e1.2 h1)]; rfl
  · rw [if_neg h1, decide_eq_false (fun h => h1 (e1.1 h))]
    by_cases h2 : y < x
    · rw [if_pos h2, beq_eq_false_iff_ne.2 (fun h => by have := e2.1 h; omega)]; rfl
    · rw [if_neg h2, beq_iff_eq.2 (e2.2 (by omega))]; simp
theorem eq_txt : ∀ (zs ys : List Int), inB zs → inB ys → (us zs == us ys) = decide (txt zs ys = 0)
 | [], [], _, _ => rfl
 | [], _ :: _, _, _ => rfl
 | _ :: _, [], _, _ => rfl
 | x :: xs, y :: ys, hx, hy => by
  have ih := eq_txt xs ys hx.tail hy.tail
  show (UInt8.ofNat x.toNat == UInt8.ofNat y.toNat && (us xs == us ys)) = _
  rw [ih]
  have e2 := u8_eq x y hx.head hy.head
  show _ = decide ((if x < y then -1 else if y < x then 1 else txt xs ys) = 0)
  by_cases h1 : x < y
  · rw [if_pos h1, beq_eq_false_iff_ne.2 (fun h => by have := e2.1 h; omega)]; rfl
  · rw [if_neg h1]
    by_cases h2 : y < x
    · rw [if_pos h2, beq_eq_false_iff_ne.2 (fun h => by have := e2.1 h; omega)]; rfl
    · rw [if_neg h2, beq_iff_eq.2 (e2.2 (by omega))]; simp
theorem txt_zero : ∀ (zs ys : List Int), txt zs ys = 0 ↔ zs = ys
 | [], [] => by simp [txt]
 | [], _ :: _ => by simp [txt]
 | _ :: _, [] => by simp [txt]
 | x :: xs, y :: ys => by
  have ih := txt_zero xs ys
  rw [txt]
  by_cases h1 : x < y
  · rw [if_pos h1]
    constructor
    · intro h; omega
    · intro h; have := (List.cons.inj h).1; omega
  · rw [if_neg h1]
    by_cases h2 : y < x
    · rw [if_pos h2]
      constructor
      · intro h; omega
      · intro h; have := (List.cons.inj h).1; omega
    · rw [if_neg h2, ih]
      have : x = y := by omega
      subst this
      simp
theorem txt_range : ∀ (zs ys : List Int), txt zs ys = -1 ∨ txt zs ys = 0 ∨ txt zs ys = 1
 | [], [] => .inr (.inl rfl)
 | [], _ :: _ => .inl rfl
 | _ :: _, [] => .inr (.inr rfl)
 | x :: xs, y :: ys => by
  have ih := txt_range xs ys
  rw [txt]
  by_cases h1 : x < y
  · rw [if_pos h1]; exact .inl rfl
  · rw [if_neg h1]
    by_cases h2 : y < x
    · rw [if_pos h2]; exact .inr (.inr rfl)
    · rw [if_neg h2]; exact ih
end Go.Proofs.YtlkoghdajpbffaaGreat
/- The program's compareOrdered, at numbers and at texts, and the library's Or. -/

namespace Go.Proofs.YtlkoghdajpbffaaGreat
open Go.RowKit
def ci (x y : Int) : Int := if x < y then -1 else if y < x then 1 else 0
set_option maxRecDepth 100000 in
theorem impl_ordInt (x y : Int) (w : World) :
 Calls Tryz.prog 86 #[.int .i64 x, .int .i64 y] w fun e w' => e = .returned (.int .i64 (ci x y)) ∧ w' = w := by
 by_cases h1 : x < y
 · rw [show ci x y = -1 by rw [ci, if_pos h1]]
   go_enter Tryz.func86, Tryz.ntmps86
   go_wp2
   go_ret
   exact ⟨rfl, rfl⟩
 · by_cases h2 : y < x
   · rw [show ci x y = 1 by rw [ci, if_neg h1, if_pos h2]]
     go_enter Tryz.func86, Tryz.ntmps86
     go_wp2
     go_ret
     exact ⟨rfl, rfl⟩
   · rw [show ci x y = 0 by rw [ci, if_neg h1, if_neg h2]]
     go_enter Tryz.func86, Tryz.ntmps86
     go_wp2
     go_ret
     exact ⟨rfl, rfl⟩
set_option maxRecDepth 100000 in
theorem impl_ordStr (zs ys : List Int) (hz : inB zs) (hy : inB ys) (w : World) :
 Calls Tryz.prog 101 #[.string (str zs), .string (str ys)] w fun e w' => e = .returned (.int .i64 (txt zs ys)) ∧ w' = w := by
 have e1 := less_txt zs ys hz hy
 have e2 := eq_txt zs ys hz hy
 rw [← str_list, ← str_list] at e1 e2
 have hr := txt_range zs ys
 generalize str zs = s at *
 generalize str ys = t at *
 clear hz hy
 rcases hr with hr | hr | hr
 · rw [hr] at e1 e2 ⊢
   rw [show decide ((-1 : Int) = -1) = true from rfl] at e1
   clear e2 hr
   go_enter Tryz.func101, Tryz.ntmps101
   go_wp2
   go_ret
   exact ⟨rfl, rfl⟩
 · rw [hr] at e1 e2 ⊢
   rw [show decide ((0 : Int) = -1) = false from rfl] at e1
   rw [show decide ((0 : Int) = 0) = true from rfl] at e2
   clear hr
   go_enter Tryz.func101, Tryz.ntmps101
   go_wp2
   go_ret
   exact ⟨rfl, rfl⟩
 · rw [hr] at e1 e2 ⊢
   rw [show decide ((1 : Int) = -1) = false from rfl] at e1
   rw [show decide ((1 : Int) = 0) = false from rfl] at e2
   clear hr
   go_enter Tryz.func101, Tryz.ntmps101
   go_wp2
   go_ret
   exact ⟨rfl, rfl⟩
theorem upto {p : Nat → Prop} {k : Nat} (h : ∀ j, j < k → p j) (hk : p k) : ∀ j, j < k + 1 → p j := by
 intro j hj
 by_cases e : j = k
 · subst e; exact hk
 · exact h j (by omega)
def or4 (a b c d : Int) : Int := if a ≠ 0 then a else if b ≠ 0 then b else if c ≠ 0 then c else d
set_option maxRecDepth 100000 in
set_option maxHeartbeats 1600000 in
theorem cmp_or (a b c d : Int) (g : Nat) (w : World) (c0 : w.cell? ⟨g, 0, none⟩ = some (.int .i64 a)) (c1 : w.cell? ⟨g, 1, none⟩ = some (.int .i64 b)) (c2 : w.cell? ⟨g, 2, none⟩ = some (.int .i64 c)) (c3 : w.cell? ⟨g, 3, none⟩ = some (.int .i64 d)) :
 Calls Tryz.prog 84 #[.slice (some ⟨g, 0, none⟩) 4 4] w fun e w' => e = .returned (.int .i64 (or4 a b c d)) ∧ w' = w := by
 have hc : ∀ k : Nat, k < 4 → w.cell? ⟨g, k, none⟩ = some (.int .i64 ([a, b, c, d].getD k 0)) := by
  intro k hk
  match k, hk with
  | 0, _ => exact c0
  | 1, _ => exact c1
  | 2, _ => exact c2
  | 3, _ => exact c3
 have hor : ∀ k : Nat, k < 4 → (∀ j, j < k → [a, b, c, d].getD j 0 = 0) → [a, b, c, d].getD k 0 ≠ 0 → [a, b, c, d].getD k 0 = or4 a b c d := by
  intro k hk h0 h1
  unfold or4
  match k, hk with
  | 0, _ => simp at h1; simp [h1]
  | 1, _ => have := h0 0 (by omega); simp at h1 this; simp [h1, this]
  | 2, _ => have := h0 0 (by omega); have := h0 1 (by omega); simp at *; simp_all
  | 3, _ => have := h0 0 (by omega); have := h0 1 (by omega); have := h0 2 (by omega); simp at *; simp_all
 have hend : (∀ j, j < 4 → [a, b, c, d].getD j 0 = 0) → or4 a b c d = 0 := by
  intro h
  have h0 := h 0 (by omega)
  have h1 := h 1 (by omega)
  have h2 := h 2 (by omega)
  have h3 := h 3 (by omega)
  simp at h0 h1 h2 h3
  simp [or4, h0, h1, h2, h3]
 generalize or4 a b c d = o at *
 generalize [a, b, c, d] = xs at *
 have HO := hid hor
 have HE := hid hend
 clear c0 c1 c2 c3 hor hend
 go_enter Tryz.func84, Tryz.ntmps84
 go_wp2
 go_loopw [8] (fun i wr => ∃ k : Nat, k ≤ 4 ∧ i = .int .i64 k ∧ Hid (∀ j, j < k → xs.getD j 0 = 0) ∧ wr = w) (fun i _ => 4 - (intOf i).toNat)
 case atStart => exact ⟨0, by omega, rfl, hid (fun j hj => by omega), rfl⟩
 case round =>
  obtain ⟨k, hk, rfl, HZ, rfl⟩ := hrel
  by_cases hlt : k < 4
  · have c1 := hc k hlt
    have hlt' : (k : Int) < 4 := by omega
    have hk0 : (0 : Int) ≤ (k : Int) := by omega
    have HO1 := hid (HO.out k hlt HZ.out)
    obtain ⟨y, hy⟩ : ∃ y, xs.getD k 0 = y := ⟨_, rfl⟩
    rw [hy] at c1 HO1
    have HY := hid hy
    clear hy hc
    by_cases h0 : y = 0
    · subst h0
      go_wp2
      go_roundw
      case rel => exact ⟨k + 1, by omega, by go_num, hid (upto (p := fun j => xs.getD j 0 = 0) HZ.out HY.out), by first | trivial | rfl⟩
      case measure => simp [intOf]; omega
    · have q : (y != 0) = true := by simp [h0]
      have HQ := hid (HO1.out h0)
      go_wp2
      go_ret
      exact ⟨by rw [HQ.out]; rfl, rfl⟩
  · have hk4 : k = 4 := by omega
    subst hk4
    have HQ := hid (HE.out HZ.out)
    go_wp2
    go_ret
    exact ⟨by rw [HQ.out]; rfl, rfl⟩
end Go.Proofs.YtlkoghdajpbffaaGreat
/- The program's ItemCompare. -/



namespace Go.Proofs.YtlkoghdajpbffaaGreat
open Go.RowKit
theorem cell_oldx {w : World} (o : Obj) {p : Addr} {v : Value} (h : w.cell? p = some v) : (w.alloc o).cell? p = some v := by
 have hl := World.block_lt_of_cell? w _ h
 have hb : Below w.heap.size w (w.alloc o) := (Below.refl _ _).alloc qN _
 rw [hb.cell hl]; exact h
theorem new4 (w : World) (a b c d : Value) (t : TypeId) : (w.alloc (.cells #[a, b, c, d] t)).cell? ⟨w.heap.size, 0, none⟩ = some a ∧ (w.alloc (.cells #[a, b, c, d] t)).cell? ⟨w.heap.size, 1, none⟩ = some b ∧ (w.alloc (.cells #[a, b, c, d] t)).cell? ⟨w.heap.size, 2, none⟩ = some c ∧ (w.alloc (.cells #[a, b, c, d] t)).cell? ⟨w.heap.size, 3, none⟩ = some d := by
 have h := heap_alloc_new w (.cells #[a, b, c, d] t)
 refine ⟨?_, ?_, ?_, ?_⟩ <;> (rw [cell_of_row _ _ _ _ _ _ h]; rfl)
theorem or_cmp (K N K' N' : Int) (f f' n n' : Nat) (zs zs' : List Int) (h : okI K N f n = true) (h' : okI K' N' f' n' = true) :
 or4 (ci K K') (ci N N') (cmp3 (frank f) (frank f')) (txt zs zs') = cmpI K N f n zs K' N' f' n' zs' := by
 have c0 : ¬ (okI K N f n = false ∨ okI K' N' f' n' = false) := by rw [h, h']; simp
 unfold or4 cmpI
 rw [if_neg c0]
 rcases Int.lt_trichotomy K K' with h1 | h1 | h1
 · rw [show ci K K' = -1 by rw [ci, if_pos h1], if_pos (by decide), if_pos (by omega), if_pos h1]
 · rw [show ci K K' = 0 by rw [ci, if_neg (by omega), if_neg (by omega)], if_neg (by decide), if_neg (show ¬ K ≠ K' from fun e => e h1)]
   rcases Int.lt_trichotomy N N' with h2 | h2 | h2
   · rw [show ci N N' = -1 by rw [ci, if_pos h2], if_pos (by decide), if_pos (by omega), if_pos h2]
   · rw [show ci N N' = 0 by rw [ci, if_neg (by omega), if_neg (by omega)], if_neg (by decide), if_neg (show ¬ N ≠ N' from fun e => e h2)]
   · rw [show ci N N' = 1 by rw [ci, if_neg (by omega), if_pos h2], if_pos (by decide), if_pos (by omega), if_neg (by omega)]
 · rw [show ci K K' = 1 by rw [ci, if_neg (by omega), if_pos h1], if_pos (by decide), if_pos (by omega), if_neg (by omega)]
set_option maxRecDepth 100000 in
set_option maxHeartbeats 3200000 in
theorem impl_ItemCompare (K N K' N' : Int) (f f' : Nat) {ad ad' : Option Addr} {n n' : Nat} (cap cap' : Nat) {zs zs' : List Int} {w : World} (hf : f < 18446744073709551616) (hf' : f' < 18446744073709551616)
 (h : Reads w ad n zs) (h' : Reads w ad' n' zs') (hn : n ≤ 2097152) (hn' : n' ≤ 2097152) :
 Calls Tryz.prog 85 #[.agg #[.int .i64 K, .int .i64 N, .float .f64 f, .slice ad n cap], .agg #[.int .i64 K', .int .i64 N', .float .f64 f', .slice ad' n' cap']] w fun e w' => e = .returned (.int .i64 (cmpI K N f n zs K' N' f' n' zs')) ∧ Below w.heap.size w w' := by
 have hB := two w (.cells #[.int .i64 K, .int .i64 N, .float .f64 f, .slice ad n cap] 37) (.cells #[.int .i64 K', .int .i64 N', .float .f64 f', .slice ad' n' cap'] 37)
 have z1 := alloc_size w (.cells #[.int .i64 K, .int .i64 N, .float .f64 f, .slice ad n cap] 37)
 have z2 := alloc_size (w.alloc (.cells #[.int .i64 K, .int .i64 N, .float .f64 f, .slice ad n cap] 37)) (.cells #[.int .i64 K', .int .i64 N', .float .f64 f', .slice ad' n' cap'] 37)
 have x1 := (Box.new w K N f ad n cap 37).below ((Below.refl (w.heap.size + 1) _).alloc (by omega) (.cells #[.int .i64 K', .int .i64 N', .float .f64 f', .slice ad' n' cap'] 37)) (by omega)
 have x2 := Box.new (w.alloc (.cells #[.int .i64 K, .int .i64 N, .float .f64 f, .slice ad n cap] 37)) K' N' f' ad' n' cap' 37
 rw [z1] at x2 z2
 have H1 := h.below hB qN
 have H2 := h'.below hB qN
 have e1 := impl_ItemOk K N f ad n cap hf hn
 have e2 := impl_ItemOk K' N' f' ad' n' cap' hf' hn'
 by_cases o1 : okI K N f n = false
 · rw [show cmpI K N f n zs K' N' f' n' zs' = -2 by rw [cmpI, if_pos (.inl o1)]]
   rw [o1] at e1
   go_enter Tryz.func85, Tryz.ntmps85
   go_wp2_with fail
   refine (e1 _).mono ?_
   rintro e w1 ⟨rfl, b1⟩
   have BB := hid (hB.trans (b1.mono hB.size))
   clear hB b1 H1 H2 x1 x2 z1 z2
   go_wp2_with fail
   go_ret
   exact ⟨rfl, BB.out⟩
 have o1' : okI K N f n = true := by simpa using o1
 rw [o1'] at e1
 by_cases o2 : okI K' N' f' n' = false
 · rw [show cmpI K N f n zs K' N' f' n' zs' = -2 by rw [cmpI, if_pos (.inr o2)]]
   rw [o2] at e2
   go_enter Tryz.func85, Tryz.ntmps85
   go_wp2_with fail
   refine (e1 _).mono ?_
   rintro e w1 ⟨rfl, b1⟩
   have B1 := hB.trans (b1.mono hB.size)
   have y2 := x2.below b1 (by omega)
   obtain ⟨d0, d1, d2, d3⟩ := y2
   clear hB b1 H1 H2 x1 x2 z1 z2
   go_wp2_with fail
   clear d0 d1 d2 d3
   refine (e2 _).mono ?_
   rintro e w2 ⟨rfl, b2⟩
   have BB := hid (B1.trans (b2.mono B1.size))
   clear b2 B1
   go_wp2_with fail
   go_ret
   exact ⟨rfl, BB.out⟩
 have o2' : okI K' N' f' n' = true := by simpa using o2
 rw [o2'] at e2
 rw [← or_cmp K N K' N' f f' n n' zs zs' o1' o2']
 clear o1 o2 o1' o2'
 go_enter Tryz.func85, Tryz.ntmps85
 go_wp2_with fail
 refine (e1 _).mono ?_
 rintro e w1 ⟨rfl, b1⟩
 have B1 := hB.trans (b1.mono hB.size)
 have y1 := x1.below b1 (by omega)
 have y2 := x2.below b1 (by omega)
 have zz := b1.size
 have h1 := H1.below b1 qN
 have h2 := H2.below b1 qN
 obtain ⟨d0, d1, d2, d3⟩ := y2
 have Y1 := hid y1
 have Y2 := hid (x2.below b1 (by omega))
 have ZZ := hid (show w.heap.size + 1 < w1.heap.size by omega)
 clear hB b1 H1 H2 x1 x2 z1 z2 y1 zz
 go_wp2_with fail
 clear d0 d1 d2 d3
 refine (e2 _).mono ?_
 rintro e w2 ⟨rfl, b2⟩
 have BB := B1.trans (b2.mono B1.size)
 have h3 := h1.below b2 qN
 have h4 := h2.below b2 qN
 have z := ZZ.out
 obtain ⟨c0, c1, c2, c3⟩ := Y1.out.below b2 (by omega)
 obtain ⟨d0, d1, d2, d3⟩ := Y2.out.below b2 (by omega)
 have ZB := b2.size
 have ZZ2 := hid (show w.heap.size + 1 < w2.heap.size by omega)
 have s1 : ∀ W, Below w2.heap.size w2 W → (convert 26 9 (.slice ad n cap)).run Tryz.prog W = .ok (.string (str zs)) W := fun W b => (h3.below b qN).str cap 26 Tryz.underlying26 Tryz.underlying5 Tryz.underlying9
 have s2 : ∀ W, Below w2.heap.size w2 W → (convert 26 9 (.slice ad' n' cap')).run Tryz.prog W = .ok (.string (str zs')) W := fun W b => (h4.below b qN).str cap' 26 Tryz.underlying26 Tryz.underlying5 Tryz.underlying9
 have S1 := hid s1
 have S2 := hid s2
 clear s1 s2
 have D1 : Below w2.heap.size w2 w2.drew := (Still.drewN w2 1).below w2.heap.size
 have HD := hid D1
 clear D1
 have i1 : inB zs := h.bd
 have i2 : inB zs' := h'.bd
 have HB := hid BB
 clear b2 B1 h1 h2 z ZB BB Y1 Y2 ZZ h3 h4 h h'
 go_wp2_with fail
 go_region_held3 (fun W => (W.cell? ⟨w.heap.size, 0, none⟩ = some (.int .i64 K) ∧ W.cell? ⟨w.heap.size, 1, none⟩ = some (.int .i64 N) ∧ W.cell? ⟨w.heap.size, 2, none⟩ = some (.float .f64 f) ∧ W.cell? ⟨w.heap.size, 3, none⟩ = some (.slice ad n cap)) ∧ W.cell? ⟨w.heap.size + 1, 0, none⟩ = some (.int .i64 K') ∧ W.cell? ⟨w.heap.size + 1, 1, none⟩ = some (.int .i64 N') ∧ W.cell? ⟨w.heap.size + 1, 2, none⟩ = some (.float .f64 f') ∧ W.cell? ⟨w.heap.size + 1, 3, none⟩ = some (.slice ad' n' cap') ∧ (convert 26 9 (.slice ad n cap)).run Tryz.prog W = .ok (.string (str zs)) W ∧ (convert 26 9 (.slice ad' n' cap')).run Tryz.prog W = .ok (.string (str zs')) W)
  (first
   | exact ⟨⟨by simpa using c0, by simpa using c1, by simpa using c2, by simpa using c3⟩, by simpa using d0, by simpa using d1, by simpa using d2, by simpa using d3, S1.out _ (by first | exact Below.refl _ _ | exact HD.out | exact (Still.drewN w2 _).below _), S2.out _ (by first | exact Below.refl _ _ | exact HD.out | exact (Still.drewN w2 _).below _)⟩
   | exact ⟨⟨cell_oldx _ (by simpa using c0), cell_oldx _ (by simpa using c1), cell_oldx _ (by simpa using c2), cell_oldx _ (by simpa using c3)⟩, cell_oldx _ (by simpa using d0), cell_oldx _ (by simpa using d1), cell_oldx _ (by simpa using d2), cell_oldx _ (by simpa using d3), S1.out _ (by first | exact HD.out.alloc qN _ | exact (Below.refl _ _).alloc qN _), S2.out _ (by first | exact HD.out.alloc qN _ | exact (Below.refl _ _).alloc qN _)⟩)
  (first
  | (go_at_call 86; refine (impl_ordInt _ _ _).mono ?_; rintro e w3 ⟨rfl, rfl⟩)
  | (go_at_call 100; refine (impl_FloatCompare _ _ hf hf' _).mono ?_; rintro e w3 ⟨rfl, rfl⟩)
  | (go_at_call 101; refine (impl_ordStr _ _ i1 i2 _).mono ?_; rintro e w3 ⟨rfl, rfl⟩)
  | (go_at_call 84; refine (cmp_or (ci K K') (ci N N') (cmp3 (frank f) (frank f')) (txt zs zs') w2.heap.size _ (new4 w2.drew _ _ _ _ 3).1 (new4 w2.drew _ _ _ _ 3).2.1 (new4 w2.drew _ _ _ _ 3).2.2.1 (new4 w2.drew _ _ _ _ 3).2.2.2).mono ?_; rintro e w3 ⟨rfl, rfl⟩))
 go_wp2_with fail
 go_ret
 refine ⟨rfl, HB.out.trans ?_⟩
 exact ((Below.refl _ w2).alloc (by have := ZZ2.out; omega) _).trans ((Still.drewN _ 1).below _)
end Go.Proofs.YtlkoghdajpbffaaGreat
/- Entries in order, both sides: what is one, which is less. Conditions: texts of at most 2^21 bytes. -/



namespace Go.Proofs.YtlkoghdajpbffaaGreat
open Go.RowKit
set_option maxRecDepth 100000
def entB (K N : Int) (f n : Nat) (id : Int) : Bool := okK K N f n && decide (0 ≤ id ∧ id ≤ 255)
def entOk (e : En) : Bool := entB e.K e.N e.F e.Z.length e.id
def cmpE (a b : En) : Int := cmpI a.K a.N a.F a.Z.length a.Z b.K b.N b.F b.Z.length b.Z
def ltB (c a b : Int) : Bool := decide (c < 0 ∨ (c = 0 ∧ a < b))
def ltE (a b : En) : Bool := ltB (cmpE a b) a.id b.id
theorem spec_in11 (n lo hi : Int) (w : World) : Calls Tryz.prog 42 #[.int .i64 n, .int .i64 lo, .int .i64 hi] w fun e w' => e = .returned (.bool (decide (lo ≤ n ∧ n ≤ hi))) ∧ w' = w := by
 by_cases h1 : lo ≤ n
 · by_cases h2 : n ≤ hi
   · rw [decide_eq_true ⟨h1, h2⟩]
     go_enter Tryz.func42, Tryz.ntmps42
     go_wp2
     go_ret
     exact ⟨rfl, rfl⟩
   · rw [decide_eq_false (fun q => h2 q.2)]
     go_enter Tryz.func42, Tryz.ntmps42
     go_wp2
     go_ret
     exact ⟨rfl, rfl⟩
 · rw [decide_eq_false (fun q => h1 q.1)]
   go_enter Tryz.func42, Tryz.ntmps42
   go_wp2
   go_ret
   exact ⟨rfl, rfl⟩
theorem impl_in11 (n lo hi : Int) (w : World) : Calls Tryz.prog 47 #[.int .i64 n, .int .i64 lo, .int .i64 hi] w fun e w' => e = .returned (.bool (decide (lo ≤ n ∧ n ≤ hi))) ∧ w' = w := by
 by_cases h1 : lo ≤ n
 · by_cases h2 : n ≤ hi
   · rw [decide_eq_true ⟨h1, h2⟩]
     go_enter Tryz.func47, Tryz.ntmps47
     go_wp2
     go_ret
     exact ⟨rfl, rfl⟩
   · rw [decide_eq_false (fun q => h2 q.2)]
     go_enter Tryz.func47, Tryz.ntmps47
     go_wp2
     go_ret
     exact ⟨rfl, rfl⟩
 · rw [decide_eq_false (fun q => h1 q.1)]
   go_enter Tryz.func47, Tryz.ntmps47
   go_wp2
   go_ret
   exact ⟨rfl, rfl⟩
set_option maxHeartbeats 1600000 in
theorem spec_entry (K N : Int) (f : Nat) (ad : Option Addr) (n cap : Nat) (id : Int) (hf : f < 18446744073709551616) (hn : n ≤ 2097152) (w : World) :
 Calls Tryz.prog 19 #[.agg #[.int .i64 K, .int .i64 N, .float .f64 f, .slice ad n cap, .int .i64 id]] w fun e w' => e = .returned (.bool (entB K N f n id)) ∧ Below w.heap.size w w' := by
 have hst := fun w a m => run_store Tryz.prog w a (.float .f64 f) m rfl
 have HB := hid (Below.alloc1 w (.cells #[.int .i64 K, .int .i64 N, .float .f64 f, .slice ad n cap, .int .i64 id] 48))
 have R0 := hid (heap_alloc_new w (.cells #[.int .i64 K, .int .i64 N, .float .f64 f, .slice ad n cap, .int .i64 id] 48))
 have Z0 := hid (alloc_size w (.cells #[.int .i64 K, .int .i64 N, .float .f64 f, .slice ad n cap, .int .i64 id] 48))
 go_enter Tryz.func19, Tryz.ntmps19
 go_wp2_with fail
 refine (spec_KeyOk K N f ad n cap hf hn _).mono ?_
 rintro e w1 ⟨rfl, b⟩
 have z := Z0.out
 have c4 : w1.cell? ⟨w.heap.size, 4, none⟩ = some (.int .i64 id) := by rw [cell_of_row _ _ _ _ _ _ ((b.block w.heap.size (by omega)).trans R0.out)]; rfl
 replace HB := hid (HB.out.trans (b.mono HB.out.size))
 have HE := hid (show entB K N f n id = (okK K N f n && decide (0 ≤ id ∧ id ≤ 255)) from rfl)
 clear b z
 cases hk : okK K N f n with
 | false =>
  rw [hk] at HE
  go_wp2_with fail
  go_ret
  exact ⟨by rw [HE.out]; rfl, HB.out⟩
 | true =>
  rw [hk] at HE
  go_wp2_with fail
  refine (spec_in11 id 0 255 w1).mono ?_
  rintro e w2 ⟨rfl, e1⟩
  subst w2
  obtain ⟨S, hS⟩ : ∃ S, decide (0 ≤ id ∧ id ≤ 255) = S := ⟨_, rfl⟩
  rw [hS] at HE
  rw [hS]
  clear c4 hS
  go_wp2_with fail
  go_ret
  exact ⟨by rw [HE.out]; simp, HB.out⟩
set_option maxHeartbeats 1600000 in
theorem impl_entry (K N : Int) (f : Nat) (ad : Option Addr) (n cap : Nat) (id : Int) (hf : f < 18446744073709551616) (hn : n ≤ 2097152) (w : World) :
 Calls Tryz.prog 28 #[.agg #[.int .i64 K, .int .i64 N, .float .f64 f, .slice ad n cap, .int .i64 id]] w fun e w' => e = .returned (.bool (entB K N f n id)) ∧ Below w.heap.size w w' := by
 have hst := fun w a m => run_store Tryz.prog w a (.float .f64 f) m rfl
 have HB := hid (Below.alloc1 w (.cells #[.int .i64 K, .int .i64 N, .float .f64 f, .slice ad n cap, .int .i64 id] 48))
 have R0 := hid (heap_alloc_new w (.cells #[.int .i64 K, .int .i64 N, .float .f64 f, .slice ad n cap, .int .i64 id] 48))
 have Z0 := hid (alloc_size w (.cells #[.int .i64 K, .int .i64 N, .float .f64 f, .slice ad n cap, .int .i64 id] 48))
 go_enter Tryz.func28, Tryz.ntmps28
 go_wp2_with fail
 refine (impl_KeyOk K N f ad n cap hf hn _).mono ?_
 rintro e w1 ⟨rfl, b⟩
 have z := Z0.out
 have c4 : w1.cell? ⟨w.heap.size, 4, none⟩ = some (.int .i64 id) := by rw [cell_of_row _ _ _ _ _ _ ((b.block w.heap.size (by omega)).trans R0.out)]; rfl
 replace HB := hid (HB.out.trans (b.mono HB.out.size))
 have HE := hid (show entB K N f n id = (okK K N f n && decide (0 ≤ id ∧ id ≤ 255)) from rfl)
 clear b z
 cases hk : okK K N f n with
 | false =>
  rw [hk] at HE
  go_wp2_with fail
  go_ret
  exact ⟨by rw [HE.out]; rfl, HB.out⟩
 | true =>
  rw [hk] at HE
  go_wp2_with fail
  refine (impl_in11 id 0 255 w1).mono ?_
  rintro e w2 ⟨rfl, e1⟩
  subst w2
  obtain ⟨S, hS⟩ : ∃ S, decide (0 ≤ id ∧ id ≤ 255) = S := ⟨_, rfl⟩
  rw [hS] at HE
  rw [hS]
  clear c4 hS
  go_wp2_with fail
  go_ret
  exact ⟨by rw [HE.out]; simp, HB.out⟩
set_option maxHeartbeats 1600000 in
theorem spec_less (K N : Int) (f : Nat) {ad : Option Addr} {n : Nat} (cap : Nat) (id : Int) (K' N' : Int) (f' : Nat) {ad' : Option Addr} {n' : Nat} (cap' : Nat) (id' : Int) {zs zs' : List Int} {w : World} (hf : f < 18446744073709551616) (hf' : f' < 18446744073709551616) (h : Reads w ad n zs) (h' : Reads w ad' n' zs') (hn : n ≤ 2097152) (hn' : n' ≤ 2097152) :
 Calls Tryz.prog 43 #[.agg #[.int .i64 K, .int .i64 N, .float .f64 f, .slice ad n cap, .int .i64 id], .agg #[.int .i64 K', .int .i64 N', .float .f64 f', .slice ad' n' cap', .int .i64 id']] w fun e w' => e = .returned (.bool (ltB (cmpI K N f n zs K' N' f' n' zs') id id')) ∧ Below w.heap.size w w' := by
 have hst := fun w a m => run_store Tryz.prog w a (.float .f64 f) m rfl
 have hst' := fun w a m => run_store Tryz.prog w a (.float .f64 f') m rfl
 have hB := two w (.cells #[.int .i64 K, .int .i64 N, .float .f64 f, .slice ad n cap, .int .i64 id] 48) (.cells #[.int .i64 K', .int .i64 N', .float .f64 f', .slice ad' n' cap', .int .i64 id'] 48)
 obtain ⟨R1, R2, z⟩ := two_rows11 w (.cells #[.int .i64 K, .int .i64 N, .float .f64 f, .slice ad n cap, .int .i64 id] 48) (.cells #[.int .i64 K', .int .i64 N', .float .f64 f', .slice ad' n' cap', .int .i64 id'] 48)
 have HB := hid hB
 have H1 := hid (h.below hB qN)
 have H2 := hid (h'.below hB qN)
 have HR1 := hid R1
 have HR2 := hid R2
 have HZ := hid z
 clear hB R1 R2 z h h'
 go_enter Tryz.func43, Tryz.ntmps43
 go_wp2_with fail
 refine (spec_ItemCompare K N K' N' f f' cap cap' hf hf' H1.out H2.out hn hn').mono ?_
 rintro e w1 ⟨rfl, b⟩
 have hz := HZ.out
 have c1 : w1.cell? ⟨w.heap.size, 4, none⟩ = some (.int .i64 id) := by rw [cell_of_row _ _ _ _ _ _ ((b.block w.heap.size (by omega)).trans HR1.out)]; rfl
 have c2 : w1.cell? ⟨w.heap.size + 1, 4, none⟩ = some (.int .i64 id') := by rw [cell_of_row _ _ _ _ _ _ ((b.block (w.heap.size + 1) (by omega)).trans HR2.out)]; rfl
 replace HB := hid (HB.out.trans (b.mono HB.out.size))
 obtain ⟨C, hC⟩ : ∃ C, cmpI K N f n zs K' N' f' n' zs' = C := ⟨_, rfl⟩
 rw [hC]
 have HC := hid hC
 clear b hz hC HR1 HR2 HZ
 by_cases h1 : C < 0
 · have HL := hid (show ltB C id id' = true from decide_eq_true (.inl h1))
   go_wp2_with fail
   go_ret
   exact ⟨by rw [HC.out, HL.out]; rfl, HB.out⟩
 · by_cases h2 : C = 0
   · by_cases h3 : id < id'
     · have HL := hid (show ltB C id id' = true from decide_eq_true (.inr ⟨h2, h3⟩))
       subst h2
       go_wp2_with fail
       go_ret
       exact ⟨by rw [HC.out, HL.out]; rfl, HB.out⟩
     · have HL := hid (show ltB C id id' = false from decide_eq_false (fun q => by omega))
       subst h2
       go_wp2_with fail
       go_ret
       exact ⟨by rw [HC.out, HL.out]; simp; omega, HB.out⟩
   · have HL := hid (show ltB C id id' = false from decide_eq_false (fun q => by omega))
     go_wp2_with fail
     go_ret
     exact ⟨by rw [HC.out, HL.out]; simp; omega, HB.out⟩
def cmpZ (x y : Int) : Int := if x < y then -1 else if y < x then 1 else 0
set_option maxHeartbeats 1600000 in
theorem impl_ordI (x y : Int) (w : World) : Calls Tryz.prog 86 #[.int .i64 x, .int .i64 y] w fun e w' => e = .returned (.int .i64 (cmpZ x y)) ∧ w' = w := by
 unfold cmpZ
 by_cases h1 : x < y
 · rw [if_pos h1]
   go_enter Tryz.func86, Tryz.ntmps86
   go_wp2
   go_ret
   exact ⟨rfl, rfl⟩
 · rw [if_neg h1]
   by_cases h2 : y < x
   · rw [if_pos h2]
     go_enter Tryz.func86, Tryz.ntmps86
     go_wp2
     go_ret
     exact ⟨rfl, rfl⟩
   · rw [if_neg h2]
     go_enter Tryz.func86, Tryz.ntmps86
     go_wp2
     go_ret
     exact ⟨rfl, rfl⟩
end Go.Proofs.YtlkoghdajpbffaaGreat
