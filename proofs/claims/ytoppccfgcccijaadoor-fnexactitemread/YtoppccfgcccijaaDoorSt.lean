/- Bytes as strings: what the conversion gives, and how two such strings are held against each other. -/
import Derived.Test.YtoppccfgcccijaaDoorIt5
import Derived.Test.YtoppccfgcccijaaDoorSb
import Derived.Laws.BytesArg
import Derived.Laws.Cover1
namespace Go.Proofs.YtoppccfgcccijaaDoor
open Go.RowKit

def us (zs : List Int) : List UInt8 := zs.map fun n => UInt8.ofNat n.toNat
def inB (zs : List Int) : Prop := ∀ i, 0 ≤ zs.getD i 0 ∧ zs.getD i 0 ≤ 255

theorem str_list (zs : List Int) : (str zs).toList = us zs := by
  rw [ByteArray.toList_eq]
  rfl

theorem inB.head {x : Int} {xs : List Int} (h : inB (x :: xs)) : 0 ≤ x ∧ x ≤ 255 := h 0
theorem inB.tail {x : Int} {xs : List Int} (h : inB (x :: xs)) : inB xs := fun i => h (i + 1)

theorem u8_lt (x y : Int) (hx : 0 ≤ x ∧ x ≤ 255) (hy : 0 ≤ y ∧ y ≤ 255) : (UInt8.ofNat x.toNat < UInt8.ofNat y.toNat) ↔ x < y := by
  rw [UInt8.lt_iff_toNat_lt, UInt8.toNat_ofNat', UInt8.toNat_ofNat']
  omega
theorem u8_eq (x y : Int) (hx : 0 ≤ x ∧ x ≤ 255) (hy : 0 ≤ y ∧ y ≤ 255) : (UInt8.ofNat x.toNat = UInt8.ofNat y.toNat) ↔ x = y := by
  rw [← UInt8.toNat_inj, UInt8.toNat_ofNat', UInt8.toNat_ofNat']
  omega

theorem less_txt : ∀ (zs ys : List Int), inB zs → inB ys → Op.bytesLess (us zs) (us ys) = decide (txt zs ys = -1)
  | [], [], _, _ => rfl
  | [], _ :: _, _, _ => rfl
  | _ :: _, [], _, _ => rfl
  | x :: xs, y :: ys, hx, hy => by
    have ih := less_txt xs ys hx.tail hy.tail
    show (decide (UInt8.ofNat x.toNat < UInt8.ofNat y.toNat) || (UInt8.ofNat x.toNat == UInt8.ofNat y.toNat && Op.bytesLess (us xs) (us ys))) = _
    rw [ih]
    have e1 := u8_lt x y hx.head hy.head
    have e2 := u8_eq x y hx.head hy.head
    show _ = decide ((if x < y then -1 else if y < x then 1 else txt xs ys) = -1)
    by_cases h1 : x < y
    · rw [if_pos h1, decide_eq_true (e1.2 h1)]; rfl
    · rw [if_neg h1, decide_eq_false (fun h => h1 (e1.1 h))]
      by_cases h2 : y < x
      · rw [if_pos h2, beq_eq_false_iff_ne.2 (fun h => by have := e2.1 h; omega)]; rfl
      · rw [if_neg h2, beq_iff_eq.2 (e2.2 (by omega))]; simp

theorem eq_txt : ∀ (zs ys : List Int), inB zs → inB ys → (us zs == us ys) = decide (txt zs ys = 0)
  | [], [], _, _ => rfl
  | [], _ :: _, _, _ => rfl
  | _ :: _, [], _, _ => rfl
  | x :: xs, y :: ys, hx, hy => by
    have ih := eq_txt xs ys hx.tail hy.tail
    show (UInt8.ofNat x.toNat == UInt8.ofNat y.toNat && (us xs == us ys)) = _
    rw [ih]
    have e2 := u8_eq x y hx.head hy.head
    show _ = decide ((if x < y then -1 else if y < x then 1 else txt xs ys) = 0)
    by_cases h1 : x < y
    · rw [if_pos h1, beq_eq_false_iff_ne.2 (fun h => by have := e2.1 h; omega)]; rfl
    · rw [if_neg h1]
      by_cases h2 : y < x
      · rw [if_pos h2, beq_eq_false_iff_ne.2 (fun h => by have := e2.1 h; omega)]; rfl
      · rw [if_neg h2, beq_iff_eq.2 (e2.2 (by omega))]; simp

theorem txt_zero : ∀ (zs ys : List Int), txt zs ys = 0 ↔ zs = ys
  | [], [] => by simp [txt]
  | [], _ :: _ => by simp [txt]
  | _ :: _, [] => by simp [txt]
  | x :: xs, y :: ys => by
    have ih := txt_zero xs ys
    rw [txt]
    by_cases h1 : x < y
    · rw [if_pos h1]
      constructor
      · intro h; omega
      · intro h; have := (List.cons.inj h).1; omega
    · rw [if_neg h1]
      by_cases h2 : y < x
      · rw [if_pos h2]
        constructor
        · intro h; omega
        · intro h; have := (List.cons.inj h).1; omega
      · rw [if_neg h2, ih]
        have : x = y := by omega
        subst this
        simp

theorem txt_range : ∀ (zs ys : List Int), txt zs ys = -1 ∨ txt zs ys = 0 ∨ txt zs ys = 1
  | [], [] => .inr (.inl rfl)
  | [], _ :: _ => .inl rfl
  | _ :: _, [] => .inr (.inr rfl)
  | x :: xs, y :: ys => by
    have ih := txt_range xs ys
    rw [txt]
    by_cases h1 : x < y
    · rw [if_pos h1]; exact .inl rfl
    · rw [if_neg h1]
      by_cases h2 : y < x
      · rw [if_pos h2]; exact .inr (.inr rfl)
      · rw [if_neg h2]; exact ih

end Go.Proofs.YtoppccfgcccijaaDoor
