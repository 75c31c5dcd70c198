/- A page's bytes, plain: the body, the four sectors. No program, no conditions. -/
import Derived.Test.YtdfieopdbpklnaaPz
import Derived.Test.YtdfieopdbpklnaaNum
namespace Go.Proofs.Ytdfieopdbpklnaa

def lensP (ss : List (List Int)) : List Int := ss.map fun z => (z.length : Int)
def headP (ss : List (List Int)) : List Int := (ss.length : Int) :: lensP ss
def fillP (zs : List Int) : List Int := zs ++ List.replicate (240 - zs.length) 0
def bodyP (ss : List (List Int)) : List Int := fillP (headP ss ++ ss.flatten)
def secsP (L : Int) (body : List Int) : Nat → List Int
  | 0 => []
  | k + 1 => secsP L body k ++ (putL L 4 ++ (body.drop (60 * k)).take 60)
def bytesP (L : Int) (ss : List (List Int)) : List Int := if okP L ss = true then secsP L (bodyP ss) 4 else []
theorem bytesP_no {L : Int} {ss : List (List Int)} (h : okP L ss = false) : bytesP L ss = [] := by unfold bytesP; rw [if_neg (by simp [h])]
theorem bytesP_yes {L : Int} {ss : List (List Int)} (h : okP L ss = true) : bytesP L ss = secsP L (bodyP ss) 4 := by unfold bytesP; rw [if_pos h]

theorem lensP_snoc (ss : List (List Int)) (k : Nat) (h : k < ss.length) : lensP (ss.take (k + 1)) = lensP (ss.take k) ++ [((ss.getD k []).length : Int)] := by
  unfold lensP
  rw [List.take_succ_eq_append_getElem h, List.map_append]
  simp [List.getD, h]
theorem lensP_len (ss : List (List Int)) : (lensP ss).length = ss.length := by simp [lensP]
theorem headP_len (ss : List (List Int)) : (headP ss ++ ss.flatten).length = 1 + ss.length + tot ss := by
  simp only [headP, List.length_append, List.length_cons, lensP_len, flat_tot]; omega
theorem fillP_len {zs : List Int} (h : zs.length ≤ 240) : (fillP zs).length = 240 := by simp [fillP]; omega
theorem bodyP_len {L : Int} {ss : List (List Int)} (h : okP L ss = true) : (bodyP ss).length = 240 := by
  refine fillP_len ?_
  rw [headP_len]; exact (okP_of h).t
theorem putL4 (L : Int) (h0 : 0 ≤ L) (h1 : L ≤ 1000000) : (putL L 4).length = 4 ∧ putL L 4 = dig L.toNat 4 := by
  have e : putL L 4 = dig L.toNat 4 := by
    obtain ⟨n, rfl⟩ := Int.eq_ofNat_of_zero_le h0
    rw [show (4 : Int) = ((4 : Nat) : Int) from rfl, putL_yes n 4 (by omega) (by omega) (by
      simp only [sh]
      exact Nat.div_eq_of_lt (by have : (256 : Nat) ^ 4 = 4294967296 := by decide
                                 omega))]
    simp
  exact ⟨by rw [e, dig_length], e⟩
theorem secsP_len {L : Int} {body : List Int} (h : (putL L 4).length = 4) (hb : body.length = 240) : ∀ k, k ≤ 4 → (secsP L body k).length = 64 * k
  | 0, _ => rfl
  | k + 1, hk => by
    have := secsP_len h hb k (by omega)
    simp only [secsP, List.length_append, this, h, List.length_take, List.length_drop, hb]
    omega
theorem bytesP_len {L : Int} {ss : List (List Int)} (h : okP L ss = true) : (bytesP L ss).length = 256 := by
  rw [bytesP_yes h, secsP_len (putL4 L (okP_of h).l0 (okP_of h).l1).1 (bodyP_len h) 4 (by omega)]
def bdZ (zs : List Int) : Prop := ∀ i, 0 ≤ zs.getD i 0 ∧ zs.getD i 0 ≤ 255
theorem bdZ.app {A B : List Int} (ha : bdZ A) (hb : bdZ B) : bdZ (A ++ B) := by
  intro i
  rw [getD_app]
  split
  · exact ha i
  · exact hb _
theorem bdZ.mem {A : List Int} (h : ∀ x ∈ A, 0 ≤ x ∧ x ≤ 255) : bdZ A := by
  intro i
  rcases getD_mem_or A i 0 with e | e
  · rw [e]; omega
  · exact h _ e
theorem bdZ.of {A : List Int} (h : bdZ A) : ∀ x ∈ A, 0 ≤ x ∧ x ≤ 255 := by
  intro x hx
  obtain ⟨i, hi, rfl⟩ := List.mem_iff_getElem.1 hx
  have := h i
  simpa [List.getD, hi] using this
theorem bdZ.sub {A B : List Int} (h : bdZ A) (hs : ∀ x ∈ B, x ∈ A) : bdZ B := bdZ.mem fun x hx => h.of x (hs x hx)
theorem bdZ.rep (n : Nat) : bdZ (List.replicate n 0) := bdZ.mem fun x hx => by have := (List.mem_replicate.1 hx).2; omega
theorem flat_bd : ∀ {ss : List (List Int)}, (∀ z ∈ ss, bdZ z) → bdZ ss.flatten
  | [], _ => fun i => by simp
  | z :: ss, h => by
    rw [List.flatten_cons]
    exact (h z (by simp)).app (flat_bd fun y hy => h y (by simp [hy]))
theorem headP_bd {L : Int} {ss : List (List Int)} (h : okP L ss = true) : bdZ (headP ss) := by
  refine bdZ.mem fun x hx => ?_
  simp only [headP, lensP, List.mem_cons, List.mem_map] at hx
  rcases hx with rfl | ⟨z, hz, rfl⟩
  · have := (okP_of h).n; omega
  · obtain ⟨i, hi, rfl⟩ := List.mem_iff_getElem.1 hz
    have := (okP_of h).z i
    simp only [List.getD, List.getElem?_eq_getElem hi, Option.getD_some] at this
    omega
theorem bodyP_bd {L : Int} {ss : List (List Int)} (h : okP L ss = true) (hs : ∀ z ∈ ss, bdZ z) : bdZ (bodyP ss) := ((headP_bd h).app (flat_bd hs)).app (bdZ.rep _)
theorem secsP_bd {L : Int} {body : List Int} (hb : bdZ body) : ∀ k, bdZ (secsP L body k)
  | 0 => fun i => by simp [secsP]
  | k + 1 => (secsP_bd hb k).app ((show bdZ (putL L 4) from putL_bd L 4).app (hb.sub fun x hx => List.mem_of_mem_drop (List.mem_of_mem_take hx)))
theorem bytesP_bd {L : Int} {ss : List (List Int)} (hs : ∀ z ∈ ss, bdZ z) : bdZ (bytesP L ss) := by
  cases h : okP L ss with
  | false => rw [bytesP_no h]; exact fun i => by simp
  | true => rw [bytesP_yes h]; exact secsP_bd (bodyP_bd h hs) 4
theorem ReadsS.bd {w : World} {a : Option Addr} {ss : List (List Int)} (h : ReadsS w a ss) : ∀ z ∈ ss, bdZ z := by
  intro z hz
  obtain ⟨i, hi, rfl⟩ := List.mem_iff_getElem.1 hz
  rcases h.cells with h0 | ⟨b, off, _, hc⟩
  · omega
  · obtain ⟨v, _, _, _, _, r, _⟩ := hc i hi
    have := r.bd
    rw [show ss.getD i [] = ss[i] from by simp [List.getD, hi]] at this
    exact this
end Go.Proofs.Ytdfieopdbpklnaa
