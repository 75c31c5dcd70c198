/- Disks as plain data, and what the functions of chapter 4 make of them. No program, no conditions. -/
import Derived.Test.YtdlddgejpcbofaaBase
namespace Go.Proofs.Ytdlddgejpcbofaa

structure Dk where
  S : List (List Int)
  W : List (Int × List Int)
  F : Int
  D : Bool

def w0 : Int × List Int := (0, [])
def z0 : Dk := ⟨[], [], 0, false⟩

def okS (ss : List (List Int)) : Bool := ss.all fun z => decide (z.length = 64)
def okW (n : Nat) (ws : List (Int × List Int)) : Bool := ws.all fun p => decide (0 ≤ p.1 ∧ p.1 < n ∧ p.2.length = 64)
def okH (d : Dk) : Bool := decide (1 ≤ d.S.length ∧ d.S.length ≤ 512 ∧ d.W.length ≤ 600 ∧ -1 ≤ d.F)
def okD (d : Dk) : Bool := okH d && okS d.S && okW d.S.length d.W

theorem okS_step (ss : List (List Int)) (k : Nat) (h : k < ss.length) : okS (ss.drop k) = (decide ((ss.getD k []).length = 64) && okS (ss.drop (k + 1))) := by
  rw [List.drop_eq_getElem_cons h, show ss.getD k [] = ss[k] by simp [List.getD, h]]
  rfl
theorem okS_end (ss : List (List Int)) (k : Nat) (h : ss.length ≤ k) : okS (ss.drop k) = true := by rw [List.drop_eq_nil_of_le h]; rfl
theorem okW_step (n : Nat) (ws : List (Int × List Int)) (k : Nat) (h : k < ws.length) : okW n (ws.drop k) = (decide (0 ≤ (ws.getD k w0).1 ∧ (ws.getD k w0).1 < n ∧ (ws.getD k w0).2.length = 64) && okW n (ws.drop (k + 1))) := by
  rw [List.drop_eq_getElem_cons h, show ws.getD k w0 = ws[k] by simp [List.getD, h]]
  rfl
theorem okW_end (n : Nat) (ws : List (Int × List Int)) (k : Nat) (h : ws.length ≤ k) : okW n (ws.drop k) = true := by rw [List.drop_eq_nil_of_le h]; rfl
theorem okS_at {ss : List (List Int)} (h : okS ss = true) {i : Nat} (hi : i < ss.length) : (ss.getD i []).length = 64 := by
  have := List.all_eq_true.1 h _ (List.getElem_mem hi)
  simpa [List.getD, hi] using this
theorem okW_at {n : Nat} {ws : List (Int × List Int)} (h : okW n ws = true) {i : Nat} (hi : i < ws.length) : 0 ≤ (ws.getD i w0).1 ∧ (ws.getD i w0).1 < n ∧ (ws.getD i w0).2.length = 64 := by
  have := List.all_eq_true.1 h _ (List.getElem_mem hi)
  simpa [List.getD, hi] using this
structure OkD (d : Dk) : Prop where
  s0 : 1 ≤ d.S.length
  s1 : d.S.length ≤ 512
  w1 : d.W.length ≤ 600
  f : -1 ≤ d.F
  s : ∀ i, i < d.S.length → (d.S.getD i []).length = 64
  w : ∀ i, i < d.W.length → 0 ≤ (d.W.getD i w0).1 ∧ (d.W.getD i w0).1 < d.S.length ∧ (d.W.getD i w0).2.length = 64
theorem okD_of {d : Dk} (h : okD d = true) : OkD d := by
  unfold okD at h
  simp only [Bool.and_eq_true] at h
  obtain ⟨⟨h1, h2⟩, h3⟩ := h
  have h4 := of_decide_eq_true (show decide _ = true from h1)
  exact ⟨h4.1, h4.2.1, h4.2.2.1, h4.2.2.2, fun i hi => okS_at h2 hi, fun i hi => okW_at h3 hi⟩
theorem okD_mk {d : Dk} (h : OkD d) : okD d = true := by
  unfold okD okH okS okW
  simp only [Bool.and_eq_true, decide_eq_true_eq, List.all_eq_true]
  refine ⟨⟨⟨h.s0, h.s1, h.w1, h.f⟩, fun z hz => ?_⟩, fun p hp => ?_⟩
  · obtain ⟨i, hi, rfl⟩ := List.mem_iff_getElem.1 hz
    have := h.s i hi
    simpa [List.getD, hi] using this
  · obtain ⟨i, hi, rfl⟩ := List.mem_iff_getElem.1 hp
    have := h.w i hi
    simpa [List.getD, hi] using this

/-- The last of the writes to a place, else what is there. -/
def lastW (ws : List (Int × List Int)) (at' : Int) (z : List Int) : List Int := ws.foldl (fun acc p => if p.1 = at' then p.2 else acc) z
theorem lastW_step (ws : List (Int × List Int)) (at' : Int) (z : List Int) (k : Nat) (h : k < ws.length) : lastW (ws.take (k + 1)) at' z = if (ws.getD k w0).1 = at' then (ws.getD k w0).2 else lastW (ws.take k) at' z := by
  unfold lastW
  rw [List.take_add_one, List.getElem?_eq_getElem h, Option.toList_some, List.foldl_append]
  simp [List.getD, h]
theorem lastW_zero (ws : List (Int × List Int)) (at' : Int) (z : List Int) : lastW (ws.take 0) at' z = z := by rw [List.take_zero]; rfl
theorem lastW_all (ws : List (Int × List Int)) (at' : Int) (z : List Int) : lastW (ws.take ws.length) at' z = lastW ws at' z := by rw [List.take_length]
theorem lastW_snoc (ws : List (Int × List Int)) (at' : Int) (z y : List Int) : lastW (ws ++ [(at', y)]) at' z = y := by
  unfold lastW
  rw [List.foldl_append]; simp

def readR (d : Dk) (at' : Int) : List Int × Bool :=
  if okD d = true ∧ 0 ≤ at' ∧ at' < d.S.length then (lastW d.W at' (d.S.getD at'.toNat []), true) else ([], false)

/-- A call that the disk takes, or doesn't. -/
def callD (d : Dk) : Dk × Bool :=
  if d.D = true then (d, false) else if d.F = 0 then (⟨d.S, d.W, d.F, true⟩, false) else if 0 < d.F then (⟨d.S, d.W, d.F - 1, d.D⟩, true) else (d, true)
def writeD (d : Dk) (at' : Int) (data : List Int) : Dk × Int :=
  if okD d = true ∧ 0 ≤ at' ∧ at' < d.S.length ∧ data.length = 64 then
    if 600 ≤ d.W.length then (d, 2)
    else if (callD d).2 = true then (⟨(callD d).1.S, (callD d).1.W ++ [(at', data)], (callD d).1.F, (callD d).1.D⟩, 0) else ((callD d).1, 3)
  else (z0, 1)

/-- The writes that are kept, done in order. -/
def doneS : List (List Int) → List (Int × List Int) → List Bool → Bool → List (List Int)
  | ss, [], _, _ => ss
  | ss, p :: ws, ks, all => doneS (if (all || ks.headD false) = true then ss.set p.1.toNat p.2 else ss) ws ks.tail all
theorem doneS_step (ss : List (List Int)) (ws : List (Int × List Int)) (ks : List Bool) (all : Bool) (k : Nat) (h : k < ws.length) :
    doneS ss (ws.drop k) (ks.drop k) all = doneS (if (all || ks.getD k false) = true then ss.set (ws.getD k w0).1.toNat (ws.getD k w0).2 else ss) (ws.drop (k + 1)) (ks.drop (k + 1)) all := by
  rw [List.drop_eq_getElem_cons h, doneS]
  have e1 : (ks.drop k).headD false = ks.getD k false := by rw [List.headD_eq_head?_getD, List.head?_drop]; simp [List.getD]
  have e2 : (ks.drop k).tail = ks.drop (k + 1) := by rw [List.tail_drop]
  rw [e1, e2]
  simp [List.getD, h]
theorem doneS_end (ss : List (List Int)) (ws : List (Int × List Int)) (ks : List Bool) (all : Bool) (k : Nat) (h : ws.length ≤ k) : doneS ss (ws.drop k) (ks.drop k) all = ss := by
  rw [List.drop_eq_nil_of_le h]; rfl
def syncD (d : Dk) : Dk × Int :=
  if okD d = true then
    if (callD d).2 = true then (⟨doneS (callD d).1.S (callD d).1.W [] true, [], (callD d).1.F, (callD d).1.D⟩, 0) else ((callD d).1, 3)
  else (z0, 1)
def fuseD (d : Dk) (n : Int) : Dk × Int := if okD d = true ∧ -1 ≤ n then (⟨d.S, d.W, n, d.D⟩, 0) else (z0, 1)
def crashD (d : Dk) (ks : List Bool) : Dk := if okD d = true then ⟨doneS d.S d.W ks false, [], -1, false⟩ else z0
def newD (n : Int) : Dk := if 1 ≤ n ∧ n ≤ 512 then ⟨List.replicate n.toNat (List.replicate 64 0), [], -1, false⟩ else z0

/-- How many bytes there are. -/
def tot : List (List Int) → Nat
  | [] => 0
  | z :: zs => z.length + tot zs
theorem tot_app : ∀ a b, tot (a ++ b) = tot a + tot b
  | [], b => by simp [tot]
  | z :: zs, b => by simp only [List.cons_append, tot, tot_app zs b]; omega
theorem tot_step (ss : List (List Int)) (k : Nat) (h : k < ss.length) : tot (ss.take (k + 1)) = tot (ss.take k) + (ss.getD k []).length := by
  rw [List.take_add_one, List.getElem?_eq_getElem h, Option.toList_some, tot_app]
  simp [tot, List.getD, h]
theorem tot_take (ss : List (List Int)) (k : Nat) : tot (ss.take k) ≤ tot ss := by
  have := tot_app (ss.take k) (ss.drop k)
  rw [List.take_append_drop] at this
  omega
theorem tot_le {m : Nat} : ∀ (ss : List (List Int)), (∀ i, i < ss.length → (ss.getD i []).length ≤ m) → tot ss ≤ ss.length * m
  | [], _ => by simp [tot]
  | z :: zs, h => by
    have h0 := h 0 (by simp)
    have ih := tot_le zs (fun i hi => by have := h (i + 1) (by simpa using hi); simpa using this)
    simp only [tot, List.length_cons, Nat.add_mul, Nat.one_mul]
    simp at h0
    omega
theorem tot_at (ss : List (List Int)) (k : Nat) : (ss.getD k []).length ≤ tot ss := by
  by_cases h : k < ss.length
  · have := tot_step ss k h
    have := tot_take ss (k + 1)
    omega
  · rw [List.getD_eq_getElem?_getD, List.getElem?_eq_none (by omega)]; simp

/-- What markByteSS leaves. -/
def mkS : Int → List (List Int) → List (List Int)
  | _, [] => []
  | k, z :: zs => marks k z.length :: mkS (k + z.length) zs
theorem mkS_length : ∀ (k : Int) (ss : List (List Int)), (mkS k ss).length = ss.length
  | _, [] => rfl
  | k, z :: zs => by simp [mkS, mkS_length]
theorem mkS_at : ∀ (k : Int) (ss : List (List Int)) (i : Nat), (mkS k ss).getD i [] = marks (k + tot (ss.take i)) (ss.getD i []).length
  | k, [], i => by simp [mkS, marks]
  | k, z :: zs, 0 => by simp [mkS, tot]
  | k, z :: zs, i + 1 => by
    have := mkS_at (k + z.length) zs i
    simp only [mkS, List.getD_cons_succ, List.take_succ_cons, tot]
    rw [this]
    congr 1
    omega
theorem mkS_tot : ∀ (k : Int) (ss : List (List Int)), tot (mkS k ss) = tot ss
  | _, [] => rfl
  | k, z :: zs => by simp [mkS, tot, marks_length, mkS_tot]
theorem set_mkS (k : Int) (ss : List (List Int)) (i : Nat) (h : i < ss.length) : (mkS k (ss.take i) ++ ss.drop i).set i (marks (k + tot (ss.take i)) (ss.getD i []).length) = mkS k (ss.take (i + 1)) ++ ss.drop (i + 1) := by
  have hl : (mkS k (ss.take i)).length = i := by rw [mkS_length, List.length_take]; omega
  rw [List.set_append_right _ _ (by omega), hl, Nat.sub_self, List.drop_eq_getElem_cons h, List.set_cons_zero]
  have e : mkS k (ss.take (i + 1)) = mkS k (ss.take i) ++ [marks (k + tot (ss.take i)) (ss.getD i []).length] := by
    apply List.ext_getElem?
    intro j
    have hl2 : (mkS k (ss.take (i + 1))).length = i + 1 := by rw [mkS_length, List.length_take]; omega
    by_cases hj : j < i + 1
    · have a1 := mkS_at k (ss.take (i + 1)) j
      rw [List.getD_eq_getElem?_getD, List.getElem?_eq_getElem (by omega)] at a1
      rw [List.getElem?_eq_getElem (by omega)]
      rw [Option.getD_some] at a1
      rw [a1]
      by_cases hj2 : j < i
      · have a2 := mkS_at k (ss.take i) j
        rw [List.getD_eq_getElem?_getD, List.getElem?_eq_getElem (by omega), Option.getD_some] at a2
        rw [List.getElem?_append_left (by omega), List.getElem?_eq_getElem (by omega), a2]
        simp only [List.take_take, show min j (i + 1) = j by omega, show min j i = j by omega]
        congr 2
        simp [List.getD, hj, hj2]
      · obtain rfl : j = i := by omega
        rw [List.getElem?_append_right (by omega), hl, Nat.sub_self]
        simp [List.take_take, List.getD]
    · rw [List.getElem?_eq_none (by omega), List.getElem?_eq_none (by simp [hl]; omega)]
  rw [e]
  simp
end Go.Proofs.Ytdlddgejpcbofaa
