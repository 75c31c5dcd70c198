/- slices.SortFunc over rows of keys and of spans. Conditions: texts of at most 2^21 bytes. -/
import Derived.Test.YtnbpblephmjfnaaGreatHe14
import Derived.Shelf.SlSortCmp.NoneTotal
namespace Go.Proofs.YtnbpblephmjfnaaGreat
open Go.RowKit Go.Lib Go.Sort
set_option maxRecDepth 100000
theorem sortOwnP {β : Type} {ρ : Go.Shelf.Ren} (L : SlLaysF0.n6 Tryz.prog ρ) (k : Nat) (aE : ∀ w, (isAgg (ρ.t 24)).run Tryz.prog w = .ok true w) (zE : ∀ w, (Go.sizeOf (ρ.t 24)).run Tryz.prog w = .ok k w) (enc : β → List Value) (hk : ∀ x, (enc x).length = k) (h1 : ∀ x, ∀ v ∈ enc x, v.oneCell' = true) (cf : β → β → Int) (P : β → Prop)
 (irr : ∀ x, P x → ¬ cf x x < 0) (tr : ∀ x y z, P x → P y → P z → cf x y < 0 → cf y z < 0 → cf x z < 0) (nt : ∀ x y z, P x → P y → P z → ¬ cf x y < 0 → ¬ cf y z < 0 → ¬ cf x z < 0) (g : Nat) (cb : Array Value)
 {base : Nat} {T : TypeId} {a : Option Addr} {cap n : Nat} (l : List β) (hn : l.length = n) (hP : ∀ x ∈ l, P x) (w : World) (own : w.ownsRow base T k (.slice a n cap) n (l.flatMap enc)) (eg : ∀ args w, (callFunc g args).run Tryz.prog w = .ok (.enter g args) w)
 (hcmp : ∀ blk, a = some ⟨blk, 0, none⟩ → ∀ W, w.grownBy W (some blk) → ∀ x y, P x → P y → Calls Tryz.prog g (#[.agg (enc x).toArray, .agg (enc y).toArray] ++ cb) W fun e w' => e = .returned (.int .i64 (cf x y)) ∧ Gw W w') (hsz : n < 4611686018427387904) :
 Calls Tryz.prog (ρ.f 6) #[.slice a n cap, .func (.func g) #[] cb] w fun e w' => e = .returned (.tuple #[]) ∧ ∃ l' : List β, l'.Perm l ∧ l'.Pairwise (fun x y => ¬ cf y x < 0) ∧ w'.ownsRow base T k (.slice a n cap) n (l'.flatMap enc) ∧ w.grownBy w' (Value.ownBlock (.slice a n cap)) := by
 match l, hn, hP, own with
 | [], hn, _, own =>
  subst hn
  refine (AnyF.slices_SortFunc_none L a cap _ w).mono ?_
  rintro e w' ⟨he, rfl⟩
  exact ⟨he, [], List.Perm.refl _, List.Pairwise.nil, own, ⟨rfl, rfl, rfl, Nat.le_refl _, fun _ _ _ => rfl⟩⟩
 | x0 :: r, hn, hP, own =>
  have hpos : 0 < n := by rw [← hn]; simp
  obtain ⟨blk, rfl⟩ : ∃ blk, a = some ⟨blk, 0, none⟩ := by
   rcases own.2 with ⟨_, h0⟩ | ⟨g', cap', cur, e, _⟩
   · omega
   · obtain ⟨e1, -, -⟩ := Value.slice.inj e
     exact ⟨g', e1⟩
  let S := { x : β // P x }
  haveI : Inhabited S := ⟨⟨x0, hP x0 (by simp)⟩⟩
  have hmap : ((x0 :: r).attachWith P hP).map Subtype.val = x0 :: r := List.attachWith_map_subtype_val _
  have hfl : ∀ m : List S, m.flatMap (fun x => enc x.1) = (m.map Subtype.val).flatMap enc := fun m => by rw [List.flatMap_map]
  have hcon := sortOwn (α := S) L k aE zE (fun x => enc x.1) (fun x => hk x.1) (fun x => h1 x.1) (fun x y => cf x.1 y.1)
   ⟨fun x => by unfold ltOf; exact decide_eq_false (irr x.1 x.2), fun x y z h h' => by unfold ltOf at *; rw [decide_eq_true_iff] at *; exact tr _ _ _ x.2 y.2 z.2 h h', fun x y z h h' => by unfold ltOf at *; rw [decide_eq_false_iff_not] at *; exact nt _ _ _ x.2 y.2 z.2 h h'⟩
   g cb (base := base) (T := T) (blk := blk) (cap := cap) (n := n) ((x0 :: r).attachWith P hP) (by rw [List.length_attachWith]; exact hn) w (by rw [hfl, hmap]; exact own) eg
   (fun m os dk _ x y => (hcmp blk rfl _ (sortWorld_grown) x.1 y.1 x.2 y.2).mono (fun e w' h => ⟨h.1, h.2.grow⟩)) hsz
  refine hcon.mono ?_
  rintro e w' ⟨he, l', hp, hs, ho, hg⟩
  refine ⟨he, l'.map Subtype.val, ?_, ?_, by rw [← hfl]; exact ho, hg⟩
  · have := hp.map Subtype.val
    rwa [hmap] at this
  · rw [List.pairwise_map]
    exact hs
theorem reads_grown {w w' : World} {ad : Option Addr} {n : Nat} {zs : List Int} {blk : Nat} (h : Reads w ad n zs) (hg : w.grownBy w' (some blk)) (hne : ∀ a, ad = some a → n ≠ 0 → a.block ≠ blk) : Reads w' ad n zs := by
 refine ⟨h.len, ?_, h.bd⟩
 rcases h.cells with h0 | ⟨b, off, rfl, hc⟩
 · exact .inl h0
 · by_cases hn : n = 0
   · exact .inl hn
   · refine .inr ⟨b, off, rfl, fun i hi => ?_⟩
     exact hg.cell (hc i hi) (fun e => hne _ rfl hn (by injection e))
theorem GoodQ.grown {w w' : World} {blk : Nat} {q : Qi} (h : GoodQ w blk q) (hg : w.grownBy w' (some blk)) : GoodQ w' blk q := ⟨reads_grown h.rd hg h.ne, h.ne, h.fl, h.ok⟩
theorem encQ_len (q : Qi) : (encQ q).length = 4 := rfl
theorem encQ_one (q : Qi) : ∀ v ∈ encQ q, v.oneCell' = true := by
 intro v hv
 simp only [encQ, List.mem_cons, List.not_mem_nil, or_false] at hv
 rcases hv with rfl | rfl | rfl | rfl <;> rfl
theorem cmp_nt {a b c : Im} (ha : okM a = true) (hb : okM b = true) (hc : okM c = true) (h : ¬ cmpM a b < 0) (k : ¬ cmpM b c < 0) : ¬ cmpM a c < 0 := by
 have h1 := cmpM_anti ha hb
 have h2 := cmpM_anti hb hc
 have h3 := cmpM_anti ha hc
 have := cmpM_le_trans hc hb ha (by omega) (by omega)
 omega
theorem sort_items {base : Nat} {a : Option Addr} {cap n : Nat} (l : List Qi) (hn : l.length = n) (w : World) (own : w.ownsRow base 72 4 (.slice a n cap) n (l.flatMap encQ)) (hg : ∀ blk, a = some ⟨blk, 0, none⟩ → ∀ q ∈ l, GoodQ w blk q) (hok : ∀ q ∈ l, okM q.e = true) (hsz : n ≤ 2097152) :
 Calls Tryz.prog 143 #[.slice a n cap, .func (.func 73) #[] #[]] w fun e w' => e = .returned (.tuple #[]) ∧ ∃ l' : List Qi, l'.Perm l ∧ l'.Pairwise (fun x y => cmpM x.e y.e ≤ 0) ∧ w'.ownsRow base 72 4 (.slice a n cap) n (l'.flatMap encQ) ∧ w.grownBy w' (Value.ownBlock (.slice a n cap)) := by
 have eg : ∀ args w, (callFunc 73 args).run Tryz.prog w = .ok (.enter 73 args) w := enters_of Tryz.func73 (by kernel_rfl) rfl
 have hcon := sortOwnP sortItems 4 (fun w => Tryz.isAgg72 w) (fun w => Tryz.sizeOf72 w) encQ encQ_len encQ_one (fun x y => cmpM x.e y.e) (fun q => okM q.e = true ∧ ∀ blk, a = some ⟨blk, 0, none⟩ → GoodQ w blk q)
  (fun x hx => by rw [cmpM_self hx.1]; omega) (fun x y z hx hy hz => cmpM_trans hx.1 hy.1 hz.1) (fun x y z hx hy hz => cmp_nt hx.1 hy.1 hz.1) 73 #[] l hn (fun x hx => ⟨hok x hx, fun blk e => hg blk e x hx⟩) w own eg
  (fun blk e W hW x y hx hy => by
   have gx := (hx.2 blk e).grown hW
   have gy := (hy.2 blk e).grown hW
   exact impl_ItemCompare_g x.e.K x.e.N y.e.K y.e.N x.e.F y.e.F x.c y.c gx.fl gy.fl gx.rd gy.rd (by have := okM_len hx.1; omega) (by have := okM_len hy.1; omega)) (by omega)
 refine hcon.mono ?_
 rintro e w' ⟨he, l', hp, hs, ho, hgr⟩
 refine ⟨he, l', hp, ?_, ho, hgr⟩
 refine List.Pairwise.imp_of_mem (fun {x y} hx hy h => ?_) hs
 have := cmpM_anti (hok x (hp.mem_iff.1 hx)) (hok y (hp.mem_iff.1 hy))
 omega
abbrev Qsp := Qi × Qi
def encS (s : Qsp) : List Value := encQ s.1 ++ encQ s.2
theorem encS_len (s : Qsp) : (encS s).length = 8 := rfl
theorem encS_one (s : Qsp) : ∀ v ∈ encS s, v.oneCell' = true := by
 intro v hv
 rcases List.mem_append.1 hv with h | h
 · exact encQ_one _ v h
 · exact encQ_one _ v h
set_option maxHeartbeats 1600000 in
theorem impl_byFrom (K1 N1 K2 N2 K3 N3 K4 N4 : Int) (F1 F2 F3 F4 : Nat) {p1 p3 : Option Addr} {m1 m3 : Nat} (d1 d3 : Nat) (y2 y4 : Value) {Z1 Z3 : List Int} {w : World} (q1 : Reads w p1 m1 Z1) (q3 : Reads w p3 m3 Z3) (hf1 : F1 < 18446744073709551616) (hf3 : F3 < 18446744073709551616) (hz1 : m1 ≤ 2097152) (hz3 : m3 ≤ 2097152) :
 Calls Tryz.prog 148 #[.agg #[.int .i64 K1, .int .i64 N1, .float .f64 F1, .slice p1 m1 d1, .int .i64 K2, .int .i64 N2, .float .f64 F2, y2], .agg #[.int .i64 K3, .int .i64 N3, .float .f64 F3, .slice p3 m3 d3, .int .i64 K4, .int .i64 N4, .float .f64 F4, y4]] w fun e w' => e = .returned (.int .i64 (cmpI K1 N1 F1 m1 Z1 K3 N3 F3 m3 Z3)) ∧ Gw w w' := by
 have hG := hid (((Gw.refl w).alloc (.cells #[.int .i64 K1, .int .i64 N1, .float .f64 F1, .slice p1 m1 d1, .int .i64 K2, .int .i64 N2, .float .f64 F2, y2] 74)).alloc (.cells #[.int .i64 K3, .int .i64 N3, .float .f64 F3, .slice p3 m3 d3, .int .i64 K4, .int .i64 N4, .float .f64 F4, y4] 74))
 have Q1 := hid (q1.below hG.out.b (Nat.le_refl _))
 have Q3 := hid (q3.below hG.out.b (Nat.le_refl _))
 clear q1 q3
 go_enter Tryz.func148, Tryz.ntmps148
 go_wp2_with fail
 refine (impl_ItemCompare_g K1 N1 K3 N3 F1 F3 d1 d3 hf1 hf3 Q1.out Q3.out hz1 hz3).mono ?_
 rintro e w1 ⟨rfl, v1⟩
 have HE := hid (hG.out.trans v1)
 clear v1
 go_wp2_with fail
 go_ret
 exact ⟨rfl, HE.out⟩
theorem sort_spans {base : Nat} {a : Option Addr} {cap n : Nat} (l : List Qsp) (hn : l.length = n) (w : World) (own : w.ownsRow base 74 8 (.slice a n cap) n (l.flatMap encS)) (hg : ∀ blk, a = some ⟨blk, 0, none⟩ → ∀ s ∈ l, GoodQ w blk s.1 ∧ GoodQ w blk s.2) (hok : ∀ s ∈ l, okM s.1.e = true) (hsz : n ≤ 2097152) :
 Calls Tryz.prog 147 #[.slice a n cap, .func (.func 148) #[] #[]] w fun e w' => e = .returned (.tuple #[]) ∧ ∃ l' : List Qsp, l'.Perm l ∧ l'.Pairwise (fun x y => cmpM x.1.e y.1.e ≤ 0) ∧ w'.ownsRow base 74 8 (.slice a n cap) n (l'.flatMap encS) ∧ w.grownBy w' (Value.ownBlock (.slice a n cap)) := by
 have eg : ∀ args w, (callFunc 148 args).run Tryz.prog w = .ok (.enter 148 args) w := enters_of Tryz.func148 (by kernel_rfl) rfl
 have hcon := sortOwnP sortSpans 8 (fun w => Tryz.isAgg74 w) (fun w => Tryz.sizeOf74 w) encS encS_len encS_one (fun x y => cmpM x.1.e y.1.e) (fun s => okM s.1.e = true ∧ ∀ blk, a = some ⟨blk, 0, none⟩ → GoodQ w blk s.1)
  (fun x hx => by rw [cmpM_self hx.1]; omega) (fun x y z hx hy hz => cmpM_trans hx.1 hy.1 hz.1) (fun x y z hx hy hz => cmp_nt hx.1 hy.1 hz.1) 148 #[] l hn (fun x hx => ⟨hok x hx, fun blk e => (hg blk e x hx).1⟩) w own eg
  (fun blk e W hW x y hx hy => by
   have gx := (hx.2 blk e).grown hW
   have gy := (hy.2 blk e).grown hW
   exact impl_byFrom x.1.e.K x.1.e.N x.2.e.K x.2.e.N y.1.e.K y.1.e.N y.2.e.K y.2.e.N x.1.e.F x.2.e.F y.1.e.F y.2.e.F x.1.c y.1.c (.slice x.2.a x.2.e.Z.length x.2.c) (.slice y.2.a y.2.e.Z.length y.2.c) gx.rd gy.rd gx.fl gy.fl (by have := okM_len hx.1; omega) (by have := okM_len hy.1; omega)) (by omega)
 refine hcon.mono ?_
 rintro e w' ⟨he, l', hp, hs, ho, hgr⟩
 refine ⟨he, l', hp, ?_, ho, hgr⟩
 refine List.Pairwise.imp_of_mem (fun {x y} hx hy h => ?_) hs
 have := cmpM_anti (hok x (hp.mem_iff.1 hx)) (hok y (hp.mem_iff.1 hy))
 omega
end Go.Proofs.YtnbpblephmjfnaaGreat
