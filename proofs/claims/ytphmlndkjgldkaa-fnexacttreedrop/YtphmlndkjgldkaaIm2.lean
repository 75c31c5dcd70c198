/- The program's KeyOk. -/
import Derived.Test.YtphmlndkjgldkaaIm1
namespace Go.Proofs.Ytphmlndkjgldkaa
open Go.RowKit
theorem fbits_top (f : Nat) : fbits f = 9223372036854775808 ↔ f = 9223372036854775808 := by
 by_cases h : isN f = true
 · rw [fbits, if_pos h]
   constructor
   · intro h'; omega
   · intro h'; subst h'; exact absurd h (by decide)
 · rw [fbits, if_neg h]
set_option maxRecDepth 100000 in
set_option maxHeartbeats 1600000 in
theorem impl_KeyOk (K N : Int) (f : Nat) (ad : Option Addr) (n cap : Nat) (hf : f < 18446744073709551616) (hn : n ≤ 2097152) (w : World) :
 Calls Try.prog 89 #[.agg #[.int .i64 K, .int .i64 N, .float .f64 f, .slice ad n cap]] w fun e w' => e = .returned (.bool (okK K N f n)) ∧ Below w.heap.size w w' := by
 have hI := impl_ItemOk K N f ad n cap hf hn
 have hA : Below w.heap.size w (w.alloc (.cells #[.int .i64 K, .int .i64 N, .float .f64 f, .slice ad n cap] 32)) := (Below.refl _ _).alloc (Nat.le_refl _) _
 have hB := Box.new w K N f ad n cap 32
 by_cases hok : okI K N f n = true
 · rw [hok] at hI
   by_cases hK : K = 0
   · rw [show okK K N f n = false by rw [okK, decide_eq_false (by omega), Bool.and_false]]
     have q : (K != 0) = false := by simp [hK]
     clear hK hok
     go_enter Try.func89, Try.ntmps89
     go_wp2_with fail
     refine (hI _).mono ?_
     rintro e w1 ⟨rfl, b1⟩
     have B := hid (hA.trans (b1.mono hA.size))
     obtain ⟨c0, c1, c2, c3⟩ := hB.below b1 (by simp)
     clear hA b1 hB hI
     go_wp2_with fail
     go_ret
     exact ⟨rfl, B.out⟩
   · have q : (K != 0) = true := by simp [hK]
     by_cases hF : f = 9223372036854775808
     · rw [show okK K N f n = false by rw [okK, decide_eq_false (fun h => h.2 hF), Bool.and_false]]
       have q2 : ((fbits f : Int) != 9223372036854775808) = false := by rw [(fbits_top f).2 hF]; rfl
       clear hK hok hF
       go_enter Try.func89, Try.ntmps89
       go_wp2_with fail
       refine (hI _).mono ?_
       rintro e w1 ⟨rfl, b1⟩
       have B := hid (hA.trans (b1.mono hA.size))
       obtain ⟨c0, c1, c2, c3⟩ := hB.below b1 (by simp)
       clear hA b1 hB hI
       go_wp2_with fail
       refine (impl_FloatBits f hf _).mono ?_
       rintro e w2 ⟨rfl, rfl⟩
       go_wp2_with fail
       go_ret
       exact ⟨rfl, B.out⟩
     · rw [show okK K N f n = true by rw [okK, hok, decide_eq_true ⟨hK, hF⟩]; rfl]
       have q2 : ((fbits f : Int) != 9223372036854775808) = true := by
        have : ¬ fbits f = 9223372036854775808 := fun e => hF ((fbits_top f).1 e)
        simp only [bne_iff_ne]; omega
       clear hK hok hF
       go_enter Try.func89, Try.ntmps89
       go_wp2_with fail
       refine (hI _).mono ?_
       rintro e w1 ⟨rfl, b1⟩
       have B := hid (hA.trans (b1.mono hA.size))
       obtain ⟨c0, c1, c2, c3⟩ := hB.below b1 (by simp)
       clear hA b1 hB hI
       go_wp2_with fail
       refine (impl_FloatBits f hf _).mono ?_
       rintro e w2 ⟨rfl, rfl⟩
       go_wp2_with fail
       go_ret
       exact ⟨rfl, B.out⟩
 · have hok' : okI K N f n = false := by simpa using hok
   rw [show okK K N f n = false by rw [okK, hok', Bool.false_and]]
   rw [hok'] at hI
   clear hok hok'
   go_enter Try.func89, Try.ntmps89
   go_wp2_with fail
   refine (hI _).mono ?_
   rintro e w1 ⟨rfl, b1⟩
   have B := hid (hA.trans (b1.mono hA.size))
   clear hA b1 hB hI
   go_wp2_with fail
   go_ret
   exact ⟨rfl, B.out⟩
end Go.Proofs.Ytphmlndkjgldkaa
