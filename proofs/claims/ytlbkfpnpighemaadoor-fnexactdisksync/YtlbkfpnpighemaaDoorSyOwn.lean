/- For every disk DiskSync answers as its model does, writes nothing into its argument, and its answer has memory of its own. Conditions: the two listed variables hold what the program's text lays; the card ties them. -/
import Derived.Test.YtlbkfpnpighemaaDoorRows
import Derived.Test.YtlbkfpnpighemaaDoorLaSy
import Derived.Test.YtlbkfpnpighemaaDoorDq
import Derived.Test.YtlbkfpnpighemaaDoorVl
import Derived.Test.YtlbkfpnpighemaaDoorCards
import Derived.Test.YtlbkfpnpighemaaDoorTie
import Derived.SevenTiedAt
import Derived.ChangeSame
import Derived.ChangeVars
import Derived.JoinedOf
import Derived.WalkKit
import Derived.ProofKit
import Derived.OpenShut
import Derived.ShutString
import Derived.ChangeOld
import Derived.Below
namespace Go.Proofs.YtlbkfpnpighemaaDoor.fnExactDiskSync
open Go.ChangeShapes Go.WideShapes Go.ChangeAt Go.RowKit
open Go.ChangeMaps (open_string shut_string)
set_option linter.unusedVariables false

theorem own : ownKnob Tryd.prog.godebug = none := by kernel_rfl
theorem laidOut : laidOutB Tryd.prog = true := by kernel_rfl

set_option maxRecDepth 100000 in
theorem lifted (os : Os) (started : os.Started) (H : Type) (enc : TypeId × Value → H) :
    ReturnsInHanded {} Tryd.checked os 6 .any (fun w args => (Rows.fnExactDiskSyncSpec.pre enc Tryd.prog Tryd.f6 [] false w args ∧ laidMetH Tryd.prog laidL w) ∧ sizedMet enc Tryd.prog Tryd.f6 (OpenSpec.ofChange Rows.fnExactDiskSyncSpec) false w args)
      (Rows.fnExactDiskSyncSpec.post enc Tryd.prog Tryd.f6 false true false false) := by
  refine returnsInHanded_of_change_and (C := Tryd.checked) (X := fun w _ => laidMetH Tryd.prog laidL w) (fun _ _ _ hh h => h.of_heap hh) own started (by kernel_rfl) Tryd.func6
    (ChangeSpec.witness_at (enc := enc) (C := Tryd.checked) (os := os) (X := fun w _ => laidMetH Tryd.prog laidL w) false (laidWorld os) #[.agg #[.slice none 0 0, .slice none 0 0, .int .i64 0, .bool false]] 8 rfl (by kernel_rfl) (by kernel_rfl) (by kernel_rfl) (by kernel_rfl) (by kernel_rfl) (laid_met os _)) ?_
  intro W base args ds gs before hval0 hW hcnd _ hL _
  have hval : ∀ (j : Nat) t v, Tryd.f6.params[j]? = some t → args[j]? = some v → Value.okWide Tryd.prog W .any base t v := hval0
  have hW' := hW
  obtain ⟨p, q, hA0, hV0, rfl, hfz, hnd⟩ := hW
  have hV : DataW.TrodVars enc Tryd.prog W (fun _ => true) [nE, nF] gs q := hV0
  obtain ⟨aE, aF, cF, cE, tF, tE, hvE, hvF, hSn⟩ := sents_of hL
  have vr : ∀ {X : World}, X.var? Tryd.prog nE = some #[.iface 114 (.pointer (some aE))] → X.var? Tryd.prog nF = some #[.iface 114 (.pointer (some aF))] → ∀ sp : Nat → Bool,
      DataW.TrodVars enc Tryd.prog X sp [nE, nF] [tok enc (.iface 114 (.pointer (some aE))), tok enc (.iface 114 (.pointer (some aF)))] [.cell 1 0, .cell 0 0] :=
    fun xE xF sp => vars_read2 enc Tryd.gE Tryd.gEType Tryd.underlying68 xE trivial Tryd.gF Tryd.gFType Tryd.underlying68 xF trivial sp
  have hA : DataW.TrodAll enc Tryd.prog W 0 (fun _ => true) true Tryd.f6.params.toList args.toList ds p := hA0
  rw [Tryd.params6] at hA hval
  obtain ⟨v0, vs0, d0, ds0, p0, q0, hargs, rfl, rfl, h0, r0⟩ := trodAll_cons hA
  obtain ⟨rfl, rfl, rfl⟩ := trodAll_nil r0
  obtain rfl : args = #[v0] := by cases args; simp_all
  obtain ⟨rfl, rfl⟩ := hV.unique (vr hvE hvF _)
  have k0 := h0
  have lt0 : ∀ x ∈ p0, x.block < W.heap.size := by obtain ⟨m, hm⟩ := k0; exact DataW.trod_lt m _ _ _ hm
  obtain ⟨aS0, nS0, cS0, aW0, nW0, cW0, F0, D0, ss0, ws0, rfl, lS0, lW0, mS0, mW0, rd0, bF0⟩ := disk_in (hval 0 47 v0 rfl rfl) h0
  clear hA0 hval0
  refine (exactDiskSync cS0 cW0 F0 D0 rd0 lS0 lW0 mS0 mW0 hSn bF0.2).mono fun e W' ⟨he, bel⟩ => ?_
  subst he
  exact ⟨_, rfl, _, _, _, [], _, _, hW', trodAll_mk1 (shut_bool Tryd.underlying4 _), (trodAll_cons_mk (Below.trod laidOut (by kernel_rfl) (of_decide_eq_true (by kernel_rfl)) k0 bel lt0) trodAll_mk0), vr (var_kept Tryd.gE hvE bel) (var_kept Tryd.gF hvF bel) _, bel.frame _, fun h => by cases h⟩

theorem over : Rows.fnExactDiskSyncRow.holds Tryd.pinned (OpenSpec.ofChange Rows.fnExactDiskSyncSpec) :=
  OpenClaim.holds_of_wide 6 Tryd.f6 rfl rfl rfl rfl rfl rfl rfl ⟨rfl, rfl, rfl, rfl, rfl⟩ rfl rfl rfl rfl rfl (by kernel_rfl) Tryd.func6 (by kernel_rfl)
    (of_decide_eq_true (by kernel_rfl)) (by unfold Func.isWrapper; first | (rw [if_pos (by decide +kernel)]; kernel_rfl) | (rw [if_neg (by decide +kernel)]; exact ⟨rfl, rfl⟩))
    (fun os started H enc _ => lifted os started H enc)

theorem card : Rows.FnExactDiskSyncCardSaid :=
  Claim7.holds_tied_plain_at .later [] [.sentinel, .sentinel] true Rows.fnExactDiskSyncCard.stood.harness true
    over (fun _ h => by cases h) (by kernel_rfl) (fun _ h => by cases h) fnExactDiskSync_row_tie rfl ⟨rfl, rfl⟩ (by kernel_rfl) rfl
    (fun f fn hf hfn => by
      obtain rfl : f = 6 := Option.some.inj ((show Tryd.prog.funcNamed "loop.example/g00252/laws.FnExactDiskSync" = some 6 by kernel_rfl).symm.trans hf) |>.symm
      obtain rfl : fn = Tryd.f6 := (Option.some.inj (Tryd.func6.symm.trans hfn)).symm
      exact ⟨by kernel_rfl, fun j t ht => by
        rw [Tryd.params6] at ht
        rcases j with _ | j
        · obtain rfl : t = 47 := by simpa using ht.symm
          exact (show Tryd.prog.wantsStandIn 47 = false by kernel_rfl)
        · simp at ht⟩)
    (by kernel_rfl)
end Go.Proofs.YtlbkfpnpighemaaDoor.fnExactDiskSync
namespace Go.Proofs.YtlbkfpnpighemaaDoor
theorem fnExactDiskSyncCard_holds : Rows.FnExactDiskSyncCardSaid := fnExactDiskSync.card
end Go.Proofs.YtlbkfpnpighemaaDoor
