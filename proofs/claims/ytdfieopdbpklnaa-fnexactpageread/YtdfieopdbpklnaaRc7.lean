/- The contracts of what PageRead defers: it recovers from a lack of bytes. No conditions. -/
import Derived.Test.YtdfieopdbpklnaaRp7
import Derived.Defers
import Derived.Recover
namespace Go.Proofs.Ytdfieopdbpklnaa
open Go.RowKit
set_option maxRecDepth 100000

theorem as_lack (v : Value) (w : World) : (Instr.typeAssert (.iface 70 v) 20 70 true).run Try.prog w = .ok (.tuple #[v, .bool true]) w := by kernel_rfl
theorem guard_idle (w : World) :
    CallsD Try.prog 56 #[] .returning w fun e u' w' => e = .returned (.tuple #[]) ∧ u' = .returning ∧ w' = w := by
  refine callsD_of_wpS Try.func56 rfl fun c₀ cs hu => ?_
  apply wpS_seq
  apply wpS_region
  simp [wpOpsS, go_sem, recoverD, hu, Try.ntmps56, Exit.thenS]
  refine wpS_of_wp ?_
  rw [show ((Array.replicate 14 undef).setIfInBounds 3 Value.nilIface).setIfInBounds 0 Value.nilIface = #[.nilIface, undef, undef, .nilIface, undef, undef, undef, undef, undef, undef, undef, undef, undef, undef] from rfl]
  go_wp2_with fail
  cases c₀
  simp_all [bodyPostS, results, Try.results56]
theorem guard_panicking (t : Int) (w : World) :
    CallsD Try.prog 56 #[] (.panicking [{ v := .iface 70 (.int .i64 t), recovered := false }]) w fun e u' w' => e = .returned (.tuple #[]) ∧ u' = .panicking [{ v := .iface 70 (.int .i64 t), recovered := true }] ∧ w' = w := by
  refine callsD_of_wpS Try.func56 rfl fun c₀ cs hu => ?_
  apply wpS_seq
  apply wpS_region
  simp [wpOpsS, go_sem, recoverD, hu, Try.ntmps56, Exit.thenS]
  refine wpS_of_wp ?_
  rw [show ((Array.replicate 14 undef).setIfInBounds 3 (Value.iface 70 (.int .i64 t))).setIfInBounds 0 (Value.iface 70 (.int .i64 t)) = #[.iface 70 (.int .i64 t), undef, undef, .iface 70 (.int .i64 t), undef, undef, undef, undef, undef, undef, undef, undef, undef, undef] from rfl]
  have ha := as_lack (.int .i64 t) w
  go_wp2_with fail
  cases c₀
  simp_all [bodyPostS, results, Try.results56]
end Go.Proofs.Ytdfieopdbpklnaa
