/-
  DERIVED. GIVEN WITH THE SEED: THE CARDS: each row of YtnnnehjlegjejaaDoorRows.lean that lists a variable, with what it lists TIED to the program's text (the seventh form; the later family's looks); each row that meets fmt, with fmt's text TOLD by the authors' own Lean function (tested against real Go, not proved from fmt's source: count such statements apart). THE CARD IS WHAT COUNTS. Prove the row's statement (the work); the ties are given (YtnnnehjlegjejaaDoorTie.lean); close each card by the builder's one call (the guide's Derived/Test/ToyasCard.lean, 'card_holds'). Laid BY PROGRAM, IN A SANDBOX (cutbox-door.mjs). By AI agents, Wed Nov 11 2026. No macro, syntax, notation, axiom, sorry.
-/
import Derived.Test.YtnnnehjlegjejaaDoorRows
import GoSem.ClaimSeven
namespace Go.Proofs.YtnnnehjlegjejaaDoor
namespace Rows

/-- THE TIED CARD OF 'laws.FnDisks'. -/
def fnDisksCard : Claim7 := { stood := { row := fnDisksRow, standIns := [], harness := (true, "d98ceee5d15f8a471ed3ba3ff515eed2cfaa51891aad5c182d3b583d9df4f475"), looks := true }, kinds := [], alts := [], laidByText := true, laidKinds := [.sentinel, .sentinel], laidTests := true, laidLooks := .later }
def FnDisksCardSaid : Prop := Claim7.holds Tryd.pinned (.plain (OpenSpec.ofChange fnDisksSpec)) fnDisksCard

/-- THE TIED CARD OF 'laws.FnFuses'. -/
def fnFusesCard : Claim7 := { stood := { row := fnFusesRow, standIns := [], harness := (true, "d98ceee5d15f8a471ed3ba3ff515eed2cfaa51891aad5c182d3b583d9df4f475"), looks := true }, kinds := [], alts := [], laidByText := true, laidKinds := [.sentinel, .sentinel], laidTests := true, laidLooks := .later }
def FnFusesCardSaid : Prop := Claim7.holds Tryd.pinned (.plain (OpenSpec.ofChange fnFusesSpec)) fnFusesCard

/-- THE TIED CARD OF 'laws.FnExactDiskWrite'. -/
def fnExactDiskWriteCard : Claim7 := { stood := { row := fnExactDiskWriteRow, standIns := [], harness := (true, "d98ceee5d15f8a471ed3ba3ff515eed2cfaa51891aad5c182d3b583d9df4f475"), looks := true }, kinds := [], alts := [], laidByText := true, laidKinds := [.sentinel, .sentinel], laidTests := true, laidLooks := .later }
def FnExactDiskWriteCardSaid : Prop := Claim7.holds Tryd.pinned (.plain (OpenSpec.ofChange fnExactDiskWriteSpec)) fnExactDiskWriteCard

/-- THE TIED CARD OF 'laws.FnExactDiskSync'. -/
def fnExactDiskSyncCard : Claim7 := { stood := { row := fnExactDiskSyncRow, standIns := [], harness := (true, "d98ceee5d15f8a471ed3ba3ff515eed2cfaa51891aad5c182d3b583d9df4f475"), looks := true }, kinds := [], alts := [], laidByText := true, laidKinds := [.sentinel, .sentinel], laidTests := true, laidLooks := .later }
def FnExactDiskSyncCardSaid : Prop := Claim7.holds Tryd.pinned (.plain (OpenSpec.ofChange fnExactDiskSyncSpec)) fnExactDiskSyncCard

/-- THE SECOND FORM's CARD OF 'laws.FnDisks'. -/
def fnDisksUptoCard : Claim7 := { stood := { row := fnDisksUptoRow, standIns := [], harness := (true, "d98ceee5d15f8a471ed3ba3ff515eed2cfaa51891aad5c182d3b583d9df4f475"), looks := true }, kinds := [], alts := [], laidByText := true, laidKinds := [.sentinel, .sentinel], laidTests := true, laidLooks := .later }
def FnDisksUptoCardSaid : Prop := Claim7.holds Tryd.pinned (.plain (OpenSpec.upto fnDisksSpec)) fnDisksUptoCard

/-- THE SECOND FORM's CARD OF 'laws.FnFuses'. -/
def fnFusesUptoCard : Claim7 := { stood := { row := fnFusesUptoRow, standIns := [], harness := (true, "d98ceee5d15f8a471ed3ba3ff515eed2cfaa51891aad5c182d3b583d9df4f475"), looks := true }, kinds := [], alts := [], laidByText := true, laidKinds := [.sentinel, .sentinel], laidTests := true, laidLooks := .later }
def FnFusesUptoCardSaid : Prop := Claim7.holds Tryd.pinned (.plain (OpenSpec.upto fnFusesSpec)) fnFusesUptoCard

/-- THE SECOND FORM's CARD OF 'laws.FnExactDiskWrite'. -/
def fnExactDiskWriteUptoCard : Claim7 := { stood := { row := fnExactDiskWriteUptoRow, standIns := [], harness := (true, "d98ceee5d15f8a471ed3ba3ff515eed2cfaa51891aad5c182d3b583d9df4f475"), looks := true }, kinds := [], alts := [], laidByText := true, laidKinds := [.sentinel, .sentinel], laidTests := true, laidLooks := .later }
def FnExactDiskWriteUptoCardSaid : Prop := Claim7.holds Tryd.pinned (.plain (OpenSpec.upto fnExactDiskWriteSpec)) fnExactDiskWriteUptoCard

/-- THE SECOND FORM's CARD OF 'laws.FnExactDiskSync'. -/
def fnExactDiskSyncUptoCard : Claim7 := { stood := { row := fnExactDiskSyncUptoRow, standIns := [], harness := (true, "d98ceee5d15f8a471ed3ba3ff515eed2cfaa51891aad5c182d3b583d9df4f475"), looks := true }, kinds := [], alts := [], laidByText := true, laidKinds := [.sentinel, .sentinel], laidTests := true, laidLooks := .later }
def FnExactDiskSyncUptoCardSaid : Prop := Claim7.holds Tryd.pinned (.plain (OpenSpec.upto fnExactDiskSyncSpec)) fnExactDiskSyncUptoCard
end Rows
end Go.Proofs.YtnnnehjlegjejaaDoor
