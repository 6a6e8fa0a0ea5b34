/-
  DERIVED. GIVEN WITH THE SEED: THE CARDS: each row of YtpnghgihepnepaaDoorRows.lean that lists a variable, with what it lists TIED to the program's text (the seventh form; the later family's looks); each row that meets fmt, with fmt's text TOLD by the authors' own Lean function (tested against real Go, not proved from fmt's source: count such statements apart). THE CARD IS WHAT COUNTS. Prove the row's statement (the work); the ties are given (YtpnghgihepnepaaDoorTie.lean); close each card by the builder's one call (the guide's Derived/Test/ToyasCard.lean, 'card_holds'). Laid BY PROGRAM, IN A SANDBOX (cutbox-door.mjs). By AI agents, Wed Nov 11 2026. No macro, syntax, notation, axiom, sorry.
-/
import Derived.Test.YtpnghgihepnepaaDoorRows
import GoSem.ClaimSeven
namespace Go.Proofs.YtpnghgihepnepaaDoor
namespace Rows

/-- THE TIED CARD OF 'coverabilitylaw11.SemiflowExact'. -/
def semiflowExactCard : Claim7 := { stood := { row := semiflowExactRow, standIns := [], harness := (true, "ec53299849c6c5bac8ed6446dba06d90458644a3813029b2154d933d124c261e"), looks := false }, kinds := [], alts := [], laidByText := true, laidKinds := [.data, .data], laidTests := true, laidLooks := .later }
def SemiflowExactCardSaid : Prop := Claim7.holds Tryd.pinned (.plain (OpenSpec.ofChange semiflowExactSpec)) semiflowExactCard

/-- THE TIED CARD OF 'coverabilitylaw11.SemiflowHolds'. -/
def semiflowHoldsCard : Claim7 := { stood := { row := semiflowHoldsRow, standIns := [], harness := (true, "ec53299849c6c5bac8ed6446dba06d90458644a3813029b2154d933d124c261e"), looks := false }, kinds := [], alts := [], laidByText := true, laidKinds := [.data, .data], laidTests := true, laidLooks := .later }
def SemiflowHoldsCardSaid : Prop := Claim7.holds Tryd.pinned (.plain (OpenSpec.ofChange semiflowHoldsSpec)) semiflowHoldsCard

/-- THE TIED CARD OF 'coverabilitylaw11.SemiflowFinds'. -/
def semiflowFindsCard : Claim7 := { stood := { row := semiflowFindsRow, standIns := [], harness := (true, "ec53299849c6c5bac8ed6446dba06d90458644a3813029b2154d933d124c261e"), looks := false }, kinds := [], alts := [], laidByText := true, laidKinds := [.data, .data], laidTests := true, laidLooks := .later }
def SemiflowFindsCardSaid : Prop := Claim7.holds Tryd.pinned (.plain (OpenSpec.ofChange semiflowFindsSpec)) semiflowFindsCard

/-- THE TIED CARD OF 'coverabilitylaw11.SemiflowKeeps'. -/
def semiflowKeepsCard : Claim7 := { stood := { row := semiflowKeepsRow, standIns := [], harness := (true, "ec53299849c6c5bac8ed6446dba06d90458644a3813029b2154d933d124c261e"), looks := false }, kinds := [], alts := [], laidByText := true, laidKinds := [.data, .data], laidTests := true, laidLooks := .later }
def SemiflowKeepsCardSaid : Prop := Claim7.holds Tryd.pinned (.plain (OpenSpec.ofChange semiflowKeepsSpec)) semiflowKeepsCard

/-- THE TIED CARD OF 'coverabilitylaw11.SemiflowSums'. -/
def semiflowSumsCard : Claim7 := { stood := { row := semiflowSumsRow, standIns := [], harness := (true, "ec53299849c6c5bac8ed6446dba06d90458644a3813029b2154d933d124c261e"), looks := false }, kinds := [], alts := [], laidByText := true, laidKinds := [.data, .data], laidTests := true, laidLooks := .later }
def SemiflowSumsCardSaid : Prop := Claim7.holds Tryd.pinned (.plain (OpenSpec.ofChange semiflowSumsSpec)) semiflowSumsCard

/-- THE SECOND FORM's CARD OF 'coverabilitylaw11.SemiflowExact'. -/
def semiflowExactUptoCard : Claim7 := { stood := { row := semiflowExactUptoRow, standIns := [], harness := (true, "ec53299849c6c5bac8ed6446dba06d90458644a3813029b2154d933d124c261e"), looks := false }, kinds := [], alts := [], laidByText := true, laidKinds := [.data, .data], laidTests := true, laidLooks := .later }
def SemiflowExactUptoCardSaid : Prop := Claim7.holds Tryd.pinned (.plain (OpenSpec.upto semiflowExactSpec)) semiflowExactUptoCard

/-- THE SECOND FORM's CARD OF 'coverabilitylaw11.SemiflowHolds'. -/
def semiflowHoldsUptoCard : Claim7 := { stood := { row := semiflowHoldsUptoRow, standIns := [], harness := (true, "ec53299849c6c5bac8ed6446dba06d90458644a3813029b2154d933d124c261e"), looks := false }, kinds := [], alts := [], laidByText := true, laidKinds := [.data, .data], laidTests := true, laidLooks := .later }
def SemiflowHoldsUptoCardSaid : Prop := Claim7.holds Tryd.pinned (.plain (OpenSpec.upto semiflowHoldsSpec)) semiflowHoldsUptoCard

/-- THE SECOND FORM's CARD OF 'coverabilitylaw11.SemiflowFinds'. -/
def semiflowFindsUptoCard : Claim7 := { stood := { row := semiflowFindsUptoRow, standIns := [], harness := (true, "ec53299849c6c5bac8ed6446dba06d90458644a3813029b2154d933d124c261e"), looks := false }, kinds := [], alts := [], laidByText := true, laidKinds := [.data, .data], laidTests := true, laidLooks := .later }
def SemiflowFindsUptoCardSaid : Prop := Claim7.holds Tryd.pinned (.plain (OpenSpec.upto semiflowFindsSpec)) semiflowFindsUptoCard

/-- THE SECOND FORM's CARD OF 'coverabilitylaw11.SemiflowKeeps'. -/
def semiflowKeepsUptoCard : Claim7 := { stood := { row := semiflowKeepsUptoRow, standIns := [], harness := (true, "ec53299849c6c5bac8ed6446dba06d90458644a3813029b2154d933d124c261e"), looks := false }, kinds := [], alts := [], laidByText := true, laidKinds := [.data, .data], laidTests := true, laidLooks := .later }
def SemiflowKeepsUptoCardSaid : Prop := Claim7.holds Tryd.pinned (.plain (OpenSpec.upto semiflowKeepsSpec)) semiflowKeepsUptoCard

/-- THE SECOND FORM's CARD OF 'coverabilitylaw11.SemiflowSums'. -/
def semiflowSumsUptoCard : Claim7 := { stood := { row := semiflowSumsUptoRow, standIns := [], harness := (true, "ec53299849c6c5bac8ed6446dba06d90458644a3813029b2154d933d124c261e"), looks := false }, kinds := [], alts := [], laidByText := true, laidKinds := [.data, .data], laidTests := true, laidLooks := .later }
def SemiflowSumsUptoCardSaid : Prop := Claim7.holds Tryd.pinned (.plain (OpenSpec.upto semiflowSumsSpec)) semiflowSumsUptoCard
end Rows
end Go.Proofs.YtpnghgihepnepaaDoor
