/-
  DERIVED. GIVEN WITH THE SEED: THE CARDS: each row of YtkcapbjmhimceaaDoorRows.lean that lists a variable, with what it lists TIED to the program's text (the seventh form; the later family's looks); each row that meets fmt, with fmt's text TOLD by the authors' own Lean function (tested against real Go, not proved from fmt's source: count such statements apart). THE CARD IS WHAT COUNTS. Prove the row's statement (the work); the ties are given (YtkcapbjmhimceaaDoorTie.lean); close each card by the builder's one call (the guide's Derived/Test/ToyasCard.lean, 'card_holds'). Laid BY PROGRAM, IN A SANDBOX (cutbox-door.mjs). By AI agents, Wed Nov 11 2026. No macro, syntax, notation, axiom, sorry.
-/
import Derived.Test.YtkcapbjmhimceaaDoorRows
import GoSem.ClaimSeven
namespace Go.Proofs.YtkcapbjmhimceaaDoor
namespace Rows

/-- THE TIED CARD OF 'pentimentolaw04.RespReads'. -/
def respReadsCard : Claim7 := { stood := { row := respReadsRow, standIns := [], harness := (true, "55cbb762b0da2b4956d25068fdef5d52efbf3ed0b7d1978df801f36c92638cd9"), looks := true }, kinds := [], alts := [], laidByText := true, laidKinds := [.data, .data, .data, .data, .sentinel, .sentinel, .pinned], laidTests := true, laidLooks := .later }
def RespReadsCardSaid : Prop := Claim7.holds Tryd.pinned (.plain (OpenSpec.ofChange respReadsSpec)) respReadsCard

/-- THE TIED CARD OF 'pentimentolaw04.RespWrites'. -/
def respWritesCard : Claim7 := { stood := { row := respWritesRow, standIns := [], harness := (true, "55cbb762b0da2b4956d25068fdef5d52efbf3ed0b7d1978df801f36c92638cd9"), looks := true }, kinds := [], alts := [], laidByText := true, laidKinds := [.data, .data, .data, .data, .sentinel, .sentinel, .pinned], laidTests := true, laidLooks := .later }
def RespWritesCardSaid : Prop := Claim7.holds Tryd.pinned (.plain (OpenSpec.ofChange respWritesSpec)) respWritesCard

/-- THE TIED CARD OF 'pentimentolaw04.RespApart'. -/
def respApartCard : Claim7 := { stood := { row := respApartRow, standIns := [], harness := (true, "55cbb762b0da2b4956d25068fdef5d52efbf3ed0b7d1978df801f36c92638cd9"), looks := true }, kinds := [], alts := [], laidByText := true, laidKinds := [.data, .data, .data], laidTests := true, laidLooks := .later }
def RespApartCardSaid : Prop := Claim7.holds Tryd.pinned (.plain (OpenSpec.ofChange respApartSpec)) respApartCard

/-- THE TIED CARD OF 'pentimentolaw04.RespMakes'. -/
def respMakesCard : Claim7 := { stood := { row := respMakesRow, standIns := [], harness := (true, "55cbb762b0da2b4956d25068fdef5d52efbf3ed0b7d1978df801f36c92638cd9"), looks := true }, kinds := [], alts := [], laidByText := true, laidKinds := [.data, .data, .data], laidTests := true, laidLooks := .later }
def RespMakesCardSaid : Prop := Claim7.holds Tryd.pinned (.plain (OpenSpec.ofChange respMakesSpec)) respMakesCard

/-- THE TIED CARD OF 'pentimentolaw04.RespMany'. -/
def respManyCard : Claim7 := { stood := { row := respManyRow, standIns := [], harness := (true, "55cbb762b0da2b4956d25068fdef5d52efbf3ed0b7d1978df801f36c92638cd9"), looks := true }, kinds := [], alts := [], laidByText := true, laidKinds := [.data, .data, .data, .data, .sentinel, .sentinel, .pinned], laidTests := true, laidLooks := .later }
def RespManyCardSaid : Prop := Claim7.holds Tryd.pinned (.plain (OpenSpec.ofChange respManySpec)) respManyCard

/-- THE SECOND FORM's CARD OF 'pentimentolaw04.RespReads'. -/
def respReadsUptoCard : Claim7 := { stood := { row := respReadsUptoRow, standIns := [], harness := (true, "55cbb762b0da2b4956d25068fdef5d52efbf3ed0b7d1978df801f36c92638cd9"), looks := true }, kinds := [], alts := [], laidByText := true, laidKinds := [.data, .data, .data, .data, .sentinel, .sentinel, .pinned], laidTests := true, laidLooks := .later }
def RespReadsUptoCardSaid : Prop := Claim7.holds Tryd.pinned (.plain (OpenSpec.upto respReadsSpec)) respReadsUptoCard

/-- THE SECOND FORM's CARD OF 'pentimentolaw04.RespWrites'. -/
def respWritesUptoCard : Claim7 := { stood := { row := respWritesUptoRow, standIns := [], harness := (true, "55cbb762b0da2b4956d25068fdef5d52efbf3ed0b7d1978df801f36c92638cd9"), looks := true }, kinds := [], alts := [], laidByText := true, laidKinds := [.data, .data, .data, .data, .sentinel, .sentinel, .pinned], laidTests := true, laidLooks := .later }
def RespWritesUptoCardSaid : Prop := Claim7.holds Tryd.pinned (.plain (OpenSpec.upto respWritesSpec)) respWritesUptoCard

/-- THE SECOND FORM's CARD OF 'pentimentolaw04.RespApart'. -/
def respApartUptoCard : Claim7 := { stood := { row := respApartUptoRow, standIns := [], harness := (true, "55cbb762b0da2b4956d25068fdef5d52efbf3ed0b7d1978df801f36c92638cd9"), looks := true }, kinds := [], alts := [], laidByText := true, laidKinds := [.data, .data, .data], laidTests := true, laidLooks := .later }
def RespApartUptoCardSaid : Prop := Claim7.holds Tryd.pinned (.plain (OpenSpec.upto respApartSpec)) respApartUptoCard

/-- THE SECOND FORM's CARD OF 'pentimentolaw04.RespMakes'. -/
def respMakesUptoCard : Claim7 := { stood := { row := respMakesUptoRow, standIns := [], harness := (true, "55cbb762b0da2b4956d25068fdef5d52efbf3ed0b7d1978df801f36c92638cd9"), looks := true }, kinds := [], alts := [], laidByText := true, laidKinds := [.data, .data, .data], laidTests := true, laidLooks := .later }
def RespMakesUptoCardSaid : Prop := Claim7.holds Tryd.pinned (.plain (OpenSpec.upto respMakesSpec)) respMakesUptoCard

/-- THE SECOND FORM's CARD OF 'pentimentolaw04.RespMany'. -/
def respManyUptoCard : Claim7 := { stood := { row := respManyUptoRow, standIns := [], harness := (true, "55cbb762b0da2b4956d25068fdef5d52efbf3ed0b7d1978df801f36c92638cd9"), looks := true }, kinds := [], alts := [], laidByText := true, laidKinds := [.data, .data, .data, .data, .sentinel, .sentinel, .pinned], laidTests := true, laidLooks := .later }
def RespManyUptoCardSaid : Prop := Claim7.holds Tryd.pinned (.plain (OpenSpec.upto respManySpec)) respManyUptoCard
end Rows
end Go.Proofs.YtkcapbjmhimceaaDoor
