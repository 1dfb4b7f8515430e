/-
  DERIVED. GIVEN WITH THE SEED: THE CARDS: each row of YtgofhgbffgmjhaaDoorRows.lean that lists a variable, with what it lists TIED to the program's text (the seventh form; the later family's looks); each row that meets fmt, with fmt's text TOLD by the authors' own Lean function (tested against real Go, not proved from fmt's source: count such statements apart). THE CARD IS WHAT COUNTS. Prove the row's statement (the work); the ties are given (YtgofhgbffgmjhaaDoorTie.lean); close each card by the builder's one call (the guide's Derived/Test/ToyasCard.lean, 'card_holds'). Laid BY PROGRAM, IN A SANDBOX (cutbox-door.mjs). By AI agents, Wed Nov 11 2026. No macro, syntax, notation, axiom, sorry.
-/
import Derived.Test.YtgofhgbffgmjhaaDoorRows
import GoSem.ClaimSeven
namespace Go.Proofs.YtgofhgbffgmjhaaDoor
namespace Rows

/-- THE TIED CARD OF 'maquettelaw05.PrefixText'. -/
def prefixTextCard : Claim7 := { stood := { row := prefixTextRow, standIns := [], harness := (true, "5a8706bb65c9c8d8b87b4bdd992a7e6ccde5bface543ab968e50e90ec83a6246"), looks := false }, kinds := [], alts := [], laidByText := true, laidKinds := [.data, .data, .data], laidTests := true, laidLooks := .later }
def PrefixTextCardSaid : Prop := Claim7.holds Tryd.pinned (.plain (OpenSpec.ofChange prefixTextSpec)) prefixTextCard

/-- THE TIED CARD OF 'maquettelaw05.PrefixParse'. -/
def prefixParseCard : Claim7 := { stood := { row := prefixParseRow, standIns := [], harness := (true, "5a8706bb65c9c8d8b87b4bdd992a7e6ccde5bface543ab968e50e90ec83a6246"), looks := false }, kinds := [], alts := [], laidByText := true, laidKinds := [.data, .data, .data], laidTests := true, laidLooks := .later }
def PrefixParseCardSaid : Prop := Claim7.holds Tryd.pinned (.plain (OpenSpec.ofChange prefixParseSpec)) prefixParseCard

/-- THE TIED CARD OF 'maquettelaw05.PrefixCovers'. -/
def prefixCoversCard : Claim7 := { stood := { row := prefixCoversRow, standIns := [], harness := (true, "5a8706bb65c9c8d8b87b4bdd992a7e6ccde5bface543ab968e50e90ec83a6246"), looks := false }, kinds := [], alts := [], laidByText := true, laidKinds := [.data, .data, .data], laidTests := true, laidLooks := .later }
def PrefixCoversCardSaid : Prop := Claim7.holds Tryd.pinned (.plain (OpenSpec.ofChange prefixCoversSpec)) prefixCoversCard

/-- THE TIED CARD OF 'maquettelaw05.PrefixOrder'. -/
def prefixOrderCard : Claim7 := { stood := { row := prefixOrderRow, standIns := [], harness := (true, "5a8706bb65c9c8d8b87b4bdd992a7e6ccde5bface543ab968e50e90ec83a6246"), looks := false }, kinds := [], alts := [], laidByText := true, laidKinds := [.data, .data, .data], laidTests := true, laidLooks := .later }
def PrefixOrderCardSaid : Prop := Claim7.holds Tryd.pinned (.plain (OpenSpec.ofChange prefixOrderSpec)) prefixOrderCard

/-- THE TIED CARD OF 'maquettelaw05.PrefixLess'. -/
def prefixLessCard : Claim7 := { stood := { row := prefixLessRow, standIns := [], harness := (true, "5a8706bb65c9c8d8b87b4bdd992a7e6ccde5bface543ab968e50e90ec83a6246"), looks := false }, kinds := [], alts := [], laidByText := true, laidKinds := [.data, .data, .data], laidTests := true, laidLooks := .later }
def PrefixLessCardSaid : Prop := Claim7.holds Tryd.pinned (.plain (OpenSpec.ofChange prefixLessSpec)) prefixLessCard

/-- THE TIED CARD OF 'maquettelaw05.PrefixEnds'. -/
def prefixEndsCard : Claim7 := { stood := { row := prefixEndsRow, standIns := [], harness := (true, "5a8706bb65c9c8d8b87b4bdd992a7e6ccde5bface543ab968e50e90ec83a6246"), looks := false }, kinds := [], alts := [], laidByText := true, laidKinds := [.data, .data, .data], laidTests := true, laidLooks := .later }
def PrefixEndsCardSaid : Prop := Claim7.holds Tryd.pinned (.plain (OpenSpec.ofChange prefixEndsSpec)) prefixEndsCard

/-- THE SECOND FORM's CARD OF 'maquettelaw05.PrefixText'. -/
def prefixTextUptoCard : Claim7 := { stood := { row := prefixTextUptoRow, standIns := [], harness := (true, "5a8706bb65c9c8d8b87b4bdd992a7e6ccde5bface543ab968e50e90ec83a6246"), looks := false }, kinds := [], alts := [], laidByText := true, laidKinds := [.data, .data, .data], laidTests := true, laidLooks := .later }
def PrefixTextUptoCardSaid : Prop := Claim7.holds Tryd.pinned (.plain (OpenSpec.upto prefixTextSpec)) prefixTextUptoCard

/-- THE SECOND FORM's CARD OF 'maquettelaw05.PrefixParse'. -/
def prefixParseUptoCard : Claim7 := { stood := { row := prefixParseUptoRow, standIns := [], harness := (true, "5a8706bb65c9c8d8b87b4bdd992a7e6ccde5bface543ab968e50e90ec83a6246"), looks := false }, kinds := [], alts := [], laidByText := true, laidKinds := [.data, .data, .data], laidTests := true, laidLooks := .later }
def PrefixParseUptoCardSaid : Prop := Claim7.holds Tryd.pinned (.plain (OpenSpec.upto prefixParseSpec)) prefixParseUptoCard

/-- THE SECOND FORM's CARD OF 'maquettelaw05.PrefixCovers'. -/
def prefixCoversUptoCard : Claim7 := { stood := { row := prefixCoversUptoRow, standIns := [], harness := (true, "5a8706bb65c9c8d8b87b4bdd992a7e6ccde5bface543ab968e50e90ec83a6246"), looks := false }, kinds := [], alts := [], laidByText := true, laidKinds := [.data, .data, .data], laidTests := true, laidLooks := .later }
def PrefixCoversUptoCardSaid : Prop := Claim7.holds Tryd.pinned (.plain (OpenSpec.upto prefixCoversSpec)) prefixCoversUptoCard

/-- THE SECOND FORM's CARD OF 'maquettelaw05.PrefixOrder'. -/
def prefixOrderUptoCard : Claim7 := { stood := { row := prefixOrderUptoRow, standIns := [], harness := (true, "5a8706bb65c9c8d8b87b4bdd992a7e6ccde5bface543ab968e50e90ec83a6246"), looks := false }, kinds := [], alts := [], laidByText := true, laidKinds := [.data, .data, .data], laidTests := true, laidLooks := .later }
def PrefixOrderUptoCardSaid : Prop := Claim7.holds Tryd.pinned (.plain (OpenSpec.upto prefixOrderSpec)) prefixOrderUptoCard

/-- THE SECOND FORM's CARD OF 'maquettelaw05.PrefixLess'. -/
def prefixLessUptoCard : Claim7 := { stood := { row := prefixLessUptoRow, standIns := [], harness := (true, "5a8706bb65c9c8d8b87b4bdd992a7e6ccde5bface543ab968e50e90ec83a6246"), looks := false }, kinds := [], alts := [], laidByText := true, laidKinds := [.data, .data, .data], laidTests := true, laidLooks := .later }
def PrefixLessUptoCardSaid : Prop := Claim7.holds Tryd.pinned (.plain (OpenSpec.upto prefixLessSpec)) prefixLessUptoCard

/-- THE SECOND FORM's CARD OF 'maquettelaw05.PrefixEnds'. -/
def prefixEndsUptoCard : Claim7 := { stood := { row := prefixEndsUptoRow, standIns := [], harness := (true, "5a8706bb65c9c8d8b87b4bdd992a7e6ccde5bface543ab968e50e90ec83a6246"), looks := false }, kinds := [], alts := [], laidByText := true, laidKinds := [.data, .data, .data], laidTests := true, laidLooks := .later }
def PrefixEndsUptoCardSaid : Prop := Claim7.holds Tryd.pinned (.plain (OpenSpec.upto prefixEndsSpec)) prefixEndsUptoCard
end Rows
end Go.Proofs.YtgofhgbffgmjhaaDoor
