/- What a strings.Builder does: its check, and WriteString. -/
import Derived.Test.YtcjdjifooaeomaaDoorHB
import Derived.Lib.Strings
import Derived.Lib.Slices
import Derived.Lib.Walk
import Derived.Lib.Builder
import Derived.Lib.AppendStr
import Derived.Lib.UnsafeStr
import Derived.Lib.OthersKept
import Derived.Laws.Externs
import Derived.Laws.IdiomCopy
namespace Go.Proofs.YtcjdjifooaeomaaDoor
open Go.RowKit

theorem infoBy : (Tryd.prog.info? 5).map (fun i => (i.zero, i.size, i.bytes)) = some (some (.int .u8 0), 1, 1) := by kernel_rfl
theorem bytes_len (l : List UInt8) : (Lib.byteCells l).length = l.length := Lib.byteCells_length l
end Go.Proofs.YtcjdjifooaeomaaDoor
