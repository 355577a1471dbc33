/-
  What the program says of bytes.
-/
import Derived.Test.YtnbdpalbompjlaaDoorRows
import Derived.WalkKit
namespace Go.Proofs.YtnbdpalbompjlaaDoor
open Go.RowKit
set_option maxRecDepth 10000

theorem Tryd.info5 : (Tryd.prog.info? 5).map (fun i => (i.zero, i.size, i.bytes)) = some (some (.int .u8 0), 1, 1) := by kernel_rfl
end Go.Proofs.YtnbdpalbompjlaaDoor
