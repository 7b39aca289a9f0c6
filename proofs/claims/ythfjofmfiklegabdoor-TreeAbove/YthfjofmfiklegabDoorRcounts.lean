/- The document's Count: checked first. -/
import Derived.Test.YthfjofmfiklegabDoorRcount
namespace Go.Proofs.YthfjofmfiklegabDoor
open Go.RowKit
/-- Nodes and bytes, or nothing. -/
noncomputable def countS (T : Tr) : Nat × Nat := if (chk T 1 0).1 = 0 then (cn T, cb T) else (0, 0)
end Go.Proofs.YthfjofmfiklegabDoor
