/- What the document's own answers for layer 2 are on two numbers: one contract each. -/
import Derived.Test.YtbkjmmeipbbaaaaDoorFixCallsC
namespace Go.Proofs.YtbkjmmeipbbaaaaDoor
open Go.ChangeShapes Go.WideShapes Go.ChangeAt Go.RowKit

/-- a number and the kind of an error -/
def two (p : Int × Int) : Value := .tuple #[.int .i64 p.1, .int .i64 p.2]

end Go.Proofs.YtbkjmmeipbbaaaaDoor
