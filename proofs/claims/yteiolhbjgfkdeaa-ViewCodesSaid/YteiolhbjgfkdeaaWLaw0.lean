/- same, join and awake. -/
import Derived.Test.YteiolhbjgfkdeaaWOpen
import Derived.Test.YteiolhbjgfkdeaaWMath3
namespace Go.Proofs.Yteiolhbjgfkdeaa.W
set_option linter.unusedVariables false
open Go.RowKit
open Go.Lib (byteCells byteCells_length byteCells_append byteCells_snoc)

end Go.Proofs.Yteiolhbjgfkdeaa.W
