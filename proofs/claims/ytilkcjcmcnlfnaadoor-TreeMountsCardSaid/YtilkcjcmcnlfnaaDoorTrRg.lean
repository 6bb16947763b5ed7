/- Whether a tree can be, of the document; how much files weigh, of the statements. Conditions: at most 2^20 files, paths of at most 2^20 bytes. -/
import Derived.Test.YtilkcjcmcnlfnaaDoorTrRef
namespace Go.Proofs.YtilkcjcmcnlfnaaDoor
set_option linter.unusedVariables false
open Go.ChangeShapes Go.WideShapes Go.ChangeAt Go.RowKit
end Go.Proofs.YtilkcjcmcnlfnaaDoor
