/- Rows of words that a call builds by append: what holds of them, and the law of one word more. -/
import Derived.Test.YtfjlhbamldgklaaWords
import Derived.OwnWalk
set_option linter.unusedVariables false
namespace Go.Proofs.Ytfjlhbamldgklaa
open Go.RowKit
namespace Ww

end Ww
end Go.Proofs.Ytfjlhbamldgklaa
