/-
  A row of the call's own memory, later, beside what the program's calls come to.
-/
import Derived.Test.YtncbmjpfbkngdaaLinC
import Derived.Test.YtncbmjpfbkngdaaRefInts
import Derived.Test.YtncbmjpfbkngdaaInqSame
namespace Go.Proofs.Ytncbmjpfbkngdaa
set_option maxRecDepth 100000
set_option linter.unusedVariables false
set_option linter.unusedSimpArgs false
end Go.Proofs.Ytncbmjpfbkngdaa
