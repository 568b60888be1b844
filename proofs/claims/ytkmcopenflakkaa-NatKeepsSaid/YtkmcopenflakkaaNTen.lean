/-
  Nothing: what stood here stands in the base, pruned with these texts for roots.
-/
import Derived.Test.YtkmcopenflakkaaTK
import Derived.Test.YtkmcopenflakkaaQB
import Derived.Test.YtkmcopenflakkaaQ10
namespace Go.Proofs.Ytkmcopenflakkaa
end Go.Proofs.Ytkmcopenflakkaa
