/-
  Nothing: what stood here stands in the base, pruned with these texts for roots.
-/
import Derived.Test.YtkmcopenflakkaaNTen
import Derived.Test.YtkmcopenflakkaaQ8
import Derived.Test.YtkmcopenflakkaaQ10
import Derived.Test.YtkmcopenflakkaaKRef1
namespace Go.Proofs.Ytkmcopenflakkaa
end Go.Proofs.Ytkmcopenflakkaa
