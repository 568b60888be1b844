/-
  The document's header with a Type; the statements' own tuple.
-/
import Derived.Test.YthfeamkomhiemaaKRead
namespace Go.Proofs.Ythfeamkomhiemaa
open Go.RowKit Go.Lib
end Go.Proofs.Ythfeamkomhiemaa
