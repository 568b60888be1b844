/-
  The document's header with a Type; the statements' own tuple.
-/
import Derived.Test.YtagfhephbjinmaaKRead
namespace Go.Proofs.Ytagfhephbjinmaa
open Go.RowKit Go.Lib
end Go.Proofs.Ytagfhephbjinmaa
