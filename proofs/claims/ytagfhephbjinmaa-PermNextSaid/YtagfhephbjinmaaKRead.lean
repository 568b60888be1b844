/-
  The document's Read of frames.
-/
import Derived.Test.YtagfhephbjinmaaTK
import Derived.Test.YtagfhephbjinmaaKRef1
namespace Go.Proofs.Ytagfhephbjinmaa
open Go.RowKit Go.Lib
end Go.Proofs.Ytagfhephbjinmaa
