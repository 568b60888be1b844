/-
  The document's Read of frames.
-/
import Derived.Test.YthfeamkomhiemaaTK
import Derived.Test.YthfeamkomhiemaaKRef1
namespace Go.Proofs.Ythfeamkomhiemaa
open Go.RowKit Go.Lib
end Go.Proofs.Ythfeamkomhiemaa
