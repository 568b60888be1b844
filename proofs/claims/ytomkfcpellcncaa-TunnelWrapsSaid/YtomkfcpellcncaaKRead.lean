/-
  The document's Read of frames.
-/
import Derived.Test.YtomkfcpellcncaaTK
import Derived.Test.YtomkfcpellcncaaKRef1
namespace Go.Proofs.Ytomkfcpellcncaa
open Go.RowKit Go.Lib
end Go.Proofs.Ytomkfcpellcncaa
