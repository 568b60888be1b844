/-
  Whole flows and keys loaded in the laws' walks (stage 21): FLLd's.
-/
import Derived.Test.YtfbiinipiklkaaaFLAwake
import Derived.Test.YtfbiinipiklkaaaFLOpen
import Derived.Test.YtfbiinipiklkaaaFLAlone
import Derived.Test.YtfbiinipiklkaaaFLLd
