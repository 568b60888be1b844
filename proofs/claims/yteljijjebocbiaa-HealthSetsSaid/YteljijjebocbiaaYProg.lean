/-
  The program keeps the contracts that the laws of stage 19 ask for.
-/
import Derived.Test.YteljijjebocbiaaYP4
import Derived.Test.YteljijjebocbiaaYP6
import Derived.Test.YteljijjebocbiaaYC
namespace Go.Proofs.Yteljijjebocbiaa
open Go.RowKit Go.Lib

theorem healthC : HealthC where
  step h b rise fall W hr _ _ _ _ _ := pstep_any h b rise fall hr.1 hr.2 W
  run h A n c l rise fall W hr _ hn _ _ _ _ _ _ hI := prun_any c (by omega) h hr rise fall W (Nat.le_refl _) hI
  sync A A2 n n2 c c2 l ns W hn hn2 _ _ _ _ hl hns h h2 := psync_any c c2 (by omega) (by omega) (fun x hx => by have := (hl x hx).2; unfold maxLen; omega) (fun x hx => by have := hns x hx; unfold maxLen; omega) W (Nat.le_refl _) h h2
  set A n c l s b rise fall W hn _ _ hl hs _ _ _ _ h := pset_any c (by omega) (fun x hx => (hl x hx).1) (fun x hx => by have := (hl x hx).2; unfold maxLen; omega) s (by unfold maxLen; omega) b rise fall W (Nat.le_refl _) h
  down A n c l W hn _ _ _ h := pdown_any c (by omega) W (Nat.le_refl _) h
end Go.Proofs.Yteljijjebocbiaa
