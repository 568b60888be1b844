/-
  The program's contracts (stage 18): all that the laws ask of pool.
-/
import Derived.Test.YtajmppaodhpmgaaUP4
import Derived.Test.YtajmppaodhpmgaaUP6
import Derived.Test.YtajmppaodhpmgaaUP8
import Derived.Test.YtajmppaodhpmgaaUP15
import Derived.Test.YtajmppaodhpmgaaUP16
namespace Go.Proofs.Ytajmppaodhpmgaa
set_option maxRecDepth 100000
open Go.RowKit Go.Lib

theorem right_nm {p : Pl} (hp : RightP p) : ∀ x, x ∈ p.l → x.nm.length ≤ 1000000 := fun x hx => by
  have h := hp.each x hx
  unfold rightBk fairB nameB at h
  simp only [Bool.and_eq_true, decide_eq_true_eq] at h
  have := h.1.1.1.1.1.2
  omega
theorem poolC : PoolC where
  name s hs w := (pname_any s (by omega) w).mono fun _ _ h => ⟨h.1, by rw [← h.2]; exact Below.refl _ _⟩
  right c _ _ _ hn hx w hB h := pright_any c (by omega) (fun x hm => by have := hx x hm; omega) w hB h
  same c c' _ _ _ _ _ _ hn hn' w hB h h' := psame_any c c' (by omega) (by omega) w hB h h'
  find c _ _ _ hp hn s _ w hB h := pfind_any c hp (by omega) s w hB h
  do_ c _ _ _ hp hn o _ hb w hB h := pdo_any c hp (by omega) o (by omega) w hB h
  shares c c2 _ _ _ _ _ hp _ hn hn2 hds w hB h h2 := pshares_any c c2 (by omega) (by omega) hds (right_nm hp) w hB h h2
end Go.Proofs.Ytajmppaodhpmgaa
