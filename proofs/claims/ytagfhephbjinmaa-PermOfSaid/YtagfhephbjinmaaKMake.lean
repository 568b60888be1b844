/-
  Plain mathematics of stage 11: what a frame that is made is, why there is none, and how it is read.
-/
import Derived.Test.YtagfhephbjinmaaKRef2
namespace Go.Proofs.Ytagfhephbjinmaa
open Go.RowKit Go.Lib
structure MakeOk (L : Lk) (t : Tu) (f : Int) : Prop where
  link : rightB_7 (typedL L t) = true
  fam : famB t.s t.d = true
  pr : t.pr = 6 ∨ t.pr = 17
  s0 : 0 ≤ t.sp
  s1 : t.sp ≤ 65535
  d0 : 0 ≤ t.dp
  d1 : t.dp ≤ 65535
  f0 : 0 ≤ f
  f1 : f ≤ 63
  fu : t.pr = 17 → f = 0
section
variable {L : Lk} {t : Tu} {f : Int} {load : List UInt8}
end
end Go.Proofs.Ytagfhephbjinmaa
