/-
  The document's Rewrite of whatever.
-/
import Derived.Test.YtkmcopenflakkaaNRRew6
namespace Go.Proofs.Ytkmcopenflakkaa
open Go.RowKit Go.Lib

/-- The document's Rewrite. -/
theorem rrew_any {a : Ad} (ha : a.b.length = 16) {m : Int} {A : Option Addr} {len cap : Nat} {xs : List UInt8} (hlen : len ≤ 10000) (hcap : len ≤ cap) (dst : Bool) (w : World) (hI : Rd w w.heap.size A len xs) :
    Calls Try.prog 12 #[.slice A len cap, adC a, .int .i64 m, .bool dst] w (RewGave w xs a m dst) := by
  cases hmay : mayN (readK xs) a m with
  | false =>
    refine (rrew_no ha hlen hcap dst hmay w hI).mono ?_
    rintro e w' ⟨he, hb⟩
    exact ⟨fun _ => he, fun h => Bool.noConfusion (hmay.symm.trans h), hb⟩
  | true =>
    obtain ⟨z, six, n, p, u, hA⟩ := at_fine (mayN_yes hmay).1
    cases six with
    | false =>
      refine (rrew_4 ha hlen hcap dst hmay hA w hI).mono ?_
      rintro e w' ⟨v, he, ho, hb⟩
      exact ⟨fun h => Bool.noConfusion (hmay.symm.trans h), fun _ => ⟨v, he, ho⟩, hb⟩
    | true =>
      refine (rrew_6 ha hlen hcap dst hmay hA w hI).mono ?_
      rintro e w' ⟨v, he, ho, hb⟩
      exact ⟨fun h => Bool.noConfusion (hmay.symm.trans h), fun _ => ⟨v, he, ho⟩, hb⟩
end Go.Proofs.Ytkmcopenflakkaa
