/-
  Slices of shares and of names.
-/
import Derived.Test.YtajmppaodhpmgaaGSl
import Derived.Test.YtajmppaodhpmgaaLess
namespace Go.Proofs.Ytajmppaodhpmgaa
set_option maxRecDepth 100000
open Go.RowKit Go.Lib

def strV (s : List UInt8) : Value := .string ⟨s.toArray⟩
/-- Shares in a slice: the name, the quanta. -/
def eS : Enc Shr where
  S := 51
  T := 56
  k := 2
  bytes := 24
  zero := .agg #[.string ⟨#[]⟩, .int .i64 0]
  f x := [strV x.nm, .int .i64 x.q]
  len _ := rfl
  one _ v hv := by
    rcases List.mem_cons.1 hv with rfl | hv
    · rfl
    · rw [List.mem_singleton.1 hv]; rfl
  und := Try.underlying51
  info := by kernel_rfl
  pos := by decide
  zlen := rfl
  small := by decide
/-- Names in a slice. -/
def eN : Enc (List UInt8) where
  S := 50
  T := 9
  k := 1
  bytes := 16
  zero := .string ⟨#[]⟩
  f x := [strV x]
  len _ := rfl
  one _ v hv := by rw [List.mem_singleton.1 hv]; rfl
  und := Try.underlying50
  info := by kernel_rfl
  pos := by decide
  zlen := rfl
  small := by decide
theorem RdG.name {w : World} {B n b off : Nat} {xs : List Shr} (h : RdG eS w B (some ⟨b, off, none⟩) n xs) {j : Nat} {x : Shr} (hx : xs[j]? = some x) : w.cell? ⟨b, off + j * 2, none⟩ = some (.string ⟨x.nm.toArray⟩) := by
  have := h.cell hx 0 (u := strV x.nm) rfl
  exact this
theorem RdG.quanta {w : World} {B n b off : Nat} {xs : List Shr} (h : RdG eS w B (some ⟨b, off, none⟩) n xs) {j : Nat} {x : Shr} (hx : xs[j]? = some x) : w.cell? ⟨b, off + j * 2 + 1, none⟩ = some (.int .i64 x.q) := by
  have := h.cell hx 1 (u := .int .i64 x.q) rfl
  exact this
end Go.Proofs.Ytajmppaodhpmgaa
