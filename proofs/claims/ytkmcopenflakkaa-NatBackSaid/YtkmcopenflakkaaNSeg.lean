/-
  The document's Right of the segment of a fine frame.
-/
import Derived.Test.YtkmcopenflakkaaNRig
namespace Go.Proofs.Ytkmcopenflakkaa
set_option maxRecDepth 100000
open Go.RowKit Go.Lib

theorem seg_cut {xs z : List UInt8} {six : Bool} {n : Nt} {p : Nat} {u : Bool} (h : AtF xs z six n p u) : (xs.drop (p + n.head)).take (n.total - n.head) = segN (z.drop p) n ∧ n.head ≤ n.total := by
  have hb := h.f.bnd
  have hh : n.head ≤ n.total := by
    have q := hb.ok true
    have := q.a
    have := q.p
    have := q.k
    have hs : (plF six n p u true).ck = p + n.head + plc u := rfl
    omega
  refine ⟨?_, hh⟩
  unfold segN
  rw [h.zt, List.drop_drop, List.drop_take, List.take_take]
  congr 1
  omega
/-- The document's Right of the segment of a fine frame. -/
theorem right_at {xs z : List UInt8} {six : Bool} {n : Nt} {p : Nat} {u : Bool} (h : AtF xs z six n p u) (hl : xs.length ≤ 65535) {A : Option Addr} {cap : Nat} (W : World) (hr : Rd W W.heap.size A (n.total - n.head) (segN (z.drop p) n)) (hcap : n.total - n.head ≤ cap) :
    Calls Try.prog 16 #[adC (readK xs).t.s, adC (readK xs).t.d, .int .i64 (readK xs).t.pr, .slice A (n.total - n.head) cap] W fun e w' => e = .returned (.bool (rightS six (readK xs).t.s.b (readK xs).t.d.b u (segN (z.drop p) n))) ∧ Below W.heap.size W w' := by
  obtain ⟨_, _, _, e4, e5, _, e7, e8, e9, _⟩ := h.en
  have hb := h.f.bnd
  have hx := h.x
  have r := rright_any six (readK xs).t.s.b (readK xs).t.d.b (by rw [e7]; exact hb.s) (by rw [e8]; exact hb.d) (A := A) (len := n.total - n.head) (cap := cap) (xs := segN (z.drop p) n) (by omega) hcap W hr u h.f.fl
  rw [← e9] at r
  have a1 : Value.agg (addrC six (readK xs).t.s.b) = adC (readK xs).t.s := by rw [← e4]; rfl
  have a2 : Value.agg (addrC six (readK xs).t.d.b) = adC (readK xs).t.d := by rw [← e5]; rfl
  rw [a1, a2] at r
  exact r
end Go.Proofs.Ytkmcopenflakkaa
