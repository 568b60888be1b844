/-
  What the laws of packets share: '!=' of tuples, a packet's cells, bytes laid one behind the other, a frame read as what it is known to be.
-/
import Derived.Test.YtkmcopenflakkaaKPRead
import Derived.Test.YtkmcopenflakkaaKOpen
namespace Go.Proofs.Ytkmcopenflakkaa
set_option maxRecDepth 100000
open Go.RowKit Go.Lib
theorem run_neq_tu (w : World) {t : Tu} (h : t.Ok) : (binOp .neq 35 (tuC t) (tuC t)).run Try.prog w = .ok (.bool false) w := by
  have := run_eq_tu w 9996 h
  unfold tuC at this ⊢
  rw [run_neq_struct, this, Result.andThen_ok]
  rfl
theorem wpList_neqw {w : World} {ops : Array Oper} {rest : List Oper} {op : Oper} {a : Act} {Q : Exit → Act → World → Prop} (T k : TypeId) (x y : Operand) (ho : op.op = .binOp .neq T x y k) (hw : Region.wanted op (yielded ops a.tmps) = true)
    (xs ys : Array Value) (hx : a.eval x = .agg xs) (hy : a.eval y = .agg ys) (hm : Try.prog.eqGuardType Try.prog.depth T = false) (r : Bool) (hr : ∀ w, (binOp .neq T (.agg xs) (.agg ys)).run Try.prog w = .ok (.bool r) w)
    (hk : wpList Try.prog ops Q rest (a.put op.dst (.bool r)) w) : wpList Try.prog ops Q (op :: rest) a w :=
  BigFrame.wpList_want hw fun K hK => by
    unfold Oper.wp execOp
    simp only [ho, hx, hy, Sem.run_bind, run_eqGuard_agg w .neq T x y xs ys hm, Result.andThen_ok, hr, Sem.run_pure]
    exact hK _ _ hk
theorem yields_neq {ops : Array Oper} {S : World → Prop} {op : Oper} {a : Act} (hw : Region.wanted op (yielded ops a.tmps) = true) (T k : TypeId) (x y : Operand) (ho : op.op = .binOp .neq T x y k)
    (xs ys : Array Value) (hx : a.eval x = .agg xs) (hy : a.eval y = .agg ys) (hm : Try.prog.eqGuardType Try.prog.depth T = false) (r : Bool) (hr : ∀ w, (binOp .neq T (.agg xs) (.agg ys)).run Try.prog w = .ok (.bool r) w) : YieldsIf Try.prog ops S op (.bool r) a :=
  .inl ⟨hw, fun w _ => by
    unfold execOp
    simp only [ho, hx, hy, Sem.run_bind, run_eqGuard_agg w .neq T x y xs ys hm, Result.andThen_ok, hr, Sem.run_pure]⟩
theorem pk_cells {w : World} {g : Nat} {p : Pk} (h : Blk w 37 g (pkL p)) (ho : p.t.Ok) : w.cell? ⟨g, 0, none⟩ = some (.int .i64 p.kind) ∧ w.cell? ⟨g, 38, none⟩ = some (.int .i64 p.fl) ∧ w.cell? ⟨g, 39, none⟩ = some (.int .i64 p.net) ∧ w.cell? ⟨g, 40, none⟩ = some (.int .i64 p.sg) ∧ w.cell? ⟨g, 41, none⟩ = some (.int .i64 p.en) :=
  ⟨Blk_10.cell h rfl, Blk_10.cell h (pkL_num ho 0), Blk_10.cell h (pkL_num ho 1), Blk_10.cell h (pkL_num ho 2), Blk_10.cell h (pkL_num ho 3)⟩
/-- A tuple out of the middle of a packet. -/
theorem field_pk (w : World) {p : Pk} (h : p.t.Ok) : (Instr.field 37 (pkC p) 1).run Try.prog w = .ok (tuC p.t) w := by
  obtain ⟨k, ⟨⟨s6, sb⟩, ⟨d6, db⟩, pr, sp, dp⟩, fl, net, sg, en⟩ := p
  obtain ⟨a0, a1, a2, a3, a4, a5, a6, a7, a8, a9, a10, a11, a12, a13, a14, a15, rfl⟩ := sixteen h.s
  obtain ⟨b0, b1, b2, b3, b4, b5, b6, b7, b8, b9, b10, b11, b12, b13, b14, b15, rfl⟩ := sixteen h.d
  kernel_rfl
/-- packet.Read of bytes whose reading is known. -/
theorem pread_as {A : Option Addr} {len cap : Nat} {xs : List UInt8} {p : Pk} (hp : readK xs = p) (hlen : len ≤ 100000) (hcap : len ≤ cap) (hcm : cap ≤ maxLen) {w : World} (hI : Rd w w.heap.size A len xs) :
    Calls Try.prog 21 #[.slice A len cap] w fun e w' => e = .returned (pkC p) ∧ Below w.heap.size w w' := hp ▸ pread_any A len cap xs hlen hcap hcm w hI
/-- A packet stored into a cell that was just laid. -/
theorem wpList_storePk {arr : Array Value} {w : World} {ops : Array Oper} {rest : List Oper} {op : Oper} {a : Act} {Q : Exit → Act → World → Prop} (hgd : op.guard = none) (x y : Operand) (ho : op.op = .store 37 x y)
    (hx : a.eval x = .pointer (some ⟨w.heap.size, 0, none⟩)) (p : Pk) (hp : p.t.Ok) (hy : a.eval y = pkC p) (hl : arr.size = 42)
    (h : ∀ w', Blk w' 37 w.heap.size (pkL p) → Below w.heap.size w w' → wpList Try.prog ops Q rest (a.put op.dst undef) w') :
    wpList Try.prog ops Q (op :: rest) a (w.alloc (.cells arr 37)) :=
  wpList_storeNewG hgd 37 x y ho hx (pkL p) hy (by rw [hl, pkL_len hp]) (sizePkL hp) (pkL_one p) fun w' h1 h2 _ => h w' h1 h2
end Go.Proofs.Ytkmcopenflakkaa
