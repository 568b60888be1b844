/-
  Keys and tuples loaded in a region that draws (split from HAwake).
-/
import Derived.Test.YtfbiinipiklkaaaKCell
import Derived.Test.YtfbiinipiklkaaaHROf
namespace Go.Proofs.Ytfbiinipiklkaaa
set_option maxRecDepth 100000
open Go.RowKit Go.Lib

theorem flat_one (x : List UInt8) : [x].flatten = x := by simp
theorem flat_two (x y : List UInt8) : [x, y].flatten = x ++ y := by simp
theorem size16h : (Try.prog.info? 22).map (·.size) = some 16 := by kernel_rfl
theorem key_size {key : List UInt8} (h : key.length = 16) : (Try.prog.info? 22).map (·.size) = some (key.map v8).length := by rw [List.length_map, h]; exact size16h
theorem key_one (key : List UInt8) : ∀ v ∈ key.map v8, v.oneCell' = true := by
  intro v hv
  obtain ⟨x, _, rfl⟩ := List.mem_map.1 hv
  rfl
/-- A key out of its box, in a region that draws. -/
theorem yields_key {ops : Array Oper} {S : World → Prop} {op : Oper} {a : Act} (hw : Region.wanted op (yielded ops a.tmps) = true) (x : Operand) (ho : op.op = .load 22 x) (g : Nat) (hx : a.eval x = .pointer (some ⟨g, 0, none⟩)) (key : List UInt8) (hk : key.length = 16)
    (hS : ∀ w, S w → Blk w 22 g (key.map v8)) : YieldsIf Try.prog ops S op (keyC key) a :=
  yieldsIf_load_mid hw 22 x ho g 0 hx (key.map v8) _ (fun w h => Blk_10.range (hS w h)) Try.underlying22 rfl (key_size hk)
theorem yields_tu {ops : Array Oper} {S : World → Prop} {op : Oper} {a : Act} (hw : Region.wanted op (yielded ops a.tmps) = true) (x : Operand) (ho : op.op = .load 26 x) (g : Nat) (hx : a.eval x = .pointer (some ⟨g, 0, none⟩)) (t : Tu) (h : t.Ok)
    (hS : ∀ w, S w → Blk w 26 g (tuL t)) : YieldsIf Try.prog ops S op (tuC t) a :=
  yieldsIf_load_mid hw 26 x ho g 0 hx (tuL t) _ (fun w h2 => Blk_10.range (hS w h2)) Try.underlying26 rfl (sizeTuL h)
end Go.Proofs.Ytfbiinipiklkaaa
