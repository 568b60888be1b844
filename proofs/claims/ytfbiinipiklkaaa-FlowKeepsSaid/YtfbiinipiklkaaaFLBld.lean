/-
  Acts' and flows' cells as the laws load them (stage 21).
  The program's table and the document's side by side (stage 21).
  A struct put together, at a step of a region that draws (a copy for seats whose base lacks it).
-/
import Derived.Test.YtfbiinipiklkaaaFLLaw
import Derived.Test.YtfbiinipiklkaaaFLMath4
namespace Go.Proofs.Ytfbiinipiklkaaa
set_option maxRecDepth 100000
open Go.RowKit Go.Lib

theorem ac_fw {a : Ac} {w : World} {b o : Nat} (h : w.rangeAt b o (acL a)) : w.rangeAt b (o + 1) (fwL a.fl) := fun i u hu => by
  have h9 := h (1 + i) u (ac_fl a hu)
  rwa [show o + (1 + i) = o + 1 + i by omega] at h9
theorem yields_loadTu {ops : Array Oper} {S : World → Prop} {op : Oper} {a : Act} (hw : Region.wanted op (yielded ops a.tmps) = true) (x : Operand) (ho : op.op = .load 26 x) (g o : Nat) (hx : a.eval x = .pointer (some ⟨g, o, none⟩)) (f : Fw) (hb : ∀ W, S W → W.rangeAt g o (fwL f)) (C : Array Value) (hC : (tuL f.k).toArray = C) : YieldsIf Try.prog ops S op (.agg C) a := by
  rw [← hC]
  exact yieldsIf_load_mid hw 26 x ho g o hx (tuL f.k) _ (fun W hW => fw_key (hb W hW)) Try.underlying26 rfl (sizeTuL f.ok)
theorem wpList_loadKeyF {w : World} {ops : Array Oper} {rest : List Oper} {op : Oper} {a : Act} {Q : Exit → Act → World → Prop} (x : Operand) (ho : op.op = .load 26 x) (hw : Region.wanted op (yielded ops a.tmps) = true)
    (g o : Nat) (hx : a.eval x = .pointer (some ⟨g, o, none⟩)) (f : Fw) (hb : w.rangeAt g o (fwL f)) (C : Array Value) (hC : (tuL f.k).toArray = C)
    (hk : wpList Try.prog ops Q rest (a.put op.dst (.agg C)) w) : wpList Try.prog ops Q (op :: rest) a w := by
  subst hC
  exact BigFrame.wpList_want hw fun _ hK => wp_load_mid 26 x ho g o hx (tuL f.k) _ (fw_key hb) Try.underlying26 rfl (sizeTuL f.ok) (hK _ _ hk)
/-- Two keys compared, as letters. -/
theorem eq_keys {a b : Fw} {A B : Array Value} (hA : (tuL a.k).toArray = A) (hB : (tuL b.k).toArray = B) (W : World) : (binOp .eql 26 (.agg A) (.agg B)).run Try.prog W = .ok (.bool (tuQ a.k b.k)) W := by
  subst hA hB
  exact run_eqls_tu W a.ok b.ok
theorem ne_keys {a b : Fw} {A B : Array Value} (hA : (tuL a.k).toArray = A) (hB : (tuL b.k).toArray = B) (W : World) : (binOp .neq 26 (.agg A) (.agg B)).run Try.prog W = .ok (.bool (!tuQ a.k b.k)) W := by
  subst hA hB
  exact run_neqs_tu W a.ok b.ok
theorem ne_fws {a b : Fw} {A B : Array Value} (hA : (fwL a).toArray = A) (hB : (fwL b).toArray = B) (W : World) : (binOp .neq 28 (.agg A) (.agg B)).run Try.prog W = .ok (.bool (!fwQ a b)) W := by
  subst hA hB
  exact run_neq_fw a b W
theorem key_c {f : Fw} {A : Array Value} (h : (tuL f.k).toArray = A) : tuC f.k = .agg A := by rw [← h]; rfl
theorem fw_c {f : Fw} {A : Array Value} (h : (fwL f).toArray = A) : fwC f = .agg A := by rw [← h]; rfl
theorem getV_some {l : List Fw} {k : Tu} {f : Fw} (h : hasK l k = some f) : getV l k = .tuple #[fwC f, .bool true] := by
  unfold getV
  rw [h]
  rfl
theorem getV_none {l : List Fw} {k : Tu} (h : hasK l k = none) : getV l k = .tuple #[fwC fw0, .bool false] := by
  unfold getV
  rw [h]
  rfl
theorem outs_at {w : World} {fp : Nat → Prop} {base g n c k : Nat} {xs : List Fw} {y : Fw} (h : OutS w fp base (.slice (some ⟨g, 0, none⟩) n c) xs) (hy : xs[k]? = some y) : w.rangeAt g (k * 41) (fwL y) := by
  have h9 := h.1.rd.range hy
  rw [Nat.zero_add] at h9
  exact h9
theorem out_at {w : World} {fp : Nat → Prop} {b : Nat} {f : Fw} (h : Out w fp b f) : w.rangeAt b 0 (fwL f) := Blk_10.range h.1
theorem right_inT {f : Fw} (h : rightF f = true) : InT f.k := by
  have h9 := right_fit h
  exact ⟨f.ok, by unfold In64; have := h9.pr; omega, by unfold In64; have := h9.sp; omega, by unfold In64; have := h9.dp; omega⟩
theorem nat_beq {a b : Nat} {c : Bool} (h : ((a : Int) == (b : Int)) = c) : (a == b) = c := by
  subst h
  by_cases e : a = b
  · subst e
    simp
  · rw [beq_eq_false_iff_ne.2 e, beq_eq_false_iff_ne.2 (by omega)]
/-- Two orders, one end. -/
theorem cut_w {goal : Prop} {H M : World → Prop} (h1 : (∀ W, H W → M W) → goal) (h2 : ∀ W, H W → M W) : goal := h1 h2
end Go.Proofs.Ytfbiinipiklkaaa
namespace Go.Proofs.Ytfbiinipiklkaaa
set_option maxRecDepth 100000
open Go.RowKit Go.Lib

/-- The document's table lies apart from the program's. -/
def Off (fp : Nat → Prop) (gT : Nat) (lv : Value) : Prop := ¬ fp gT ∧ ∀ b, lv.ownBlock = some b → ¬ fp b
section
variable {Rep : RepF} {w0 w w' : World} {B r gT : Nat} {v lv lv' : Value} {l m n : List Fw} {fp fq : Nat → Prop} {room : Int}
theorem duo_ref (R : RefT w gT room lv n) (N : Off fp gT lv) (hk : Keep fp w w') : RefT w' gT room lv n := R.keep_fp hk N.1 N.2
theorem duo_off (R : RefT w gT room lv n) (N : Off fp gT lv) (hs : ∀ k, fq k → fp k ∨ w.heap.size ≤ k) : Off fq gT lv := ⟨off_left hs N.1 R.lt, fun b hb => off_left hs (N.2 b hb) (R.own.ltS b hb)⟩
theorem duo_new (S : FlowC Rep) (T : Tb Rep w0 B v r m w fp) (N : Off fp gT lv) (hn : ∀ b, lv'.ownBlock = some b → lv.ownBlock = some b ∨ w.heap.size ≤ b) : Off fp gT lv' :=
  ⟨N.1, fun b hb => (hn b hb).elim (N.2 b) (fun h => T.new_off S h)⟩
theorem Out.grown {g b : Nat} {f : Fw} (h : Out w fp b f) (hg : w.grownBy w' (some g)) (hne : b ≠ g) : Out w' fp b f :=
  ⟨(hg.block b (Blk_10.lt h.1) (fun e => by cases e; exact hne rfl)).trans h.1, h.2⟩
end
theorem ac_id {a : Ac} {w : World} {b o : Nat} (h : w.rangeAt b o (acL a)) : w.rangeAt b (o + 43) (zL a.idle) := fun i u hu => by
  have h9 := h (43 + i) u (by rw [ac_idle]; exact hu)
  rwa [show o + (43 + i) = o + 43 + i by omega] at h9
theorem builtRT0 (r : Int) : Try.prog.built 44 [(0, .int .i64 r)] = some #[.int .i64 r, .slice none 0 0] := by kernel_rfl
/-- One act done to a table. -/
def playA (r : Nat) (m : List Fw) (a : Ac) : List Fw := if a.kind = 0 then putT r m a.fl else if a.kind = 2 then outK m a.fl.k else if a.kind = 3 then m.filter (fun x => !staleF a.now a.idle x) else m
end Go.Proofs.Ytfbiinipiklkaaa
namespace Go.Proofs.Ytfbiinipiklkaaa
set_option maxRecDepth 100000
open Go.RowKit Go.Lib

theorem yields_bldF {ops : Array Oper} {S : World → Prop} {op : Oper} {a : Act} (hw : Region.wanted op (yielded ops a.tmps) = true) (T : TypeId) (parts : Array (Nat × Operand)) (ho : op.op = .build T parts) (vals : List (Nat × Value)) (hv : (parts.map fun (i, x) => (i, a.eval x)).toList = vals)
    (cells : Array Value) (hb : Try.prog.built T vals = some cells) : YieldsIf Try.prog ops S op (.agg cells) a :=
  .inl ⟨hw, fun w _ => by
    unfold execOp
    simp only [ho, Sem.run_bind, run_build w T _ cells (by rw [hv]; exact hb), Result.andThen_ok, Sem.run_pure]⟩
end Go.Proofs.Ytfbiinipiklkaaa
