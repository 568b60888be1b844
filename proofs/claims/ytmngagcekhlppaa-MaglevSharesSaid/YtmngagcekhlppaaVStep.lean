/-
  A cell of an owned slice stored, at a step of a region that draws. No program function is named here.
-/
import Derived.Test.YtmngagcekhlppaaVVisit
namespace Go.Proofs.Ytmngagcekhlppaa
open Go.RowKit Go.Lib

theorem step_storeG {α : Type} (E : Enc α) {w : World} {ops : Array Oper} {op : Oper} {a : Act} {K : Act → World → Prop} {Q : Exit → Act → World → Prop} {D : Prop} (hgd : op.guard = none) (T : TypeId) (x y : Operand) (ho : op.op = .store T x y)
    (g j i q : Nat) (hq : q = j * E.k + i) (hx : a.eval x = .pointer (some ⟨g, q, none⟩)) (u : Value) (hy : a.eval y = u) (xs : List α) (n c base : Nat) (hown : OwnG E w base (.slice (some ⟨g, 0, none⟩) n c) xs) (e e' : α) (he : xs[j]? = some e)
    (hi : i < E.k) (hf : E.f e' = (E.f e).set i u) (hT : (Try.prog.info? T).map (·.size) = some 1) (h1 : u.oneCell' = true) (hu : u.cells = #[u])
    (h : ∀ w', OwnG E w' base (.slice (some ⟨g, 0, none⟩) n c) (xs.set j e') → w.grownBy w' (some g) → K (a.put op.dst undef) w') : if Region.wanted op (yielded ops a.tmps) = true then Oper.wp Try.prog op a w K Q else D := by
  have hw : Region.wanted op (yielded ops a.tmps) = true := by simp [Region.wanted, hgd]
  rw [if_pos hw]
  subst hq
  obtain ⟨hs1, hs2⟩ := hown.stored (u := u) he hi hf
  have hk := h _ hs1 hs2
  have hs := run_store1 w g (j * E.k + i) T u ((E.f e)[i]'(by rw [E.len]; exact hi)) (hown.cell he i (List.getElem?_eq_getElem _)) (hown.frozen _) hT h1 hu
  unfold Oper.wp execOp
  simp only [ho, hx, hy, Instr.storeAt, Instr.sureAddr, Sem.run_bind, Sem.run_pure, Result.andThen_ok, hs]
  exact hk
theorem size1_int : (Try.prog.info? 3).map (·.size) = some 1 := by kernel_rfl
theorem L3.credCell {key : List UInt8} {p : Nat} {R : List Shr} {w1 w : World} {g gk k c : Nat} {nv cv sv : Value} {cs : List (Nat × Nat)} {sl cl : List Int} (h : L3 key p R w1 g nv cv cs sv (.slice (some ⟨gk, 0, none⟩) k c) sl cl w) {j : Nat} {z : Int} (hz : cl[j]? = some z) : w.cell? ⟨gk, j, none⟩ = some (.int .i64 z) := by
  have h9 := h.cred.cell hz 0 (u := .int .i64 z) rfl
  have e : j * eZ.k + 0 = j := by show j * 1 + 0 = j; omega
  rwa [e] at h9
theorem L3.slotCell {key : List UInt8} {p : Nat} {R : List Shr} {w1 w : World} {g gs k c : Nat} {nv cv kv : Value} {cs : List (Nat × Nat)} {sl cl : List Int} (h : L3 key p R w1 g nv cv cs (.slice (some ⟨gs, 0, none⟩) k c) kv sl cl w) {j : Nat} {z : Int} (hz : sl[j]? = some z) : w.cell? ⟨gs, j, none⟩ = some (.int .i64 z) := by
  have h9 := h.two.slots.cell hz 0 (u := .int .i64 z) rfl
  have e : j * eZ.k + 0 = j := by show j * 1 + 0 = j; omega
  rwa [e] at h9
theorem L3.choCell {key : List UInt8} {p : Nat} {R : List Shr} {w1 w : World} {g gc k c : Nat} {nv sv kv : Value} {cs : List (Nat × Nat)} {sl cl : List Int} (h : L3 key p R w1 g nv (.slice (some ⟨gc, 0, none⟩) k c) cs sv kv sl cl w) {j b d : Nat} (hz : cs[j]? = some (b, d)) : w.cell? ⟨gc, j, none⟩ = some (.slice (some ⟨b, 0, none⟩) p d) := by
  have h9 := h.two.cho.cell hz 0 (u := .slice (some ⟨b, 0, none⟩) p d) rfl
  have e : j * (eC p).k + 0 = j := by show j * 1 + 0 = j; omega
  rwa [e] at h9
theorem L3.pickCell {key : List UInt8} {p : Nat} {R : List Shr} {w1 w : World} {g : Nat} {nv cv sv kv : Value} {cs : List (Nat × Nat)} {sl cl : List Int} (h : L3 key p R w1 g nv cv cs sv kv sl cl w) {j b d i : Nat} (hz : cs[j]? = some (b, d)) (hi : i < p) : w.cell? ⟨b, i, none⟩ = some (.int .i64 ((tbOf key p R).ch j i : Nat)) := by
  obtain ⟨x, hx, ho⟩ := h.two.at_ j b d hz
  have h9 := ho.cell (chZ_get key R j hx hi) 0 (u := .int .i64 ((tbOf key p R).ch j i : Nat)) rfl
  have e : i * eZ.k + 0 = i := by show i * 1 + 0 = i; omega
  rwa [e] at h9
end Go.Proofs.Ytmngagcekhlppaa
