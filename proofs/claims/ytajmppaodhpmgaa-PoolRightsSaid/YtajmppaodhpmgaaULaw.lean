/-
  What the laws of stage 18 share.
-/
import Derived.Test.YtajmppaodhpmgaaUAwake
import Derived.Test.YtajmppaodhpmgaaUOpen
import Derived.Great.BuildSlice
namespace Go.Proofs.Ytajmppaodhpmgaa
set_option maxRecDepth 100000
open Go.RowKit Go.Lib

/-- One element written out, guarded or not. -/
theorem wpList_build1w {α : Type} (E : Enc α) (hk : E.k ≤ 1000) (x : α) {w : World} {ops : Array Oper} {rest : List Oper} {o : Oper} {a : Act} {Q : Exit → Act → World → Prop} (hw : Region.wanted o (yielded ops a.tmps) = true) (i : Tmp) (ho : o.op = .buildSlice E.S 1 #[(0, .tmp i)])
    (C : Array Value) (hC : (E.f x).toArray = C) (hev : a.eval (.tmp i) = .agg C)
    (h : wpList Try.prog ops Q rest (a.put o.dst (.slice (some ⟨w.heap.size, 0, none⟩) 1 1)) (w.alloc (.cells C E.T))) : wpList Try.prog ops Q (o :: rest) a w := by
  subst hC
  obtain ⟨i0, hi, hz0, hz1, hz2⟩ := E.parts
  have hp := E.pos
  refine BigFrame.wpList_want hw fun K hK => wp_buildSlice E.S E.T 1 #[(0, .tmp i)] ho (E.f x).toArray i0 E.zero E.und hi hz0 (by rw [hz1]; omega) (by rw [hz1]; omega) ?_ (hK _ _ h)
  have e := Great.fill_whole E.pos [Value.agg (E.f x).toArray] ((Array.range (1 * E.k)).map (E.zero.cells[· % E.zero.cells.size]!)) (fun v hv => by
    rw [List.mem_singleton.1 hv]
    show (E.f x).toArray.size = _
    rw [List.size_toArray, E.len]) (by simp)
  rw [hz1]
  have e2 : ([Value.agg (E.f x).toArray].flatMap fun v => v.cells.toList).toArray = (E.f x).toArray := by
    show ((E.f x).toArray.toList ++ []).toArray = _
    rw [List.append_nil]
  rw [e2] at e
  have e3 : ((#[((0 : Nat), Operand.tmp i)] : Array (Nat × Operand)).map fun (i, x) => (i, a.eval x)).toList = [(0, Value.agg (E.f x).toArray)] := by
    rw [Array.toList_map]
    show [(0, a.eval (.tmp i))] = _
    rw [hev]
  rw [e3]
  exact e
/-- A whole op out of its block. -/
theorem wpList_loadOp {w : World} {ops : Array Oper} {rest : List Oper} {op : Oper} {a : Act} {Q : Exit → Act → World → Prop} (x : Operand) (ho : op.op = .load 38 x) (hw : Region.wanted op (yielded ops a.tmps) = true)
    (g o : Nat) (hx : a.eval x = .pointer (some ⟨g, o, none⟩)) (b : OpU) (hb : w.rangeAt g o (opuL b)) (C : Array Value) (hC : (opuL b).toArray = C)
    (hk : wpList Try.prog ops Q rest (a.put op.dst (.agg C)) w) : wpList Try.prog ops Q (op :: rest) a w := by
  subst hC
  exact BigFrame.wpList_want hw fun _ hK => wp_load_mid 38 x ho g o hx (opuL b) _ hb Try.underlying38 rfl (by rw [opuL_len]; exact sizeOpu) (hK _ _ hk)
theorem big_max {n c : Nat} (h : n ≤ c) (hm : c ≤ maxLen) : n ≤ 9223372036854775807 := by unfold maxLen at hm; omega
/-- What is few. -/
theorem few_n {l : List Bk} (h : fewU l = true) {n : Nat} (hl : l.length = n) : n ≤ 40 := by rw [← hl]; exact ((fewU_iff l).1 h).1
theorem few_s {l : List Bk} (h : fewU l = true) : ∀ x, x ∈ l → x.nm.length ≤ 60 := ((fewU_iff l).1 h).2
theorem few_op {o : OpU} (h : fewO [o] = true) : o.nm.length ≤ 60 ∧ o.b.nm.length ≤ 60 := ((fewO_iff [o]).1 h).2 o (List.mem_singleton.2 rfl)
/-- A pool and what is done, boxed. -/
theorem box_po (w : World) (xs bs : Array Value) : ∃ Y : World, (w.alloc (.cells xs 24)).alloc (.cells bs 38) = Y ∧ Blk Y 24 w.heap.size xs.toList ∧ Blk Y 38 (w.heap.size + 1) bs.toList ∧ Below w.heap.size w Y := by
  refine ⟨_, rfl, Blk_10.alloc (Blk_10.new w _ xs.toList) _, ?_, ((Below.refl w.heap.size w).alloc (Nat.le_refl _) _).alloc (by simp) _⟩
  have h := Blk_10.new (w.alloc (.cells xs 24)) 38 bs.toList
  rw [World.size_alloc] at h
  exact h
/-- What Do answers is owned, in whatever form. -/
theorem own_any {α : Type} {E : Enc α} {w : World} {base : Nat} {v : Value} {xs : List α} (h : OwnG E w base v xs) : ∃ A n c, v = .slice A n c ∧ n = xs.length ∧ n ≤ c ∧ c ≤ maxLen ∧ RdG E w w.heap.size A n xs ∧ OwnG E w base (.slice A n c) xs := by
  obtain ⟨A, m, c, rfl, h1, h2, h3, h4, _⟩ := h.sl
  exact ⟨A, m, c, rfl, h1, h2, h3, h4, h⟩
theorem do_few {p : Pl} (hp : RightP p) (o : OpU) (h : p.l.length ≤ 90) : (doP p o).l.length ≤ 91 := by
  by_cases he : o.err p = 0
  · have := do_len hp he
    split at this
    · omega
    · split at this <;> omega
  · rw [do_no he]
    omega
theorem bkQ_self {b : Bk} : bkQ b b = true := by
  unfold bkQ adB
  simp
theorem samePl_self (p : Pl) : samePl p p = true := by
  refine samePl_yes rfl rfl rfl fun j a b _ ha hb => ?_
  rw [ha] at hb
  cases hb
  exact bkQ_self
/-- Names of what is right are short. -/
theorem right_name {p : Pl} (hp : RightP p) {x : Bk} (hx : x ∈ p.l) : x.nm.length ≤ 24 := by
  have h := right_fair (hp.each x hx)
  unfold fairB nameB at h
  simp only [Bool.and_eq_true, decide_eq_true_eq] at h
  exact h.1.1.1.1.2
end Go.Proofs.Ytajmppaodhpmgaa
