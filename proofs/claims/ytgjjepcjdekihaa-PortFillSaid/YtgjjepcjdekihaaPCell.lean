/-
  A header of TCP or UDP and an address in memory: their cells; a block known whole; laws for whole loads and stores; results; two headers compared.
-/
import Derived.Test.YtgjjepcjdekihaaPSmall
import Derived.Test.YtgjjepcjdekihaaPRPseudo
import Derived.Deep.MidRow
import Derived.Laws.ResultCell
import Derived.BigFrame
import Derived.DeepKeys
import Derived.Laws.StructEq
import Derived.Great.BuildSlice
namespace Go.Proofs.Ytgjjepcjdekihaa
open Go.RowKit Go.Lib

/-- The cells of an address, as a list. -/
def addrL (s : Bool) (bs : List UInt8) : List Value := .bool s :: bs.map v8
theorem addrC_eq (s : Bool) (bs : List UInt8) : addrC s bs = (addrL s bs).toArray := rfl
theorem addrL_len (s : Bool) (bs : List UInt8) (h : bs.length = 16) : (addrL s bs).length = 17 := by simp [addrL, h]
theorem size_addr (s : Bool) (bs : List UInt8) (h : bs.length = 16) : (Try.prog.info? 35).map (·.size) = some (addrL s bs).length := by
  rw [addrL_len s bs h]; kernel_rfl
theorem addr_range (w : World) (s : Bool) (bs : List UInt8) : (w.alloc (.cells (addrC s bs) 35)).rangeAt w.heap.size 0 (addrL s bs) := fun j v hv => by
  rw [Nat.zero_add, cell_of_row _ w.heap.size j _ _ (0, 0) (heap_alloc_new w _), addrC_eq]
  simpa using hv
theorem pseudo_any (s : Bool) (a b : List UInt8) (ha : a.length = 16) (hb : b.length = 16) (p l : Nat) (hp : p < 256) (hl : l < 65536) (X : List UInt8) (hX : pseudoOf s a b p l = X) (w : World) :
    Calls Try.prog 26 #[.agg (addrL s a).toArray, .agg (addrL s b).toArray, .int .i64 (p : Int), .int .i64 (l : Int)] w fun e W' => ∃ v, e = .returned v ∧ Own8 W' w.heap.size v X ∧ Below w.heap.size w W' := by
  subst hX
  cases s
  · exact pseudo_four a b ha hb p l hp hl w
  · exact pseudo_six a b ha hb p l hp hl w
theorem rpseudo_any (s : Bool) (a b : List UInt8) (ha : a.length = 16) (hb : b.length = 16) (p l : Nat) (hp : p < 256) (hl : l < 65536) (X : List UInt8) (hX : pseudoOf s a b p l = X) (w : World) :
    Calls Try.prog 33 #[.agg (addrL s a).toArray, .agg (addrL s b).toArray, .int .i64 (p : Int), .int .i64 (l : Int)] w fun e W' => ∃ v, e = .returned v ∧ Own8 W' w.heap.size v X ∧ Below w.heap.size w W' := by
  subst hX
  cases s
  · exact rpseudo_four a b ha hb p l hp hl w
  · exact rpseudo_six a b ha hb p l hp hl w

/-- Block g is a row of just these cells, of type T. -/
def Blk (w : World) (T : TypeId) (g : Nat) (cs : List Value) : Prop := w.heap[g]? = some (.cells cs.toArray T (0, 0))
section
variable {w w' : World} {T : TypeId} {g : Nat} {cs : List Value}
theorem Blk.lt (h : Blk w T g cs) : g < w.heap.size := (Array.getElem?_eq_some_iff.1 h).1
theorem Blk.new (w : World) (T : TypeId) (cs : List Value) : Blk (w.alloc (.cells cs.toArray T)) T w.heap.size cs := heap_alloc_new w _
theorem Blk.alloc (h : Blk w T g cs) (o : Obj) : Blk (w.alloc o) T g cs := (Below.heap_alloc w o g h.lt).trans h
theorem Blk.drew (h : Blk w T g cs) : Blk w.drew T g cs := h
theorem Blk.below (h : Blk w T g cs) {B : Nat} (hB : g < B) (hb : Below B w w') : Blk w' T g cs := (hb.block g hB).trans h
theorem Blk.cell (h : Blk w T g cs) {i : Nat} {v : Value} (hv : cs[i]? = some v) : w.cell? ⟨g, i, none⟩ = some v := by
  rw [cell_of_row w g i _ _ (0, 0) h]; simpa using hv
theorem Blk.frozen (h : Blk w T g cs) (i : Nat) : w.frozen? ⟨g, i, none⟩ = false := by
  unfold Blk at h; simp [World.frozen?, h]
theorem Blk.set (h : Blk w T g cs) (i : Nat) (v : Value) : Blk (w.setCell ⟨g, i, none⟩ v) T g (cs.set i v) := by
  unfold Blk at h ⊢
  simp [World.setCell, Array.getElem?_modify, h]
theorem Blk.far (h : Blk w T g cs) {p : Addr} (hp : g ≠ p.block) (u : Value) : Blk (w.setCell p u) T g cs := (Below.heap_setCell w p u g hp).trans h
theorem Blk.setRow_ (h : Blk w T g cs) (ds : List Value) : Blk (w.setRow g ds.toArray) T g ds := setRow_heap w g _ _ T (0, 0) h
theorem Blk.setRow_far (h : Blk w T g cs) {b : Nat} (hb : g ≠ b) (ds : Array Value) : Blk (w.setRow b ds) T g cs := (setRow_other w b g ds hb).trans h
theorem Blk.grown (h : Blk w T g cs) {row : Option Nat} (hg : w.grownBy w' row) (hr : row ≠ some g) : Blk w' T g cs := (hg.block g h.lt (fun e => hr e.symm)).trans h
theorem Blk.range (h : Blk w T g cs) : w.rangeAt g 0 cs := fun j v hv => by
  rw [Nat.zero_add]; exact h.cell hv
theorem Blk.mid (h : Blk w T g cs) {pre mid post : List Value} (e : cs = pre ++ (mid ++ post)) {o : Nat} (ho : pre.length = o) : w.rangeAt g o mid := fun j v hv => by
  refine h.cell ?_
  subst ho
  rw [e, List.getElem?_append_right (by omega), Nat.add_sub_cancel_left, List.getElem?_append_left (List.getElem?_eq_some_iff.1 hv).1]; exact hv
end
theorem range_keep {w w' : World} {b o B : Nat} {cs : List Value} (h : w.rangeAt b o cs) (hlt : b < B) (hb : Below B w w') : w'.rangeAt b o cs := fun j v hv => (hb.cell (p := ⟨b, o + j, none⟩) hlt).trans (h j v hv)
theorem range_rd {w : World} {b o B n : Nat} {xs : List UInt8} (h : w.rangeAt b o (xs.map v8)) (hn : xs.length = n) (hB : b < B) : Rd w B (some ⟨b, o, none⟩) n xs :=
  ⟨hn, fun _ => ⟨b, o, rfl, hB, fun j x hx => h j _ (by rw [List.getElem?_map, hx]; rfl)⟩⟩
theorem below_setRow {B : Nat} {w0 w : World} (h : Below B w0 w) {g : Nat} (hg : B ≤ g) (ds : Array Value) : Below B w0 (w.setRow g ds) :=
  ⟨h.os, h.tape, h.output, by rw [World.setRow]; simpa using h.size, fun k hk => by rw [setRow_other w g k ds (by omega)]; exact h.block k hk⟩
theorem gb_setRow {a w : World} {g : Nat} (h : a.grownBy w (some g)) (ds : Array Value) : a.grownBy (w.setRow g ds) (some g) :=
  ⟨h.os, h.tape, h.output, by rw [World.setRow]; simpa using h.size, fun i hi hne => by
    rw [setRow_other w g i ds (fun e => hne (by rw [e]))]; exact h.block i hi hne⟩

/-- A whole value into its block: a law for the walk. -/
theorem wpList_storeR {w : World} {ops : Array Oper} {rest : List Oper} {op : Oper} {a : Act} {Q : Exit → Act → World → Prop} (hgd : op.guard = none) (T : TypeId) (x y : Operand) (ho : op.op = .store T x y)
    (g : Nat) (hx : a.eval x = .pointer (some ⟨g, 0, none⟩)) (cs : List Value) (hy : a.eval y = .agg cs.toArray) (old : List Value) (hb : Blk w T g old) (hl : old.length = cs.length)
    (hi : (Try.prog.info? T).map (·.size) = some cs.length) (h1 : ∀ v ∈ cs, v.oneCell' = true)
    (h : wpList Try.prog ops Q rest (a.put op.dst undef) (w.setRow g cs.toArray)) : wpList Try.prog ops Q (op :: rest) a w := by
  refine wpList_plain hgd fun K hK => ?_
  have hr := run_storeVar_row (P := Try.prog) w g T T old.toArray cs.toArray hb (by simpa using hi) (by simpa using hl) (Array.all_eq_true_iff_forall_mem.2 (fun v hv => h1 v (by simpa using hv)))
  unfold Oper.wp execOp
  simp only [ho, hx, hy, Instr.storeAt, Instr.sureAddr, Sem.run_bind, Sem.run_pure, Result.andThen_ok, hr]
  exact hK _ _ h
/-- The same, at a step of a region that draws. -/
theorem step_storeR {w : World} {ops : Array Oper} {op : Oper} {a : Act} {K : Act → World → Prop} {Q : Exit → Act → World → Prop} {E : Prop} (hgd : op.guard = none) (T : TypeId) (x y : Operand) (ho : op.op = .store T x y)
    (g : Nat) (hx : a.eval x = .pointer (some ⟨g, 0, none⟩)) (cs : List Value) (hy : a.eval y = .agg cs.toArray) (old : List Value) (hb : Blk w T g old) (hl : old.length = cs.length)
    (hi : (Try.prog.info? T).map (·.size) = some cs.length) (h1 : ∀ v ∈ cs, v.oneCell' = true)
    (h : K (a.put op.dst undef) (w.setRow g cs.toArray)) : if Region.wanted op (yielded ops a.tmps) = true then Oper.wp Try.prog op a w K Q else E := by
  have hw : Region.wanted op (yielded ops a.tmps) = true := by simp [Region.wanted, hgd]
  rw [if_pos hw]
  have hr := run_storeVar_row (P := Try.prog) w g T T old.toArray cs.toArray hb (by simpa using hi) (by simpa using hl) (Array.all_eq_true_iff_forall_mem.2 (fun v hv => h1 v (by simpa using hv)))
  unfold Oper.wp execOp
  simp only [ho, hx, hy, Instr.storeAt, Instr.sureAddr, Sem.run_bind, Sem.run_pure, Result.andThen_ok, hr]
  exact h
/-- The cells of a header, as a list. -/
def poL (p : Po) : List Value := [.int .i64 (p.s : Int), .int .i64 (p.d : Int), .int .i64 (p.f : Int), .int .i64 (p.h : Int), .int .i64 (p.t : Int)]
theorem poC_eq (p : Po) : poC p = .agg (poL p).toArray := rfl
theorem poL_one (p : Po) : ∀ v ∈ poL p, v.oneCell' = true := by
  intro v hv
  simp only [poL, List.mem_cons, List.not_mem_nil, or_false] at hv
  rcases hv with rfl | rfl | rfl | rfl | rfl <;> rfl
theorem sizePo : (Try.prog.info? 25).map (·.size) = some 5 := by kernel_rfl
theorem sizePoL (p : Po) : (Try.prog.info? 25).map (·.size) = some (poL p).length := sizePo
theorem zeroP : (#[.int .i64 0, .int .i64 0, .int .i64 0, .int .i64 0, .int .i64 0] : Array Value) = (poL Po.zero).toArray := rfl
/-- A whole header out of its block: a law for the walk, guarded by yes or not guarded. -/
theorem wpList_loadP {w : World} {ops : Array Oper} {rest : List Oper} {op : Oper} {a : Act} {Q : Exit → Act → World → Prop} (x : Operand) (ho : op.op = .load 25 x) (hw : Region.wanted op (yielded ops a.tmps) = true)
    (g : Nat) (hx : a.eval x = .pointer (some ⟨g, 0, none⟩)) (p : Po) (hb : Blk w 25 g (poL p))
    (hk : wpList Try.prog ops Q rest (a.put op.dst (poC p)) w) : wpList Try.prog ops Q (op :: rest) a w :=
  BigFrame.wpList_want hw fun _ hK => wp_load_mid 25 x ho g 0 hx (poL p) _ hb.range Try.underlying25 rfl (sizePoL p) (hK _ _ hk)
/-- An address out of a block, guarded by yes or not guarded. -/
theorem wpList_loadA {w : World} {ops : Array Oper} {rest : List Oper} {op : Oper} {a : Act} {Q : Exit → Act → World → Prop} (x : Operand) (ho : op.op = .load 35 x) (hw : Region.wanted op (yielded ops a.tmps) = true)
    (g : Nat) (hx : a.eval x = .pointer (some ⟨g, 0, none⟩)) (s : Bool) (bs : List UInt8) (h : bs.length = 16) (hb : w.rangeAt g 0 (addrL s bs))
    (hk : wpList Try.prog ops Q rest (a.put op.dst (.agg (addrC s bs))) w) : wpList Try.prog ops Q (op :: rest) a w :=
  BigFrame.wpList_want hw fun _ hK => wp_load_mid 35 x ho g 0 hx (addrL s bs) _ hb Try.underlying35 rfl (size_addr s bs h) (hK _ _ hk)
theorem yields_loadA {ops : Array Oper} {S : World → Prop} {op : Oper} {a : Act} (hw : Region.wanted op (yielded ops a.tmps) = true) (x : Operand) (ho : op.op = .load 35 x)
    (g : Nat) (hx : a.eval x = .pointer (some ⟨g, 0, none⟩)) (s : Bool) (bs : List UInt8) (h : bs.length = 16) (hb : ∀ W, S W → W.rangeAt g 0 (addrL s bs)) : YieldsIf Try.prog ops S op (.agg (addrC s bs)) a :=
  yieldsIf_load_mid hw 35 x ho g 0 hx (addrL s bs) _ hb Try.underlying35 rfl (size_addr s bs h)
theorem results_cell0 {fn : Func} {p : Tmp} {ty : TypeId} (h : fn.results = #[.cell p ty]) (tmps : Array Value) (P : Program) (w : World) :
    (results fn tmps).run P w = ((asAddr (tmps.getD p undef)).run P w).andThen fun a w₁ => (loadVar ty a).run P w₁ := by
  simp only [results, h]
  simp [Sem.run_bind, Result.andThen]
/-- The results (header, number), the header in a cell. -/
theorem results_po {fn : Func} {p u : Tmp} (hr : fn.results = #[.cell p 25, .tmp u]) (tmps : Array Value) (w : World) (g : Nat) (hp : tmps.getD p undef = .pointer (some ⟨g, 0, none⟩)) (f : Po) (hb : Blk w 25 g (poL f))
    (v : Value) (hu : tmps.getD u undef = v) : (results fn tmps).run Try.prog w = .ok (.tuple #[poC f, v]) w := by
  have hl := run_loadVar_mid (P := Try.prog) w g 0 25 (poL f) _ hb.range Try.underlying25 rfl (sizePoL f)
  rw [results_cell_tmp hr, hp, hu]
  simp [Result.andThen, asAddr, hl, poC_eq]
/-- A header is stored into a cell that was just laid. -/
theorem wpList_storeNew {w : World} {ops : Array Oper} {rest : List Oper} {op : Oper} {a : Act} {Q : Exit → Act → World → Prop} (hgd : op.guard = none) (x y : Operand) (ho : op.op = .store 25 x y)
    (hx : a.eval x = .pointer (some ⟨w.heap.size, 0, none⟩)) (f : Po) (hy : a.eval y = poC f)
    (h : ∀ w', Blk w' 25 w.heap.size (poL f) → Below w.heap.size w w' → w'.heap.size = w.heap.size + 1 → wpList Try.prog ops Q rest (a.put op.dst undef) w') :
    wpList Try.prog ops Q (op :: rest) a (w.alloc (.cells #[.int .i64 0, .int .i64 0, .int .i64 0, .int .i64 0, .int .i64 0] 25)) := by
  rw [zeroP]
  have hb := Blk.new w 25 (poL Po.zero)
  refine wpList_storeR hgd 25 x y ho w.heap.size hx (poL f) hy _ hb rfl (sizePoL f) (poL_one _) ?_
  refine h _ (hb.setRow_ _) (below_setRow ((Below.refl _ _).alloc (Nat.le_refl _) _) (Nat.le_refl _) _) ?_
  rw [World.setRow]; simp
/-- A cell of a block known whole is stored anew: laws for the walk; the world behind it is a letter. -/
theorem wpList_storeI {w : World} {ops : Array Oper} {rest : List Oper} {op : Oper} {a : Act} {Q : Exit → Act → World → Prop} (hgd : op.guard = none) (x y : Operand) (ho : op.op = .store 3 x y)
    (g i : Nat) (hx : a.eval x = .pointer (some ⟨g, i, none⟩)) (n : Int) (hy : a.eval y = .int .i64 n) (U : TypeId) (cs : List Value) (hb : Blk w U g cs) (m : Int) (hi : cs[i]? = some (.int .i64 m))
    (h : ∀ w', Blk w' U g (cs.set i (.int .i64 n)) → (∀ k, k ≠ g → w'.heap[k]? = w.heap[k]?) → Below g w w' → wpList Try.prog ops Q rest (a.put op.dst undef) w') : wpList Try.prog ops Q (op :: rest) a w := by
  refine wpList_plain hgd fun K hK => ?_
  have hc := hb.cell hi
  have hf := hb.frozen i
  have hk := h _ (hb.set i (.int .i64 n)) (fun k hkg => Below.heap_setCell w ⟨g, i, none⟩ _ k hkg) ((Below.refl g w).setCell (p := ⟨g, i, none⟩) (Nat.le_refl _) _)
  unfold Oper.wp execOp
  simp only [ho, hx, hy]
  clear h
  go_simp
  exact hK _ _ hk
theorem step_storeI {w : World} {ops : Array Oper} {op : Oper} {a : Act} {K : Act → World → Prop} {Q : Exit → Act → World → Prop} {E : Prop} (hgd : op.guard = none) (x y : Operand) (ho : op.op = .store 3 x y)
    (g i : Nat) (hx : a.eval x = .pointer (some ⟨g, i, none⟩)) (n : Int) (hy : a.eval y = .int .i64 n) (U : TypeId) (cs : List Value) (hb : Blk w U g cs) (m : Int) (hi : cs[i]? = some (.int .i64 m))
    (h : ∀ w', Blk w' U g (cs.set i (.int .i64 n)) → Below g w w' → K (a.put op.dst undef) w') : if Region.wanted op (yielded ops a.tmps) = true then Oper.wp Try.prog op a w K Q else E := by
  have hw : Region.wanted op (yielded ops a.tmps) = true := by simp [Region.wanted, hgd]
  rw [if_pos hw]
  have hc := hb.cell hi
  have hf := hb.frozen i
  have hk := h _ (hb.set i (.int .i64 n)) ((Below.refl g w).setCell (p := ⟨g, i, none⟩) (Nat.le_refl _) _)
  unfold Oper.wp execOp
  simp only [ho, hx, hy]
  clear h
  go_simp
  exact hk
/-- A struct put together, at a step of a region that draws. -/
theorem yields_build {ops : Array Oper} {S : World → Prop} {op : Oper} {a : Act} (hw : Region.wanted op (yielded ops a.tmps) = true) (T : TypeId) (parts : Array (Nat × Operand)) (ho : op.op = .build T parts) (vals : List (Nat × Value)) (hv : (parts.map fun (i, x) => (i, a.eval x)).toList = vals)
    (cells : Array Value) (hb : Try.prog.built T vals = some cells) : YieldsIf Try.prog ops S op (.agg cells) a :=
  .inl ⟨hw, fun w _ => by
    unfold execOp
    simp only [ho, Sem.run_bind, run_build w T _ cells (by rw [hv]; exact hb), Result.andThen_ok, Sem.run_pure]⟩
/-- A struct put together: a law for the walk, under a guard that says yes, or under none. -/
theorem wpList_buildw {w : World} {ops : Array Oper} {rest : List Oper} {op : Oper} {a : Act} {Q : Exit → Act → World → Prop} (T : TypeId) (parts : Array (Nat × Operand)) (ho : op.op = .build T parts) (hw : Region.wanted op (yielded ops a.tmps) = true) (vals : List (Nat × Value)) (hv : (parts.map fun (i, x) => (i, a.eval x)).toList = vals)
    (cells : Array Value) (hb : Try.prog.built T vals = some cells) (hk : wpList Try.prog ops Q rest (a.put op.dst (.agg cells)) w) : wpList Try.prog ops Q (op :: rest) a w :=
  BigFrame.wpList_want hw fun K hK => by
    unfold Oper.wp execOp
    simp only [ho, Sem.run_bind, run_build w T _ cells (by rw [hv]; exact hb), Result.andThen_ok, Sem.run_pure]
    exact hK _ _ hk
theorem run_fields (w : World) (d : Nat) (xs ys : Array Value) (g : Nat → Bool) : ∀ (fs : List Field) (k : Nat), (∀ j f, fs[j]? = some f → f.name ≠ "_" ∧ ∃ a b, (part f.type xs f.offset).run Try.prog w = .ok a w ∧ (part f.type ys f.offset).run Try.prog w = .ok b w ∧ (Op.equalIn d f.type a b).run Try.prog w = .ok (g (k + j)) w) →
    (Op.eqFields d xs ys fs).run Try.prog w = .ok ((List.range' k fs.length).all g) w
  | [], k, _ => by simp [Op.eqFields]
  | f :: fs, k, h => by
    obtain ⟨hn, a, b, pa, pb, he⟩ := h 0 f rfl
    have ih := run_fields w d xs ys g fs (k + 1) (fun j f' hj => by
      have := h (j + 1) f' (by simpa using hj)
      rwa [show k + 1 + j = k + (j + 1) by omega])
    simp only [Op.eqFields, hn, ne_eq, not_false_eq_true, if_true, Sem.run_bind, pa, pb, he, Result.andThen_ok, List.length_cons, List.range'_succ, List.all_cons]
    cases hg : g k
    · simp
    · simpa using ih
theorem plain_int : Try.prog.plainKey 3 = true := by kernel_rfl
theorem part_int (w : World) {cs : List Value} {v : Value} {o : Nat} (h : cs[o]? = some v) : (part 3 cs.toArray o).run Try.prog w = .ok v w := run_part_plain w plain_int (by simpa using h)
theorem eq_int (w : World) (d : Nat) (n : Int) : (Op.equalIn (d + 1) 3 (.int .i64 n) (.int .i64 n)).run Try.prog w = .ok true w := by
  rw [run_equalIn_int w d 3 .i64 _ _ _ Try.underlying3]
  simp
theorem under_po : Try.prog.underlying 25 = some (.struct (Try.prog.fieldsOf 25)) := by kernel_rfl
theorem held_po : Try.prog.stoodInHeld 25 = false := by kernel_rfl
theorem guard_po : Try.prog.eqGuardType Try.prog.depth 25 = false := by kernel_rfl
theorem fields_po : ∃ o : Nat → Nat, (Try.prog.fieldsOf 25).toList = [⟨ "Sport", 3, 0, false, "", "", o 0⟩, ⟨ "Dport", 3, 1, false, "", "", o 1⟩, ⟨ "Flags", 3, 2, false, "", "", o 2⟩, ⟨ "Head", 3, 3, false, "", "", o 3⟩, ⟨ "Total", 3, 4, false, "", "", o 4⟩] :=
  ⟨fun i => ((Try.prog.fieldsOf 25).toList[i]?.map (·.byteOffset)).getD 0, by kernel_rfl⟩
/-- A header is like itself. -/
theorem run_eq_po (w : World) (p : Po) : (Op.equalIn 10000 25 (.agg (poL p).toArray) (.agg (poL p).toArray)).run Try.prog w = .ok true w := by
  rw [show 10000 = 9999 + 1 from rfl, run_equalIn_agg w 9999 _ _ _ under_po held_po]
  obtain ⟨o, hf⟩ := fields_po
  rw [hf, run_fields w 9999 _ _ (fun _ => true) _ 0 ?_]
  · simp [List.range']
  · intro j f hj
    match j, hj with
    | 0, hj => cases hj; exact ⟨show ("Sport" : String) ≠ "_" by decide, _, _, part_int w rfl, part_int w rfl, eq_int w 9998 _⟩
    | 1, hj => cases hj; exact ⟨show ("Dport" : String) ≠ "_" by decide, _, _, part_int w rfl, part_int w rfl, eq_int w 9998 _⟩
    | 2, hj => cases hj; exact ⟨show ("Flags" : String) ≠ "_" by decide, _, _, part_int w rfl, part_int w rfl, eq_int w 9998 _⟩
    | 3, hj => cases hj; exact ⟨show ("Head" : String) ≠ "_" by decide, _, _, part_int w rfl, part_int w rfl, eq_int w 9998 _⟩
    | 4, hj => cases hj; exact ⟨show ("Total" : String) ≠ "_" by decide, _, _, part_int w rfl, part_int w rfl, eq_int w 9998 _⟩
theorem run_eql_po (w : World) (p : Po) : (binOp .eql 25 (.agg (poL p).toArray) (.agg (poL p).toArray)).run Try.prog w = .ok (.bool true) w := by
  rw [run_eql_struct, run_eq_po, Result.andThen_ok]
/-- A comparison of two structs, at a step of a region that draws. -/
theorem yields_eql {ops : Array Oper} {S : World → Prop} {op : Oper} {a : Act} (hw : Region.wanted op (yielded ops a.tmps) = true) (T k : TypeId) (x y : Operand) (ho : op.op = .binOp .eql T x y k)
    (xs ys : Array Value) (hx : a.eval x = .agg xs) (hy : a.eval y = .agg ys) (hm : Try.prog.eqGuardType Try.prog.depth T = false) (r : Bool) (hr : ∀ w, (binOp .eql T (.agg xs) (.agg ys)).run Try.prog w = .ok (.bool r) w) : YieldsIf Try.prog ops S op (.bool r) a :=
  .inl ⟨hw, fun w _ => by
    unfold execOp
    simp only [ho, hx, hy, Sem.run_bind, run_eqGuard_agg w .eql T x y xs ys hm, Result.andThen_ok, hr, Sem.run_pure]⟩
/-- The same, in a plain region, under a guard that says yes. -/
theorem wpList_eqlw {w : World} {ops : Array Oper} {rest : List Oper} {op : Oper} {a : Act} {Q : Exit → Act → World → Prop} (T k : TypeId) (x y : Operand) (ho : op.op = .binOp .eql T x y k) (hw : Region.wanted op (yielded ops a.tmps) = true)
    (xs ys : Array Value) (hx : a.eval x = .agg xs) (hy : a.eval y = .agg ys) (hm : Try.prog.eqGuardType Try.prog.depth T = false) (r : Bool) (hr : ∀ w, (binOp .eql T (.agg xs) (.agg ys)).run Try.prog w = .ok (.bool r) w)
    (hk : wpList Try.prog ops Q rest (a.put op.dst (.bool r)) w) : wpList Try.prog ops Q (op :: rest) a w :=
  BigFrame.wpList_want hw fun K hK => by
    unfold Oper.wp execOp
    simp only [ho, hx, hy, Sem.run_bind, run_eqGuard_agg w .eql T x y xs ys hm, Result.andThen_ok, hr, Sem.run_pure]
    exact hK _ _ hk
end Go.Proofs.Ytgjjepcjdekihaa
