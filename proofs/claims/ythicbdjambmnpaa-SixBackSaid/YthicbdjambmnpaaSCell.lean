/-
  A header and an address in memory: their cells; a block known whole; laws for whole loads and stores; results; the header put together; two headers compared.
-/
import Derived.Test.YthicbdjambmnpaaSMath
import Derived.Test.YthicbdjambmnpaaSList
import Derived.Deep.MidRow
import Derived.Laws.ResultCell
import Derived.Laws.CopyOwn
import Derived.BigFrame
import Derived.DeepKeys
import Derived.Laws.StructEq
import Derived.Great.BuildSlice
namespace Go.Proofs.Ythicbdjambmnpaa
open Go.RowKit Go.Lib

/-- The cells of an address, of a header. -/
def adL (a : Ad) : List Value := .bool a.six :: a.b.map v8
def frN (f : Fr) : List Value := [.int .i64 f.head, .int .i64 f.total, .int .i64 f.hop, .bool f.frag, .int .i64 f.exts, .int .i64 f.proto]
def frL (f : Fr) : List Value := frN f ++ (adL f.s ++ adL f.d)
def adC (a : Ad) : Value := .agg (adL a).toArray
def frC (f : Fr) : Value := .agg (frL f).toArray
theorem adL_len {a : Ad} (h : a.b.length = 16) : (adL a).length = 17 := by simp [adL, h]
theorem frL_len {f : Fr} (h : f.Ok) : (frL f).length = 40 := by
  unfold frL
  rw [List.length_append, List.length_append, adL_len h.s, adL_len h.d]
  rfl
theorem adL_one (a : Ad) : ∀ v ∈ adL a, v.oneCell' = true := by
  intro v hv
  unfold adL at hv
  rcases List.mem_cons.1 hv with rfl | hv
  · rfl
  · exact oneCell8 _ v hv
theorem frL_one (f : Fr) : ∀ v ∈ frL f, v.oneCell' = true := by
  intro v hv
  unfold frL at hv
  rcases List.mem_append.1 hv with hv | hv
  · simp only [frN, List.mem_cons, List.not_mem_nil, or_false] at hv
    rcases hv with rfl | rfl | rfl | rfl | rfl | rfl <;> rfl
  · rcases List.mem_append.1 hv with hv | hv
    · exact adL_one _ v hv
    · exact adL_one _ v hv
theorem sizeFr : (Try.prog.info? 28).map (·.size) = some 40 := by kernel_rfl
theorem sizeAd : (Try.prog.info? 26).map (·.size) = some 17 := by kernel_rfl
theorem size8 : (Try.prog.info? 5).map (·.size) = some 1 := by kernel_rfl
theorem sizeFrL {f : Fr} (h : f.Ok) : (Try.prog.info? 28).map (·.size) = some (frL f).length := by rw [frL_len h]; exact sizeFr
theorem sizeAdL {a : Ad} (h : a.b.length = 16) : (Try.prog.info? 26).map (·.size) = some (adL a).length := by rw [adL_len h]; exact sizeAd

/-- Block g is a row of just these cells, of type T. -/
def Blk (w : World) (T : TypeId) (g : Nat) (cs : List Value) : Prop := w.heap[g]? = some (.cells cs.toArray T (0, 0))
section
variable {w w' : World} {T : TypeId} {g : Nat} {cs : List Value}
theorem Blk.lt (h : Blk w T g cs) : g < w.heap.size := (Array.getElem?_eq_some_iff.1 h).1
theorem Blk.new (w : World) (T : TypeId) (cs : List Value) : Blk (w.alloc (.cells cs.toArray T)) T w.heap.size cs := heap_alloc_new w _
theorem Blk.alloc (h : Blk w T g cs) (o : Obj) : Blk (w.alloc o) T g cs := (Below.heap_alloc w o g h.lt).trans h
theorem Blk.drew (h : Blk w T g cs) : Blk w.drew T g cs := h
theorem Blk.below (h : Blk w T g cs) {B : Nat} (hB : g < B) (hb : Below B w w') : Blk w' T g cs := (hb.block g hB).trans h
theorem Blk.cell (h : Blk w T g cs) {i : Nat} {v : Value} (hv : cs[i]? = some v) : w.cell? ⟨g, i, none⟩ = some v := by
  rw [cell_of_row w g i _ _ (0, 0) h]; simpa using hv
theorem Blk.frozen (h : Blk w T g cs) (i : Nat) : w.frozen? ⟨g, i, none⟩ = false := by
  unfold Blk at h; simp [World.frozen?, h]
theorem Blk.set (h : Blk w T g cs) (i : Nat) (v : Value) : Blk (w.setCell ⟨g, i, none⟩ v) T g (cs.set i v) := by
  unfold Blk at h ⊢
  simp [World.setCell, Array.getElem?_modify, h]
theorem Blk.far (h : Blk w T g cs) {p : Addr} (hp : g ≠ p.block) (u : Value) : Blk (w.setCell p u) T g cs := (Below.heap_setCell w p u g hp).trans h
theorem Blk.setRow_ (h : Blk w T g cs) (ds : List Value) : Blk (w.setRow g ds.toArray) T g ds := setRow_heap w g _ _ T (0, 0) h
theorem Blk.setRow_far (h : Blk w T g cs) {b : Nat} (hb : g ≠ b) (ds : Array Value) : Blk (w.setRow b ds) T g cs := (setRow_other w b g ds hb).trans h
theorem Blk.grown (h : Blk w T g cs) {row : Option Nat} (hg : w.grownBy w' row) (hr : row ≠ some g) : Blk w' T g cs := (hg.block g h.lt (fun e => hr e.symm)).trans h
theorem Blk.range (h : Blk w T g cs) : w.rangeAt g 0 cs := fun j v hv => by
  rw [Nat.zero_add]; exact h.cell hv
theorem Blk.mid (h : Blk w T g cs) {pre mid post : List Value} (e : cs = pre ++ (mid ++ post)) {o : Nat} (ho : pre.length = o) : w.rangeAt g o mid := fun j v hv => by
  refine h.cell ?_
  subst ho
  rw [e, List.getElem?_append_right (by omega), Nat.add_sub_cancel_left, List.getElem?_append_left (List.getElem?_eq_some_iff.1 hv).1]; exact hv
end
section
variable {w w' : World} {T : TypeId} {g : Nat} {f : Fr} {a : Ad}
theorem Blk.src (h : Blk w T g (frL f)) : w.rangeAt g 6 (adL f.s) := h.mid (pre := frN f) (post := adL f.d) rfl rfl
theorem Blk.dst (h : Blk w T g (frL f)) (ho : f.Ok) : w.rangeAt g 23 (adL f.d) := h.mid (pre := frN f ++ adL f.s) (post := []) (by rw [List.append_nil, List.append_assoc]; rfl) (by rw [List.length_append, adL_len ho.s]; rfl)
theorem Blk.srcB (h : Blk w T g (frL f)) : w.rangeAt g 7 (f.s.b.map v8) := h.mid (pre := frN f ++ [.bool f.s.six]) (post := adL f.d) (by rw [List.append_assoc]; rfl) rfl
theorem Blk.dstB (h : Blk w T g (frL f)) (ho : f.Ok) : w.rangeAt g 24 (f.d.b.map v8) := h.mid (pre := frN f ++ (adL f.s ++ [.bool f.d.six])) (post := []) (by rw [List.append_nil, List.append_assoc, List.append_assoc]; rfl) (by rw [List.length_append, List.length_append, adL_len ho.s]; rfl)
theorem Blk.adB (h : Blk w T g (adL a)) : w.rangeAt g 1 (a.b.map v8) := h.mid (pre := [.bool a.six]) (post := []) (by rw [List.append_nil]; rfl) rfl
end
theorem range_keep {w w' : World} {b o B : Nat} {cs : List Value} (h : w.rangeAt b o cs) (hlt : b < B) (hb : Below B w w') : w'.rangeAt b o cs := fun j v hv => (hb.cell (p := ⟨b, o + j, none⟩) hlt).trans (h j v hv)
theorem range_rd {w : World} {b o B n : Nat} {xs : List UInt8} (h : w.rangeAt b o (xs.map v8)) (hn : xs.length = n) (hB : b < B) : Rd w B (some ⟨b, o, none⟩) n xs :=
  ⟨hn, fun _ => ⟨b, o, rfl, hB, fun j x hx => h j _ (by rw [List.getElem?_map, hx]; rfl)⟩⟩
theorem below_setRow {B : Nat} {w0 w : World} (h : Below B w0 w) {g : Nat} (hg : B ≤ g) (ds : Array Value) : Below B w0 (w.setRow g ds) :=
  ⟨h.os, h.tape, h.output, by rw [World.setRow]; simpa using h.size, fun k hk => by rw [setRow_other w g k ds (by omega)]; exact h.block k hk⟩
theorem gb_setRow {a w : World} {g : Nat} (h : a.grownBy w (some g)) (ds : Array Value) : a.grownBy (w.setRow g ds) (some g) :=
  ⟨h.os, h.tape, h.output, by rw [World.setRow]; simpa using h.size, fun i hi hne => by
    rw [setRow_other w g i ds (fun e => hne (by rw [e]))]; exact h.block i hi hne⟩

/-- A whole value into its block: a law for the walk. -/
theorem wpList_storeR {w : World} {ops : Array Oper} {rest : List Oper} {op : Oper} {a : Act} {Q : Exit → Act → World → Prop} (hgd : op.guard = none) (T : TypeId) (x y : Operand) (ho : op.op = .store T x y)
    (g : Nat) (hx : a.eval x = .pointer (some ⟨g, 0, none⟩)) (cs : List Value) (hy : a.eval y = .agg cs.toArray) (old : List Value) (hb : Blk w T g old) (hl : old.length = cs.length)
    (hi : (Try.prog.info? T).map (·.size) = some cs.length) (h1 : ∀ v ∈ cs, v.oneCell' = true)
    (h : wpList Try.prog ops Q rest (a.put op.dst undef) (w.setRow g cs.toArray)) : wpList Try.prog ops Q (op :: rest) a w := by
  refine wpList_plain hgd fun K hK => ?_
  have hr := run_storeVar_row (P := Try.prog) w g T T old.toArray cs.toArray hb (by simpa using hi) (by simpa using hl) (Array.all_eq_true_iff_forall_mem.2 (fun v hv => h1 v (by simpa using hv)))
  unfold Oper.wp execOp
  simp only [ho, hx, hy, Instr.storeAt, Instr.sureAddr, Sem.run_bind, Sem.run_pure, Result.andThen_ok, hr]
  exact hK _ _ h
/-- The same, at a step of a region that draws. -/
theorem step_storeR {w : World} {ops : Array Oper} {op : Oper} {a : Act} {K : Act → World → Prop} {Q : Exit → Act → World → Prop} {E : Prop} (hgd : op.guard = none) (T : TypeId) (x y : Operand) (ho : op.op = .store T x y)
    (g : Nat) (hx : a.eval x = .pointer (some ⟨g, 0, none⟩)) (cs : List Value) (hy : a.eval y = .agg cs.toArray) (old : List Value) (hb : Blk w T g old) (hl : old.length = cs.length)
    (hi : (Try.prog.info? T).map (·.size) = some cs.length) (h1 : ∀ v ∈ cs, v.oneCell' = true)
    (h : K (a.put op.dst undef) (w.setRow g cs.toArray)) : if Region.wanted op (yielded ops a.tmps) = true then Oper.wp Try.prog op a w K Q else E := by
  have hw : Region.wanted op (yielded ops a.tmps) = true := by simp [Region.wanted, hgd]
  rw [if_pos hw]
  have hr := run_storeVar_row (P := Try.prog) w g T T old.toArray cs.toArray hb (by simpa using hi) (by simpa using hl) (Array.all_eq_true_iff_forall_mem.2 (fun v hv => h1 v (by simpa using hv)))
  unfold Oper.wp execOp
  simp only [ho, hx, hy, Instr.storeAt, Instr.sureAddr, Sem.run_bind, Sem.run_pure, Result.andThen_ok, hr]
  exact h
/-- A whole header out of its block: a law for the walk. -/
theorem wpList_loadF {w : World} {ops : Array Oper} {rest : List Oper} {op : Oper} {a : Act} {Q : Exit → Act → World → Prop} (hgd : op.guard = none) (x : Operand) (ho : op.op = .load 28 x)
    (g : Nat) (hx : a.eval x = .pointer (some ⟨g, 0, none⟩)) (f : Fr) (h : f.Ok) (hb : Blk w 28 g (frL f))
    (hk : wpList Try.prog ops Q rest (a.put op.dst (frC f)) w) : wpList Try.prog ops Q (op :: rest) a w :=
  wpList_load_mid hgd 28 x ho g 0 hx (frL f) _ hb.range Try.underlying28 rfl (sizeFrL h) hk
/-- The same, under a guard that says yes. -/
theorem wpList_loadFw {w : World} {ops : Array Oper} {rest : List Oper} {op : Oper} {a : Act} {Q : Exit → Act → World → Prop} (x : Operand) (ho : op.op = .load 28 x) (hw : Region.wanted op (yielded ops a.tmps) = true)
    (g : Nat) (hx : a.eval x = .pointer (some ⟨g, 0, none⟩)) (f : Fr) (h : f.Ok) (hb : Blk w 28 g (frL f))
    (hk : wpList Try.prog ops Q rest (a.put op.dst (frC f)) w) : wpList Try.prog ops Q (op :: rest) a w :=
  BigFrame.wpList_want hw fun _ hK => wp_load_mid 28 x ho g 0 hx (frL f) _ hb.range Try.underlying28 rfl (sizeFrL h) (hK _ _ hk)
/-- An address out of the middle of a block, under a guard that says yes. -/
theorem wpList_loadAw {w : World} {ops : Array Oper} {rest : List Oper} {op : Oper} {a : Act} {Q : Exit → Act → World → Prop} (x : Operand) (ho : op.op = .load 26 x) (hw : Region.wanted op (yielded ops a.tmps) = true)
    (g o : Nat) (hx : a.eval x = .pointer (some ⟨g, o, none⟩)) (A : Ad) (h : A.b.length = 16) (hb : w.rangeAt g o (adL A))
    (hk : wpList Try.prog ops Q rest (a.put op.dst (adC A)) w) : wpList Try.prog ops Q (op :: rest) a w :=
  BigFrame.wpList_want hw fun _ hK => wp_load_mid 26 x ho g o hx (adL A) _ hb Try.underlying26 rfl (sizeAdL h) (hK _ _ hk)
theorem results_cell0 {fn : Func} {p : Tmp} {ty : TypeId} (h : fn.results = #[.cell p ty]) (tmps : Array Value) (P : Program) (w : World) :
    (results fn tmps).run P w = ((asAddr (tmps.getD p undef)).run P w).andThen fun a w₁ => (loadVar ty a).run P w₁ := by
  simp only [results, h]
  simp [Sem.run_bind, Result.andThen]
/-- The result of one address in a cell. -/
theorem results_ad {fn : Func} {p : Tmp} (hr : fn.results = #[.cell p 26]) (tmps : Array Value) (w : World) (g : Nat) (hp : tmps.getD p undef = .pointer (some ⟨g, 0, none⟩)) (a : Ad) (h : a.b.length = 16) (hb : Blk w 26 g (adL a)) :
    (results fn tmps).run Try.prog w = .ok (adC a) w := by
  have hl := run_loadVar_mid (P := Try.prog) w g 0 26 (adL a) _ hb.range Try.underlying26 rfl (sizeAdL h)
  rw [results_cell0 hr, hp]
  simp [Result.andThen, asAddr, hl, adC]
/-- The result of one header in a cell. -/
theorem results_fr1 {fn : Func} {p : Tmp} (hr : fn.results = #[.cell p 28]) (tmps : Array Value) (w : World) (g : Nat) (hp : tmps.getD p undef = .pointer (some ⟨g, 0, none⟩)) (f : Fr) (h : f.Ok) (hb : Blk w 28 g (frL f)) :
    (results fn tmps).run Try.prog w = .ok (frC f) w := by
  have hl := run_loadVar_mid (P := Try.prog) w g 0 28 (frL f) _ hb.range Try.underlying28 rfl (sizeFrL h)
  rw [results_cell0 hr, hp]
  simp [Result.andThen, asAddr, hl, frC]
/-- The results (header, number), the header in a cell. -/
theorem results_fr {fn : Func} {p u : Tmp} (hr : fn.results = #[.cell p 28, .tmp u]) (tmps : Array Value) (w : World) (g : Nat) (hp : tmps.getD p undef = .pointer (some ⟨g, 0, none⟩)) (f : Fr) (h : f.Ok) (hb : Blk w 28 g (frL f))
    (v : Value) (hu : tmps.getD u undef = v) : (results fn tmps).run Try.prog w = .ok (.tuple #[frC f, v]) w := by
  have hl := run_loadVar_mid (P := Try.prog) w g 0 28 (frL f) _ hb.range Try.underlying28 rfl (sizeFrL h)
  rw [results_cell_tmp hr, hp, hu]
  simp [Result.andThen, asAddr, hl, frC]

theorem sixteen {xs : List UInt8} (h : xs.length = 16) : ∃ a b c d e f g i j k l m n o p q, xs = [a, b, c, d, e, f, g, i, j, k, l, m, n, o, p, q] := by
  match xs, h with
  | [a, b, c, d, e, f, g, i, j, k, l, m, n, o, p, q], _ => exact ⟨a, b, c, d, e, f, g, i, j, k, l, m, n, o, p, q, rfl⟩
/-- A header without extensions, put together of its parts, in either order. -/
theorem built_at (a0 a1 a2 a5 : Int) (s d : Ad) (hs : s.b.length = 16) (hd : d.b.length = 16) : Try.prog.built 28 [(0, .int .i64 a0), (1, .int .i64 a1), (2, .int .i64 a2), (5, .int .i64 a5), (6, adC s), (7, adC d)] = some (frL ⟨a0, a1, a2, false, 0, a5, s, d⟩).toArray := by
  obtain ⟨s, sb⟩ := s
  obtain ⟨d, db⟩ := d
  obtain ⟨a0, a1, a2, a3, a4, a5, a6, a7, a8, a9, a10, a11, a12, a13, a14, a15, rfl⟩ := sixteen hs
  obtain ⟨b0, b1, b2, b3, b4, b5, b6, b7, b8, b9, b10, b11, b12, b13, b14, b15, rfl⟩ := sixteen hd
  kernel_rfl
theorem built_at2 (a0 a1 a2 a5 : Int) (s d : Ad) (hs : s.b.length = 16) (hd : d.b.length = 16) : Try.prog.built 28 [(0, .int .i64 a0), (1, .int .i64 a1), (5, .int .i64 a5), (2, .int .i64 a2), (6, adC s), (7, adC d)] = some (frL ⟨a0, a1, a2, false, 0, a5, s, d⟩).toArray := by
  obtain ⟨s, sb⟩ := s
  obtain ⟨d, db⟩ := d
  obtain ⟨a0, a1, a2, a3, a4, a5, a6, a7, a8, a9, a10, a11, a12, a13, a14, a15, rfl⟩ := sixteen hs
  obtain ⟨b0, b1, b2, b3, b4, b5, b6, b7, b8, b9, b10, b11, b12, b13, b14, b15, rfl⟩ := sixteen hd
  kernel_rfl
theorem run_zero (w : World) : (Instr.build 28 #[]).run Try.prog w = .ok (frC Fr.zero) w := run_build w _ _ _ (by kernel_rfl)

/-- A struct put together, at a step of a region that draws. -/
theorem yields_build {ops : Array Oper} {S : World → Prop} {op : Oper} {a : Act} (hw : Region.wanted op (yielded ops a.tmps) = true) (T : TypeId) (parts : Array (Nat × Operand)) (ho : op.op = .build T parts) (vals : List (Nat × Value)) (hv : (parts.map fun (i, x) => (i, a.eval x)).toList = vals)
    (cells : Array Value) (hb : Try.prog.built T vals = some cells) : YieldsIf Try.prog ops S op (.agg cells) a :=
  .inl ⟨hw, fun w _ => by
    unfold execOp
    simp only [ho, Sem.run_bind, run_build w T _ cells (by rw [hv]; exact hb), Result.andThen_ok, Sem.run_pure]⟩
end Go.Proofs.Ythicbdjambmnpaa
