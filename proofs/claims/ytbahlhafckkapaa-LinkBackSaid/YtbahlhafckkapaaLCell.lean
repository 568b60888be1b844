/-
  A link's header in memory: its cells; tags in a slice; a slice of tags that the call owns.
-/
import Derived.Test.YtbahlhafckkapaaLMath
import Derived.Test.YtbahlhafckkapaaCText
import Derived.Test.YtbahlhafckkapaaFrame
import Derived.Deep.MidRow
import Derived.Laws.ResultCell
import Derived.Laws.CopyOwn
import Derived.Deep.RegionHeld3
import Derived.Deep.AppendLies
import Derived.Lib.SliceRun
import Derived.IntWalk
namespace Go.Proofs.Ytbahlhafckkapaa
open Go.RowKit Go.Lib

/-- The cells of a header whose tags lie in the slice tv. -/
def lkL (L : Lk) (tv : Value) : List Value := L.d.map v8 ++ (L.s.map v8 ++ [tv, .int .i64 L.ty, .int .i64 L.at_])
def lkC (L : Lk) (tv : Value) : Value := .agg (lkL L tv).toArray
theorem lkL_len {L : Lk} (h : L.Six) (tv : Value) : (lkL L tv).length = 15 := by
  unfold lkL
  rw [List.length_append, List.length_append, List.length_map, List.length_map, h.d, h.s]
  rfl
section
variable {L : Lk}
theorem lkL_tail (h : L.Six) (tv : Value) (i : Nat) : (lkL L tv)[12 + i]? = [tv, .int .i64 L.ty, .int .i64 L.at_][i]? := by
  unfold lkL
  rw [List.getElem?_append_right (by rw [List.length_map, h.d]; omega), List.length_map, h.d, List.getElem?_append_right (by rw [List.length_map, h.s]; omega), List.length_map, h.s]
  congr 1; omega
theorem lkL_tags (h : L.Six) (tv : Value) : (lkL L tv)[12]? = some tv := lkL_tail h tv 0
theorem lkL_ty (h : L.Six) (tv : Value) : (lkL L tv)[13]? = some (.int .i64 L.ty) := lkL_tail h tv 1
theorem lkL_at (h : L.Six) (tv : Value) : (lkL L tv)[14]? = some (.int .i64 L.at_) := lkL_tail h tv 2
theorem lkL_set (h : L.Six) (tv : Value) (i : Nat) (u : Value) : (lkL L tv).set (12 + i) u = L.d.map v8 ++ (L.s.map v8 ++ ([tv, .int .i64 L.ty, .int .i64 L.at_].set i u)) := by
  unfold lkL
  rw [List.set_append_right _ _ (by rw [List.length_map, h.d]; omega), List.length_map, h.d, List.set_append_right _ _ (by rw [List.length_map, h.s]; omega), List.length_map, h.s]
  congr 3; omega
theorem lkL_tags' (h : L.Six) (tv : Value) (u : Value) : (lkL L tv).set 12 u = lkL L u := lkL_set h tv 0 u
theorem lkL_ty' (h : L.Six) (tv : Value) (n : Int) : (lkL L tv).set 13 (.int .i64 n) = lkL { L with ty := n } tv := lkL_set h tv 1 _
theorem lkL_at' (h : L.Six) (tv : Value) (n : Int) : (lkL L tv).set 14 (.int .i64 n) = lkL { L with at_ := n } tv := lkL_set h tv 2 _
end
theorem lkL_one (L : Lk) (tv : Value) (ht : tv.oneCell' = true) : ∀ v ∈ lkL L tv, v.oneCell' = true := by
  intro v hv
  unfold lkL at hv
  simp only [List.mem_append, List.mem_cons, List.not_mem_nil, or_false] at hv
  rcases hv with hv | hv | rfl | rfl | rfl
  · exact oneCell8 _ v hv
  · exact oneCell8 _ v hv
  · exact ht
  · rfl
  · rfl
theorem zeroC : #[Value.int .u8 0, .int .u8 0, .int .u8 0, .int .u8 0, .int .u8 0, .int .u8 0, .int .u8 0, .int .u8 0, .int .u8 0, .int .u8 0, .int .u8 0, .int .u8 0, .slice none 0 0, .int .i64 0, .int .i64 0] = (lkL Lk.zero (.slice none 0 0)).toArray := by rfl
theorem sizeLk : (Try.prog.info? 27).map (·.size) = some 15 := by kernel_rfl
theorem size6 : (Try.prog.info? 24).map (·.size) = some 6 := by kernel_rfl
theorem size8 : (Try.prog.info? 5).map (·.size) = some 1 := by kernel_rfl
theorem sizeLkL {L : Lk} (h : L.Six) (tv : Value) : (Try.prog.info? 27).map (·.size) = some (lkL L tv).length := by rw [lkL_len h]; exact sizeLk

/-- Block g is a row of just these cells, of type T. -/
def Blk (w : World) (T : TypeId) (g : Nat) (cs : List Value) : Prop := w.heap[g]? = some (.cells cs.toArray T (0, 0))

section
variable {w w' : World} {T : TypeId} {g : Nat} {cs : List Value}
theorem Blk.lt (h : Blk w T g cs) : g < w.heap.size := (Array.getElem?_eq_some_iff.1 h).1
theorem Blk.new (w : World) (T : TypeId) (cs : List Value) : Blk (w.alloc (.cells cs.toArray T)) T w.heap.size cs := heap_alloc_new w _
theorem Blk.alloc (h : Blk w T g cs) (o : Obj) : Blk (w.alloc o) T g cs := (Below.heap_alloc w o g h.lt).trans h
theorem Blk.drew (h : Blk w T g cs) : Blk w.drew T g cs := h
theorem Blk.below (h : Blk w T g cs) {B : Nat} (hB : g < B) (hb : Below B w w') : Blk w' T g cs := (hb.block g hB).trans h
theorem Blk.cell (h : Blk w T g cs) {i : Nat} {v : Value} (hv : cs[i]? = some v) : w.cell? ⟨g, i, none⟩ = some v := by
  rw [cell_of_row w g i _ _ (0, 0) h]; simpa using hv
theorem Blk.frozen (h : Blk w T g cs) (i : Nat) : w.frozen? ⟨g, i, none⟩ = false := by
  unfold Blk at h; simp [World.frozen?, h]
theorem Blk.set (h : Blk w T g cs) (i : Nat) (v : Value) : Blk (w.setCell ⟨g, i, none⟩ v) T g (cs.set i v) := by
  unfold Blk at h ⊢
  simp [World.setCell, Array.getElem?_modify, h]
theorem Blk.far (h : Blk w T g cs) {p : Addr} (hp : g ≠ p.block) (u : Value) : Blk (w.setCell p u) T g cs := (Below.heap_setCell w p u g hp).trans h
theorem Blk.setRow_ (h : Blk w T g cs) (ds : List Value) : Blk (w.setRow g ds.toArray) T g ds := setRow_heap w g _ _ T (0, 0) h
theorem Blk.setRow_far (h : Blk w T g cs) {b : Nat} (hb : g ≠ b) (ds : Array Value) : Blk (w.setRow b ds) T g cs := (setRow_other w b g ds hb).trans h
theorem Blk.grown (h : Blk w T g cs) {row : Option Nat} (hg : w.grownBy w' row) (hr : row ≠ some g) : Blk w' T g cs := (hg.block g h.lt (fun e => hr e.symm)).trans h
theorem Blk.range (h : Blk w T g cs) : w.rangeAt g 0 cs := fun j v hv => by
  rw [Nat.zero_add]; exact h.cell hv
/-- The addresses in a header's block. -/
theorem Blk.dst {L : Lk} {tv : Value} (h : Blk w T g (lkL L tv)) : w.rangeAt g 0 (L.d.map v8) := fun j v hv => by
  rw [Nat.zero_add]
  refine h.cell ?_
  unfold lkL
  rw [List.getElem?_append_left (List.getElem?_eq_some_iff.1 hv).1]; exact hv
theorem Blk.src {L : Lk} {tv : Value} (h : Blk w T g (lkL L tv)) (h6 : L.Six) : w.rangeAt g 6 (L.s.map v8) := fun j v hv => by
  refine h.cell ?_
  unfold lkL
  rw [List.getElem?_append_right (by rw [List.length_map, h6.d]; omega), List.length_map, h6.d, Nat.add_sub_cancel_left, List.getElem?_append_left (List.getElem?_eq_some_iff.1 hv).1]; exact hv
end
theorem range_keep {w w' : World} {b o B : Nat} {cs : List Value} (h : w.rangeAt b o cs) (hlt : b < B) (hb : Below B w w') : w'.rangeAt b o cs := fun j v hv => (hb.cell (p := ⟨b, o + j, none⟩) hlt).trans (h j v hv)
theorem range_rd {w : World} {b o B n : Nat} {xs : List UInt8} (h : w.rangeAt b o (xs.map v8)) (hn : xs.length = n) (hB : b < B) : Rd w B (some ⟨b, o, none⟩) n xs :=
  ⟨hn, fun _ => ⟨b, o, rfl, hB, fun j x hx => h j _ (by rw [List.getElem?_map, hx]; rfl)⟩⟩
theorem below_setRow {B : Nat} {w0 w : World} (h : Below B w0 w) {g : Nat} (hg : B ≤ g) (ds : Array Value) : Below B w0 (w.setRow g ds) :=
  ⟨h.os, h.tape, h.output, by rw [World.setRow]; simpa using h.size, fun k hk => by rw [setRow_other w g k ds (by omega)]; exact h.block k hk⟩

theorem gb_setRow {a w : World} {g : Nat} (h : a.grownBy w (some g)) (ds : Array Value) : a.grownBy (w.setRow g ds) (some g) :=
  ⟨h.os, h.tape, h.output, by rw [World.setRow]; simpa using h.size, fun i hi hne => by
    rw [setRow_other w g i ds (fun e => hne (by rw [e]))]; exact h.block i hi hne⟩

/-- A whole header into its block: a law for the walk. -/
theorem wpList_storeR {w : World} {ops : Array Oper} {rest : List Oper} {op : Oper} {a : Act} {Q : Exit → Act → World → Prop} (hgd : op.guard = none) (T : TypeId) (x y : Operand) (ho : op.op = .store T x y)
    (g : Nat) (hx : a.eval x = .pointer (some ⟨g, 0, none⟩)) (cs : List Value) (hy : a.eval y = .agg cs.toArray) (old : List Value) (hb : Blk w T g old) (hl : old.length = cs.length)
    (hi : (Try.prog.info? T).map (·.size) = some cs.length) (h1 : ∀ v ∈ cs, v.oneCell' = true)
    (h : wpList Try.prog ops Q rest (a.put op.dst undef) (w.setRow g cs.toArray)) : wpList Try.prog ops Q (op :: rest) a w := by
  refine wpList_plain hgd fun K hK => ?_
  have hr := run_storeVar_row (P := Try.prog) w g T T old.toArray cs.toArray hb (by simpa using hi) (by simpa using hl) (Array.all_eq_true_iff_forall_mem.2 (fun v hv => h1 v (by simpa using hv)))
  unfold Oper.wp execOp
  simp only [ho, hx, hy, Instr.storeAt, Instr.sureAddr, Sem.run_bind, Sem.run_pure, Result.andThen_ok, hr]
  exact hK _ _ h
/-- A whole header out of its block: a law for the walk. -/
theorem wpList_loadL {w : World} {ops : Array Oper} {rest : List Oper} {op : Oper} {a : Act} {Q : Exit → Act → World → Prop} (hgd : op.guard = none) (x : Operand) (ho : op.op = .load 27 x)
    (g : Nat) (hx : a.eval x = .pointer (some ⟨g, 0, none⟩)) (L : Lk) (h6 : L.Six) (tv : Value) (hb : Blk w 27 g (lkL L tv))
    (h : wpList Try.prog ops Q rest (a.put op.dst (lkC L tv)) w) : wpList Try.prog ops Q (op :: rest) a w :=
  wpList_load_mid hgd 27 x ho g 0 hx (lkL L tv) _ hb.range Try.underlying27 rfl (sizeLkL h6 tv) h
/-- The results (header, number), the header in a cell. -/
theorem results_lk {fn : Func} {p u : Tmp} (hr : fn.results = #[.cell p 27, .tmp u]) (tmps : Array Value) (w : World) (g : Nat) (hp : tmps.getD p undef = .pointer (some ⟨g, 0, none⟩)) (L : Lk) (h6 : L.Six) (tv : Value) (hb : Blk w 27 g (lkL L tv))
    (v : Value) (hu : tmps.getD u undef = v) : (results fn tmps).run Try.prog w = .ok (.tuple #[lkC L tv, v]) w := by
  have hl := run_loadVar_mid (P := Try.prog) w g 0 27 (lkL L tv) _ hb.range Try.underlying27 rfl (sizeLkL h6 tv)
  rw [results_cell_tmp hr, hp, hu]
  simp [Result.andThen, asAddr, hl, lkC]

/-- The slice reads as these tags. -/
def TagsAt (w : World) (B : Nat) (A : Option Addr) (len : Nat) (xs : List Tg) : Prop :=
  xs.length = len ∧ (0 < len → ∃ b off, A = some ⟨b, off, none⟩ ∧ b < B ∧ ∀ (j : Nat) (x : Tg), xs[j]? = some x →
    w.cell? ⟨b, off + j * 2, none⟩ = some (.int .i64 x.t) ∧ w.cell? ⟨b, off + j * 2 + 1, none⟩ = some (.int .i64 x.c))
section
variable {w w' : World} {B B' len : Nat} {A : Option Addr} {xs : List Tg}
theorem TagsAt.size (h : TagsAt w B A len xs) : xs.length = len := h.1
theorem TagsAt.nil_ (A : Option Addr) : TagsAt w B A 0 [] := ⟨rfl, fun h => absurd h (by omega)⟩
theorem TagsAt.keep (h : TagsAt w B A len xs) (hk : ∀ p : Addr, p.block < B → w'.cell? p = w.cell? p) : TagsAt w' B A len xs :=
  ⟨h.1, fun hn => by
    obtain ⟨b, off, e, hb, hc⟩ := h.2 hn
    refine ⟨b, off, e, hb, fun j x hx => ?_⟩
    obtain ⟨h1, h2⟩ := hc j x hx
    exact ⟨(hk _ hb).trans h1, (hk _ hb).trans h2⟩⟩
theorem TagsAt.below (h : TagsAt w B A len xs) (hb : Below B w w') : TagsAt w' B A len xs := h.keep fun _ hp => hb.cell hp
theorem TagsAt.more (h : TagsAt w B A len xs) (hB : B ≤ B') : TagsAt w B' A len xs :=
  ⟨h.1, fun hn => by
    obtain ⟨b, off, e, hb, hc⟩ := h.2 hn
    exact ⟨b, off, e, by omega, hc⟩⟩
theorem TagsAt.addr (h : TagsAt w B A len xs) (hn : 0 < len) : ∃ b off, A = some ⟨b, off, none⟩ ∧ b < B := by
  obtain ⟨b, off, e, hb, _⟩ := h.2 hn
  exact ⟨b, off, e, hb⟩
theorem TagsAt.cell {b off : Nat} (h : TagsAt w B (some ⟨b, off, none⟩) len xs) {k : Nat} {x : Tg} (hx : xs[k]? = some x) : w.cell? ⟨b, off + k * 2, none⟩ = some (.int .i64 x.t) ∧ w.cell? ⟨b, off + k * 2 + 1, none⟩ = some (.int .i64 x.c) := by
  obtain ⟨b', off', e, _, hc⟩ := h.2 (by have := (List.getElem?_eq_some_iff.1 hx).1; have := h.1; omega)
  cases e
  exact hc k x hx
end

/-- The cells of tags. -/
def tcells : List Tg → List Value
  | [] => []
  | x :: ts => .int .i64 x.t :: .int .i64 x.c :: tcells ts
theorem tcells_snoc : ∀ (ts : List Tg) (x : Tg), tcells (ts ++ [x]) = tcells ts ++ [.int .i64 x.t, .int .i64 x.c]
  | [], _ => rfl
  | y :: ts, x => by
    show _ :: _ :: tcells (ts ++ [x]) = _
    rw [tcells_snoc ts x]
    rfl
theorem tcells_get : ∀ (ts : List Tg) (j : Nat) (x : Tg), ts[j]? = some x → (tcells ts)[j * 2]? = some (.int .i64 x.t) ∧ (tcells ts)[j * 2 + 1]? = some (.int .i64 x.c)
  | [], _, _, hx => by simp at hx
  | y :: ts, 0, x, hx => by simp at hx; subst hx; exact ⟨rfl, rfl⟩
  | y :: ts, j + 1, x, hx => by
    have := tcells_get ts j x (by simpa using hx)
    rw [show (j + 1) * 2 = j * 2 + 1 + 1 by omega]
    exact this

/-- The slice value v owns these tags. -/
def OwnT (w : World) (base : Nat) (v : Value) (ts : List Tg) : Prop := w.ownsRow base 45 2 v ts.length (tcells ts)
section
variable {w w' : World} {base base' : Nat} {v v' : Value} {ts : List Tg}
theorem OwnT.nil_ (w : World) (base : Nat) : OwnT w base (.slice none 0 0) [] := World.ownsRow_nil w base _ 2
theorem OwnT.kept (h : OwnT w base v ts) {row : Option Nat} (hg : w.grownBy w' row) (hne : v.ownBlock = none ∨ v.ownBlock ≠ row) : OwnT w' base v ts := World.ownsRow.kept h hg hne
theorem OwnT.kept1 (h : OwnT w base v ts) {g : Nat} (hg : w.grownBy w' (some g)) (hlt : g < base) : OwnT w' base v ts := by
  refine h.kept hg ?_
  cases hv : v.ownBlock with
  | none => exact .inl rfl
  | some b => exact .inr (fun e => by have := (World.ownsRow.lt h b hv).1; cases e; omega)
theorem OwnT.alloc (h : OwnT w base v ts) (o : Obj) : OwnT (w.alloc o) base v ts := World.ownsRow.alloc h o
theorem OwnT.drew (h : OwnT w base v ts) : OwnT w.drew base v ts := h
theorem OwnT.lt (h : OwnT w base v ts) : ∀ g, v.ownBlock = some g → base ≤ g ∧ g < w.heap.size := fun g hg => World.ownsRow.lt h g hg
theorem OwnT.base_le (h : OwnT w base v ts) (hb : base' ≤ base) : OwnT w base' v ts := by
  refine ⟨h.1, ?_⟩
  rcases h.2 with hn | ⟨g, cap, cur, rfl, hbg, rest⟩
  · exact .inl hn
  · exact .inr ⟨g, cap, cur, rfl, by omega, rest⟩
theorem OwnT.below (h : OwnT w base v ts) (hb : Below w.heap.size w w') : OwnT w' base v ts := by
  refine ⟨h.1, ?_⟩
  rcases h.2 with hn | ⟨g, cap, cur, rfl, hbg, hg, rest⟩
  · exact .inl hn
  · exact .inr ⟨g, cap, cur, rfl, hbg, (hb.block g (Array.getElem?_eq_some_iff.1 hg).1).trans hg, rest⟩
/-- What is owned reads so. -/
theorem OwnT.sl (h : OwnT w base v ts) : ∃ A m c, v = .slice A m c ∧ m = ts.length ∧ m ≤ c ∧ c ≤ maxLen ∧ TagsAt w w.heap.size A m ts ∧ (0 < m → ∃ g, A = some ⟨g, 0, none⟩ ∧ base ≤ g) := by
  rcases h.2 with ⟨rfl, h0⟩ | ⟨g, cap, cur, rfl, hbg, hg, hnc, hcm, hcs, ht⟩
  · have : ts = [] := List.eq_nil_of_length_eq_zero h0
    subst this
    exact ⟨none, 0, 0, rfl, rfl, Nat.le_refl _, by simp [maxLen], TagsAt.nil_ _, fun h => absurd h (by omega)⟩
  · refine ⟨_, _, cap, rfl, rfl, hnc, hcm, ⟨rfl, fun _ => ⟨g, 0, rfl, (Array.getElem?_eq_some_iff.1 hg).1, fun j x hx => ?_⟩⟩, fun _ => ⟨g, rfl, hbg⟩⟩
    have hcell := World.ownsRow.cells h (g := g) rfl
    obtain ⟨e1, e2⟩ := tcells_get ts j x hx
    have c1 := hcell (j * 2) _ e1
    have c2 := hcell (j * 2 + 1) _ e2
    rw [add_plain] at c1 c2
    exact ⟨c1, by rw [← Nat.add_assoc] at c2; exact c2⟩
theorem OwnT.one (h : OwnT w base v ts) : v.oneCell' = true := by
  obtain ⟨A, m, c, rfl, _⟩ := h.sl
  rfl
end

theorem infoT : (Try.prog.info? 45).map (fun i => (i.zero, i.size, i.bytes)) = some (some (.agg #[.int .i64 0, .int .i64 0]), 2, 16) := by kernel_rfl

/-- append of one tag, laid in a new block of its own, onto an owned slice of tags. -/
theorem run_appendT (W : World) (ty : TypeId) (base : Nat) (v : Value) (ts : List Tg) (x : Tg) (hown : OwnT W base v ts) (hlen : ts.length ≤ 1000000) (hbase : base ≤ W.heap.size) (g : Nat) (hg : Blk W 45 g [.int .i64 x.t, .int .i64 x.c]) :
    ∃ v' w', (Builtin.append_ #[25, 25] ty #[v, .slice (some ⟨g, 0, none⟩) 1 1]).run Try.prog W = .ok v' w' ∧ OwnT w' base v' (ts ++ [x]) ∧ W.grownBy w' v.ownBlock ∧ (v'.ownBlock = v.ownBlock ∨ v'.ownBlock = some W.heap.size) := by
  obtain ⟨i0, hi, hz0, hz1, hz2⟩ := info_parts infoT
  have c0 := hg.cell (i := 0) rfl
  have c1 := hg.cell (i := 1) rfl
  obtain ⟨v', w', h1, h2, h3, _, h5⟩ := run_append_own_at (P := Try.prog) W base 25 ty 45 i0 _ 2 16 Try.underlying25 hi hz0 hz1 hz2 rfl (by decide) v ts.length (tcells ts) hown ⟨g, 0, none⟩ 1 1 [.int .i64 x.t, .int .i64 x.c] rfl
    (by
      intro j y hj
      match j, hj with
      | 0, hj => simp at hj; subst hj; rw [add_plain]; exact c0
      | 1, hj => simp at hj; subst hj; rw [add_plain]; exact c1)
    (by
      intro y hy
      simp at hy
      rcases hy with rfl | rfl
      · rfl
      · rfl) (by unfold maxLen; omega) (by omega) hbase
  refine ⟨v', w', h1, ?_, h3, h5⟩
  unfold OwnT
  rw [tcells_snoc, List.length_append]
  exact h2
/-- The same, at a step of a region that draws its order. -/
theorem step_appendT {W : World} {ops : Array Oper} {o : Oper} {a : Act} {K : Act → World → Prop} {Q : Exit → Act → World → Prop} {E : Prop} (hgd : o.guard = none) (s x : Operand)
    (ho : o.op = .call { callee := .builtin .append, args := #[s, x], argTypes := #[25, 25] })
    (base : Nat) (v : Value) (ts : List Tg) (y : Tg) (hs : a.eval s = v) (g : Nat) (hx : a.eval x = .slice (some ⟨g, 0, none⟩) 1 1) (hown : OwnT W base v ts) (hlen : ts.length ≤ 1000000) (hbase : base ≤ W.heap.size) (hg : Blk W 45 g [.int .i64 y.t, .int .i64 y.c])
    (h : ∀ v' w', OwnT w' base v' (ts ++ [y]) → W.grownBy w' v.ownBlock → (v'.ownBlock = v.ownBlock ∨ v'.ownBlock = some W.heap.size) → K (a.put o.dst v') w') :
    if Region.wanted o (yielded ops a.tmps) = true then Oper.wp Try.prog o a W K Q else E := by
  have hw : Region.wanted o (yielded ops a.tmps) = true := by simp [Region.wanted, hgd]
  rw [if_pos hw]
  obtain ⟨v', w', hrun, h2, h3, h4⟩ := run_appendT W o.type base v ts y hown hlen hbase g hg
  unfold Oper.wp execOp
  simp only [ho, resolve, invoke, builtin, Sem.run_bind, Sem.run_pure, Result.andThen_ok, List.map_toArray, List.map_cons, List.map_nil, hs, hx, hrun]
  exact h v' w' h2 h3 h4

/-- What a reading of a header answers: the header, its tags in new memory, and a number. -/
def ReadGave (w : World) (r : Lk × Nat) (e : Ending) (w' : World) : Prop :=
  ∃ tv, e = .returned (.tuple #[lkC r.1 tv, .int .i64 (r.2 : Int)]) ∧ OwnT w' w.heap.size tv r.1.ts ∧ Below w.heap.size w w'

/-- b[L:H], where L and H are whole numbers that come to l and l + n. -/
def cutA (A : Option Addr) (cap l : Nat) : Option Addr := if cap = l then A else A.map fun a => a.add l
theorem Rd.part {w : World} {B len : Nat} {A : Option Addr} {xs : List UInt8} (h : Rd w B A len xs) {k n : Nat} (hk : k + n ≤ len) (hn : 0 < n) :
    Rd w B (A.map fun a => a.add k) n ((xs.drop k).take n) := by
  refine ⟨by rw [List.length_take, List.length_drop, h.1]; omega, fun _ => ?_⟩
  obtain ⟨b, off, rfl, hb, hc⟩ := h.2 (by omega)
  refine ⟨b, off + k, by simp [add_plain], hb, fun j x hx => ?_⟩
  rw [show off + k + j = off + (k + j) by omega]
  refine hc (k + j) x ?_
  rw [List.getElem?_take] at hx
  split at hx
  · rw [List.getElem?_drop] at hx; exact hx
  · cases hx
theorem Rd.cut {w : World} {B len : Nat} {A : Option Addr} {xs : List UInt8} (h : Rd w B A len xs) {l n : Nat} (hk : l + n ≤ len) (cap : Nat) (hcap : len ≤ cap) : Rd w B (cutA A cap l) n ((xs.drop l).take n) := by
  unfold cutA
  rcases Nat.eq_zero_or_pos n with rfl | hn
  · rw [List.take_zero]; exact Rd.nil_ _
  · rw [if_neg (by omega)]; exact h.part hk hn
theorem Rd.from {w : World} {B len : Nat} {A : Option Addr} {xs : List UInt8} (h : Rd w B A len xs) {l : Nat} (hk : l ≤ len) (cap : Nat) (hcap : len ≤ cap) : Rd w B (cutA A cap l) (len - l) (xs.drop l) := by
  have := h.cut (l := l) (n := len - l) (by omega) cap hcap
  rwa [List.take_of_length_le (by rw [List.length_drop, h.1]; exact Nat.le_refl _)] at this
theorem run_cut8 (A : Option Addr) (len cap l n : Nat) (L H : Int) (hL : L = (l : Int)) (hH : H = ((l + n : Nat) : Int)) (h2 : l + n ≤ cap) (W : World) :
    (Instr.slice 22 (.slice A len cap) (some (.int .i64 L)) (some (.int .i64 H)) none).run Try.prog W = .ok (.slice (cutA A cap l) n (cap - l)) W := by
  subst hL hH
  obtain ⟨i0, hi, hz0, hz1, hz2⟩ := info_parts info8
  have hb := run_sliceBound (P := Try.prog) (w := W) .i64 (l : Int) (l + n) .sliceB (by omega) (by omega)
  have hc := run_sliceBound (P := Try.prog) (w := W) .i64 ((l + n : Nat) : Int) cap .sliceAcap (by omega) (by omega)
  simp only [Int.natCast_add] at hc
  simp [Instr.slice, hb, hc, run_underlying Try.underlying22, Instr.sliceBounds, sizeOf, typeInfo, hi, hz1, cutA, show ((l : Int) + (n : Int)).toNat = l + n by omega]
theorem run_from8 (A : Option Addr) (len cap l : Nat) (h1 : l ≤ len) (W : World) :
    (Instr.slice 22 (.slice A len cap) (some (.int .i64 (l : Int))) none none).run Try.prog W = .ok (.slice (cutA A cap l) (len - l) (cap - l)) W := by
  obtain ⟨i0, hi, hz0, hz1, hz2⟩ := info_parts info8
  have hb := run_sliceBound (P := Try.prog) (w := W) .i64 (l : Int) len .sliceB (by omega) (by omega)
  simp [Instr.slice, hb, run_underlying Try.underlying22, Instr.sliceBounds, sizeOf, typeInfo, hi, hz1, cutA]
end Go.Proofs.Ytbahlhafckkapaa
