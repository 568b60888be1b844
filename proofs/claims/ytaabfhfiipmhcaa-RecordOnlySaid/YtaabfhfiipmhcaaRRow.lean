/-
  Arrays of words in memory, and the table of the sixteen short numbers (crc.goneShorts).
-/
import Derived.Test.YtaabfhfiipmhcaaRStep
import Derived.Deep.WholeRow
import Derived.Deep.MidRow
import Derived.Laws.ResultCell
namespace Go.Proofs.Ytaabfhfiipmhcaa
open Go.RowKit Go.Lib

/-- A word as a cell's value. -/
def w32 (x : Nat) : Value := .int .u32 (x : Int)
/-- n words, told by a function of the place. -/
def rowl (f : Nat → Nat) (n : Nat) : List Value := (List.range n).map fun i => w32 (f i)
theorem rowl_len (f : Nat → Nat) (n : Nat) : (rowl f n).length = n := by simp [rowl]
theorem rowl_get (f : Nat → Nat) (n i : Nat) (h : i < n) : (rowl f n)[i]? = some (w32 (f i)) := by
  simp [rowl, h]
theorem rowl_get' {f : Nat → Nat} {n i : Nat} {v : Value} (h : (rowl f n)[i]? = some v) : i < n ∧ v = w32 (f i) := by
  have hl : i < n := by
    have := (List.getElem?_eq_some_iff.1 h).1
    rwa [rowl_len] at this
  rw [rowl_get f n i hl] at h
  exact ⟨hl, (Option.some.inj h).symm⟩
theorem rowl_one (f : Nat → Nat) (n : Nat) : ∀ v ∈ rowl f n, v.oneCell' = true := by
  intro v hv
  obtain ⟨i, _, rfl⟩ := List.mem_map.1 hv
  rfl
theorem rowl_eq {f g : Nat → Nat} {n : Nat} (h : ∀ i, i < n → f i = g i) : rowl f n = rowl g n := by
  unfold rowl
  apply List.map_congr_left
  intro i hi
  rw [h i (List.mem_range.1 hi)]
/-- f, with v at place i. -/
def put1 (f : Nat → Nat) (i v : Nat) : Nat → Nat := fun j => if j = i then v else f j
theorem rowl_set (f : Nat → Nat) (n i v : Nat) : (rowl f n).set i (w32 v) = rowl (put1 f i v) n := by
  apply List.ext_getElem?
  intro j
  by_cases hj : j < n
  · rw [rowl_get _ _ _ hj, List.getElem?_set, rowl_len, rowl_get _ _ _ hj]
    unfold put1
    by_cases e : i = j
    · subst e; simp [hj]
    · have e' : ¬ j = i := fun h => e h.symm
      simp [e, e']
  · rw [List.getElem?_eq_none (by rw [List.length_set, rowl_len]; omega), List.getElem?_eq_none (by rw [rowl_len]; omega)]
/-- f up to k, nought from there on. -/
def upTo (f : Nat → Nat) (k : Nat) : Nat → Nat := fun j => if j < k then f j else 0
theorem upTo_more (f : Nat → Nat) (k n : Nat) : rowl (put1 (upTo f k) k (f k)) n = rowl (upTo f (k + 1)) n := by
  apply rowl_eq
  intro i _
  unfold put1 upTo
  by_cases e : i = k
  · subst e; simp
  · by_cases h : i < k
    · rw [if_neg e, if_pos h, if_pos (by omega)]
    · rw [if_neg e, if_neg h, if_neg (by omega)]
theorem upTo_all (f : Nat → Nat) (n : Nat) : rowl (upTo f n) n = rowl f n := by
  apply rowl_eq
  intro i h
  unfold upTo
  rw [if_pos h]

/-- Block g is a row of just the words cs, of type T. -/
def Blk (w : World) (T : TypeId) (g : Nat) (cs : List Value) : Prop := w.heap[g]? = some (.cells cs.toArray T (0, 0))

section
variable {w w' : World} {T : TypeId} {g : Nat} {cs : List Value}
theorem Blk.lt (h : Blk w T g cs) : g < w.heap.size := (Array.getElem?_eq_some_iff.1 h).1
theorem Blk.new (w : World) (T : TypeId) (cs : List Value) : Blk (w.alloc (.cells cs.toArray T)) T w.heap.size cs := heap_alloc_new w _
theorem Blk.alloc (h : Blk w T g cs) (o : Obj) : Blk (w.alloc o) T g cs := (Below.heap_alloc w o g h.lt).trans h
theorem Blk.drew (h : Blk w T g cs) : Blk w.drew T g cs := h
theorem Blk.below (h : Blk w T g cs) {B : Nat} (hB : g < B) (hb : Below B w w') : Blk w' T g cs := (hb.block g hB).trans h
theorem Blk.cell (h : Blk w T g cs) {i : Nat} {v : Value} (hv : cs[i]? = some v) : w.cell? ⟨g, i, none⟩ = some v := by
  rw [cell_of_row w g i _ _ (0, 0) h]; simpa using hv
theorem Blk.frozen (h : Blk w T g cs) (i : Nat) : w.frozen? ⟨g, i, none⟩ = false := by
  unfold Blk at h; simp [World.frozen?, h]
theorem Blk.set (h : Blk w T g cs) (i : Nat) (v : Value) : Blk (w.setCell ⟨g, i, none⟩ v) T g (cs.set i v) := by
  unfold Blk at h ⊢
  simp [World.setCell, Array.getElem?_modify, h]
theorem Blk.far (h : Blk w T g cs) {p : Addr} (hp : g ≠ p.block) (u : Value) : Blk (w.setCell p u) T g cs := (Below.heap_setCell w p u g hp).trans h
theorem Blk.setRow_ (h : Blk w T g cs) (ds : List Value) : Blk (w.setRow g ds.toArray) T g ds := setRow_heap w g _ _ T (0, 0) h
theorem Blk.setRow_far (h : Blk w T g cs) {b : Nat} (hb : g ≠ b) (ds : Array Value) : Blk (w.setRow b ds) T g cs := (setRow_other w b g ds hb).trans h
end

theorem below_setRow {B : Nat} {w0 w : World} (h : Below B w0 w) {g : Nat} (hg : B ≤ g) (ds : Array Value) : Below B w0 (w.setRow g ds) :=
  ⟨h.os, h.tape, h.output, by rw [World.setRow]; simpa using h.size, fun k hk => by rw [setRow_other w g k ds (by omega)]; exact h.block k hk⟩

theorem Blk.range {w : World} {T : TypeId} {g : Nat} {cs : List Value} (h : Blk w T g cs) : w.rangeAt g 0 cs := fun j v hv => by
  rw [Nat.zero_add]; exact h.cell hv

/-- A whole array out of its block: a law for the walk. -/
theorem wpList_loadR {w : World} {ops : Array Oper} {rest : List Oper} {op : Oper} {a : Act} {Q : Exit → Act → World → Prop} (hgd : op.guard = none) (T : TypeId) (x : Operand) (ho : op.op = .load T x)
    (g : Nat) (hx : a.eval x = .pointer (some ⟨g, 0, none⟩)) (cs : List Value) (hb : Blk w T g cs) (n : Nat) (e : TypeId)
    (hu : Try.prog.underlying T = some (.array n e)) (hi : (Try.prog.info? T).map (·.size) = some cs.length)
    (h : wpList Try.prog ops Q rest (a.put op.dst (.agg cs.toArray)) w) : wpList Try.prog ops Q (op :: rest) a w :=
  wpList_load_mid hgd T x ho g 0 hx cs _ hb.range hu rfl hi h

/-- A whole array into its block: a law for the walk. -/
theorem wpList_storeR {w : World} {ops : Array Oper} {rest : List Oper} {op : Oper} {a : Act} {Q : Exit → Act → World → Prop} (hgd : op.guard = none) (T : TypeId) (x y : Operand) (ho : op.op = .store T x y)
    (g : Nat) (hx : a.eval x = .pointer (some ⟨g, 0, none⟩)) (cs : List Value) (hy : a.eval y = .agg cs.toArray) (old : List Value) (hb : Blk w T g old) (hl : old.length = cs.length)
    (hi : (Try.prog.info? T).map (·.size) = some cs.length) (h1 : ∀ v ∈ cs, v.oneCell' = true)
    (h : wpList Try.prog ops Q rest (a.put op.dst undef) (w.setRow g cs.toArray)) : wpList Try.prog ops Q (op :: rest) a w := by
  refine wpList_plain hgd fun K hK => ?_
  have hr := run_storeVar_row (P := Try.prog) w g T T old.toArray cs.toArray hb (by simpa using hi) (by simpa using hl) (Array.all_eq_true_iff_forall_mem.2 (fun v hv => h1 v (by simpa using hv)))
  unfold Oper.wp execOp
  simp only [ho, hx, hy, Instr.storeAt, Instr.sureAddr, Sem.run_bind, Sem.run_pure, Result.andThen_ok, hr]
  exact hK _ _ h

theorem size16 : (Try.prog.info? 67).map (·.size) = some 16 := by kernel_rfl
theorem rowsize16 (f : Nat → Nat) : (Try.prog.info? 67).map (·.size) = some (rowl f 16).length := by rw [rowl_len]; exact size16
theorem zeros16 : #[Value.int .u32 0, .int .u32 0, .int .u32 0, .int .u32 0, .int .u32 0, .int .u32 0, .int .u32 0, .int .u32 0, .int .u32 0, .int .u32 0, .int .u32 0, .int .u32 0, .int .u32 0, .int .u32 0, .int .u32 0, .int .u32 0] = (rowl (upTo (itr 4) 0) 16).toArray := by rfl

theorem results_cell0 {fn : Func} {p : Tmp} {ty : TypeId} (h : fn.results = #[.cell p ty]) (tmps : Array Value) (P : Program) (w : World) :
    (results fn tmps).run P w = ((asAddr (tmps.getD p undef)).run P w).andThen fun a w₁ => (loadVar ty a).run P w₁ := by
  simp only [results, h]
  simp [Sem.run_bind, Result.andThen]
theorem results_cell1 {fn : Func} {p : Tmp} {ty : TypeId} (h : fn.results = #[.cell p ty]) (tmps : Array Value) (P : Program) (w : World) (ad : Addr) (v : Value) (hp : tmps.getD p undef = .pointer (some ad))
    (hl : (loadVar ty ad).run P w = .ok v w) : (results fn tmps).run P w = .ok v w := by
  rw [results_cell0 h, hp]
  simp [Result.andThen, asAddr, hl]

set_option maxRecDepth 100000 in
set_option maxHeartbeats 1000000 in
/-- crc.goneShorts: of each number below 16 what four steps make of it. -/
theorem gone_any (w : World) :
    Calls Try.prog 42 #[] w fun e w' => e = .returned (.agg (rowl (itr 4) 16).toArray) ∧ Below w.heap.size w w' := by
  go_enter Try.func42, Try.ntmps42
  have hb0 : Blk (w.alloc (.cells (rowl (upTo (itr 4) 0) 16).toArray 67)) 67 w.heap.size (rowl (upTo (itr 4) 0) 16) := Blk.new w _ _
  have hb1 : Blk ((w.alloc (.cells (rowl (upTo (itr 4) 0) 16).toArray 67)).alloc (.cells (rowl (upTo (itr 4) 0) 16).toArray 67)) 67 (w.heap.size + 1) (rowl (upTo (itr 4) 0) 16) := by
    have := Blk.new (w.alloc (.cells (rowl (upTo (itr 4) 0) 16).toArray 67)) 67 (rowl (upTo (itr 4) 0) 16)
    simpa using this
  have hbel := ((Below.refl w.heap.size w).alloc (Nat.le_refl _) (.cells (rowl (upTo (itr 4) 0) 16).toArray 67)).alloc (by simp) (.cells (rowl (upTo (itr 4) 0) 16).toArray 67)
  have hb2 := hb0.alloc (.cells (rowl (upTo (itr 4) 0) 16).toArray 67)
  rw [← zeros16] at hb1 hb2 hbel
  go_wp2_with ((with_reducible show wpList _ _ _ _ _ _); refine wpList_storeR rfl 67 _ _ rfl (w.heap.size + 1) (by rfl) (rowl (upTo (itr 4) 0) 16) (congrArg Value.agg zeros16) _ hb1 rfl (rowsize16 _) (rowl_one _ _) ?_)
  have hb1 := hb1.setRow_ (rowl (upTo (itr 4) 0) 16)
  have hb2 := hb2.setRow_far (b := w.heap.size + 1) (by omega) (rowl (upTo (itr 4) 0) 16).toArray
  have hbel := below_setRow hbel (g := w.heap.size + 1) (by omega) (rowl (upTo (itr 4) 0) 16).toArray
  go_loopw [4] (fun i wr => ∃ k : Nat, k ≤ 16 ∧ i = .int .i64 (k : Int) ∧ Below w.heap.size w wr ∧ Blk wr 67 w.heap.size (rowl (upTo (itr 4) 0) 16) ∧ Blk wr 67 (w.heap.size + 1) (rowl (upTo (itr 4) k) 16))
    (fun i _ => 16 - (intOf i).toNat)
  case atStart => exact ⟨0, by omega, rfl, hbel, hb2, hb1⟩
  case round =>
    obtain ⟨k, hk, rfl, hB, hR, hT⟩ := hrel
    by_cases hlt : k < 16
    · have hlt' : (k : Int) < 16 := by omega
      have hc := hT.cell (rowl_get _ 16 k hlt)
      have hf := hT.frozen k
      go_wp2_with (go_at_call 43; refine (steps_any k 4 (by omega) (by omega) _).mono ?_; rintro e w' ⟨rfl, rfl⟩)
      have hB' := hB.setCell (p := ⟨w.heap.size + 1, k, none⟩) (by simp) (.int .u32 (itr 4 k : Int))
      have hR' := hR.far (p := ⟨w.heap.size + 1, k, none⟩) (by simp) (.int .u32 (itr 4 k : Int))
      have hT' := hT.set k (w32 (itr 4 k))
      rw [rowl_set, upTo_more] at hT'
      go_roundw
      case rel => exact ⟨k + 1, by omega, by go_num, hB', hR', hT'⟩
      case measure => simp [intOf]; omega
    · obtain rfl : k = 16 := by omega
      rw [upTo_all] at hT
      go_wp2_with (first
        | ((with_reducible show wpList _ _ _ _ _ _); refine wpList_loadR rfl 67 _ rfl (w.heap.size + 1) (by rfl) _ hT 16 46 Try.underlying67 (rowsize16 _) ?_)
        | ((with_reducible show wpList _ _ _ _ _ _); refine wpList_storeR rfl 67 _ _ rfl w.heap.size (by rfl) (rowl (itr 4) 16) (by rfl) _ hR (by rw [rowl_len, rowl_len]) (rowsize16 _) (rowl_one _ _) ?_))
      have hR' := hR.setRow_ (rowl (itr 4) 16)
      have hB' := below_setRow hB (Nat.le_refl _) (rowl (itr 4) 16).toArray
      have hl := run_loadVar_row (P := Try.prog) _ w.heap.size _ 67 _ (0, 0) _ hR' Try.underlying67 rfl (by simpa using rowsize16 (itr 4))
      (try simp only [Exit.inBlock, Exit.then])
      refine bodyPost_ret (v := .agg (rowl (itr 4) 16).toArray) ?_ rfl ⟨rfl, hB'⟩
      exact results_cell1 rfl _ _ _ ⟨w.heap.size, 0, none⟩ _ (by rfl) hl
end Go.Proofs.Ytaabfhfiipmhcaa
