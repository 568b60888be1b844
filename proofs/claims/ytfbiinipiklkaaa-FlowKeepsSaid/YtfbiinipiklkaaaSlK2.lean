/-
  Slices of elements of whatever type in a block known whole: copied within, appended to in place, grown with noughts, cleared, cut. No program function is named here.
  copy, append, clear whose runs are known by equations, in a walk and at a step of a region that draws; the world behind each is a letter. No program function is named here.
-/
import Derived.Test.YtfbiinipiklkaaaGSl
import Derived.Test.YtfbiinipiklkaaaGBlk
import Derived.Laws.CopyRow
import Derived.Lib.AppendZerosOnto
namespace Go.Proofs.Ytfbiinipiklkaaa
set_option maxRecDepth 100000
open Go.RowKit Go.Lib

/-! ### lists -/
section
variable {β : Type}
def spl (cur cs : List β) (o : Nat) : List β := cur.take o ++ cs ++ cur.drop (o + cs.length)
theorem spl_len {cur cs : List β} {o : Nat} (h : o + cs.length ≤ cur.length) : (spl cur cs o).length = cur.length := by
  unfold spl
  rw [List.length_append, List.length_append, List.length_take, List.length_drop, Nat.min_eq_left (by omega)]
  omega
theorem spl_take {cur cs : List β} {o : Nat} (h : o + cs.length ≤ cur.length) : (spl cur cs o).take o = cur.take o := by
  unfold spl
  rw [List.append_assoc, List.take_append_of_le_length (by rw [List.length_take]; omega), List.take_take, Nat.min_self]
theorem spl_upto {cur cs : List β} {o : Nat} (h : o + cs.length ≤ cur.length) : (spl cur cs o).take (o + cs.length) = cur.take o ++ cs := by
  unfold spl
  have e : (cur.take o ++ cs).length = o + cs.length := by rw [List.length_append, List.length_take]; omega
  rw [← e, List.take_left]
theorem spl_drop {cur cs : List β} {o : Nat} (h : o + cs.length ≤ cur.length) : (spl cur cs o).drop o = cs ++ cur.drop (o + cs.length) := by
  unfold spl
  have e : (cur.take o).length = o := by rw [List.length_take]; omega
  have e2 := List.drop_left (l₁ := cur.take o) (l₂ := cs ++ cur.drop (o + cs.length))
  rw [e] at e2
  rw [List.append_assoc]
  exact e2
/-- What is spliced in behind, up to its end. -/
theorem spl_whole {cur cs xs : List β} {o : Nat} (h : o + cs.length ≤ cur.length) (hx : cur.take o = xs) {m : Nat} (hm : m = o + cs.length) : (spl cur cs o).take m = xs ++ cs := by
  rw [hm, spl_upto h, hx]
/-- What is spliced in ahead of what stands there. -/
theorem spl_mid {cur cs xs ys : List β} {o m : Nat} (h : o + cs.length ≤ cur.length) (hx : cur.take o = xs) (hy : (cur.drop (o + cs.length)).take m = ys) : (spl cur cs o).take (o + cs.length + m) = xs ++ cs ++ ys := by
  unfold spl
  have e : (cur.take o ++ cs).length = o + cs.length := by rw [List.length_append, List.length_take]; omega
  rw [← e, List.take_length_add_append, e, hx, hy]
end

/-! ### what an owned slice's block holds -/
section
variable {α : Type} {E : Enc α} {w : World} {base n c g : Nat} {xs : List α}
theorem OwnG.raw (h : OwnG E w base (.slice (some ⟨g, 0, none⟩) n c) xs) : ∃ cur : List Value, Blk w E.T g cur ∧ cur.length = c * E.k ∧ cur.take (n * E.k) = E.cells xs ∧ base ≤ g ∧ n ≤ c ∧ c ≤ maxLen ∧ n = xs.length := by
  rcases h.2 with ⟨e, _⟩ | ⟨g', cap, cur, e, hb, hg, hnc, hcm, hcs, ht⟩
  · cases e
  · cases e
    refine ⟨cur.toList, ?_, by rw [Array.length_toList, hcs], ht, hb, hnc, hcm, rfl⟩
    show w.heap[g]? = some (.cells cur.toList.toArray _ (0, 0))
    rw [Array.toArray_toList]
    exact hg
theorem OwnG.ofRaw {cur : List Value} (hb : Blk w E.T g cur) (hl : cur.length = c * E.k) (hn : n = xs.length) (ht : cur.take (n * E.k) = E.cells xs) (hbase : base ≤ g) (hnc : n ≤ c) (hcm : c ≤ maxLen) : OwnG E w base (.slice (some ⟨g, 0, none⟩) n c) xs := by
  subst hn
  exact ⟨by rw [Enc.cells_len], .inr ⟨g, c, cur.toArray, rfl, hbase, hb, hnc, hcm, by rw [List.size_toArray, hl], ht⟩⟩
theorem Enc.size (E : Enc α) : (Try.prog.info? E.T).map (·.size) = some E.k := by
  obtain ⟨i0, hi, _, hz1, _⟩ := E.parts
  rw [hi]
  show some i0.size = _
  rw [hz1]
end

/-! ### cut -/
def cutG (A : Option Addr) (k cap l : Nat) : Option Addr := if cap = l then A else A.map fun a => a.add (l * k)
theorem cutG_in {g k cap l : Nat} (h : l < cap) : cutG (some ⟨g, 0, none⟩) k cap l = some ⟨g, l * k, none⟩ := by
  unfold cutG
  rw [if_neg (by omega)]
  simp [add_plain]
section
variable {α : Type} (E : Enc α)
/-- s[l:] -/
theorem run_fromG (A : Option Addr) (len cap l : Nat) (L : Int) (hL : L = (l : Int)) (h1 : l ≤ len) (W : World) :
    (Instr.slice E.S (.slice A len cap) (some (.int .i64 L)) none none).run Try.prog W = .ok (.slice (cutG A E.k cap l) (len - l) (cap - l)) W := by
  subst hL
  obtain ⟨i0, hi, hz0, hz1, hz2⟩ := E.parts
  have hb := run_sliceBound (P := Try.prog) (w := W) .i64 (l : Int) len .sliceB (by omega) (by omega)
  simp [Instr.slice, hb, run_underlying E.und, Instr.sliceBounds, sizeOf, typeInfo, hi, hz1, cutG]
/-- s[:h] -/
theorem run_uptoG (A : Option Addr) (len cap h : Nat) (H : Int) (hH : H = (h : Int)) (h2 : h ≤ cap) (W : World) :
    (Instr.slice E.S (.slice A len cap) none (some (.int .i64 H)) none).run Try.prog W = .ok (.slice A h cap) W := by
  subst hH
  obtain ⟨i0, hi, hz0, hz1, hz2⟩ := E.parts
  have hc := run_sliceBound (P := Try.prog) (w := W) .i64 (h : Int) cap .sliceAcap (by omega) (by omega)
  cases A <;> simp [Instr.slice, hc, run_underlying E.und, Instr.sliceBounds, sizeOf, typeInfo, hi, Addr.add] <;> (try split) <;> simp_all
/-- s[l:h] -/
theorem run_cutG (A : Option Addr) (len cap l h : Nat) (L H : Int) (hL : L = (l : Int)) (hH : H = (h : Int)) (h1 : l ≤ h) (h2 : h ≤ cap) (W : World) :
    (Instr.slice E.S (.slice A len cap) (some (.int .i64 L)) (some (.int .i64 H)) none).run Try.prog W = .ok (.slice (cutG A E.k cap l) (h - l) (cap - l)) W := by
  subst hL hH
  obtain ⟨i0, hi, hz0, hz1, hz2⟩ := E.parts
  have hb := run_sliceBound (P := Try.prog) (w := W) .i64 (l : Int) h .sliceB (by omega) (by omega)
  have hc := run_sliceBound (P := Try.prog) (w := W) .i64 (h : Int) cap .sliceAcap (by omega) (by omega)
  simp [Instr.slice, hb, hc, run_underlying E.und, Instr.sliceBounds, sizeOf, typeInfo, hi, hz1, cutG]
/-- s[l:h:m] -/
theorem run_cutmG (A : Option Addr) (len cap l h m : Nat) (L H M : Int) (hL : L = (l : Int)) (hH : H = (h : Int)) (hM : M = (m : Int)) (h1 : l ≤ h) (h2 : h ≤ m) (h3 : m ≤ cap) (W : World) :
    ∃ u, (Instr.slice E.S (.slice A len cap) (some (.int .i64 L)) (some (.int .i64 H)) (some (.int .i64 M))).run Try.prog W = .ok u W := by
  subst hL hH hM
  obtain ⟨i0, hi, hz0, hz1, hz2⟩ := E.parts
  have ha := run_sliceBound (P := Try.prog) (w := W) .i64 (m : Int) cap .slice3Acap (by omega) (by omega)
  have hb := run_sliceBound (P := Try.prog) (w := W) .i64 (l : Int) h .slice3C (by omega) (by omega)
  have hc := run_sliceBound (P := Try.prog) (w := W) .i64 (h : Int) m .slice3B (by omega) (by omega)
  exact ⟨_, by simp [Instr.slice, ha, hb, hc, run_underlying E.und, Instr.sliceBounds, sizeOf, typeInfo, hi, hz1]; rfl⟩

/-! ### copy, append in place, clear -/
variable {w : World}
theorem run_copy_rowK (g o dLen dCap : Nat) (a : Addr) (sLen sCap : Nat) (ty : TypeId) (cur : List Value) (hb : Blk w E.T g cur) (m : Nat) (hm : Nat.min sLen dLen = m) (cs : List Value) (hn : m * E.k = cs.length)
    (hsrc : ∀ j v, cs[j]? = some v → w.cell? (a.add j) = some v) (hfit : o + cs.length ≤ cur.length) (h1 : ∀ v ∈ cs, v.oneCell' = true) :
    (Builtin.copy_ #[E.S, E.S] ty #[.slice (some ⟨g, o, none⟩) dLen dCap, .slice (some a) sLen sCap]).run Try.prog w = .ok (.int .i64 (m : Int)) (w.setRow g (spl cur cs o).toArray) := by
  obtain ⟨i0, hi, hz0, hz1, hz2⟩ := E.parts
  have hl := run_loadCells_list (P := Try.prog) w a cs hsrc
  have hst := run_storeCells_at Try.prog g o E.T cs 0 cur.toArray w hb (by simpa using hfit) h1
  simp [Builtin.copy_, run_underlying E.und, Builtin.lenOf, Builtin.firstCells, sizeOf, typeInfo, hi, hz1, hm, hn, hl, hst, spl, goInt]
theorem run_append_rowK (g n cap : Nat) (a : Addr) (m c : Nat) (ty : TypeId) (cur : List Value) (hb : Blk w E.T g cur) (cs : List Value) (hn : m * E.k = cs.length) (hroom : n + m ≤ cap)
    (hsrc : ∀ j v, cs[j]? = some v → w.cell? (a.add j) = some v) (hfit : n * E.k + cs.length ≤ cur.length) (h1 : ∀ v ∈ cs, v.oneCell' = true) :
    (Builtin.append_ #[E.S, E.S] ty #[.slice (some ⟨g, 0, none⟩) n cap, .slice (some a) m c]).run Try.prog w = .ok (.slice (some ⟨g, 0, none⟩) (n + m) cap) (w.setRow g (spl cur cs (n * E.k)).toArray) := by
  obtain ⟨i0, hi, hz0, hz1, hz2⟩ := E.parts
  have hl := run_loadCells_list (P := Try.prog) w a cs hsrc
  have hst := run_storeCells_at Try.prog g (n * E.k) E.T cs 0 cur.toArray w hb (by simpa using hfit) h1
  simp [Builtin.append_, run_underlying E.und, Builtin.lenOf, Builtin.firstCells, sizeOf, typeInfo, hi, hz1, hroom, hn, hl, hst, spl, add_plain]
theorem run_clear_rowK (g o n c : Nat) (ty : TypeId) (cur : List Value) (hb : Blk w E.T g cur) (z : α) (hz : E.f z = E.zero.cells.toList) (hn : 0 < n) (hfit : o + n * E.k ≤ cur.length) :
    (Builtin.clear_ #[E.S] ty #[.slice (some ⟨g, o, none⟩) n c]).run Try.prog w = .ok (.tuple #[]) (w.setRow g (spl cur (E.cells (List.replicate n z)) o).toArray) := by
  obtain ⟨i0, hi, hz0, hz1, hz2⟩ := E.parts
  have hc : (Builtin.zeroCells E.zero.cells n).toList = E.cells (List.replicate n z) := by
    rw [← Enc.cells_rep z n hz, ← E.zlen]
    rfl
  have hst := run_storeCells_at Try.prog g o E.T (E.cells (List.replicate n z)) 0 cur.toArray w hb (by rw [Enc.cells_len, List.length_replicate]; simpa using hfit) (Enc.cells_one _)
  rw [← hc] at hst ⊢
  obtain ⟨m, rfl⟩ : ∃ m, n = m + 1 := ⟨n - 1, by omega⟩
  simp only [Nat.add_zero] at hst
  simp [Builtin.clear_, run_underlying E.und, zeroValue, typeInfo, hi, hz0, hst, spl]
end
end Go.Proofs.Ytfbiinipiklkaaa
namespace Go.Proofs.Ytfbiinipiklkaaa
set_option maxRecDepth 100000
open Go.RowKit Go.Lib

section
variable {w : World} {ops : Array Oper} {rest : List Oper} {o : Oper} {a : Act} {Q : Exit → Act → World → Prop} {K : Act → World → Prop} {D : Prop}
theorem wpList_copyL (hgd : o.guard = none) (d s : Operand) (dT sT : TypeId) (ho : o.op = .call { callee := .builtin .copy, args := #[d, s], argTypes := #[dT, sT] }) (x y : Value) (hx : a.eval d = x) (hy : a.eval s = y) (v : Value) (F : World → Prop)
    (hr : ∃ w', (Builtin.copy_ #[dT, sT] o.type #[x, y]).run Try.prog w = .ok v w' ∧ F w') (h : ∀ w', F w' → wpList Try.prog ops Q rest (a.put o.dst v) w') : wpList Try.prog ops Q (o :: rest) a w := by
  refine wpList_plain hgd fun K hK => ?_
  obtain ⟨w', hrun, hF⟩ := hr
  unfold Oper.wp execOp
  simp only [ho, resolve, invoke, builtin, Sem.run_bind, Sem.run_pure, Result.andThen_ok, List.map_toArray, List.map_cons, List.map_nil, hx, hy, hrun]
  exact hK _ _ (h w' hF)
theorem step_copyL (hgd : o.guard = none) (d s : Operand) (dT sT : TypeId) (ho : o.op = .call { callee := .builtin .copy, args := #[d, s], argTypes := #[dT, sT] }) (x y : Value) (hx : a.eval d = x) (hy : a.eval s = y) (v : Value) (F : World → Prop)
    (hr : ∃ w', (Builtin.copy_ #[dT, sT] o.type #[x, y]).run Try.prog w = .ok v w' ∧ F w') (h : ∀ w', F w' → K (a.put o.dst v) w') : if Region.wanted o (yielded ops a.tmps) = true then Oper.wp Try.prog o a w K Q else D := by
  have hw : Region.wanted o (yielded ops a.tmps) = true := by simp [Region.wanted, hgd]
  rw [if_pos hw]
  obtain ⟨w', hrun, hF⟩ := hr
  unfold Oper.wp execOp
  simp only [ho, resolve, invoke, builtin, Sem.run_bind, Sem.run_pure, Result.andThen_ok, List.map_toArray, List.map_cons, List.map_nil, hx, hy, hrun]
  exact h w' hF
theorem wpList_appendL (hgd : o.guard = none) (d s : Operand) (dT sT : TypeId) (ho : o.op = .call { callee := .builtin .append, args := #[d, s], argTypes := #[dT, sT] }) (x y : Value) (hx : a.eval d = x) (hy : a.eval s = y) (v : Value) (F : World → Prop)
    (hr : ∃ w', (Builtin.append_ #[dT, sT] o.type #[x, y]).run Try.prog w = .ok v w' ∧ F w') (h : ∀ w', F w' → wpList Try.prog ops Q rest (a.put o.dst v) w') : wpList Try.prog ops Q (o :: rest) a w := by
  refine wpList_plain hgd fun K hK => ?_
  obtain ⟨w', hrun, hF⟩ := hr
  unfold Oper.wp execOp
  simp only [ho, resolve, invoke, builtin, Sem.run_bind, Sem.run_pure, Result.andThen_ok, List.map_toArray, List.map_cons, List.map_nil, hx, hy, hrun]
  exact hK _ _ (h w' hF)
theorem step_appendL (hgd : o.guard = none) (d s : Operand) (dT sT : TypeId) (ho : o.op = .call { callee := .builtin .append, args := #[d, s], argTypes := #[dT, sT] }) (x y : Value) (hx : a.eval d = x) (hy : a.eval s = y) (v : Value) (F : World → Prop)
    (hr : ∃ w', (Builtin.append_ #[dT, sT] o.type #[x, y]).run Try.prog w = .ok v w' ∧ F w') (h : ∀ w', F w' → K (a.put o.dst v) w') : if Region.wanted o (yielded ops a.tmps) = true then Oper.wp Try.prog o a w K Q else D := by
  have hw : Region.wanted o (yielded ops a.tmps) = true := by simp [Region.wanted, hgd]
  rw [if_pos hw]
  obtain ⟨w', hrun, hF⟩ := hr
  unfold Oper.wp execOp
  simp only [ho, resolve, invoke, builtin, Sem.run_bind, Sem.run_pure, Result.andThen_ok, List.map_toArray, List.map_cons, List.map_nil, hx, hy, hrun]
  exact h w' hF
theorem wpList_clearL (hgd : o.guard = none) (d : Operand) (dT : TypeId) (ho : o.op = .call { callee := .builtin .clear, args := #[d], argTypes := #[dT] }) (x : Value) (hx : a.eval d = x) (v : Value) (F : World → Prop)
    (hr : ∃ w', (Builtin.clear_ #[dT] o.type #[x]).run Try.prog w = .ok v w' ∧ F w') (h : ∀ w', F w' → wpList Try.prog ops Q rest (a.put o.dst v) w') : wpList Try.prog ops Q (o :: rest) a w := by
  refine wpList_plain hgd fun K hK => ?_
  obtain ⟨w', hrun, hF⟩ := hr
  unfold Oper.wp execOp
  simp only [ho, resolve, invoke, builtin, Sem.run_bind, Sem.run_pure, Result.andThen_ok, List.map_toArray, List.map_cons, List.map_nil, hx, hrun]
  exact hK _ _ (h w' hF)
end
/-! ### the same laws with the world a letter -/
section
variable {α : Type} (E : Enc α) {w : World}
def Spl (w : World) (E : Enc α) (g : Nat) (cur cs : List Value) (o : Nat) (w' : World) : Prop := Blk w' E.T g (spl cur cs o) ∧ w.grownBy w' (some g)
theorem copyK (g o dLen dCap : Nat) (a : Addr) (sLen sCap : Nat) (ty : TypeId) (cur : List Value) (hb : Blk w E.T g cur) (m : Nat) (hm : Nat.min sLen dLen = m) (cs : List Value) (hn : m * E.k = cs.length)
    (hsrc : ∀ j v, cs[j]? = some v → w.cell? (a.add j) = some v) (hfit : o + cs.length ≤ cur.length) (h1 : ∀ v ∈ cs, v.oneCell' = true) :
    ∃ w', (Builtin.copy_ #[E.S, E.S] ty #[.slice (some ⟨g, o, none⟩) dLen dCap, .slice (some a) sLen sCap]).run Try.prog w = .ok (.int .i64 (m : Int)) w' ∧ Spl w E g cur cs o w' :=
  ⟨_, run_copy_rowK E g o dLen dCap a sLen sCap ty cur hb m hm cs hn hsrc hfit h1, Blk_10.setRow_ hb _, gb_setRow1 w g _⟩
theorem appendK (g n cap : Nat) (a : Addr) (m c : Nat) (ty : TypeId) (cur : List Value) (hb : Blk w E.T g cur) (cs : List Value) (hn : m * E.k = cs.length) (hroom : n + m ≤ cap)
    (hsrc : ∀ j v, cs[j]? = some v → w.cell? (a.add j) = some v) (hfit : n * E.k + cs.length ≤ cur.length) (h1 : ∀ v ∈ cs, v.oneCell' = true) :
    ∃ w', (Builtin.append_ #[E.S, E.S] ty #[.slice (some ⟨g, 0, none⟩) n cap, .slice (some a) m c]).run Try.prog w = .ok (.slice (some ⟨g, 0, none⟩) (n + m) cap) w' ∧ Spl w E g cur cs (n * E.k) w' :=
  ⟨_, run_append_rowK E g n cap a m c ty cur hb cs hn hroom hsrc hfit h1, Blk_10.setRow_ hb _, gb_setRow1 w g _⟩
theorem clearK (g o n c : Nat) (ty : TypeId) (cur : List Value) (hb : Blk w E.T g cur) (z : α) (hz : E.f z = E.zero.cells.toList) (hn : 0 < n) (hfit : o + n * E.k ≤ cur.length) :
    ∃ w', (Builtin.clear_ #[E.S] ty #[.slice (some ⟨g, o, none⟩) n c]).run Try.prog w = .ok (.tuple #[]) w' ∧ Spl w E g cur (E.cells (List.replicate n z)) o w' :=
  ⟨_, run_clear_rowK E g o n c ty cur hb z hz hn hfit, Blk_10.setRow_ hb _, gb_setRow1 w g _⟩
/-- append of so many noughts where there is no room: a new row. -/
theorem growK (tn : TypeId) (htn : Try.prog.underlying tn = some (.int .i64)) (g n cap : Nat) (cs : List Value) (hcs : cs.length = n * E.k) (hsrc : ∀ j v, cs[j]? = some v → w.cell? ⟨g, 0 + j, none⟩ = some v) (k : Nat) (h0 : 0 < k) (hg : cap < n + k) (hb : n + k ≤ 100000000) (ty : TypeId) :
    ∃ (G : Nat) (w' : World), (Builtin.append_ #[E.S, tn] ty #[.slice (some ⟨g, 0, none⟩) n cap, .int .i64 (k : Int)]).run Try.prog w = .ok (.slice (some ⟨w.heap.size, 0, none⟩) (n + k) G) w' ∧ n + k ≤ G ∧ G ≤ maxLen ∧ (∃ cur : List Value, Blk w' E.T w.heap.size cur ∧ cur.length = G * E.k ∧ cur.take (n * E.k) = cs) ∧ w.grownBy w' none ∧ w'.heap.size = w.heap.size + 1 := by
  obtain ⟨i0, hi, hz0, hz1, hz2⟩ := E.parts
  have hsm := E.small
  have hold : (Builtin.firstCells i0.size n (.slice (some ⟨g, 0, none⟩) n cap)).run Try.prog w.drew = .ok cs.toArray w.drew := by
    rw [hz1]
    exact run_firstCells_some w.drew E.k n ⟨g, 0, none⟩ n cap cs hcs (fun j v hj => by rw [add_plain]; exact hsrc j v hj)
  have hbig : (n + k) * i0.bytes ≤ 140737488355328 := by
    rw [hz2]
    have := Nat.mul_le_mul hb hsm
    omega
  have hkb : k * i0.bytes ≤ 281474976710656 := by
    have := Nat.mul_le_mul_right i0.bytes (show k ≤ n + k by omega)
    omega
  have h := Lib.run_append_grow_zeros w E.S tn ty E.T i0 _ .i64 .i64 E.und htn hi hz0 (some ⟨g, 0, none⟩) n cap cs hold k h0 (by rw [hz1]; exact E.pos) hg (by omega) hkb (growslice_fits hg hbig)
  refine ⟨_, _, h, grownCap_ge w _ _ _, grownCap_le_maxLen w _ _ _ (by unfold maxLen; omega), ?_, ?_, by simp⟩
  · have hsz : ∀ n, (Builtin.zeroCells E.zero.cells n).toList.length = n * E.k := fun n => by rw [← E.zlen]; simp [Builtin.zeroCells]
    have hG := grownCap_ge w (n + k) cap E.T
    generalize grownCap w (n + k) cap E.T = G at *
    refine ⟨cs ++ (Builtin.zeroCells E.zero.cells k).toList ++ (Builtin.zeroCells E.zero.cells (G - (n + k))).toList, ?_, ?_, ?_⟩
    · have e : (cs ++ (Builtin.zeroCells E.zero.cells k).toList ++ (Builtin.zeroCells E.zero.cells (G - (n + k))).toList).toArray = cs.toArray ++ Builtin.zeroCells E.zero.cells k ++ Builtin.zeroCells E.zero.cells (G - (n + k)) := by
        apply Array.ext'
        simp
      rw [← e]
      exact Blk_10.new w.drew E.T _
    · rw [List.length_append, List.length_append, hcs, hsz, hsz, ← Nat.add_mul, ← Nat.add_mul, Nat.add_sub_cancel' hG]
    · rw [List.append_assoc, ← hcs, List.take_left]
  · exact ⟨rfl, rfl, rfl, by simp, fun k hk _ => Below.heap_alloc w.drew _ k hk⟩
end
end Go.Proofs.Ytfbiinipiklkaaa
