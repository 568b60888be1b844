/-
  Slices of elements of whatever type, each laid in so many cells: what they read as; owned by a call; appended to; made; stored into. No program function is named here.
-/
import Derived.Test.YtfbiinipiklkaaaQB
import Derived.Deep.AppendLies
import Derived.Deep.MidRow
import Derived.Lib.SliceRun
namespace Go.Proofs.Ytfbiinipiklkaaa
open Go.RowKit Go.Lib

/-- How elements lie in cells, and the types of one and of a slice of them. -/
structure Enc (α : Type) where
  S : TypeId
  T : TypeId
  k : Nat
  bytes : Nat
  zero : Value
  f : α → List Value
  len : ∀ x, (f x).length = k
  one : ∀ x, ∀ v ∈ f x, v.oneCell' = true
  und : Try.prog.underlying S = some (.slice T)
  info : (Try.prog.info? T).map (fun i => (i.zero, i.size, i.bytes)) = some (some zero, k, bytes)
  pos : 0 < k
  zlen : zero.cells.size = k
  small : bytes ≤ 1000
section
variable {α : Type} {E : Enc α}
def Enc.cells (E : Enc α) : List α → List Value
  | [] => []
  | x :: l => E.f x ++ E.cells l
theorem Enc.cells_len : ∀ l : List α, (E.cells l).length = l.length * E.k
  | [] => by simp [Enc.cells]
  | x :: l => by
    show (E.f x ++ E.cells l).length = (l.length + 1) * E.k
    rw [List.length_append, E.len, Enc.cells_len l, Nat.add_mul, Nat.one_mul, Nat.add_comm]
theorem Enc.cells_append : ∀ l m : List α, E.cells (l ++ m) = E.cells l ++ E.cells m
  | [], _ => rfl
  | x :: l, m => by
    show E.f x ++ E.cells (l ++ m) = (E.f x ++ E.cells l) ++ E.cells m
    rw [Enc.cells_append l m, List.append_assoc]
theorem Enc.cells_get : ∀ (l : List α) (j : Nat) (x : α), l[j]? = some x → ∀ i, i < E.k → (E.cells l)[j * E.k + i]? = (E.f x)[i]?
  | [], _, _, hx, _, _ => by simp at hx
  | y :: l, 0, x, hx, i, hi => by
    simp at hx
    subst hx
    show (E.f y ++ E.cells l)[0 * E.k + i]? = _
    rw [Nat.zero_mul, Nat.zero_add, List.getElem?_append_left (by rw [E.len]; exact hi)]
  | y :: l, j + 1, x, hx, i, hi => by
    show (E.f y ++ E.cells l)[(j + 1) * E.k + i]? = _
    rw [show (j + 1) * E.k + i = E.k + (j * E.k + i) by rw [Nat.add_mul]; omega, List.getElem?_append_right (by rw [E.len]; omega), E.len, Nat.add_sub_cancel_left]
    exact Enc.cells_get l j x (by simpa using hx) i hi
theorem Enc.cells_one : ∀ (l : List α), ∀ v ∈ E.cells l, v.oneCell' = true
  | [], v, h => by cases h
  | x :: l, v, h => by
    rcases List.mem_append.1 h with h | h
    · exact E.one x v h
    · exact Enc.cells_one l v h
theorem Enc.cells_set : ∀ (l : List α) (j : Nat) (x y : α) (i : Nat) (u : Value), l[j]? = some x → i < E.k → E.f y = (E.f x).set i u → (E.cells l).set (j * E.k + i) u = E.cells (l.set j y)
  | [], _, _, _, _, _, hx, _, _ => by simp at hx
  | z :: l, 0, x, y, i, u, hx, hi, he => by
    simp at hx
    subst hx
    show (E.f z ++ E.cells l).set (0 * E.k + i) u = E.f y ++ E.cells l
    rw [Nat.zero_mul, Nat.zero_add, List.set_append_left i u (by rw [E.len]; exact hi), he]
  | z :: l, j + 1, x, y, i, u, hx, hi, he => by
    show (E.f z ++ E.cells l).set ((j + 1) * E.k + i) u = E.f z ++ E.cells (l.set j y)
    rw [show (j + 1) * E.k + i = E.k + (j * E.k + i) by rw [Nat.add_mul]; omega, List.set_append_right (E.k + (j * E.k + i)) u (by rw [E.len]; omega), E.len, Nat.add_sub_cancel_left, Enc.cells_set l j x y i u (by simpa using hx) hi he]
theorem Enc.cells_rep (z : α) (n : Nat) (h : E.f z = E.zero.cells.toList) : (madeCells E.zero.cells (n * E.k)).toList = E.cells (List.replicate n z) := by
  apply List.ext_getElem?
  intro q
  by_cases hq : q < n * E.k
  · have hp := E.pos
    have h1 : q / E.k < n := Nat.div_lt_of_lt_mul (by rw [Nat.mul_comm]; exact hq)
    have h2 := Enc.cells_get (E := E) (List.replicate n z) (q / E.k) z (by rw [List.getElem?_replicate, if_pos h1]) (q % E.k) (Nat.mod_lt _ hp)
    rw [show q / E.k * E.k + q % E.k = q by rw [Nat.mul_comm]; exact Nat.div_add_mod q E.k] at h2
    rw [h2, h]
    have hm : q % E.zero.cells.size < E.zero.cells.size := by rw [E.zlen]; exact Nat.mod_lt _ hp
    rw [Array.getElem?_toList, Array.getElem?_toList, ← E.zlen]
    rw [← E.zlen] at hq
    simp [madeCells, hq]
    rw [Array.getElem?_eq_getElem hm, getElem!_pos E.zero.cells (q % E.zero.cells.size) hm]
  · rw [List.getElem?_eq_none (by rw [Array.length_toList, size_madeCells]; omega), List.getElem?_eq_none (by rw [Enc.cells_len, List.length_replicate]; omega)]

/-- The slice reads as these elements. -/
def RdG (E : Enc α) (w : World) (B : Nat) (A : Option Addr) (n : Nat) (xs : List α) : Prop :=
  xs.length = n ∧ (0 < n → ∃ b off, A = some ⟨b, off, none⟩ ∧ b < B ∧ ∀ (j : Nat) u, (E.cells xs)[j]? = some u → w.cell? ⟨b, off + j, none⟩ = some u)
variable {w w' : World} {B B' n : Nat} {A : Option Addr} {xs : List α}
theorem RdG.len (h : RdG E w B A n xs) : xs.length = n := h.1
theorem RdG.nil_ (A : Option Addr) : RdG E w B A 0 [] := ⟨rfl, fun h => absurd h (by omega)⟩
theorem RdG.keep (h : RdG E w B A n xs) (hk : ∀ p : Addr, p.block < B → w'.cell? p = w.cell? p) : RdG E w' B A n xs :=
  ⟨h.1, fun hn => by
    obtain ⟨b, off, e, hb, hc⟩ := h.2 hn
    exact ⟨b, off, e, hb, fun j u hu => (hk ⟨b, off + j, none⟩ hb).trans (hc j u hu)⟩⟩
theorem RdG.below (h : RdG E w B A n xs) (hb : Below B w w') : RdG E w' B A n xs := h.keep fun _ hp => hb.cell hp
theorem RdG.drew (h : RdG E w B A n xs) : RdG E w.drew B A n xs := h
theorem RdG.drewN (h : RdG E w B A n xs) (k : Nat) : RdG E (w.drewN k) B A n xs := h.keep fun _ _ => rfl
theorem RdG.alloc (h : RdG E w B A n xs) (hB : B ≤ w.heap.size) (o : Obj) : RdG E (w.alloc o) B A n xs := h.keep fun p hp => World.cell?_alloc_lt w o p (by omega)
theorem RdG.more (h : RdG E w B A n xs) (hB : B ≤ B') : RdG E w B' A n xs :=
  ⟨h.1, fun hn => by
    obtain ⟨b, off, e, hb, hc⟩ := h.2 hn
    exact ⟨b, off, e, by omega, hc⟩⟩
theorem RdG.addr (h : RdG E w B A n xs) (hn : 0 < n) : ∃ b off, A = some ⟨b, off, none⟩ ∧ b < B := by
  obtain ⟨b, off, e, hb, _⟩ := h.2 hn
  exact ⟨b, off, e, hb⟩
/-- Cell i of element j. -/
theorem RdG.cell {b off : Nat} (h : RdG E w B (some ⟨b, off, none⟩) n xs) {j : Nat} {x : α} (hx : xs[j]? = some x) (i : Nat) {u : Value} (hu : (E.f x)[i]? = some u) : w.cell? ⟨b, off + (j * E.k + i), none⟩ = some u := by
  have hn := (List.getElem?_eq_some_iff.1 hx).1
  have hi : i < E.k := by rw [← E.len x]; exact (List.getElem?_eq_some_iff.1 hu).1
  obtain ⟨b', off', e, _, hc⟩ := h.2 (by rw [← h.1]; omega)
  cases e
  exact hc _ _ (by rw [Enc.cells_get xs j x hx i hi, hu])
/-- Of one cell each. -/
theorem RdG.cell1 {b off : Nat} (h : RdG E w B (some ⟨b, off, none⟩) n xs) {j : Nat} {x : α} (hx : xs[j]? = some x) {u : Value} (hu : E.f x = [u]) : w.cell? ⟨b, off + j, none⟩ = some u := by
  have hk : E.k = 1 := by rw [← E.len x, hu]; rfl
  have := h.cell hx 0 (u := u) (by rw [hu]; rfl)
  rwa [hk, Nat.mul_one, Nat.add_zero] at this
/-- A whole element, as a range. -/
theorem RdG.range {b off : Nat} (h : RdG E w B (some ⟨b, off, none⟩) n xs) {j : Nat} {x : α} (hx : xs[j]? = some x) : w.rangeAt b (off + j * E.k) (E.f x) := fun i u hu => by
  have := h.cell hx i hu
  rwa [← Nat.add_assoc] at this
theorem RdG.part (h : RdG E w B A n xs) {l m : Nat} (hk : l + m ≤ n) (hm : 0 < m) : RdG E w B (A.map fun a => a.add (l * E.k)) m ((xs.drop l).take m) := by
  refine ⟨by rw [List.length_take, List.length_drop, h.1]; omega, fun _ => ?_⟩
  obtain ⟨b, off, rfl, hb, hc⟩ := h.2 (by omega)
  refine ⟨b, off + l * E.k, by simp [add_plain], hb, fun j u hu => ?_⟩
  have hl := h.1
  have e : E.cells xs = E.cells (xs.take l) ++ (E.cells ((xs.drop l).take m) ++ E.cells ((xs.drop l).drop m)) := by
    rw [← Enc.cells_append, ← Enc.cells_append, List.take_append_drop, List.take_append_drop]
  have hj := (List.getElem?_eq_some_iff.1 hu).1
  have hlen : (E.cells (xs.take l)).length = l * E.k := by rw [Enc.cells_len, List.length_take, Nat.min_eq_left (by omega)]
  rw [show off + l * E.k + j = off + (l * E.k + j) by omega]
  refine hc _ u ?_
  rw [e, List.getElem?_append_right (by omega), hlen, Nat.add_sub_cancel_left, List.getElem?_append_left hj]
  exact hu
theorem RdG.take (h : RdG E w B A n xs) {m : Nat} (hm : m ≤ n) : RdG E w B A m (xs.take m) := by
  rcases Nat.eq_zero_or_pos m with rfl | h0
  · rw [List.take_zero]; exact RdG.nil_ _
  · have := h.part (l := 0) (m := m) (by omega) h0
    rw [List.drop_zero, Nat.zero_mul] at this
    obtain ⟨b, off, rfl, _, _⟩ := h.2 (by omega)
    simpa [add_plain] using this
theorem RdG.laid (E : Enc α) (w : World) (xs : List α) (n : Nat) (hn : xs.length = n) (cs : Array Value) (hc : cs = (E.cells xs).toArray) : RdG E (w.alloc (.cells cs E.T)) (w.heap.size + 1) (some ⟨w.heap.size, 0, none⟩) n xs :=
  ⟨hn, fun _ => ⟨w.heap.size, 0, rfl, by omega, fun j u hu => by
    subst hc
    rw [Nat.zero_add, cell_of_row _ w.heap.size j _ _ (0, 0) (heap_alloc_new w _)]
    simpa using hu⟩⟩
/-- As long as the blocks below B stay. -/
theorem RdG.grown (h : RdG E w B A n xs) {row : Option Nat} (hg : w.grownBy w' row) (hB : B ≤ w.heap.size) (hr : ∀ g, row = some g → B ≤ g) : RdG E w' B A n xs :=
  h.keep fun p hp => by
    have hb := hg.block p.block (by omega) (fun e => by have := hr _ e.symm; omega)
    unfold World.cell?
    rw [hb]

/-- The slice value v owns these elements, in a row of the call's own from block 'base' on. -/
def OwnG (E : Enc α) (w : World) (base : Nat) (v : Value) (xs : List α) : Prop := w.ownsRow base E.T E.k v xs.length (E.cells xs)
variable {base base' : Nat} {v v' : Value}
theorem OwnG.alloc (h : OwnG E w base v xs) (o : Obj) : OwnG E (w.alloc o) base v xs := World.ownsRow.alloc h o
theorem OwnG.drew (h : OwnG E w base v xs) : OwnG E w.drew base v xs := h
theorem OwnG.lt (h : OwnG E w base v xs) : ∀ g, v.ownBlock = some g → base ≤ g := fun g hg => (World.ownsRow.lt h g hg).1
theorem OwnG.ltS (h : OwnG E w base v xs) : ∀ g, v.ownBlock = some g → g < w.heap.size := fun g hg => (World.ownsRow.lt h g hg).2
theorem OwnG.below (h : OwnG E w base v xs) (hb : Below w.heap.size w w') : OwnG E w' base v xs := by
  refine ⟨h.1, ?_⟩
  rcases h.2 with hn | ⟨g, cap, cur, rfl, hbg, hg, rest⟩
  · exact .inl hn
  · exact .inr ⟨g, cap, cur, rfl, hbg, (hb.block g (Array.getElem?_eq_some_iff.1 hg).1).trans hg, rest⟩
theorem OwnG.base_le (h : OwnG E w base v xs) (hle : base' ≤ base) : OwnG E w base' v xs := by
  refine ⟨h.1, ?_⟩
  rcases h.2 with hn | ⟨g, cap, cur, rfl, hbg, rest⟩
  · exact .inl hn
  · exact .inr ⟨g, cap, cur, rfl, by omega, rest⟩
theorem OwnG.kept (h : OwnG E w base v xs) {row : Option Nat} (hg : w.grownBy w' row) (hne : v.ownBlock = none ∨ v.ownBlock ≠ row) : OwnG E w' base v xs := World.ownsRow.kept h hg hne
theorem OwnG.nil_ (E : Enc α) (w : World) (base : Nat) : OwnG E w base (.slice none 0 0) [] := by
  have := World.ownsRow_nil w base E.T E.k
  exact this
theorem OwnG.empty (E : Enc α) (w : World) (h : base ≤ w.heap.size) : OwnG E (w.alloc (.cells #[] E.T)) base (.slice (some ⟨w.heap.size, 0, none⟩) 0 0) [] := by
  have := World.ownsRow_lit (e := E.T) (size := E.k) w #[] 0 h (by simp [maxLen]) (by simp)
  exact this
theorem OwnG.laid (E : Enc α) (w : World) (h : base ≤ w.heap.size) (xs : List α) (n : Nat) (hn : xs.length = n) (hm : n ≤ maxLen) (cs : Array Value) (hc : cs = (E.cells xs).toArray) : OwnG E (w.alloc (.cells cs E.T)) base (.slice (some ⟨w.heap.size, 0, none⟩) n n) xs := by
  subst hc hn
  have := World.ownsRow_lit (e := E.T) (size := E.k) w (E.cells xs).toArray xs.length h hm (by rw [List.size_toArray, Enc.cells_len])
  exact this
/-- What is owned reads so. -/
theorem OwnG.sl (h : OwnG E w base v xs) : ∃ A m c, v = .slice A m c ∧ m = xs.length ∧ m ≤ c ∧ c ≤ maxLen ∧ RdG E w w.heap.size A m xs ∧ (0 < m → ∃ g, A = some ⟨g, 0, none⟩ ∧ base ≤ g ∧ g < w.heap.size) := by
  rcases h.2 with ⟨rfl, h0⟩ | ⟨g, cap, cur, rfl, hbg, hg, hnc, hcm, hcs, ht⟩
  · have : xs = [] := List.eq_nil_of_length_eq_zero h0
    subst this
    exact ⟨none, 0, 0, rfl, rfl, Nat.le_refl _, by simp [maxLen], RdG.nil_ _, fun h => absurd h (by omega)⟩
  · have hgl := (Array.getElem?_eq_some_iff.1 hg).1
    refine ⟨_, _, cap, rfl, rfl, hnc, hcm, ⟨rfl, fun _ => ⟨g, 0, rfl, hgl, fun j u hu => ?_⟩⟩, fun _ => ⟨g, rfl, hbg, hgl⟩⟩
    have hcell := World.ownsRow.cells h (g := g) rfl j u hu
    rw [add_plain] at hcell
    exact hcell
theorem OwnG.rd {m c : Nat} (h : OwnG E w base (.slice A m c) xs) : RdG E w w.heap.size A m xs := by
  obtain ⟨A', m', c', e, _, _, _, hr, _⟩ := h.sl
  cases e
  exact hr
theorem OwnG.form (h : OwnG E w base v xs) (h0 : 0 < xs.length) : ∃ g c, v = .slice (some ⟨g, 0, none⟩) xs.length c ∧ xs.length ≤ c ∧ c ≤ maxLen ∧ base ≤ g ∧ g < w.heap.size := by
  obtain ⟨A, m, c, rfl, rfl, h1, h2, _, h3⟩ := h.sl
  obtain ⟨g, rfl, h4, h5⟩ := h3 h0
  exact ⟨g, c, rfl, h1, h2, h4, h5⟩
theorem Enc.parts (E : Enc α) : ∃ i0, Try.prog.info? E.T = some i0 ∧ i0.zero = some E.zero ∧ i0.size = E.k ∧ i0.bytes = E.bytes := info_parts E.info
end

section
variable {α : Type} (E : Enc α)
/-- append of elements onto an owned slice of them. -/
theorem run_appendG (w : World) (ty : TypeId) (base : Nat) (v : Value) (xs : List α) (hown : OwnG E w base v xs) (B : Nat) (A : Option Addr) (m c : Nat) (ys : List α) (hr : RdG E w B A m ys) (hlen : xs.length + m ≤ 100000000) (hbase : base ≤ w.heap.size) :
    ∃ v' w', (Builtin.append_ #[E.S, E.S] ty #[v, .slice A m c]).run Try.prog w = .ok v' w' ∧ OwnG E w' base v' (xs ++ ys) ∧ w.grownBy w' v.ownBlock ∧ (v'.ownBlock = v.ownBlock ∨ v'.ownBlock = some w.heap.size) := by
  obtain ⟨i0, hi, hz0, hz1, hz2⟩ := E.parts
  have hsm := E.small
  have go : ∀ ad, A = some ad → (∀ j u, (E.cells ys)[j]? = some u → w.cell? (ad.add j) = some u) → ∃ v' w', (Builtin.append_ #[E.S, E.S] ty #[v, .slice A m c]).run Try.prog w = .ok v' w' ∧ OwnG E w' base v' (xs ++ ys) ∧ w.grownBy w' v.ownBlock ∧ (v'.ownBlock = v.ownBlock ∨ v'.ownBlock = some w.heap.size) := by
    rintro ad rfl hc
    obtain ⟨v', w', h1, h2, h3, _, h5⟩ := run_append_own_at (P := Try.prog) w base E.S ty E.T i0 E.zero E.k E.bytes E.und hi hz0 hz1 hz2 E.zlen E.pos v xs.length (E.cells xs) hown ad m c (E.cells ys) (by rw [Enc.cells_len, hr.len]) hc (Enc.cells_one ys) (by unfold maxLen; omega)
      (by have := Nat.mul_le_mul hlen hsm; omega) hbase
    refine ⟨v', w', h1, ?_, h3, h5⟩
    unfold OwnG
    rw [List.length_append, hr.len, Enc.cells_append]
    exact h2
  rcases Nat.eq_zero_or_pos m with rfl | hm
  · obtain rfl : ys = [] := List.eq_nil_of_length_eq_zero hr.len
    cases A with
    | some ad => exact go ad rfl (fun j u hj => by simp [Enc.cells] at hj)
    | none =>
      refine ⟨v, w, ?_, by simpa using hown, World.grownBy.refl w _, .inl rfl⟩
      rcases hown.2 with ⟨rfl, h0⟩ | ⟨g, cap, cur, rfl, _, _, hnc, _⟩
      · simp [Builtin.append_, run_underlying E.und, sizeOf, typeInfo, hi, Builtin.lenOf, Builtin.firstCells]
      · simp [Builtin.append_, run_underlying E.und, sizeOf, typeInfo, hi, Builtin.lenOf, Builtin.firstCells, hnc, storeCells]
  · obtain ⟨b, off, rfl, _, hc⟩ := hr.2 hm
    exact go _ rfl (fun j u hu => by rw [add_plain]; exact hc j u hu)
theorem wpList_appendG {w : World} {ops : Array Oper} {rest : List Oper} {o : Oper} {a : Act} {Q : Exit → Act → World → Prop} (hgd : o.guard = none) (s x : Operand)
    (ho : o.op = .call { callee := .builtin .append, args := #[s, x], argTypes := #[E.S, E.S] })
    (base : Nat) (v : Value) (xs : List α) (hs : a.eval s = v) (hown : OwnG E w base v xs) (B : Nat) (A : Option Addr) (m c : Nat) (ys : List α) (hx : a.eval x = .slice A m c) (hr : RdG E w B A m ys)
    (hlen : xs.length + m ≤ 100000000) (hbase : base ≤ w.heap.size)
    (h : ∀ v' w', OwnG E w' base v' (xs ++ ys) → w.grownBy w' v.ownBlock → (v'.ownBlock = v.ownBlock ∨ v'.ownBlock = some w.heap.size) → wpList Try.prog ops Q rest (a.put o.dst v') w') : wpList Try.prog ops Q (o :: rest) a w := by
  refine wpList_plain hgd fun K hK => ?_
  obtain ⟨v', w', hrun, h2, h3, h4⟩ := run_appendG E w o.type base v xs hown B A m c ys hr hlen hbase
  unfold Oper.wp execOp
  simp only [ho, resolve, invoke, builtin, Sem.run_bind, Sem.run_pure, Result.andThen_ok, List.map_toArray, List.map_cons, List.map_nil, hs, hx, hrun]
  exact hK _ _ (h v' w' h2 h3 h4)
/-- The same, at a step of a region that draws its order. -/
theorem step_appendG {w : World} {ops : Array Oper} {o : Oper} {a : Act} {K : Act → World → Prop} {Q : Exit → Act → World → Prop} {D : Prop} (hgd : o.guard = none) (s x : Operand)
    (ho : o.op = .call { callee := .builtin .append, args := #[s, x], argTypes := #[E.S, E.S] })
    (base : Nat) (v : Value) (xs : List α) (hs : a.eval s = v) (hown : OwnG E w base v xs) (B : Nat) (A : Option Addr) (m c : Nat) (ys : List α) (hx : a.eval x = .slice A m c) (hr : RdG E w B A m ys)
    (hlen : xs.length + m ≤ 100000000) (hbase : base ≤ w.heap.size)
    (h : ∀ v' w', OwnG E w' base v' (xs ++ ys) → w.grownBy w' v.ownBlock → (v'.ownBlock = v.ownBlock ∨ v'.ownBlock = some w.heap.size) → K (a.put o.dst v') w') :
    if Region.wanted o (yielded ops a.tmps) = true then Oper.wp Try.prog o a w K Q else D := by
  have hw : Region.wanted o (yielded ops a.tmps) = true := by simp [Region.wanted, hgd]
  rw [if_pos hw]
  obtain ⟨v', w', hrun, h2, h3, h4⟩ := run_appendG E w o.type base v xs hown B A m c ys hr hlen hbase
  unfold Oper.wp execOp
  simp only [ho, resolve, invoke, builtin, Sem.run_bind, Sem.run_pure, Result.andThen_ok, List.map_toArray, List.map_cons, List.map_nil, hs, hx, hrun]
  exact h v' w' h2 h3 h4
/-- make of so many elements, all zero. -/
theorem run_makeG (z : α) (hz : E.f z = E.zero.cells.toList) (n : Nat) (hn : n ≤ 100000000) (base : Nat) (w : World) (hbase : base ≤ w.heap.size) :
    ∃ w', (Instr.makeSlice E.S (.int .i64 (n : Int)) (.int .i64 (n : Int))).run Try.prog w = .ok (.slice (some ⟨w.heap.size, 0, none⟩) n n) w' ∧ OwnG E w' base (.slice (some ⟨w.heap.size, 0, none⟩) n n) (List.replicate n z) ∧ w.grownBy w' none := by
  obtain ⟨i0, hi, hz0, hz1, hz2⟩ := E.parts
  have hsm := E.small
  obtain ⟨w', h1, h2, h3⟩ := run_make_full (P := Try.prog) w base E.S E.T i0 E.zero E.k E.und hi hz0 hz1 .i64 .i64 n (by rw [hz2]; have := Nat.mul_le_mul hsm hn; omega) (by unfold maxLen; omega) hbase
  refine ⟨w', h1, ?_, h3⟩
  unfold OwnG
  rw [List.length_replicate, ← Enc.cells_rep z n hz]
  exact h2
end
section
variable {α : Type} {E : Enc α} {w : World} {base n cap g : Nat} {xs : List α}
theorem OwnG.lenEq (h : OwnG E w base (.slice (some ⟨g, 0, none⟩) n cap) xs) : n = xs.length := by
  obtain ⟨A, m, c, e, hm, _⟩ := h.sl
  cases e
  exact hm
/-- A cell of an owned slice is stored anew. -/
theorem OwnG.stored (h : OwnG E w base (.slice (some ⟨g, 0, none⟩) n cap) xs) {j i : Nat} {x y : α} {u : Value} (hx : xs[j]? = some x) (hi : i < E.k) (hy : E.f y = (E.f x).set i u) :
    OwnG E (w.setCell ⟨g, j * E.k + i, none⟩ u) base (.slice (some ⟨g, 0, none⟩) n cap) (xs.set j y) ∧ w.grownBy (w.setCell ⟨g, j * E.k + i, none⟩ u) (some g) := by
  have hn := h.lenEq
  subst hn
  have := World.ownsRow.stored h (j * E.k + i) u
  rw [Enc.cells_set xs j x y i u hx hi hy] at this
  refine ⟨?_, this.2⟩
  unfold OwnG
  rw [List.length_set]
  exact this.1
theorem OwnG.frozen (h : OwnG E w base (.slice (some ⟨g, 0, none⟩) n cap) xs) (j : Nat) : w.frozen? ⟨g, j, none⟩ = false := by
  have hn := h.lenEq
  subst hn
  exact World.ownsRow.frozenAt h j
theorem OwnG.cell (h : OwnG E w base (.slice (some ⟨g, 0, none⟩) n cap) xs) {j : Nat} {x : α} (hx : xs[j]? = some x) (i : Nat) {u : Value} (hu : (E.f x)[i]? = some u) : w.cell? ⟨g, j * E.k + i, none⟩ = some u := by
  have := h.rd.cell hx i hu
  rwa [Nat.zero_add] at this
end
/-- A value of one cell goes into its cell. -/
theorem run_store1 (w : World) (g i : Nat) (T : TypeId) (u v : Value) (hc : w.cell? ⟨g, i, none⟩ = some v) (hf : w.frozen? ⟨g, i, none⟩ = false) (hi : (Try.prog.info? T).map (·.size) = some 1) (h1 : u.oneCell' = true) (hu : u.cells = #[u]) :
    (storeVar T ⟨g, i, none⟩ u).run Try.prog w = .ok () (w.setCell ⟨g, i, none⟩ u) := by
  have := run_storeCells_cells (P := Try.prog) g i [u] 0 w (fun j hj => by
      have : j = 0 := by simpa using hj
      subst this
      simp [hc]) (fun j hj => by
      have : j = 0 := by simpa using hj
      subst this
      simpa using hf) (fun v hv => by
      have : v = u := by simpa using hv
      subst this
      exact h1)
  cases hq : Try.prog.info? T with
  | none => simp [hq] at hi
  | some i0 =>
    have hs : i0.size = 1 := by simpa [hq] using hi
    simp only [Nat.add_zero] at this
    simp [storeVar, sizeOf, typeInfo, hq, hu, hs, this, World.setCells]
/-- A store of one cell into an owned slice: a law for the walk, the world behind it a letter. -/
theorem wpList_storeG {α : Type} (E : Enc α) {w : World} {ops : Array Oper} {rest : List Oper} {op : Oper} {a : Act} {Q : Exit → Act → World → Prop} (hgd : op.guard = none) (T : TypeId) (x y : Operand) (ho : op.op = .store T x y)
    (g j i q : Nat) (hq : q = j * E.k + i) (hx : a.eval x = .pointer (some ⟨g, q, none⟩)) (u : Value) (hy : a.eval y = u) (xs : List α) (n c base : Nat) (hown : OwnG E w base (.slice (some ⟨g, 0, none⟩) n c) xs) (e e' : α) (he : xs[j]? = some e)
    (hi : i < E.k) (hf : E.f e' = (E.f e).set i u) (hT : (Try.prog.info? T).map (·.size) = some 1) (h1 : u.oneCell' = true) (hu : u.cells = #[u])
    (h : ∀ w', OwnG E w' base (.slice (some ⟨g, 0, none⟩) n c) (xs.set j e') → w.grownBy w' (some g) → wpList Try.prog ops Q rest (a.put op.dst undef) w') : wpList Try.prog ops Q (op :: rest) a w := by
  subst hq
  refine wpList_plain hgd fun K hK => ?_
  obtain ⟨hs1, hs2⟩ := hown.stored (u := u) he hi hf
  have hk := h _ hs1 hs2
  have hs := run_store1 w g (j * E.k + i) T u ((E.f e)[i]'(by rw [E.len]; exact hi)) (hown.cell he i (List.getElem?_eq_getElem _)) (hown.frozen _) hT h1 hu
  unfold Oper.wp execOp
  simp only [ho, hx, hy, Instr.storeAt, Instr.sureAddr, Sem.run_bind, Sem.run_pure, Result.andThen_ok, hs]
  exact hK _ _ hk
end Go.Proofs.Ytfbiinipiklkaaa
