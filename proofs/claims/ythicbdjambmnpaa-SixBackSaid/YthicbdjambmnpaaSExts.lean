/-
  Slices of extensions in memory: what they read as; owned; appended to; stored into; as arguments.
-/
import Derived.Test.YthicbdjambmnpaaSExt
import Derived.Deep.AppendLies
namespace Go.Proofs.Ythicbdjambmnpaa
open Go.RowKit Go.Lib Go.ChangeShapes Go.WideShapes Go.ChangeAt Go.Deep

/-- The cells of an extension, of extensions in a row. -/
def exL (x : Ex) : List Value := [.int .u8 (x.kind : Int), .int .u8 (x.long : Int), .int .u16 (x.part : Int)]
def ecells : List Ex → List Value
  | [] => []
  | x :: l => .int .u8 (x.kind : Int) :: .int .u8 (x.long : Int) :: .int .u16 (x.part : Int) :: ecells l
theorem ecells_len : ∀ l : List Ex, (ecells l).length = l.length * 3
  | [] => rfl
  | x :: l => by
    show (ecells l).length + 1 + 1 + 1 = (l.length + 1) * 3
    rw [ecells_len l]; omega
theorem ecells_append : ∀ l m : List Ex, ecells (l ++ m) = ecells l ++ ecells m
  | [], _ => rfl
  | x :: l, m => by
    show _ :: _ :: _ :: ecells (l ++ m) = _
    rw [ecells_append l m]; rfl
theorem ecells_get : ∀ (l : List Ex) (j : Nat) (x : Ex), l[j]? = some x → (ecells l)[j * 3]? = some (.int .u8 (x.kind : Int)) ∧ (ecells l)[j * 3 + 1]? = some (.int .u8 (x.long : Int)) ∧ (ecells l)[j * 3 + 2]? = some (.int .u16 (x.part : Int))
  | [], _, _, hx => by simp at hx
  | y :: l, 0, x, hx => by simp at hx; subst hx; exact ⟨rfl, rfl, rfl⟩
  | y :: l, j + 1, x, hx => by
    have := ecells_get l j x (by simpa using hx)
    rw [show (j + 1) * 3 = j * 3 + 1 + 1 + 1 by omega]
    exact this
theorem ecells_one : ∀ (l : List Ex), ∀ v ∈ ecells l, v.oneCell' = true
  | [], v, h => by cases h
  | x :: l, v, h => by
    rcases List.mem_cons.1 h with rfl | h
    · rfl
    rcases List.mem_cons.1 h with rfl | h
    · rfl
    rcases List.mem_cons.1 h with rfl | h
    · rfl
    exact ecells_one l v h
/-- The third field changed. -/
def Ex.setP (x : Ex) (p : Nat) : Ex := ⟨x.kind, x.long, p⟩
theorem ecells_set : ∀ (l : List Ex) (j : Nat) (x : Ex) (p : Nat), l[j]? = some x → (ecells l).set (j * 3 + 2) (.int .u16 (p : Int)) = ecells (l.set j (x.setP p))
  | [], _, _, _, hx => by simp at hx
  | y :: l, 0, x, p, hx => by simp at hx; subst hx; rfl
  | y :: l, j + 1, x, p, hx => by
    have := ecells_set l j x p (by simpa using hx)
    rw [show (j + 1) * 3 + 2 = (j * 3 + 2) + 1 + 1 + 1 by omega]
    show _ :: _ :: _ :: (ecells l).set (j * 3 + 2) _ = _ :: _ :: _ :: ecells (l.set j (x.setP p))
    rw [this]
/-- The slice reads as these extensions. -/
def ExtsAt (w : World) (B : Nat) (A : Option Addr) (len : Nat) (xs : List Ex) : Prop :=
  xs.length = len ∧ (∀ x ∈ xs, x.Fit) ∧ (0 < len → ∃ b off, A = some ⟨b, off, none⟩ ∧ b < B ∧ ∀ j u, (ecells xs)[j]? = some u → w.cell? ⟨b, off + j, none⟩ = some u)
section
variable {w w' : World} {B B' len : Nat} {A : Option Addr} {xs : List Ex}
theorem ExtsAt.size (h : ExtsAt w B A len xs) : xs.length = len := h.1
theorem ExtsAt.fit (h : ExtsAt w B A len xs) : ∀ x ∈ xs, x.Fit := h.2.1
theorem ExtsAt.nil_ (A : Option Addr) : ExtsAt w B A 0 [] := ⟨rfl, (fun _ h => by cases h), fun h => absurd h (by omega)⟩
theorem ExtsAt.keep (h : ExtsAt w B A len xs) (hk : ∀ p : Addr, p.block < B → w'.cell? p = w.cell? p) : ExtsAt w' B A len xs :=
  ⟨h.1, h.2.1, fun hn => by
    obtain ⟨b, off, e, hb, hc⟩ := h.2.2 hn
    exact ⟨b, off, e, hb, fun j u hu => (hk _ hb).trans (hc j u hu)⟩⟩
theorem ExtsAt.below (h : ExtsAt w B A len xs) (hb : Below B w w') : ExtsAt w' B A len xs := h.keep fun _ hp => hb.cell hp
theorem ExtsAt.alloc (h : ExtsAt w B A len xs) (hB : B ≤ w.heap.size) (o : Obj) : ExtsAt (w.alloc o) B A len xs := h.keep fun p hp => World.cell?_alloc_lt w o p (by omega)
theorem ExtsAt.more (h : ExtsAt w B A len xs) (hB : B ≤ B') : ExtsAt w B' A len xs :=
  ⟨h.1, h.2.1, fun hn => by
    obtain ⟨b, off, e, hb, hc⟩ := h.2.2 hn
    exact ⟨b, off, e, by omega, hc⟩⟩
theorem ExtsAt.addr (h : ExtsAt w B A len xs) (hn : 0 < len) : ∃ b off, A = some ⟨b, off, none⟩ ∧ b < B := by
  obtain ⟨b, off, e, hb, _⟩ := h.2.2 hn
  exact ⟨b, off, e, hb⟩
theorem ExtsAt.cell {b off : Nat} (h : ExtsAt w B (some ⟨b, off, none⟩) len xs) {k : Nat} {x : Ex} (hx : xs[k]? = some x) :
    w.cell? ⟨b, off + k * 3, none⟩ = some (.int .u8 (x.kind : Int)) ∧ w.cell? ⟨b, off + k * 3 + 1, none⟩ = some (.int .u8 (x.long : Int)) ∧ w.cell? ⟨b, off + k * 3 + 2, none⟩ = some (.int .u16 (x.part : Int)) := by
  obtain ⟨b', off', e, _, hc⟩ := h.2.2 (by have := (List.getElem?_eq_some_iff.1 hx).1; have := h.1; omega)
  cases e
  obtain ⟨e0, e1, e2⟩ := ecells_get xs k x hx
  exact ⟨hc _ _ e0, by have := hc _ _ e1; rw [← Nat.add_assoc] at this; exact this, by have := hc _ _ e2; rw [← Nat.add_assoc] at this; exact this⟩
theorem ExtsAt.laid (w : World) (xs : List Ex) (hf : ∀ x ∈ xs, x.Fit) (n : Nat) (hn : xs.length = n) : ExtsAt (w.alloc (.cells (ecells xs).toArray 43)) (w.heap.size + 1) (some ⟨w.heap.size, 0, none⟩) n xs :=
  ⟨hn, hf, fun _ => ⟨w.heap.size, 0, rfl, by omega, fun j u hu => by
    rw [Nat.zero_add, cell_of_row _ w.heap.size j _ _ (0, 0) (heap_alloc_new w _)]
    simpa using hu⟩⟩
end
/-- The slice value v owns these extensions. -/
def OwnE (w : World) (base : Nat) (v : Value) (xs : List Ex) : Prop := w.ownsRow base 43 3 v xs.length (ecells xs)
section
variable {w w' : World} {base base' : Nat} {v v' : Value} {xs : List Ex}
theorem OwnE.alloc (h : OwnE w base v xs) (o : Obj) : OwnE (w.alloc o) base v xs := World.ownsRow.alloc h o
theorem OwnE.drew (h : OwnE w base v xs) : OwnE w.drew base v xs := h
theorem OwnE.lt (h : OwnE w base v xs) : ∀ g, v.ownBlock = some g → base ≤ g ∧ g < w.heap.size := fun g hg => World.ownsRow.lt h g hg
theorem OwnE.below (h : OwnE w base v xs) (hb : Below w.heap.size w w') : OwnE w' base v xs := by
  refine ⟨h.1, ?_⟩
  rcases h.2 with hn | ⟨g, cap, cur, rfl, hbg, hg, rest⟩
  · exact .inl hn
  · exact .inr ⟨g, cap, cur, rfl, hbg, (hb.block g (Array.getElem?_eq_some_iff.1 hg).1).trans hg, rest⟩
theorem OwnE.nil_ (w : World) (base : Nat) : OwnE w base (.slice none 0 0) [] := World.ownsRow_nil w base _ 3
theorem emptyE {base : Nat} (w : World) (h : base ≤ w.heap.size) : OwnE (w.alloc (.cells #[] 43)) base (.slice (some ⟨w.heap.size, 0, none⟩) 0 0) [] := by
  have := World.ownsRow_lit (e := 43) (size := 3) w #[] 0 h (by simp [maxLen]) rfl
  exact this
/-- What is owned reads so. -/
theorem OwnE.sl (h : OwnE w base v xs) (hf : ∀ x ∈ xs, x.Fit) {n : Nat} (hn : xs.length = n) : ∃ A c, v = .slice A n c ∧ n ≤ c ∧ c ≤ maxLen ∧ ExtsAt w w.heap.size A n xs ∧ (0 < n → ∃ g, A = some ⟨g, 0, none⟩ ∧ base ≤ g ∧ g < w.heap.size) := by
  subst hn
  rcases h.2 with ⟨rfl, h0⟩ | ⟨g, cap, cur, rfl, hbg, hg, hnc, hcm, hcs, ht⟩
  · have : xs = [] := List.eq_nil_of_length_eq_zero h0
    subst this
    exact ⟨none, 0, rfl, Nat.le_refl _, by simp [maxLen], ExtsAt.nil_ _, fun h => absurd h (by simp)⟩
  · have hgl := (Array.getElem?_eq_some_iff.1 hg).1
    refine ⟨_, cap, rfl, hnc, hcm, ⟨rfl, hf, fun _ => ⟨g, 0, rfl, hgl, fun j u hu => ?_⟩⟩, fun _ => ⟨g, rfl, hbg, hgl⟩⟩
    have hcell := World.ownsRow.cells h (g := g) rfl j u hu
    rw [add_plain] at hcell
    exact hcell
end
theorem OwnE.other {w w' : World} {base : Nat} {v : Value} {xs : List Ex} (h : OwnE w base v xs) {c : Nat} (hk : ∀ k, k ≠ c → w'.heap[k]? = w.heap[k]?) (hc : c < base) : OwnE w' base v xs := by
  refine ⟨h.1, ?_⟩
  rcases h.2 with hn | ⟨g, cap, cur, rfl, hbg, hg, rest⟩
  · exact .inl hn
  · exact .inr ⟨g, cap, cur, rfl, hbg, (hk g (by omega)).trans hg, rest⟩
theorem OwnE.at_ {w : World} {base n c : Nat} {A : Option Addr} {xs : List Ex} (h : OwnE w base (.slice A n c) xs) (hf : ∀ x ∈ xs, x.Fit) (hn : xs.length = n) : ExtsAt w w.heap.size A n xs := by
  obtain ⟨A', c', e, _, _, he, _⟩ := h.sl hf hn
  cases e
  exact he
theorem infoE : (Try.prog.info? 43).map (fun i => (i.zero, i.size, i.bytes)) = some (some (.agg #[.int .u8 0, .int .u8 0, .int .u16 0]), 3, 4) := by kernel_rfl
theorem sizeE : (Try.prog.info? 43).map (·.size) = some 3 := by kernel_rfl
/-- append of extensions onto an owned slice of them. -/
theorem run_appendE (w : World) (ty : TypeId) (base : Nat) (v : Value) (xs : List Ex) (hown : OwnE w base v xs) (B : Nat) (A : Option Addr) (m c : Nat) (ys : List Ex) (hr : ExtsAt w B A m ys) (hlen : xs.length + m ≤ 1000000) (hbase : base ≤ w.heap.size) :
    ∃ v' w', (Builtin.append_ #[40, 40] ty #[v, .slice A m c]).run Try.prog w = .ok v' w' ∧ OwnE w' base v' (xs ++ ys) ∧ w.grownBy w' v.ownBlock ∧ (v'.ownBlock = v.ownBlock ∨ v'.ownBlock = some w.heap.size) := by
  obtain ⟨i0, hi, hz0, hz1, hz2⟩ := info_parts infoE
  have go : ∀ ad, A = some ad → (∀ j u, (ecells ys)[j]? = some u → w.cell? (ad.add j) = some u) → ∃ v' w', (Builtin.append_ #[40, 40] ty #[v, .slice A m c]).run Try.prog w = .ok v' w' ∧ OwnE w' base v' (xs ++ ys) ∧ w.grownBy w' v.ownBlock ∧ (v'.ownBlock = v.ownBlock ∨ v'.ownBlock = some w.heap.size) := by
    rintro ad rfl hc
    obtain ⟨v', w', h1, h2, h3, _, h5⟩ := run_append_own_at (P := Try.prog) w base 40 ty 43 i0 _ 3 4 Try.underlying40 hi hz0 hz1 hz2 rfl (by decide) v xs.length (ecells xs) hown ad m c (ecells ys) (by rw [ecells_len, hr.size]) hc (ecells_one ys) (by unfold maxLen; omega) (by omega) hbase
    refine ⟨v', w', h1, ?_, h3, h5⟩
    unfold OwnE
    rw [List.length_append, hr.size, ecells_append]
    exact h2
  rcases Nat.eq_zero_or_pos m with rfl | hm
  · obtain rfl : ys = [] := List.eq_nil_of_length_eq_zero hr.size
    cases A with
    | some ad => exact go ad rfl (fun j u hj => by simp [ecells] at hj)
    | none =>
      refine ⟨v, w, ?_, by simpa using hown, World.grownBy.refl w _, .inl rfl⟩
      rcases hown.2 with ⟨rfl, h0⟩ | ⟨g, cap, cur, rfl, _, _, hnc, _⟩
      · simp [Builtin.append_, run_underlying Try.underlying40, sizeOf, typeInfo, hi, Builtin.lenOf, Builtin.firstCells]
      · simp [Builtin.append_, run_underlying Try.underlying40, sizeOf, typeInfo, hi, Builtin.lenOf, Builtin.firstCells, hnc, storeCells]
  · obtain ⟨b, off, rfl, _, hc⟩ := hr.2.2 hm
    exact go _ rfl (fun j u hu => by rw [add_plain]; exact hc j u hu)
theorem wpList_appendE {w : World} {ops : Array Oper} {rest : List Oper} {o : Oper} {a : Act} {Q : Exit → Act → World → Prop} (hgd : o.guard = none) (s x : Operand)
    (ho : o.op = .call { callee := .builtin .append, args := #[s, x], argTypes := #[40, 40] })
    (base : Nat) (v : Value) (xs : List Ex) (hs : a.eval s = v) (hown : OwnE w base v xs) (B : Nat) (A : Option Addr) (m c : Nat) (ys : List Ex) (hx : a.eval x = .slice A m c) (hr : ExtsAt w B A m ys)
    (hlen : xs.length + m ≤ 1000000) (hbase : base ≤ w.heap.size)
    (h : ∀ v' w', OwnE w' base v' (xs ++ ys) → w.grownBy w' v.ownBlock → (v'.ownBlock = v.ownBlock ∨ v'.ownBlock = some w.heap.size) → wpList Try.prog ops Q rest (a.put o.dst v') w') : wpList Try.prog ops Q (o :: rest) a w := by
  refine wpList_plain hgd fun K hK => ?_
  obtain ⟨v', w', hrun, h2, h3, h4⟩ := run_appendE w o.type base v xs hown B A m c ys hr hlen hbase
  unfold Oper.wp execOp
  simp only [ho, resolve, invoke, builtin, Sem.run_bind, Sem.run_pure, Result.andThen_ok, List.map_toArray, List.map_cons, List.map_nil, hs, hx, hrun]
  exact hK _ _ (h v' w' h2 h3 h4)
/-- The same, at a step of a region that draws its order. -/
theorem step_appendE {w : World} {ops : Array Oper} {o : Oper} {a : Act} {K : Act → World → Prop} {Q : Exit → Act → World → Prop} {E : Prop} (hgd : o.guard = none) (s x : Operand)
    (ho : o.op = .call { callee := .builtin .append, args := #[s, x], argTypes := #[40, 40] })
    (base : Nat) (v : Value) (xs : List Ex) (hs : a.eval s = v) (hown : OwnE w base v xs) (B : Nat) (A : Option Addr) (m c : Nat) (ys : List Ex) (hx : a.eval x = .slice A m c) (hr : ExtsAt w B A m ys)
    (hlen : xs.length + m ≤ 1000000) (hbase : base ≤ w.heap.size)
    (h : ∀ v' w', OwnE w' base v' (xs ++ ys) → w.grownBy w' v.ownBlock → (v'.ownBlock = v.ownBlock ∨ v'.ownBlock = some w.heap.size) → K (a.put o.dst v') w') :
    if Region.wanted o (yielded ops a.tmps) = true then Oper.wp Try.prog o a w K Q else E := by
  have hw : Region.wanted o (yielded ops a.tmps) = true := by simp [Region.wanted, hgd]
  rw [if_pos hw]
  obtain ⟨v', w', hrun, h2, h3, h4⟩ := run_appendE w o.type base v xs hown B A m c ys hr hlen hbase
  unfold Oper.wp execOp
  simp only [ho, resolve, invoke, builtin, Sem.run_bind, Sem.run_pure, Result.andThen_ok, List.map_toArray, List.map_cons, List.map_nil, hs, hx, hrun]
  exact h v' w' h2 h3 h4
/-- The third field of one of an owned slice is stored anew: a law for the walk. -/
theorem wpList_storeP {w : World} {ops : Array Oper} {rest : List Oper} {op : Oper} {a : Act} {Q : Exit → Act → World → Prop} (hgd : op.guard = none) (x y : Operand) (ho : op.op = .store 41 x y)
    (g i k : Nat) (hi : i = k * 3 + 2) (hx : a.eval x = .pointer (some ⟨g, i, none⟩)) (p : Nat) (m : Int) (hm : m = (p : Int)) (hy : a.eval y = .int .u16 m) (xs : List Ex) (n c base : Nat) (hn : xs.length = n) (hown : OwnE w base (.slice (some ⟨g, 0, none⟩) n c) xs) (e : Ex) (he : xs[k]? = some e)
    (h : ∀ w', OwnE w' base (.slice (some ⟨g, 0, none⟩) n c) (xs.set k (e.setP p)) → Below g w w' → wpList Try.prog ops Q rest (a.put op.dst undef) w') : wpList Try.prog ops Q (op :: rest) a w := by
  subst hm
  subst hi
  subst hn
  refine wpList_plain hgd fun K hK => ?_
  have hk : k < xs.length := (List.getElem?_eq_some_iff.1 he).1
  have hc := hown.cellAt (k * 3 + 2) (by omega)
  have hf := hown.frozenAt (k * 3 + 2)
  have hs := (hown.stored (k * 3 + 2) (.int .u16 (p : Int))).1
  rw [(ecells_get xs k e he).2.2] at hc
  have ho2 : OwnE (w.setCell ⟨g, k * 3 + 2, none⟩ (.int .u16 (p : Int))) base (.slice (some ⟨g, 0, none⟩) xs.length c) (xs.set k (e.setP p)) := by
    unfold OwnE
    rw [List.length_set, ← ecells_set xs k e p he]
    exact hs
  have hkk := h _ ho2 ((Below.refl g w).setCell (p := ⟨g, k * 3 + 2, none⟩) (Nat.le_refl _) _)
  unfold Oper.wp execOp
  simp only [ho, hx, hy]
  clear h hs ho2
  go_simp
  exact hK _ _ hkk
section
variable {H : Type} {enc : TypeId × Value → H} {W : World}
/-- A slice of structs of one-cell fields: each field of each element. -/
theorem open_rows {t e : TypeId} {fs : Array Field} {N : Nat} (ht : Try.prog.underlying t = some (.slice e)) (he : Try.prog.underlying e = some (.struct fs)) (hone : oneCellFields Try.prog fs = true) (hC : Try.prog.cellsOf e = N) (hN : fs.size = N) (h0 : 0 < N)
    {r : Reach} {b0 : Nat} {v : Value} {d : DataW H} {ps : List MemPlace} (hv : Value.okWide Try.prog W r b0 t v) (hd : DataW.Trod enc Try.prog W 0 (fun _ => true) true t v d ps) :
    ∃ A len cap, v = .slice A len cap ∧ len ≤ cap ∧ cap ≤ maxLen ∧ (0 < len → ∃ b off, A = some ⟨b, off, none⟩ ∧ b < W.heap.size ∧
      ∀ i j f, i < len → fs[j]? = some f → ∃ u n y, W.cell? ⟨b, off + i * N + j, none⟩ = some u ∧ DataW.trod enc Try.prog W 0 (fun _ => true) true n f.type [u] = some y) := by
  obtain ⟨A, len, cap, rfl⟩ := okWide_slice ht hv
  obtain ⟨fuel, hf⟩ := hd
  rcases open_slice ht hf with ⟨hcs, _⟩ | ⟨a, l, c, m, n, D, Pl, hcs, _, hl, hm, hmm, _, hi⟩
  · simp [Value.cells] at hcs
    obtain ⟨rfl, rfl, rfl⟩ := hcs
    exact ⟨none, 0, 0, rfl, Nat.le_refl _, by simp [maxLen], fun h => absurd h (by omega)⟩
  · simp [Value.cells] at hcs
    obtain ⟨rfl, rfl, rfl⟩ := hcs
    have hmc : m = cap := by simpa using hmm
    refine ⟨_, len, cap, rfl, hl, hm, fun hlen => ?_⟩
    have each : ∀ i j f, i < len → fs[j]? = some f → ∃ u q y, W.cell? ((a.add (i * N)).add j) = some u ∧ DataW.trod enc Try.prog W 0 (fun _ => true) true q f.type [u] = some y := by
      intro i j f hil hj
      obtain ⟨cs', hc, ht'⟩ := hi i (by omega)
      rw [hC] at hc
      obtain ⟨ys, q, _, _, hlen', hyl, hfl⟩ := DataW.trod_struct he ht'
      obtain ⟨_, hcl, hat⟩ := World.cells?_some hc
      obtain ⟨ho, hk⟩ := hone_of hone j f hj
      have hjN : j < N := by rw [← hN]; exact (Array.getElem?_eq_some_iff.1 hj).1
      have hx := hfl j f hj
      rw [ho, hk, List.drop_eq_getElem_cons (by omega)] at hx
      refine ⟨cs'[j]'(by omega), q, ys[j]'(by omega), ?_, ?_⟩
      · rw [hat j hjN]; exact List.getElem?_eq_getElem _
      · exact hx.trans (List.getElem?_eq_getElem _)
    obtain ⟨b, off, spot⟩ := a
    obtain ⟨f0, hf0⟩ : ∃ f0, fs[0]? = some f0 := ⟨_, Array.getElem?_eq_getElem (by omega)⟩
    obtain ⟨u0, _, _, hu0, _⟩ := each 0 0 f0 hlen hf0
    have hspot : spot = none := by simpa [Addr.add] using World.cell?_spot hu0
    subst hspot
    rw [add_plain, add_plain] at hu0
    refine ⟨b, off, rfl, World.block_lt_of_cell? W _ hu0, fun i j f hil hj => ?_⟩
    obtain ⟨u, q, y, h1, h2⟩ := each i j f hil hj
    rw [add_plain, add_plain] at h1
    exact ⟨u, q, y, h1, h2⟩


theorem open_exts {r : Reach} {b0 : Nat} {v : Value} {d : DataW H} {ps : List MemPlace} (hv : Value.okWide Try.prog W r b0 40 v) (hd : DataW.Trod enc Try.prog W 0 (fun _ => true) true 40 v d ps) :
    ∃ A len cap xs, v = .slice A len cap ∧ len ≤ cap ∧ cap ≤ maxLen ∧ ExtsAt W W.heap.size A len xs := by
  obtain ⟨A, len, cap, rfl, h1, h2, hR⟩ := open_rows (N := 3) Try.underlying40 Try.underlying43 (by kernel_rfl) (by kernel_rfl) rfl (by omega) hv hd
  have each : ∀ i, ∃ x : Ex, x.Fit ∧ (i < len → ∀ b off, A = some ⟨b, off, none⟩ → W.cell? ⟨b, off + i * 3, none⟩ = some (.int .u8 (x.kind : Int)) ∧ W.cell? ⟨b, off + i * 3 + 1, none⟩ = some (.int .u8 (x.long : Int)) ∧ W.cell? ⟨b, off + i * 3 + 2, none⟩ = some (.int .u16 (x.part : Int))) := by
    intro i
    by_cases hi : i < len
    · obtain ⟨b, off, rfl, _, hc⟩ := hR (by omega)
      obtain ⟨u0, n0, y0, c0, t0⟩ := hc i 0 _ hi rfl
      obtain ⟨u1, n1, y1, c1, t1⟩ := hc i 1 _ hi rfl
      obtain ⟨u2, n2, y2, c2, t2⟩ := hc i 2 _ hi rfl
      obtain ⟨z0, e0, _, w0⟩ := DataW.trod_int Try.underlying5 t0
      obtain ⟨z1, e1, _, w1⟩ := DataW.trod_int Try.underlying5 t1
      obtain ⟨z2, e2, _, w2⟩ := DataW.trod_int Try.underlying41 t2
      cases e0
      cases e1
      cases e2
      obtain ⟨a0, b0⟩ := range_u8 w0
      obtain ⟨a1, b1⟩ := range_u8 w1
      obtain ⟨a2, b2⟩ := range_u16 w2
      obtain ⟨k0, rfl⟩ := Int.eq_ofNat_of_zero_le a0
      obtain ⟨k1, rfl⟩ := Int.eq_ofNat_of_zero_le a1
      obtain ⟨k2, rfl⟩ := Int.eq_ofNat_of_zero_le a2
      exact ⟨⟨k0, k1, k2⟩, ⟨by show k0 < 256; omega, by show k1 < 256; omega, by show k2 < 65536; omega⟩, fun _ b' off' e => by cases e; exact ⟨c0, c1, c2⟩⟩
    · exact ⟨⟨0, 0, 0⟩, ⟨by decide, by decide, by decide⟩, fun h => absurd h hi⟩
  refine ⟨A, len, cap, (List.range len).map fun i => Classical.choose (each i), rfl, h1, h2, by simp, fun x hx => ?_, fun h0 => ?_⟩
  · obtain ⟨i, _, rfl⟩ := List.mem_map.1 hx
    exact (Classical.choose_spec (each i)).1
  · obtain ⟨b, off, rfl, hb, _⟩ := hR h0
    refine ⟨b, off, rfl, hb, fun j u hu => ?_⟩
    have hjl : j < len * 3 := by have := (List.getElem?_eq_some_iff.1 hu).1; rw [ecells_len] at this; simpa using this
    obtain ⟨q, hqe⟩ : ∃ q, j / 3 = q := ⟨_, rfl⟩
    have hq : q < len := by omega
    have hx : ((List.range len).map fun i => Classical.choose (each i))[q]? = some (Classical.choose (each q)) := by
      rw [List.getElem?_map, List.getElem?_range hq]; rfl
    obtain ⟨e0, e1, e2⟩ := ecells_get _ _ _ hx
    obtain ⟨c0, c1, c2⟩ := (Classical.choose_spec (each q)).2 hq b off rfl
    have hr : j = q * 3 ∨ j = q * 3 + 1 ∨ j = q * 3 + 2 := by omega
    rcases hr with rfl | rfl | rfl
    · rw [e0] at hu
      cases hu
      exact c0
    · rw [e1] at hu
      cases hu
      rw [← Nat.add_assoc]
      exact c1
    · rw [e2] at hu
      cases hu
      rw [← Nat.add_assoc]
      exact c2
end
end Go.Proofs.Ythicbdjambmnpaa
