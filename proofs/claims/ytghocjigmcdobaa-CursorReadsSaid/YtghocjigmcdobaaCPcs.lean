/-
  Slices of pieces of the call's own: what they hold, and a piece appended.
-/
import Derived.Test.YtghocjigmcdobaaCRead2
import Derived.Deep.RegionHeld3
namespace Go.Proofs.Ytghocjigmcdobaa
open Go.RowKit Go.Lib

/-- The cells of pieces, whose bytes lie in these slices. -/
def pcells : List Pc → List Value → List Value
  | p :: ps, u :: us => .int .u64 (p.n : Int) :: u :: pcells ps us
  | _, _ => []
theorem pcells_snoc : ∀ (ps : List Pc) (us : List Value) (p : Pc) (u : Value), ps.length = us.length → pcells (ps ++ [p]) (us ++ [u]) = pcells ps us ++ [.int .u64 (p.n : Int), u]
  | [], [], _, _, _ => rfl
  | _ :: _, [], _, _, h => by simp at h
  | [], _ :: _, _, _, h => by simp at h
  | p :: ps, u :: us, q, v, h => by
    show _ :: _ :: pcells (ps ++ [q]) (us ++ [v]) = _
    rw [pcells_snoc ps us q v (by simpa using h)]
    rfl
theorem pcells_num : ∀ (ps : List Pc) (us : List Value) (j : Nat) (p : Pc), ps.length = us.length → ps[j]? = some p → (pcells ps us)[j * 2]? = some (.int .u64 (p.n : Int))
  | [], _, _, _, _, hp => by simp at hp
  | _ :: _, [], _, _, h, _ => by simp at h
  | q :: ps, u :: us, 0, p, _, hp => by simp at hp; subst hp; rfl
  | q :: ps, u :: us, j + 1, p, h, hp => by
    rw [show (j + 1) * 2 = j * 2 + 1 + 1 by omega]
    show (pcells ps us)[j * 2]? = _
    exact pcells_num ps us j p (by simpa using h) (by simpa using hp)
theorem pcells_sl : ∀ (ps : List Pc) (us : List Value) (j : Nat) (u : Value), ps.length = us.length → us[j]? = some u → (pcells ps us)[j * 2 + 1]? = some u
  | [], _ :: _, _, _, h, _ => by simp at h
  | _, [], _, _, _, hp => by simp at hp
  | q :: ps, w :: us, 0, u, _, hp => by simp at hp; subst hp; rfl
  | q :: ps, w :: us, j + 1, u, h, hp => by
    rw [show (j + 1) * 2 + 1 = (j * 2 + 1) + 1 + 1 by omega]
    show (pcells ps us)[j * 2 + 1]? = _
    exact pcells_sl ps us j u (by simpa using h) (by simpa using hp)

/-- The slice value v owns these pieces, and the bytes of each. -/
def OwnP (w : World) (base : Nat) (v : Value) (ps : List Pc) : Prop :=
  ∃ us : List Value, ps.length = us.length ∧ w.ownsRow base 70 2 v ps.length (pcells ps us) ∧
    ∀ (j : Nat) (u : Value) (p : Pc), us[j]? = some u → ps[j]? = some p → Own8 w base u p.bs ∧ (u.ownBlock = none ∨ u.ownBlock ≠ v.ownBlock)

section
variable {w w' : World} {base base' : Nat} {v v' : Value} {ps : List Pc}
theorem OwnP.nil_ (w : World) (base : Nat) : OwnP w base (.slice none 0 0) [] := ⟨[], rfl, World.ownsRow_nil w base _ 2, fun j u p hu _ => by simp at hu⟩
theorem OwnP.kept (h : OwnP w base v ps) {row : Option Nat} (hg : w.grownBy w' row) (hr : ∀ b, row = some b → b < base) : OwnP w' base v ps := by
  obtain ⟨us, hl, ho, hu⟩ := h
  have ne : ∀ x : Value, (∀ g, x.ownBlock = some g → base ≤ g) → x.ownBlock = none ∨ x.ownBlock ≠ row := fun x hx => by
    cases hv : x.ownBlock with
    | none => exact .inl rfl
    | some g => exact .inr (fun e => by have := hx g hv; have := hr g e.symm; omega)
  refine ⟨us, hl, World.ownsRow.kept ho hg (ne v fun g hg' => (World.ownsRow.lt ho g hg').1), fun j u p h1 h2 => ?_⟩
  obtain ⟨a, b⟩ := hu j u p h1 h2
  exact ⟨a.kept hg (ne u a.lt), b⟩
theorem OwnP.base_le (h : OwnP w base v ps) (hb : base' ≤ base) : OwnP w base' v ps := by
  obtain ⟨us, hl, ho, hu⟩ := h
  refine ⟨us, hl, ⟨ho.1, ?_⟩, fun j u p h1 h2 => ⟨(hu j u p h1 h2).1.base_le hb, (hu j u p h1 h2).2⟩⟩
  rcases ho.2 with hn | ⟨g, cap, cur, rfl, hbg, rest⟩
  · exact .inl hn
  · exact .inr ⟨g, cap, cur, rfl, by omega, rest⟩
theorem OwnP.below (h : OwnP w base v ps) (hb : Below w.heap.size w w') : OwnP w' base v ps := by
  obtain ⟨us, hl, ho, hu⟩ := h
  refine ⟨us, hl, ⟨ho.1, ?_⟩, fun j u p h1 h2 => ⟨(hu j u p h1 h2).1.below hb, (hu j u p h1 h2).2⟩⟩
  rcases ho.2 with hn | ⟨g, cap, cur, rfl, hbg, hg, rest⟩
  · exact .inl hn
  · exact .inr ⟨g, cap, cur, rfl, hbg, (hb.block g (Array.getElem?_eq_some_iff.1 hg).1).trans hg, rest⟩
theorem OwnP.lt (h : OwnP w base v ps) : ∀ g, v.ownBlock = some g → base ≤ g ∧ g < w.heap.size := fun g hg => by
  obtain ⟨us, hl, ho, hu⟩ := h
  exact World.ownsRow.lt ho g hg
/-- What is owned reads so. -/
theorem OwnP.sl (h : OwnP w base v ps) : ∃ A m c, v = .slice A m c ∧ m = ps.length ∧ m ≤ c ∧ c ≤ maxLen ∧ PcsAt w w.heap.size A m ps := by
  obtain ⟨us, hl, ho, hu⟩ := h
  rcases ho.2 with ⟨rfl, h0⟩ | ⟨g, cap, cur, rfl, hbg, hg, hnc, hcm, hcs, ht⟩
  · have : ps = [] := List.eq_nil_of_length_eq_zero h0
    subst this
    exact ⟨none, 0, 0, rfl, rfl, Nat.le_refl _, by simp [maxLen], rfl, fun h => absurd h (by omega)⟩
  · refine ⟨_, _, cap, rfl, rfl, hnc, hcm, rfl, fun _ => ⟨g, 0, rfl, (Array.getElem?_eq_some_iff.1 hg).1, fun j p hp => ?_⟩⟩
    have hj : j < us.length := by have := (List.getElem?_eq_some_iff.1 hp).1; omega
    have hcell := World.ownsRow.cells ho (g := g) rfl
    obtain ⟨A', m', c', h1, _, _, _, h5⟩ := ((hu j _ p (List.getElem?_eq_getElem hj) hp).1).sl
    have e1 := hcell (j * 2) _ (pcells_num ps us j p hl hp)
    have e2 := hcell (j * 2 + 1) _ (pcells_sl ps us j _ hl (List.getElem?_eq_getElem hj))
    rw [add_plain] at e1 e2
    refine ⟨e1, A', m', c', ?_, ?_⟩
    · rw [← h1]; rw [← Nat.add_assoc] at e2; exact e2
    · have hm : m' = p.bs.length := h5.len.symm
      exact h5
end

theorem infoP : (Try.prog.info? 70).map (fun i => (i.zero, i.size, i.bytes)) = some (some (.agg #[.int .u64 0, .slice none 0 0]), 2, 32) := by kernel_rfl

/-- append of one piece, laid in a new block of its own, onto an owned slice of pieces. -/
theorem run_appendP (W : World) (ty : TypeId) (base : Nat) (v : Value) (ps : List Pc) (p : Pc) (u : Value) (hu : Own8 W base u p.bs) (hne : u.ownBlock = none ∨ u.ownBlock ≠ v.ownBlock) (hown : OwnP W base v ps) (hlen : ps.length ≤ 1000000) (hbase : base ≤ W.heap.size) (g : Nat) (hg : Bk W g 70 #[.int .u64 (p.n : Int), u]) :
    ∃ v' w', (Builtin.append_ #[25, 25] ty #[v, .slice (some ⟨g, 0, none⟩) 1 1]).run Try.prog W = .ok v' w' ∧ OwnP w' base v' (ps ++ [p]) ∧ W.grownBy w' v.ownBlock ∧ (v'.ownBlock = v.ownBlock ∨ v'.ownBlock = some W.heap.size) := by
  obtain ⟨us, hl, ho, hus⟩ := hown
  obtain ⟨i0, hi, hz0, hz1, hz2⟩ := info_parts infoP
  obtain ⟨A9, m9, c9, hu9, _⟩ := hu.sl
  have c0 := hg.c 0 _ rfl
  have c1 := hg.c 1 _ rfl
  obtain ⟨v', w', h1, h2, h3, _, h5⟩ := run_append_own_at (P := Try.prog) W base 25 ty 70 i0 _ 2 32 Try.underlying25 hi hz0 hz1 hz2 rfl (by decide) v ps.length (pcells ps us) ho ⟨g, 0, none⟩ 1 1 [.int .u64 (p.n : Int), u] rfl
    (by
      intro j x hj
      match j, hj with
      | 0, hj => simp at hj; subst hj; rw [add_plain]; exact c0
      | 1, hj => simp at hj; subst hj; rw [add_plain]; exact c1)
    (by
      intro x hx
      simp at hx
      rcases hx with rfl | rfl
      · rfl
      · rw [hu9]; rfl) (by unfold maxLen; omega) (by omega) hbase
  refine ⟨v', w', h1, ⟨us ++ [u], by simp [hl], ?_, fun j x q hx hq => ?_⟩, h3, h5⟩
  · rw [pcells_snoc ps us p u hl, List.length_append]; exact h2
  · have key : ∀ y : Value, ∀ bs, Own8 W base y bs → (y.ownBlock = none ∨ y.ownBlock ≠ v.ownBlock) → Own8 w' base y bs ∧ (y.ownBlock = none ∨ y.ownBlock ≠ v'.ownBlock) := fun y bs hy hn => by
      refine ⟨hy.kept h3 hn, ?_⟩
      rcases h5 with e | e
      · rw [e]; exact hn
      · cases hb : y.ownBlock with
        | none => exact .inl rfl
        | some b => exact .inr (fun e2 => by rw [e] at e2; cases e2; have := (World.ownsRow.lt hy _ hb).2; omega)
    by_cases hj : j < us.length
    · rw [List.getElem?_append_left hj] at hx
      rw [List.getElem?_append_left (by omega)] at hq
      obtain ⟨a, b⟩ := hus j x q hx hq
      exact key x _ a b
    · have hj2 : j = us.length := by
        have := (List.getElem?_eq_some_iff.1 hx).1
        rw [List.length_append] at this
        simp at this
        omega
      subst hj2
      rw [List.getElem?_append_right (Nat.le_refl _), Nat.sub_self] at hx
      rw [← hl, List.getElem?_append_right (Nat.le_refl _), Nat.sub_self] at hq
      simp at hx hq
      subst hx hq
      exact key _ _ hu hne

/-- The same, at an operation of a walk. -/
theorem wpList_appendP {W : World} {ops : Array Oper} {rest : List Oper} {o : Oper} {a : Act} {Q : Exit → Act → World → Prop} (hgd : o.guard = none) (s x : Operand)
    (ho : o.op = .call { callee := .builtin .append, args := #[s, x], argTypes := #[25, 25] })
    (base : Nat) (v : Value) (ps : List Pc) (p : Pc) (u : Value) (hs : a.eval s = v) (g : Nat) (hx : a.eval x = .slice (some ⟨g, 0, none⟩) 1 1) (hu : Own8 W base u p.bs) (hne : u.ownBlock = none ∨ u.ownBlock ≠ v.ownBlock) (hown : OwnP W base v ps) (hlen : ps.length ≤ 1000000) (hbase : base ≤ W.heap.size) (hg : Bk W g 70 #[.int .u64 (p.n : Int), u])
    (h : ∀ v' w', OwnP w' base v' (ps ++ [p]) → W.grownBy w' v.ownBlock → (v'.ownBlock = v.ownBlock ∨ v'.ownBlock = some W.heap.size) → wpList Try.prog ops Q rest (a.put o.dst v') w') : wpList Try.prog ops Q (o :: rest) a W := by
  refine wpList_plain hgd fun K hK => ?_
  obtain ⟨v', w', hrun, h2, h3, h4⟩ := run_appendP W o.type base v ps p u hu hne hown hlen hbase g hg
  unfold Oper.wp execOp
  simp only [ho, resolve, invoke, builtin, Sem.run_bind, Sem.run_pure, Result.andThen_ok, List.map_toArray, List.map_cons, List.map_nil, hs, hx, hrun]
  exact hK _ _ (h v' w' h2 h3 h4)

/-- The same, at a step of a region that draws its order. -/
theorem step_appendP {W : World} {ops : Array Oper} {o : Oper} {a : Act} {K : Act → World → Prop} {Q : Exit → Act → World → Prop} {E : Prop} (hgd : o.guard = none) (s x : Operand)
    (ho : o.op = .call { callee := .builtin .append, args := #[s, x], argTypes := #[25, 25] })
    (base : Nat) (v : Value) (ps : List Pc) (p : Pc) (u : Value) (hs : a.eval s = v) (g : Nat) (hx : a.eval x = .slice (some ⟨g, 0, none⟩) 1 1) (hu : Own8 W base u p.bs) (hne : u.ownBlock = none ∨ u.ownBlock ≠ v.ownBlock) (hown : OwnP W base v ps) (hlen : ps.length ≤ 1000000) (hbase : base ≤ W.heap.size) (hg : Bk W g 70 #[.int .u64 (p.n : Int), u])
    (h : ∀ v' w', OwnP w' base v' (ps ++ [p]) → W.grownBy w' v.ownBlock → (v'.ownBlock = v.ownBlock ∨ v'.ownBlock = some W.heap.size) → K (a.put o.dst v') w') :
    if Region.wanted o (yielded ops a.tmps) = true then Oper.wp Try.prog o a W K Q else E := by
  have hw : Region.wanted o (yielded ops a.tmps) = true := by simp [Region.wanted, hgd]
  rw [if_pos hw]
  obtain ⟨v', w', hrun, h2, h3, h4⟩ := run_appendP W o.type base v ps p u hu hne hown hlen hbase g hg
  unfold Oper.wp execOp
  simp only [ho, resolve, invoke, builtin, Sem.run_bind, Sem.run_pure, Result.andThen_ok, List.map_toArray, List.map_cons, List.map_nil, hs, hx, hrun]
  exact h v' w' h2 h3 h4
end Go.Proofs.Ytghocjigmcdobaa
