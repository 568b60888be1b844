/-
  Parts of byte slices; slices of byte slices: what they read as, ones of the call's own, and a slice appended.
-/
import Derived.Test.YtaabfhfiipmhcaaRMath
import Derived.Test.YtaabfhfiipmhcaaRRefs
import Derived.Test.YtaabfhfiipmhcaaCVarRefs
import Derived.Test.YtaabfhfiipmhcaaFrame
import Derived.Deep.RegionHeld3
import Derived.Deep.AppendLies
import Derived.Lib.SliceRun
import Derived.IntWalk
namespace Go.Proofs.Ytaabfhfiipmhcaa
open Go.RowKit Go.Lib

/-- The part of a slice from byte k on, n bytes: what it reads as. -/
theorem Rd.part {w : World} {B len : Nat} {A : Option Addr} {xs : List UInt8} (h : Rd w B A len xs) {k n : Nat} (hk : k + n ≤ len) (hn : 0 < n) :
    Rd w B (A.map fun a => a.add k) n ((xs.drop k).take n) := by
  refine ⟨by rw [List.length_take, List.length_drop, h.1]; omega, fun _ => ?_⟩
  obtain ⟨b, off, rfl, hb, hc⟩ := h.2 (by omega)
  refine ⟨b, off + k, by simp [add_plain], hb, fun j x hx => ?_⟩
  rw [show off + k + j = off + (k + j) by omega]
  refine hc (k + j) x ?_
  rw [List.getElem?_take] at hx
  split at hx
  · rw [List.getElem?_drop] at hx; exact hx
  · cases hx

/-- b[l:h] of bytes, the address under one name. -/
def cutA (A : Option Addr) (cap l : Nat) : Option Addr := if cap = l then A else A.map fun a => a.add l
theorem Rd.cut {w : World} {B len : Nat} {A : Option Addr} {xs : List UInt8} (h : Rd w B A len xs) {l n : Nat} (hk : l + n ≤ len) (cap : Nat) (hcap : len ≤ cap) : Rd w B (cutA A cap l) n ((xs.drop l).take n) := by
  unfold cutA
  rcases Nat.eq_zero_or_pos n with rfl | hn
  · rw [List.take_zero]; exact Rd.nil_ _
  · rw [if_neg (by omega)]; exact h.part hk hn
theorem Rd.from {w : World} {B len : Nat} {A : Option Addr} {xs : List UInt8} (h : Rd w B A len xs) {l : Nat} (hk : l ≤ len) (cap : Nat) (hcap : len ≤ cap) : Rd w B (cutA A cap l) (len - l) (xs.drop l) := by
  have := h.cut (l := l) (n := len - l) (by omega) cap hcap
  rwa [List.take_of_length_le (by rw [List.length_drop, h.1]; exact Nat.le_refl _)] at this
/-- b[L:H], where L and H are whole numbers that come to l and l + n. -/
theorem run_cut8 (A : Option Addr) (len cap l n : Nat) (L H : Int) (hL : L = (l : Int)) (hH : H = ((l + n : Nat) : Int)) (h2 : l + n ≤ cap) (W : World) :
    (Instr.slice 22 (.slice A len cap) (some (.int .i64 L)) (some (.int .i64 H)) none).run Try.prog W = .ok (.slice (cutA A cap l) n (cap - l)) W := by
  subst hL hH
  obtain ⟨i0, hi, hz0, hz1, hz2⟩ := info_parts info8
  have hb := run_sliceBound (P := Try.prog) (w := W) .i64 (l : Int) (l + n) .sliceB (by omega) (by omega)
  have hc := run_sliceBound (P := Try.prog) (w := W) .i64 ((l + n : Nat) : Int) cap .sliceAcap (by omega) (by omega)
  simp only [Int.natCast_add] at hc
  simp [Instr.slice, hb, hc, run_underlying Try.underlying22, Instr.sliceBounds, sizeOf, typeInfo, hi, hz1, cutA, show ((l : Int) + (n : Int)).toNat = l + n by omega]
theorem run_from8 (A : Option Addr) (len cap l : Nat) (h1 : l ≤ len) (W : World) :
    (Instr.slice 22 (.slice A len cap) (some (.int .i64 (l : Int))) none none).run Try.prog W = .ok (.slice (cutA A cap l) (len - l) (cap - l)) W := by
  obtain ⟨i0, hi, hz0, hz1, hz2⟩ := info_parts info8
  have hb := run_sliceBound (P := Try.prog) (w := W) .i64 (l : Int) len .sliceB (by omega) (by omega)
  simp [Instr.slice, hb, run_underlying Try.underlying22, Instr.sliceBounds, sizeOf, typeInfo, hi, hz1, cutA]

/-- A slice of no bytes, of new memory. -/
theorem empty8 {base : Nat} (w : World) (h : base ≤ w.heap.size) : Own8 (w.alloc (.cells #[] 5)) base (.slice (some ⟨w.heap.size, 0, none⟩) 0 0) [] := by
  have h := Row8.own (w := w.alloc (.cells #[] 5)) (g := w.heap.size) (xs := []) (heap_alloc_new w _) (base := base) (n := 0) h (Nat.zero_le _) (by simp)
  simpa using h
/-- bytes.Clone -/
theorem clone_any (A : Option Addr) (len cap : Nat) (xs : List UInt8) (hlen : len ≤ 1000000000) (w : World) {B : Nat} (hI : Rd w B A len xs) (hB : B ≤ w.heap.size) :
    Calls Try.prog 31 #[.slice A len cap] w fun e W' => ∃ v, e = .returned v ∧ Own8 W' w.heap.size v xs ∧ Below w.heap.size w W' := by
  have hI := hI.more hB
  cases A with
  | none =>
    have h0 : len = 0 := by
      rcases Nat.eq_zero_or_pos len with h | h
      · exact h
      · obtain ⟨b, off, e, _⟩ := hI.addr h; cases e
    subst h0
    have hx : xs = [] := List.eq_nil_of_length_eq_zero hI.len
    subst hx
    have hq : ∀ W : World, (binOp .eql 22 (.slice none 0 cap) (.slice none 0 0)).run Try.prog W = .ok (.bool true) W := fun W => run_eql_slice_nil W _ _ none 0 cap 0 0 Try.underlying22
    clear hI
    go_enter Try.func31, Try.ntmps31
    go_wp2
    go_ret
    exact ⟨_, rfl, Own8.nil_ _ _, Below.refl _ _⟩
  | some ad =>
    have how := empty8 (base := w.heap.size) w (Nat.le_refl _)
    have HL := Lib.hid hI.len
    have hq : ∀ W : World, (binOp .eql 22 (.slice (some ad) len cap) (.slice none 0 0)).run Try.prog W = .ok (.bool false) W := fun W => run_eql_slice_nil W _ _ (some ad) len cap 0 0 Try.underlying22
    go_enter Try.func31, Try.ntmps31
    go_wp2_with (at_builtin; refine wpList_append8 rfl _ _ rfl w.heap.size _ [] (by rfl) how _ _ _ _ xs (by rfl) (hI.alloc (Nat.le_refl _) _) (by simp; omega) (by simp) ?_; intro v' w1 hown' hgrow _)
    go_ret
    have hb : Below w.heap.size w w1 := ((Below.refl _ w).alloc (Nat.le_refl _) (.cells #[] 5)).grown hgrow (by simp) how.lt
    exact ⟨_, rfl, hown', hb⟩

/-- The slice reads as these lists of bytes. -/
def LsAt (w : World) (B : Nat) (A : Option Addr) (len : Nat) (l : List (List UInt8)) : Prop :=
  l.length = len ∧ (0 < len → ∃ b off, A = some ⟨b, off, none⟩ ∧ b < B ∧ ∀ (j : Nat) (xs : List UInt8), l[j]? = some xs →
    ∃ A' n' c', w.cell? ⟨b, off + j, none⟩ = some (.slice A' n' c') ∧ n' ≤ c' ∧ c' ≤ maxLen ∧ Rd w B A' n' xs)
section
variable {w w' : World} {B B' len : Nat} {A : Option Addr} {l : List (List UInt8)}
theorem LsAt.size (h : LsAt w B A len l) : l.length = len := h.1
theorem LsAt.nil_ (A : Option Addr) : LsAt w B A 0 [] := ⟨rfl, fun h => absurd h (by omega)⟩
theorem LsAt.keep (h : LsAt w B A len l) (hk : ∀ p : Addr, p.block < B → w'.cell? p = w.cell? p) : LsAt w' B A len l :=
  ⟨h.1, fun hn => by
    obtain ⟨b, off, e, hb, hc⟩ := h.2 hn
    refine ⟨b, off, e, hb, fun j p hp => ?_⟩
    obtain ⟨A', l', c', h2, h4, h5, h3⟩ := hc j p hp
    exact ⟨A', l', c', (hk _ hb).trans h2, h4, h5, h3.keep hk⟩⟩
theorem LsAt.below (h : LsAt w B A len l) (hb : Below B w w') : LsAt w' B A len l := h.keep fun _ hp => hb.cell hp
theorem LsAt.alloc (h : LsAt w B A len l) (hB : B ≤ w.heap.size) (o : Obj) : LsAt (w.alloc o) B A len l := h.keep fun p hp => World.cell?_alloc_lt w o p (by omega)
theorem LsAt.drewN (h : LsAt w B A len l) (k : Nat) : LsAt (w.drewN k) B A len l := h.keep fun _ _ => rfl
theorem LsAt.more (h : LsAt w B A len l) (hB : B ≤ B') : LsAt w B' A len l :=
  ⟨h.1, fun hn => by
    obtain ⟨b, off, e, hb, hc⟩ := h.2 hn
    refine ⟨b, off, e, by omega, fun j p hp => ?_⟩
    obtain ⟨A', l', c', h2, h4, h5, h3⟩ := hc j p hp
    exact ⟨A', l', c', h2, h4, h5, h3.more hB⟩⟩
theorem LsAt.take (h : LsAt w B A len l) {k : Nat} (hk : k ≤ len) : LsAt w B A k (l.take k) := by
  refine ⟨by rw [List.length_take, h.1]; omega, fun h0 => ?_⟩
  obtain ⟨b, off, e, hb, hc⟩ := h.2 (by omega)
  refine ⟨b, off, e, hb, fun j x hx => hc j x ?_⟩
  rw [List.getElem?_take] at hx
  split at hx
  · exact hx
  · cases hx
end
/-- A slice of one that was just laid in a block of its own. -/
theorem LsAt.one {w : World} {B n c : Nat} {A : Option Addr} {xs : List UInt8} (h : Rd w B A n xs) (hB : B ≤ w.heap.size) (hn : n ≤ c) (hc : c ≤ maxLen) :
    LsAt (w.alloc (.cells #[.slice A n c] 22)) (w.heap.size + 1) (some ⟨w.heap.size, 0, none⟩) 1 [xs] :=
  ⟨rfl, fun _ => ⟨w.heap.size, 0, rfl, by omega, fun j x hx => by
    match j, hx with
    | 0, hx =>
      cases hx
      exact ⟨A, n, c, by rw [cell_of_row _ w.heap.size _ _ _ (0, 0) (heap_alloc_new w _)]; rfl, hn, hc, (h.alloc hB _).more (by omega)⟩⟩⟩

/-- The slice value v owns these lists of bytes: their row, and the bytes of each. -/
def OwnL (w : World) (base : Nat) (v : Value) (l : List (List UInt8)) : Prop :=
  ∃ us : List Value, l.length = us.length ∧ w.ownsRow base 22 1 v l.length us ∧
    ∀ (j : Nat) (u : Value) (xs : List UInt8), us[j]? = some u → l[j]? = some xs → Own8 w base u xs ∧ (u.ownBlock = none ∨ u.ownBlock ≠ v.ownBlock)

section
variable {w w' : World} {base base' : Nat} {v v' : Value} {l : List (List UInt8)}
theorem OwnL.nil_ (w : World) (base : Nat) : OwnL w base (.slice none 0 0) [] := ⟨[], rfl, World.ownsRow_nil w base _ 1, fun j u p hu _ => by simp at hu⟩
theorem OwnL.kept (h : OwnL w base v l) {row : Option Nat} (hg : w.grownBy w' row) (hr : ∀ b, row = some b → b < base) : OwnL w' base v l := by
  obtain ⟨us, hl, ho, hu⟩ := h
  have ne : ∀ x : Value, (∀ g, x.ownBlock = some g → base ≤ g) → x.ownBlock = none ∨ x.ownBlock ≠ row := fun x hx => by
    cases hv : x.ownBlock with
    | none => exact .inl rfl
    | some g => exact .inr (fun e => by have := hx g hv; have := hr g e.symm; omega)
  refine ⟨us, hl, World.ownsRow.kept ho hg (ne v fun g hg' => (World.ownsRow.lt ho g hg').1), fun j u p h1 h2 => ?_⟩
  obtain ⟨a, b⟩ := hu j u p h1 h2
  exact ⟨a.kept hg (ne u a.lt), b⟩
theorem OwnL.base_le (h : OwnL w base v l) (hb : base' ≤ base) : OwnL w base' v l := by
  obtain ⟨us, hl, ho, hu⟩ := h
  refine ⟨us, hl, ⟨ho.1, ?_⟩, fun j u p h1 h2 => ⟨(hu j u p h1 h2).1.base_le hb, (hu j u p h1 h2).2⟩⟩
  rcases ho.2 with hn | ⟨g, cap, cur, rfl, hbg, rest⟩
  · exact .inl hn
  · exact .inr ⟨g, cap, cur, rfl, by omega, rest⟩
theorem OwnL.below (h : OwnL w base v l) (hb : Below w.heap.size w w') : OwnL w' base v l := by
  obtain ⟨us, hl, ho, hu⟩ := h
  refine ⟨us, hl, ⟨ho.1, ?_⟩, fun j u p h1 h2 => ⟨(hu j u p h1 h2).1.below hb, (hu j u p h1 h2).2⟩⟩
  rcases ho.2 with hn | ⟨g, cap, cur, rfl, hbg, hg, rest⟩
  · exact .inl hn
  · exact .inr ⟨g, cap, cur, rfl, hbg, (hb.block g (Array.getElem?_eq_some_iff.1 hg).1).trans hg, rest⟩
theorem OwnL.lt (h : OwnL w base v l) : ∀ g, v.ownBlock = some g → base ≤ g ∧ g < w.heap.size := fun g hg => by
  obtain ⟨us, hl, ho, hu⟩ := h
  exact World.ownsRow.lt ho g hg
/-- What is owned reads so. -/
theorem OwnL.sl (h : OwnL w base v l) : ∃ A m c, v = .slice A m c ∧ m = l.length ∧ m ≤ c ∧ c ≤ maxLen ∧ LsAt w w.heap.size A m l := by
  obtain ⟨us, hl, ho, hu⟩ := h
  rcases ho.2 with ⟨rfl, h0⟩ | ⟨g, cap, cur, rfl, hbg, hg, hnc, hcm, hcs, ht⟩
  · have : l = [] := List.eq_nil_of_length_eq_zero h0
    subst this
    exact ⟨none, 0, 0, rfl, rfl, Nat.le_refl _, by simp [maxLen], rfl, fun h => absurd h (by omega)⟩
  · refine ⟨_, _, cap, rfl, rfl, hnc, hcm, rfl, fun _ => ⟨g, 0, rfl, (Array.getElem?_eq_some_iff.1 hg).1, fun j p hp => ?_⟩⟩
    have hj : j < us.length := by have := (List.getElem?_eq_some_iff.1 hp).1; omega
    have hcell := World.ownsRow.cells ho (g := g) rfl
    obtain ⟨A', m', c', h1, _, h3, h4, h5⟩ := ((hu j _ p (List.getElem?_eq_getElem hj) hp).1).sl
    have e2 := hcell j _ (List.getElem?_eq_getElem hj)
    rw [add_plain] at e2
    exact ⟨A', m', c', by rw [← h1]; exact e2, h3, h4, h5⟩
theorem OwnL.ls {A : Option Addr} {n c : Nat} (h : OwnL w base (.slice A n c) l) : LsAt w w.heap.size A n l := by
  obtain ⟨A', m, c', e, _, _, _, hr⟩ := h.sl
  cases e
  exact hr
end

theorem infoL : (Try.prog.info? 22).map (fun i => (i.zero, i.size, i.bytes)) = some (some (.slice none 0 0), 1, 24) := by kernel_rfl

/-- append of one slice, laid in a new block of its own, onto an owned slice of slices. -/
theorem run_appendL (W : World) (ty : TypeId) (base : Nat) (v : Value) (l : List (List UInt8)) (xs : List UInt8) (u : Value) (hu : Own8 W base u xs) (hne : u.ownBlock = none ∨ u.ownBlock ≠ v.ownBlock) (hown : OwnL W base v l) (hlen : l.length ≤ 1000000) (hbase : base ≤ W.heap.size) (g : Nat) (hg : W.heap[g]? = some (.cells #[u] 22 (0, 0))) :
    ∃ v' w', (Builtin.append_ #[32, 32] ty #[v, .slice (some ⟨g, 0, none⟩) 1 1]).run Try.prog W = .ok v' w' ∧ OwnL w' base v' (l ++ [xs]) ∧ W.grownBy w' v.ownBlock ∧ (v'.ownBlock = v.ownBlock ∨ v'.ownBlock = some W.heap.size) := by
  obtain ⟨us, hl, ho, hus⟩ := hown
  obtain ⟨i0, hi, hz0, hz1, hz2⟩ := info_parts infoL
  obtain ⟨A9, m9, c9, hu9, _⟩ := hu.sl
  have c0 : W.cell? ⟨g, 0, none⟩ = some u := by rw [cell_of_row W g 0 _ _ (0, 0) hg]; rfl
  obtain ⟨v', w', h1, h2, h3, _, h5⟩ := run_append_own_at (P := Try.prog) W base 32 ty 22 i0 _ 1 24 Try.underlying32 hi hz0 hz1 hz2 rfl (by decide) v l.length us ho ⟨g, 0, none⟩ 1 1 [u] rfl
    (by
      intro j x hj
      match j, hj with
      | 0, hj => simp at hj; subst hj; rw [add_plain]; exact c0)
    (by
      intro x hx
      simp at hx
      subst hx
      rw [hu9]; rfl) (by unfold maxLen; omega) (by omega) hbase
  refine ⟨v', w', h1, ⟨us ++ [u], by simp [hl], ?_, fun j x q hx hq => ?_⟩, h3, h5⟩
  · rw [List.length_append]; exact h2
  · have key : ∀ y : Value, ∀ bs, Own8 W base y bs → (y.ownBlock = none ∨ y.ownBlock ≠ v.ownBlock) → Own8 w' base y bs ∧ (y.ownBlock = none ∨ y.ownBlock ≠ v'.ownBlock) := fun y bs hy hn => by
      refine ⟨hy.kept h3 hn, ?_⟩
      rcases h5 with e | e
      · rw [e]; exact hn
      · cases hb : y.ownBlock with
        | none => exact .inl rfl
        | some b => exact .inr (fun e2 => by rw [e] at e2; cases e2; have := (World.ownsRow.lt hy _ hb).2; omega)
    by_cases hj : j < us.length
    · rw [List.getElem?_append_left hj] at hx
      rw [List.getElem?_append_left (by omega)] at hq
      obtain ⟨a, b⟩ := hus j x q hx hq
      exact key x _ a b
    · have hj2 : j = us.length := by
        have := (List.getElem?_eq_some_iff.1 hx).1
        rw [List.length_append] at this
        simp at this
        omega
      subst hj2
      rw [List.getElem?_append_right (Nat.le_refl _), Nat.sub_self] at hx
      rw [← hl, List.getElem?_append_right (Nat.le_refl _), Nat.sub_self] at hq
      simp at hx hq
      subst hx hq
      exact key _ _ hu hne

/-- The same, at an operation of a walk. -/
theorem wpList_appendL {W : World} {ops : Array Oper} {rest : List Oper} {o : Oper} {a : Act} {Q : Exit → Act → World → Prop} (hgd : o.guard = none) (s x : Operand)
    (ho : o.op = .call { callee := .builtin .append, args := #[s, x], argTypes := #[32, 32] })
    (base : Nat) (v : Value) (l : List (List UInt8)) (xs : List UInt8) (u : Value) (hs : a.eval s = v) (g : Nat) (hx : a.eval x = .slice (some ⟨g, 0, none⟩) 1 1) (hu : Own8 W base u xs) (hne : u.ownBlock = none ∨ u.ownBlock ≠ v.ownBlock) (hown : OwnL W base v l) (hlen : l.length ≤ 1000000) (hbase : base ≤ W.heap.size) (hg : W.heap[g]? = some (.cells #[u] 22 (0, 0)))
    (h : ∀ v' w', OwnL w' base v' (l ++ [xs]) → W.grownBy w' v.ownBlock → (v'.ownBlock = v.ownBlock ∨ v'.ownBlock = some W.heap.size) → wpList Try.prog ops Q rest (a.put o.dst v') w') : wpList Try.prog ops Q (o :: rest) a W := by
  refine wpList_plain hgd fun K hK => ?_
  obtain ⟨v', w', hrun, h2, h3, h4⟩ := run_appendL W o.type base v l xs u hu hne hown hlen hbase g hg
  unfold Oper.wp execOp
  simp only [ho, resolve, invoke, builtin, Sem.run_bind, Sem.run_pure, Result.andThen_ok, List.map_toArray, List.map_cons, List.map_nil, hs, hx, hrun]
  exact hK _ _ (h v' w' h2 h3 h4)
end Go.Proofs.Ytaabfhfiipmhcaa
