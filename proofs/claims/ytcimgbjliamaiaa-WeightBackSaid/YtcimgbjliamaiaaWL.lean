/-
  Slices of float64 and of their bits; numbers of bits; the document's Total.
-/
import Derived.Test.YtcimgbjliamaiaaWT
import Derived.Test.YtcimgbjliamaiaaLift
import Derived.IntWalk
import Derived.Lib.SliceRun
namespace Go.Proofs.Ytcimgbjliamaiaa
set_option maxRecDepth 100000
open Go.RowKit Go.Lib Go.Shelf Go.ChangeShapes Go.WideShapes

/-- A float64's, a word's value in a cell. -/
def vF (u : Nat) : Value := .float .f64 u
def vU (u : Nat) : Value := .int .u64 (u : Int)
/-- The slice reads as these. -/
def RdV (f : Nat → Value) (w : World) (B : Nat) (A : Option Addr) (n : Nat) (xs : List Nat) : Prop :=
  xs.length = n ∧ (∀ x ∈ xs, x < T64) ∧ (0 < n → ∃ b off, A = some ⟨b, off, none⟩ ∧ b < B ∧ ∀ (j : Nat) (x : Nat), xs[j]? = some x → w.cell? ⟨b, off + j, none⟩ = some (f x))
section
variable {f : Nat → Value} {w w' : World} {B B' n : Nat} {A : Option Addr} {xs : List Nat}
theorem RdV.len (h : RdV f w B A n xs) : xs.length = n := h.1
theorem RdV.nil_ (A : Option Addr) : RdV f w B A 0 [] := ⟨rfl, fun x h => (by cases h), fun h => absurd h (by omega)⟩
theorem RdV.keep (h : RdV f w B A n xs) (hk : ∀ p : Addr, p.block < B → w'.cell? p = w.cell? p) : RdV f w' B A n xs :=
  ⟨h.1, h.2.1, fun hn => by
    obtain ⟨b, off, e, hb, hc⟩ := h.2.2 hn
    exact ⟨b, off, e, hb, fun j x hx => (hk ⟨b, off + j, none⟩ hb).trans (hc j x hx)⟩⟩
theorem RdV.below (h : RdV f w B A n xs) (hb : Below B w w') : RdV f w' B A n xs := h.keep fun _ hp => hb.cell hp
theorem RdV.alloc (h : RdV f w B A n xs) (hB : B ≤ w.heap.size) (o : Obj) : RdV f (w.alloc o) B A n xs := h.keep fun p hp => World.cell?_alloc_lt w o p (by omega)
theorem RdV.more (h : RdV f w B A n xs) (hB : B ≤ B') : RdV f w B' A n xs :=
  ⟨h.1, h.2.1, fun hn => by
    obtain ⟨b, off, e, hb, hc⟩ := h.2.2 hn
    exact ⟨b, off, e, by omega, hc⟩⟩
theorem RdV.addr (h : RdV f w B A n xs) (hn : 0 < n) : ∃ b off, A = some ⟨b, off, none⟩ ∧ b < B := by
  obtain ⟨b, off, e, hb, _⟩ := h.2.2 hn
  exact ⟨b, off, e, hb⟩
theorem RdV.cell {b off : Nat} (h : RdV f w B (some ⟨b, off, none⟩) n xs) {k x : Nat} (hx : xs[k]? = some x) : w.cell? ⟨b, off + k, none⟩ = some (f x) := by
  have := (List.getElem?_eq_some_iff.1 hx).1
  obtain ⟨b', off', e, _, hc⟩ := h.2.2 (by rw [← h.1]; omega)
  cases e
  exact hc k x hx
theorem RdV.part (h : RdV f w B A n xs) {k m : Nat} (hk : k + m ≤ n) (hm : 0 < m) : RdV f w B (A.map fun a => a.add k) m ((xs.drop k).take m) := by
  refine ⟨by rw [List.length_take, List.length_drop, h.1]; omega, fun x hx => h.2.1 x (List.mem_of_mem_drop (List.mem_of_mem_take hx)), fun _ => ?_⟩
  obtain ⟨b, off, rfl, hb, hc⟩ := h.2.2 (by omega)
  refine ⟨b, off + k, by simp [add_plain], hb, fun j x hx => ?_⟩
  rw [show off + k + j = off + (k + j) by omega]
  refine hc (k + j) x ?_
  rw [List.getElem?_take] at hx
  split at hx
  · rw [List.getElem?_drop] at hx; exact hx
  · cases hx
def cutV (A : Option Addr) (cap l : Nat) : Option Addr := if cap = l then A else A.map fun a => a.add l
theorem RdV.from (h : RdV f w B A n xs) {l : Nat} (hk : l ≤ n) (cap : Nat) (hcap : n ≤ cap) : RdV f w B (cutV A cap l) (n - l) (xs.drop l) := by
  unfold cutV
  rcases Nat.eq_zero_or_pos (n - l) with h0 | hn
  · rw [h0, List.drop_eq_nil_of_le (by rw [h.1]; omega)]; exact RdV.nil_ _
  · rw [if_neg (by omega)]
    have := h.part (k := l) (m := n - l) (by omega) hn
    rwa [List.take_of_length_le (by rw [List.length_drop, h.1]; exact Nat.le_refl _)] at this
theorem RdV.upto (h : RdV f w B A n xs) {k : Nat} (hk : k ≤ n) : RdV f w B A k (xs.take k) := by
  rcases Nat.eq_zero_or_pos k with rfl | h0
  · rw [List.take_zero]; exact RdV.nil_ _
  · refine ⟨by rw [List.length_take, h.1]; omega, fun x hx => h.2.1 x (List.mem_of_mem_take hx), fun _ => ?_⟩
    obtain ⟨b, off, e, hb, hc⟩ := h.2.2 (by omega)
    refine ⟨b, off, e, hb, fun j x hx => hc j x ?_⟩
    rw [List.getElem?_take] at hx
    split at hx
    · exact hx
    · cases hx
end
theorem infoF : (Try.prog.info? 24).map (fun i => (i.zero, i.size, i.bytes)) = some (some (.float .f64 0), 1, 8) := by kernel_rfl
/-- l[l:] and l[:h] -/
theorem run_fromF (A : Option Addr) (len cap l : Nat) (h1 : l ≤ len) (W : World) :
    (Instr.slice 39 (.slice A len cap) (some (.int .i64 (l : Int))) none none).run Try.prog W = .ok (.slice (cutV A cap l) (len - l) (cap - l)) W := by
  obtain ⟨i0, hi, hz0, hz1, hz2⟩ := info_parts infoF
  have hb := run_sliceBound (P := Try.prog) (w := W) .i64 (l : Int) len .sliceB (by omega) (by omega)
  simp [Instr.slice, hb, run_underlying Try.underlying39, Instr.sliceBounds, sizeOf, typeInfo, hi, hz1, cutV]
theorem run_uptoF (A : Option Addr) (len cap h : Nat) (h2 : h ≤ cap) (W : World) :
    (Instr.slice 39 (.slice A len cap) none (some (.int .i64 (h : Int))) none).run Try.prog W = .ok (.slice A h cap) W := by
  obtain ⟨i0, hi, hz0, hz1, hz2⟩ := info_parts infoF
  have hc := run_sliceBound (P := Try.prog) (w := W) .i64 (h : Int) cap .sliceAcap (by omega) (by omega)
  cases A <;> simp [Instr.slice, hc, run_underlying Try.underlying39, Instr.sliceBounds, sizeOf, typeInfo, hi, Addr.add] <;> (try split) <;> simp_all

/-- The slice value v owns these numbers. -/
def OwnF (w : World) (base : Nat) (v : Value) (xs : List Nat) : Prop := w.ownsRow base 24 1 v xs.length (xs.map vF) ∧ ∀ x ∈ xs, x < T64
section
variable {w w' : World} {base : Nat} {v : Value} {xs : List Nat}
theorem OwnF.nil_ (w : World) (base : Nat) : OwnF w base (.slice none 0 0) [] := ⟨World.ownsRow_nil w base 24 1, fun x h => by cases h⟩
theorem OwnF.alloc (h : OwnF w base v xs) (o : Obj) : OwnF (w.alloc o) base v xs := ⟨World.ownsRow.alloc h.1 o, h.2⟩
theorem OwnF.lt (h : OwnF w base v xs) : ∀ g, v.ownBlock = some g → base ≤ g := fun g hg => (World.ownsRow.lt h.1 g hg).1
theorem OwnF.sl (h : OwnF w base v xs) : ∃ A m c, v = .slice A m c ∧ m = xs.length ∧ m ≤ c ∧ c ≤ maxLen ∧ RdV vF w w.heap.size A m xs := by
  rcases h.1.2 with ⟨rfl, h0⟩ | ⟨g, cap, cur, rfl, hbg, hg, hnc, hcm, hcs, ht⟩
  · have : xs = [] := List.eq_nil_of_length_eq_zero h0
    subst this
    exact ⟨none, 0, 0, rfl, rfl, Nat.le_refl _, by simp [maxLen], RdV.nil_ _⟩
  · refine ⟨_, _, cap, rfl, rfl, hnc, hcm, rfl, h.2, fun _ => ⟨g, 0, rfl, (Array.getElem?_eq_some_iff.1 hg).1, fun j x hx => ?_⟩⟩
    have := World.ownsRow.cells h.1 (g := g) rfl j (vF x) (by simp [hx])
    rw [add_plain] at this
    exact this
end
/-- append of one number, laid in a block of its own. -/
theorem run_appendF (w : World) (ty : TypeId) (base : Nat) (v : Value) (xs : List Nat) (hown : OwnF w base v xs) (x g : Nat) (hx : x < T64) (hg : w.heap[g]? = some (.cells #[vF x] 24 (0, 0))) (hlen : xs.length ≤ 1000000) (hbase : base ≤ w.heap.size) :
    ∃ v' w', (Builtin.append_ #[39, 39] ty #[v, .slice (some ⟨g, 0, none⟩) 1 1]).run Try.prog w = .ok v' w' ∧ OwnF w' base v' (xs ++ [x]) ∧ w.grownBy w' v.ownBlock ∧ (v'.ownBlock = v.ownBlock ∨ v'.ownBlock = some w.heap.size) := by
  obtain ⟨i0, hi, hz0, hz1, hz2⟩ := info_parts infoF
  have c0 : w.cell? ⟨g, 0, none⟩ = some (vF x) := by rw [cell_of_row w g 0 _ _ (0, 0) hg]; rfl
  obtain ⟨v', w', h1, h2, h3, _, h5⟩ := run_append_own_at (P := Try.prog) w base 39 ty 24 i0 (.float .f64 0) 1 8 Try.underlying39 hi hz0 hz1 hz2 rfl (by decide) v xs.length (xs.map vF) hown.1 ⟨g, 0, none⟩ 1 1 [vF x] rfl
    (by
      intro j u hj
      match j, hj with
      | 0, hj => simp at hj; subst hj; rw [add_plain]; exact c0)
    (by
      intro u hu
      simp at hu
      subst hu
      rfl) (by unfold maxLen; omega) (by omega) hbase
  refine ⟨v', w', h1, ⟨?_, fun y hy => ?_⟩, h3, h5⟩
  · rw [List.length_append, List.map_append]
    exact h2
  · rcases List.mem_append.1 hy with h | h
    · exact hown.2 y h
    · rw [List.mem_singleton.1 h]; exact hx
theorem wpList_appendF {w : World} {ops : Array Oper} {rest : List Oper} {o : Oper} {a : Act} {Q : Exit → Act → World → Prop} (hgd : o.guard = none) (s y : Operand)
    (ho : o.op = .call { callee := .builtin .append, args := #[s, y], argTypes := #[39, 39] })
    (base : Nat) (v : Value) (xs : List Nat) (hs : a.eval s = v) (hown : OwnF w base v xs) (x g : Nat) (hx : x < T64) (hy : a.eval y = .slice (some ⟨g, 0, none⟩) 1 1) (hg : w.heap[g]? = some (.cells #[vF x] 24 (0, 0)))
    (hlen : xs.length ≤ 1000000) (hbase : base ≤ w.heap.size)
    (h : ∀ v' w', OwnF w' base v' (xs ++ [x]) → w.grownBy w' v.ownBlock → (v'.ownBlock = v.ownBlock ∨ v'.ownBlock = some w.heap.size) → wpList Try.prog ops Q rest (a.put o.dst v') w') : wpList Try.prog ops Q (o :: rest) a w := by
  refine wpList_plain hgd fun K hK => ?_
  obtain ⟨v', w', hrun, h2, h3, h4⟩ := run_appendF w o.type base v xs hown x g hx hg hlen hbase
  unfold Oper.wp execOp
  simp only [ho, resolve, invoke, builtin, Sem.run_bind, Sem.run_pure, Result.andThen_ok, List.map_toArray, List.map_cons, List.map_nil, hs, hy, hrun]
  exact hK _ _ (h v' w' h2 h3 h4)

section
variable {H : Type} {enc : TypeId × Value → H} {W : World}
/-- A slice of words that came in. -/
theorem open_u64s {r : Reach} {b0 : Nat} {v : Value} {d : DataW H} {ps : List MemPlace} (hv : Value.okWide Try.prog W r b0 38 v) (hd : DataW.Trod enc Try.prog W 0 (fun _ => true) true 38 v d ps) :
    ∃ A len cap xs, v = .slice A len cap ∧ len ≤ cap ∧ cap ≤ maxLen ∧ RdV vU W W.heap.size A len xs := by
  obtain ⟨A, len, cap, rfl⟩ := okWide_slice Try.underlying38 hv
  obtain ⟨fuel, hf⟩ := hd
  rcases open_ints Try.underlying38 Try.underlying22 (by kernel_rfl) hf with ⟨hcs, _⟩ | ⟨x, l, c, zs, hcs, _, hl, hm, hz, _, hcell, hwz⟩
  · simp [Value.cells] at hcs
    obtain ⟨rfl, rfl, rfl⟩ := hcs
    exact ⟨none, 0, 0, [], rfl, by omega, by unfold maxLen; omega, RdV.nil_ _⟩
  · simp [Value.cells] at hcs
    obtain ⟨rfl, rfl, rfl⟩ := hcs
    have hz' : zs.length = cap := by simpa using hz
    have hwf : ∀ z ∈ zs, 0 ≤ z ∧ z < 18446744073709551616 := fun z hzm => range_u64 (hwz z hzm)
    refine ⟨_, len, cap, (zs.take len).map Int.toNat, rfl, hl, hm, by simp; omega, fun x hx => ?_, fun h0 => ?_⟩
    · obtain ⟨z, hzm, rfl⟩ := List.mem_map.1 hx
      have := hwf z (List.mem_of_mem_take hzm)
      rw [T64_eq]
      omega
    · obtain ⟨b, off, spot⟩ := x
      have hc0 := hcell 0 (by omega)
      have hspot : spot = none := by simpa [Addr.add] using World.cell?_spot hc0
      subst hspot
      have hc0' := hcell 0 (by omega)
      rw [add_plain] at hc0'
      refine ⟨b, off, rfl, World.block_lt_of_cell? W _ hc0', fun j y hy => ?_⟩
      have hj : j < len := by
        have := (List.getElem?_eq_some_iff.1 hy).1
        simp at this
        omega
      have hcj := hcell j (by omega)
      rw [add_plain] at hcj
      have hjz : j < zs.length := by omega
      have hw := hwf (zs[j]) (List.getElem_mem _)
      rw [hcj]
      rw [List.getElem?_map, List.getElem?_take, if_pos hj, List.getElem?_eq_getElem hjz] at hy
      simp only [Option.map_some, Option.some.injEq] at hy
      subst hy
      unfold vU
      rw [show ((zs[j].toNat : Nat) : Int) = zs[j] by omega]
      simp [List.getD, hjz]
end
theorem take_next {l : List Nat} {i x : Nat} (h : l[i]? = some x) : l.take (i + 1) = l.take i ++ [x] := by
  obtain ⟨hl, he⟩ := List.getElem?_eq_some_iff.1 h
  rw [← List.take_append_getElem hl, he]
set_option maxHeartbeats 1000000 in
/-- Numbers of bits. -/
theorem floats_any (A : Option Addr) (len cap : Nat) (xs : List Nat) (hlen : len ≤ 100) (w : World) (hI : RdV vU w w.heap.size A len xs) :
    Calls Try.prog 18 #[.slice A len cap] w fun e W' => ∃ v, e = .returned v ∧ OwnF W' w.heap.size v xs ∧ Below w.heap.size w W' := by
  have hb := run_f64from
  go_enter Try.func18, Try.ntmps18
  go_wp2_with fail
  go_loopw [3, 4] (fun v i wr => ∃ k : Nat, k ≤ len ∧ i = .int .i64 (k : Int) ∧ OwnF wr w.heap.size v (xs.take k) ∧ Below w.heap.size w wr)
    (fun _ i _ => len - (intOf i).toNat)
  case atStart => exact ⟨0, Nat.zero_le _, rfl, OwnF.nil_ _ _, Below.refl _ _⟩
  case round =>
    obtain ⟨k, hk, rfl, hown, hbel⟩ := hrel
    have hsz := hbel.size
    by_cases hlt : k < len
    · obtain ⟨b, off, rfl, hbB⟩ := hI.addr (by omega)
      have hx : xs[k]? = some (xs[k]'(by rw [hI.len]; exact hlt)) := List.getElem?_eq_getElem _
      obtain ⟨x, hxe⟩ : ∃ x, xs[k]'(by rw [hI.len]; exact hlt) = x := ⟨_, rfl⟩
      rw [hxe] at hx
      clear hxe
      have hT : x < T64 := hI.2.1 x (List.mem_of_getElem? hx)
      have hc := (hI.below hbel).cell hx
      have hS := Lib.hid (take_next hx)
      have hl : (xs.take k).length ≤ 1000000 := by rw [List.length_take]; omega
      have h1 : (k : Int) < (len : Int) := by omega
      have h0 : (0 : Int) ≤ (k : Int) := by omega
      unfold vU at hc
      have hb1 := hb x
      clear hb
      go_wp2_with (at_builtin; refine wpList_appendF rfl _ _ rfl w.heap.size _ _ (by rfl) (hown.alloc _) x wr.heap.size hT (by rfl) (heap_alloc_new wr _) hl (by simp; omega) ?_; intro v' w1 hown' hgrow _)
      have hb2 := (hbel.alloc hsz (.cells #[.float .f64 x] 24)).grown hgrow (by simp; omega) hown.lt
      go_wp2_with fail
      go_roundw
      case rel => exact ⟨k + 1, by omega, by go_num, by rw [hS.out]; exact hown', hb2⟩
      case measure => simp [intOf]; omega
    · obtain rfl : k = len := by omega
      rw [List.take_of_length_le (by rw [hI.len]; exact Nat.le_refl _)] at hown
      clear hb hI
      go_wp2_with fail
      go_ret
      exact ⟨_, rfl, hown, hbel⟩
end Go.Proofs.Ytcimgbjliamaiaa
