/-
  Masks of the third field; slices of extensions of which the first ones are masked.
-/
import Derived.Test.YthicbdjambmnpaaSWhole
namespace Go.Proofs.Ythicbdjambmnpaa
open Go.RowKit Go.Lib

theorem mask_six16 (w : Nat) (h : w < 65536) : (w &&& 65529) = 0 ↔ w / 8 = 0 ∧ w % 2 = 0 := by
  have hb : ∀ i, (w &&& 65529).testBit i = (w.testBit i && (decide (i < 16) && !(6 : Nat).testBit i)) := fun i => by
    rw [Nat.testBit_and, show (65529 : Nat) = 2 ^ 16 - (6 + 1) by decide, Nat.testBit_two_pow_sub_succ (by decide)]
  constructor
  · intro h0
    have hz : ∀ i, (w.testBit i && (decide (i < 16) && !(6 : Nat).testBit i)) = false := fun i => by rw [← hb, h0, Nat.zero_testBit]
    refine ⟨?_, ?_⟩
    · apply Nat.eq_of_testBit_eq
      intro i
      rw [Nat.zero_testBit, show (8 : Nat) = 2 ^ 3 from rfl, Nat.testBit_div_two_pow]
      by_cases hi : i + 3 < 16
      · have := hz (i + 3)
        have h6 : (6 : Nat).testBit (i + 3) = false := Nat.testBit_lt_two_pow (Nat.lt_of_lt_of_le (show 6 < 2 ^ 3 by decide) (Nat.pow_le_pow_right (by decide) (by omega)))
        rw [h6, decide_eq_true hi] at this
        simpa using this
      · exact bit_hi w h _ (by omega)
    · have := hz 0
      rw [Nat.testBit_zero] at this
      simp at this
      omega
  · rintro ⟨h1, h2⟩
    have : w = 0 ∨ w = 2 ∨ w = 4 ∨ w = 6 := by omega
    rcases this with rfl | rfl | rfl | rfl <;> decide
theorem and16 (w c : Nat) (h : w < 65536) (hc : c < 65536) : bits .and .u16 (w : Int) (c : Int) = ((w &&& c : Nat) : Int) := u16_and_nat w c h hc
theorem idle_frag (k p : Nat) : fragB k (p &&& 6) = false := by
  have h1 : p &&& 6 ≤ 6 := Nat.and_le_right
  have h2 : (p &&& 6) % 2 = 0 := by
    have : (p &&& 6).testBit 0 = false := by rw [Nat.testBit_and]; simp
    rw [Nat.testBit_zero] at this
    have := of_decide_eq_false this
    omega
  have h3 : (p &&& 6) / 8 = 0 := by omega
  unfold fragB
  rw [h2, h3]
  simp
theorem zero_frag (k : Nat) : fragB k 0 = false := by unfold fragB; simp
theorem ex4_fit {p : Nat} (h : p < 65536) : Ex.Fit ⟨4, 0, p⟩ := ⟨show 4 < 256 by decide, show 0 < 256 by decide, h⟩
/-- The first k masked. -/
def mk (g : Nat → Nat) (x : Ex) : Ex := x.setP (g x.part)
def maskTo (g : Nat → Nat) (k : Nat) (l : List Ex) : List Ex := (l.take k).map (mk g) ++ l.drop k
theorem maskTo_zero (g : Nat → Nat) (l : List Ex) : maskTo g 0 l = l := by simp [maskTo]
theorem maskTo_all (g : Nat → Nat) {k : Nat} {l : List Ex} (h : l.length ≤ k) : maskTo g k l = l.map (mk g) := by
  unfold maskTo
  rw [List.take_of_length_le h, List.drop_of_length_le h, List.append_nil]
theorem maskTo_len (g : Nat → Nat) {k : Nat} {l : List Ex} : (maskTo g k l).length = l.length := by
  unfold maskTo
  rw [List.length_append, List.length_map, List.length_take, List.length_drop]; omega
theorem maskTo_get (g : Nat → Nat) {k : Nat} {l : List Ex} {x : Ex} (h : l[k]? = some x) : (maskTo g k l)[k]? = some x := by
  have hk := (List.getElem?_eq_some_iff.1 h).1
  unfold maskTo
  rw [List.getElem?_append_right (by rw [List.length_map, List.length_take]; omega), List.length_map, List.length_take, Nat.min_eq_left (by omega), Nat.sub_self, List.getElem?_drop, Nat.add_zero, h]
theorem maskTo_set (g : Nat → Nat) {k : Nat} {l : List Ex} {x : Ex} (h : l[k]? = some x) : (maskTo g k l).set k (x.setP (g x.part)) = maskTo g (k + 1) l := by
  obtain ⟨hk, e⟩ := List.getElem?_eq_some_iff.1 h
  unfold maskTo
  rw [List.set_append_right _ _ (by rw [List.length_map, List.length_take]; omega), List.length_map, List.length_take, Nat.min_eq_left (by omega), Nat.sub_self, List.drop_eq_getElem_cons hk, List.set_cons_zero, List.take_succ_eq_append_getElem hk, List.map_append, List.append_assoc, e]
  rfl
theorem mk_n (g : Nat → Nat) (x : Ex) : (mk g x).n = x.n := rfl
theorem mk_k (g : Nat → Nat) (x : Ex) : (mk g x).k = x.k := rfl
theorem mk_sum (g : Nat → Nat) : ∀ l : List Ex, sumN (l.map (mk g)) = sumN l
  | [] => rfl
  | x :: l => by
    show (mk g x).n + sumN (l.map (mk g)) = x.n + sumN l
    rw [mk_sum g l, mk_n]
theorem mk_fit (g : Nat → Nat) (hg : ∀ p, p < 65536 → g p < 65536) {l : List Ex} (h : ∀ x ∈ l, x.Fit) : ∀ x ∈ l.map (mk g), x.Fit := fun y hy => by
  obtain ⟨x, hx, rfl⟩ := List.mem_map.1 hy
  have := h x hx
  exact ⟨this.k, this.l, hg _ this.p⟩
theorem mk_idle (g : Nat → Nat) (hg : ∀ p, p < 65536 → g p < 65536) (hf : ∀ k p, fragB k (g p) = false) {l : List Ex} (h : ∀ x ∈ l, x.Fit) : ∀ x ∈ l.map (mk g), x.part < 65536 ∧ fragB x.k x.part = false := fun y hy => by
  obtain ⟨x, hx, rfl⟩ := List.mem_map.1 hy
  exact ⟨hg _ (h x hx).p, hf _ _⟩
theorem maskTo_fit (g : Nat → Nat) (hg : ∀ p, p < 65536 → g p < 65536) {k : Nat} {l : List Ex} (h : ∀ x ∈ l, x.Fit) : ∀ x ∈ maskTo g k l, x.Fit := fun y hy => by
  unfold maskTo at hy
  rcases List.mem_append.1 hy with hy | hy
  · exact mk_fit g hg (fun x hx => h x (List.mem_of_mem_take hx)) y hy
  · exact h y (List.mem_of_mem_drop hy)
/-- The header with another protocol. -/
theorem right_proto {f : Fr} (hr : rightB f = true) {p : Nat} (hp : p < 256) (hx : extB p = false) : rightB { f with proto := (p : Int) } = true := by
  have g := right_good hr
  have g0 := g.head
  have g3 := g.frag
  have g4 := g.exts
  have gb := g.s
  have gc := g.d
  show (decide (f.head = 40) && (inB f.total 40 65575 && (!f.frag && (decide (f.exts = 0) && (inB f.hop 0 255 && (inB (p : Int) 0 255 && (!extI (p : Int) && (f.s.six && f.d.six)))))))) = true
  rw [extI_nat, hx, gb, gc, g3, show inB f.total 40 65575 = true from decide_eq_true ⟨g.t0, g.t1⟩, show inB f.hop 0 255 = true from decide_eq_true ⟨g.o0, g.o1⟩, show inB (p : Int) 0 255 = true from decide_eq_true ⟨by omega, by omega⟩, decide_eq_true g0, decide_eq_true g4]
  rfl
end Go.Proofs.Ythicbdjambmnpaa
