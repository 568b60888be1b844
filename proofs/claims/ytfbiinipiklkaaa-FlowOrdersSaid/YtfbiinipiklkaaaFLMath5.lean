/-
  What FlowOrders needs of lists of flows; four tables apart from one another (stage 21).
-/
import Derived.Test.YtfbiinipiklkaaaFLBld
import Derived.Test.YtfbiinipiklkaaaFLMath4
namespace Go.Proofs.Ytfbiinipiklkaaa
set_option maxRecDepth 100000
open Go.RowKit Go.Lib

abbrev Apart21 (l : List Fw) : Prop := l.Pairwise fun a b => a.k ≠ b.k
theorem put_mem {r : Nat} {m : List Fw} {f : Fw} (hn : ∀ x, x ∈ m → x.k ≠ f.k) (hl : m.length < r) {z : Fw} : z ∈ putT r m f ↔ z ∈ m ∨ (z = f ∧ rightF f = true) := by
  unfold putT
  by_cases hr : rightF f = true
  · rw [if_pos hr, insF_mem]
    have e : madeR r m f.k = m := by
      unfold madeR
      rw [hasK_no hn, if_neg (by decide), if_neg (by omega)]
    rw [e]
    constructor
    · rintro (h | h)
      · exact .inr ⟨h, hr⟩
      · exact .inl h
    · rintro (h | h)
      · exact .inr h
      · exact .inl h.1
  · rw [if_neg hr]
    constructor
    · exact .inl
    · rintro (h | h)
      · exact h
      · exact absurd h.2 hr
/-- A flow is put unless there is one of its key. -/
def stepV (m : List Fw) (f : Fw) : List Fw := if (hasK m f.k).isSome = true then m else putT 200 m f
theorem stepV_yes {m : List Fw} {f : Fw} (h : (hasK m f.k).isSome = true) : stepV m f = m := if_pos h
theorem stepV_no {m : List Fw} {f : Fw} (h : (hasK m f.k).isSome = false) : stepV m f = putT 200 m f := if_neg (by rw [h]; decide)
structure OrdV (l : List Fw) (k : Nat) (m : List Fw) : Prop where
  right : RightT 200 m
  len : m.length ≤ k
  mem : Apart21 l → ∀ z, z ∈ m ↔ z ∈ l.take k ∧ rightF z = true
structure OrdW (l : List Fw) (k : Nat) (m : List Fw) : Prop where
  right : RightT 80 m
  len : m.length + k ≤ l.length
  mem : Apart21 l → ∀ z, z ∈ m ↔ z ∈ l.drop k ∧ rightF z = true
theorem OrdV.zero (l : List Fw) : OrdV l 0 [] := ⟨nil_right 200, Nat.le_refl _, fun _ z => by simp⟩
theorem OrdW.zero (l : List Fw) : OrdW l l.length [] := ⟨nil_right 80, by simp, fun _ z => by simp⟩
theorem take_keys {l : List Fw} {k : Nat} {f : Fw} (hf : l[k]? = some f) (hp : Apart21 l) : ∀ x, x ∈ l.take k → x.k ≠ f.k := fun x hx => by
  obtain ⟨hk, rfl⟩ := List.getElem?_eq_some_iff.1 hf
  have e : l = l.take k ++ (l[k] :: l.drop (k + 1)) := by rw [← List.drop_eq_getElem_cons hk, List.take_append_drop]
  unfold Apart21 at hp
  rw [e] at hp
  exact (List.pairwise_append.1 hp).2.2 x hx _ List.mem_cons_self
theorem drop_keys {l : List Fw} {k : Nat} {f : Fw} (hf : l[k]? = some f) (hp : Apart21 l) : ∀ x, x ∈ l.drop (k + 1) → x.k ≠ f.k := fun x hx => by
  obtain ⟨hk, rfl⟩ := List.getElem?_eq_some_iff.1 hf
  have e : l = l.take k ++ (l[k] :: l.drop (k + 1)) := by rw [← List.drop_eq_getElem_cons hk, List.take_append_drop]
  unfold Apart21 at hp
  rw [e] at hp
  exact fun e2 => (List.pairwise_cons.1 (List.pairwise_append.1 hp).2.1).1 x hx e2.symm
theorem OrdV.next {l : List Fw} {k : Nat} {m : List Fw} {f : Fw} (h : OrdV l k m) (hf : l[k]? = some f) (hk : k < 200) : OrdV l (k + 1) (stepV m f) := by
  refine ⟨?_, ?_, fun hp z => ?_⟩
  · unfold stepV
    split
    · exact h.right
    · exact putT_right h.right (by decide) f
  · have h1 := h.len
    have h2 := putT_len 200 m f
    unfold stepV
    split <;> omega
  · have hn : ∀ x, x ∈ m → x.k ≠ f.k := fun x hx => take_keys hf hp x ((h.mem hp x).1 hx).1
    have h1 := h.len
    rw [stepV_no (by rw [hasK_no hn]; rfl), put_mem hn (by omega), h.mem hp, take_snocA hf, List.mem_append, List.mem_singleton]
    constructor
    · rintro (h | ⟨rfl, h⟩)
      · exact ⟨.inl h.1, h.2⟩
      · exact ⟨.inr rfl, h⟩
    · rintro ⟨h | h, h2⟩
      · exact .inl ⟨h, h2⟩
      · exact .inr ⟨h, h ▸ h2⟩
theorem OrdW.next {l : List Fw} {k : Nat} {m : List Fw} {f : Fw} (h : OrdW l (k + 1) m) (hf : l[k]? = some f) (hl : l.length ≤ 80) : OrdW l k (putT 80 m f) := by
  have h1 := h.len
  refine ⟨putT_right h.right (by decide) f, ?_, fun hp z => ?_⟩
  · have h2 := putT_len 80 m f
    omega
  · have hn : ∀ x, x ∈ m → x.k ≠ f.k := fun x hx => drop_keys hf hp x ((h.mem hp x).1 hx).1
    obtain ⟨hk, he⟩ := List.getElem?_eq_some_iff.1 hf
    have e : l.drop k = f :: l.drop (k + 1) := by rw [← he, ← List.drop_eq_getElem_cons hk]
    rw [put_mem hn (by omega), h.mem hp, e, List.mem_cons]
    constructor
    · rintro (h | ⟨rfl, h⟩)
      · exact ⟨.inr h.1, h.2⟩
      · exact ⟨.inl rfl, h⟩
    · rintro ⟨h | h, h2⟩
      · exact .inr ⟨h, h ▸ h2⟩
      · exact .inl ⟨h, h2⟩
theorem ord_same {l : List Fw} {n : Nat} {mv mw : List Fw} (hn : l.length = n) (h1 : OrdV l n mv) (h2 : OrdW l 0 mw) (hp : Apart21 l) : mv = mw := by
  subst hn
  have nd : ∀ {r : Nat} {m : List Fw}, RightT r m → m.Nodup := fun h => h.apart.imp (fun hne e => hne (by rw [e]))
  refine sort_eq h1.right.sort h2.right.sort ((List.perm_ext_iff_of_nodup (nd h1.right) (nd h2.right)).2 fun z => ?_)
  rw [h1.mem hp, h2.mem hp, List.take_length, List.drop_zero]

section
variable {Rep : RepF} {w0 w w' : World} {B r : Nat} {v : Value} {l : List Fw} {fp fq fr : Nat → Prop}
theorem off_new (hs : ∀ k, fq k → fp k ∨ w.heap.size ≤ k) (hd : ∀ k, fp k → ¬ fr k) (hl : ∀ k, fr k → k < w.heap.size) : ∀ k, fq k → ¬ fr k := fun k hk hr => (hs k hk).elim (fun h => hd k h hr) (fun h => by have := hl k hr; omega)
/-- Four tables, each in blocks of its own. -/
structure Quad (Rep : RepF) (w0 : World) (B RR : Nat) (pt pu pv ps : Value) (m n mv ms : List Fw) (w : World) (f1 f2 f3 f4 : Nat → Prop) : Prop where
  t : Tb Rep w0 B pt RR m w f1
  u : Tb Rep w0 B pu RR n w f2
  v : Tb Rep w0 B pv 200 mv w f3
  s : Tb Rep w0 B ps 80 ms w f4
  d12 : ∀ k, f1 k → ¬ f2 k
  d13 : ∀ k, f1 k → ¬ f3 k
  d14 : ∀ k, f1 k → ¬ f4 k
  d23 : ∀ k, f2 k → ¬ f3 k
  d24 : ∀ k, f2 k → ¬ f4 k
  d34 : ∀ k, f3 k → ¬ f4 k
variable {RR : Nat} {pt pu pv ps : Value} {m n mv ms mm : List Fw} {f1 f2 f3 f4 : Nat → Prop}
theorem Quad.below (S : FlowC Rep) (h : Quad Rep w0 B RR pt pu pv ps m n mv ms w f1 f2 f3 f4) (hb : Below w.heap.size w w') : Quad Rep w0 B RR pt pu pv ps m n mv ms w' f1 f2 f3 f4 :=
  ⟨h.t.below S hb, h.u.below S hb, h.v.below S hb, h.s.below S hb, h.d12, h.d13, h.d14, h.d23, h.d24, h.d34⟩
theorem Quad.drew (S : FlowC Rep) (h : Quad Rep w0 B RR pt pu pv ps m n mv ms w f1 f2 f3 f4) : Quad Rep w0 B RR pt pu pv ps m n mv ms w.drew f1 f2 f3 f4 :=
  ⟨h.t.drew S, h.u.drew S, h.v.drew S, h.s.drew S, h.d12, h.d13, h.d14, h.d23, h.d24, h.d34⟩
theorem Quad.at1 (S : FlowC Rep) (h : Quad Rep w0 B RR pt pu pv ps m n mv ms w f1 f2 f3 f4) (T : Tb Rep w0 B pt RR mm w' fq) (hk : Keep f1 w w') (hs : ∀ k, fq k → f1 k ∨ w.heap.size ≤ k) : Quad Rep w0 B RR pt pu pv ps mm n mv ms w' fq f2 f3 f4 :=
  ⟨T, h.u.other S hk h.t.low (fun k h2 h1 => h.d12 k h1 h2), h.v.other S hk h.t.low (fun k h2 h1 => h.d13 k h1 h2), h.s.other S hk h.t.low (fun k h2 h1 => h.d14 k h1 h2),
    off_new hs h.d12 (S.lt h.u.rep), off_new hs h.d13 (S.lt h.v.rep), off_new hs h.d14 (S.lt h.s.rep), h.d23, h.d24, h.d34⟩
theorem Quad.at2 (S : FlowC Rep) (h : Quad Rep w0 B RR pt pu pv ps m n mv ms w f1 f2 f3 f4) (T : Tb Rep w0 B pu RR mm w' fq) (hk : Keep f2 w w') (hs : ∀ k, fq k → f2 k ∨ w.heap.size ≤ k) : Quad Rep w0 B RR pt pu pv ps m mm mv ms w' f1 fq f3 f4 :=
  ⟨h.t.other S hk h.u.low (fun k h2 h1 => h.d12 k h2 h1), T, h.v.other S hk h.u.low (fun k h2 h1 => h.d23 k h1 h2), h.s.other S hk h.u.low (fun k h2 h1 => h.d24 k h1 h2),
    fun k h1 hq => off_new hs (fun j a b => h.d12 j b a) (S.lt h.t.rep) k hq h1, h.d13, h.d14, off_new hs h.d23 (S.lt h.v.rep), off_new hs h.d24 (S.lt h.s.rep), h.d34⟩
theorem Quad.at3 (S : FlowC Rep) (h : Quad Rep w0 B RR pt pu pv ps m n mv ms w f1 f2 f3 f4) (T : Tb Rep w0 B pv 200 mm w' fq) (hk : Keep f3 w w') (hs : ∀ k, fq k → f3 k ∨ w.heap.size ≤ k) : Quad Rep w0 B RR pt pu pv ps m n mm ms w' f1 f2 fq f4 :=
  ⟨h.t.other S hk h.v.low (fun k h2 h1 => h.d13 k h2 h1), h.u.other S hk h.v.low (fun k h2 h1 => h.d23 k h2 h1), T, h.s.other S hk h.v.low (fun k h2 h1 => h.d34 k h1 h2),
    h.d12, fun k h1 hq => off_new hs (fun j a b => h.d13 j b a) (S.lt h.t.rep) k hq h1, h.d14, fun k h1 hq => off_new hs (fun j a b => h.d23 j b a) (S.lt h.u.rep) k hq h1, h.d24, off_new hs h.d34 (S.lt h.s.rep)⟩
theorem Quad.at4 (S : FlowC Rep) (h : Quad Rep w0 B RR pt pu pv ps m n mv ms w f1 f2 f3 f4) (T : Tb Rep w0 B ps 80 mm w' fq) (hk : Keep f4 w w') (hs : ∀ k, fq k → f4 k ∨ w.heap.size ≤ k) : Quad Rep w0 B RR pt pu pv ps m n mv mm w' f1 f2 f3 fq :=
  ⟨h.t.other S hk h.s.low (fun k h2 h1 => h.d14 k h2 h1), h.u.other S hk h.s.low (fun k h2 h1 => h.d24 k h2 h1), h.v.other S hk h.s.low (fun k h2 h1 => h.d34 k h2 h1), T,
    h.d12, h.d13, fun k h1 hq => off_new hs (fun j a b => h.d14 j b a) (S.lt h.t.rep) k hq h1, h.d23, fun k h1 hq => off_new hs (fun j a b => h.d24 j b a) (S.lt h.u.rep) k hq h1, fun k h1 hq => off_new hs (fun j a b => h.d34 j b a) (S.lt h.v.rep) k hq h1⟩
/-- Four new ones, one behind the other. -/
theorem quad_new (S : FlowC Rep) {wa wb wc wd : World} (T1 : Tb Rep w0 B pt RR [] wa f1) (T2 : Tb Rep w0 B pu RR [] wb f2) (b2 : Below wa.heap.size wa wb) (l2 : ∀ k, f2 k → wa.heap.size ≤ k)
    (T3 : Tb Rep w0 B pv 200 [] wc f3) (b3 : Below wb.heap.size wb wc) (l3 : ∀ k, f3 k → wb.heap.size ≤ k) (T4 : Tb Rep w0 B ps 80 [] wd f4) (b4 : Below wc.heap.size wc wd) (l4 : ∀ k, f4 k → wc.heap.size ≤ k) :
    Quad Rep w0 B RR pt pu pv ps [] [] [] [] wd f1 f2 f3 f4 :=
  ⟨((T1.below S b2).below S b3).below S b4, (T2.below S b3).below S b4, T3.below S b4, T4,
    fun k h1 h2 => by have := S.lt T1.rep k h1; have := l2 k h2; omega,
    fun k h1 h3 => by have := S.lt T1.rep k h1; have := b2.size; have := l3 k h3; omega,
    fun k h1 h4 => by have := S.lt T1.rep k h1; have := b2.size; have := b3.size; have := l4 k h4; omega,
    fun k h2 h3 => by have := S.lt T2.rep k h2; have := l3 k h3; omega,
    fun k h2 h4 => by have := S.lt T2.rep k h2; have := b3.size; have := l4 k h4; omega,
    fun k h3 h4 => by have := S.lt T3.rep k h3; have := l4 k h4; omega⟩
end
end Go.Proofs.Ytfbiinipiklkaaa
