/-
  What a table holds of a key behind acts, with room for all (stage 21).
  What a put tells of what was there (stage 21).
  What a sweep leaves and lets go (stage 21); the document's table as the laws make it.
-/
import Derived.Test.YtfbiinipiklkaaaFLEx
namespace Go.Proofs.Ytfbiinipiklkaaa
set_option maxRecDepth 100000
open Go.RowKit Go.Lib

theorem hasK_iff {l : List Fw} (ha : l.Pairwise fun a b => a.k ≠ b.k) {k : Tu} {x : Fw} : hasK l k = some x ↔ x ∈ l ∧ x.k = k :=
  ⟨hasK_some, fun ⟨h1, h2⟩ => by rw [← h2]; exact hasK_of ha h1⟩
theorem hasK_ext {l m : List Fw} {k : Tu} (hl : l.Pairwise fun a b => a.k ≠ b.k) (hm : m.Pairwise fun a b => a.k ≠ b.k) (h : ∀ x, x.k = k → (x ∈ l ↔ x ∈ m)) : hasK l k = hasK m k := by
  refine Option.ext fun x => ?_
  rw [hasK_iff hl, hasK_iff hm]
  constructor
  · rintro ⟨h1, h2⟩
    exact ⟨(h x h2).1 h1, h2⟩
  · rintro ⟨h1, h2⟩
    exact ⟨(h x h2).2 h1, h2⟩
theorem hasK_out_self (l : List Fw) (k : Tu) : hasK (outK l k) k = none := hasK_no fun _ hx => (outK_mem.1 hx).2
theorem hasK_out_ne {r : Nat} {l : List Fw} (h : RightT r l) {k q : Tu} (hq : q ≠ k) : hasK (outK l k) q = hasK l q := by
  refine hasK_ext (outK_right h k).apart h.apart fun x hx => ?_
  rw [outK_mem]
  exact ⟨fun h1 => h1.1, fun h1 => ⟨h1, fun e => hq (hx.symm.trans e)⟩⟩
theorem hasK_put_self {r : Nat} {l : List Fw} (h : RightT r l) (h0 : 0 < r) {f : Fw} (hf : rightF f = true) : hasK (putT r l f) f.k = some f := by
  refine hasK_of (putT_right h h0 f).apart ?_
  unfold putT
  rw [if_pos hf, insF_mem]
  exact .inl rfl
theorem hasK_put_bad {r : Nat} {l : List Fw} {f : Fw} (hf : rightF f = false) : putT r l f = l := by
  unfold putT
  rw [if_neg (by rw [hf]; decide)]
/-- What stays when a flow is put where there is room, or one of its key. -/
theorem made_mem {r : Nat} {l : List Fw} {k : Tu} (hr : (hasK l k).isSome = true ∨ l.length < r) {x : Fw} (hx : x.k ≠ k) : x ∈ madeR r l k ↔ x ∈ l := by
  unfold madeR
  split
  · rw [outK_mem]
    exact ⟨fun h => h.1, fun h => ⟨h, hx⟩⟩
  · rename_i hn
    rw [if_neg (by rcases hr with h | h; exact absurd h hn; omega)]
theorem hasK_put_ne {r : Nat} {l : List Fw} (h : RightT r l) (h0 : 0 < r) {f : Fw} (hr : (hasK l f.k).isSome = true ∨ l.length < r) {q : Tu} (hq : q ≠ f.k) : hasK (putT r l f) q = hasK l q := by
  cases hf : rightF f with
  | false => rw [hasK_put_bad hf]
  | true =>
    refine hasK_ext (putT_right h h0 f).apart h.apart fun x hx => ?_
    unfold putT
    rw [if_pos hf, insF_mem]
    constructor
    · rintro (rfl | h1)
      · exact absurd hx.symm hq
      · exact (made_mem hr (fun e => hq (hx.symm.trans e))).1 h1
    · intro h1
      exact .inr ((made_mem hr (fun e => hq (hx.symm.trans e))).2 h1)
theorem putT_len (r : Nat) (l : List Fw) (f : Fw) : (putT r l f).length ≤ l.length + 1 := by
  unfold putT
  split
  · rw [insF_len]
    have := (made_sub r l f.k).length_le
    omega
  · omega
/-- An act of FlowStays: put, or dropped. -/
def stepA (r : Nat) (m : List Fw) (a : Ac) : List Fw := if a.kind = 0 then putT r m a.fl else if a.kind = 2 then outK m a.fl.k else m
theorem stepA_len (r : Nat) (m : List Fw) (a : Ac) : (stepA r m a).length ≤ m.length + 1 := by
  unfold stepA
  split
  · exact putT_len r m a.fl
  · split
    · have := (List.filter_sublist (l := m) (p := fun x => !tuQ x.k a.fl.k)).length_le
      unfold outK
      omega
    · omega
theorem stepA_right {r : Nat} {m : List Fw} (h : RightT r m) (h0 : 0 < r) (a : Ac) : RightT r (stepA r m a) := by
  unfold stepA
  split
  · exact putT_right h h0 a.fl
  · split
    · exact outK_right h _
    · exact h
/-- Does an act fix what there is of a key, and what. -/
def hitA (q : Tu) (a : Ac) : Bool := tuQ a.fl.k q && (decide (a.kind = 2) || (decide (a.kind = 0) && rightF a.fl))
def resA (q : Tu) (o : Option Fw) (a : Ac) : Option Fw := if hitA q a = true then (if a.kind = 0 then some a.fl else none) else o
theorem stepA_has {r : Nat} {m : List Fw} (h : RightT r m) (h0 : m.length < r) (a : Ac) (q : Tu) : hasK (stepA r m a) q = resA q (hasK m q) a := by
  have hp : 0 < r := by omega
  unfold stepA resA hitA
  by_cases hk : tuQ a.fl.k q = true
  · have e := tuQ_eq.1 hk
    rw [hk, Bool.true_and]
    by_cases h2 : a.kind = 0
    · rw [if_pos h2, h2]
      cases hf : rightF a.fl with
      | false =>
        rw [hasK_put_bad hf]
        simp
      | true =>
        rw [← e, hasK_put_self h hp hf]
        simp
    · rw [if_neg h2]
      by_cases h3 : a.kind = 2
      · rw [if_pos h3, h3, ← e, hasK_out_self]
        simp
      · rw [if_neg h3]
        simp [h2, h3]
  · have hk2 := Bool.eq_false_iff.2 hk
    rw [hk2, Bool.false_and, if_neg Bool.false_ne_true]
    have hq : q ≠ a.fl.k := fun e => hk (tuQ_eq.2 e.symm)
    by_cases h2 : a.kind = 0
    · rw [if_pos h2]
      exact hasK_put_ne h hp (.inr h0) hq
    · rw [if_neg h2]
      by_cases h3 : a.kind = 2
      · rw [if_pos h3]
        exact hasK_out_ne h hq
      · rw [if_neg h3]
/-- What a table of room 80 holds behind k acts. -/
structure Stood (l : List Ac) (k : Nat) (m : List Fw) : Prop where
  right : RightT 80 m
  len : m.length ≤ k
  has : ∀ q, hasK m q = (l.take k).foldl (resA q) none
theorem take_snocA {α : Type} {l : List α} {k : Nat} {x : α} (h : l[k]? = some x) : l.take (k + 1) = l.take k ++ [x] := by
  rw [List.take_add_one, h]
  rfl
theorem Stood.zero (l : List Ac) : Stood l 0 [] := ⟨nil_right 80, Nat.le_refl _, fun _ => rfl⟩
theorem Stood.next {l : List Ac} {k : Nat} {m : List Fw} {a : Ac} (h : Stood l k m) (ha : l[k]? = some a) (hk : k < 80) : Stood l (k + 1) (stepA 80 m a) :=
  ⟨stepA_right h.right (by decide) a, Nat.le_trans (stepA_len 80 m a) (Nat.succ_le_succ h.len), fun q => by
    rw [take_snocA ha, List.foldl_append, stepA_has h.right (Nat.lt_of_le_of_lt h.len hk) a q, h.has q]
    rfl⟩
theorem stepA_put {r : Nat} {m : List Fw} {a : Ac} (h : a.kind = 0) : stepA r m a = putT r m a.fl := if_pos h
theorem stepA_drop {r : Nat} {m : List Fw} {a : Ac} (h : a.kind = 2) : stepA r m a = outK m a.fl.k := by
  unfold stepA
  rw [if_neg (by omega), if_pos h]
theorem stepA_none {r : Nat} {m : List Fw} {a : Ac} (h : a.kind ≠ 0) (h2 : a.kind ≠ 2) : stepA r m a = m := by
  unfold stepA
  rw [if_neg h, if_neg h2]
/-- The last act that fixes what there is of a key, among the first k. -/
def LastA (l : List Ac) (q : Tu) (k : Nat) (z : Int) : Prop :=
  (z = -1 ∧ (l.take k).foldl (resA q) none = none) ∨ ∃ j a, z = (j : Nat) ∧ j < k ∧ l[j]? = some a ∧ (l.take k).foldl (resA q) none = if a.kind = 0 then some a.fl else none
theorem LastA.zero (l : List Ac) (q : Tu) : LastA l q 0 (-1) := .inl ⟨rfl, rfl⟩
theorem LastA.hit {l : List Ac} {q : Tu} {k : Nat} {a : Ac} (ha : l[k]? = some a) (h : hitA q a = true) : LastA l q (k + 1) (k : Int) :=
  .inr ⟨k, a, rfl, Nat.lt_succ_self k, ha, by rw [take_snocA ha, List.foldl_append]; unfold List.foldl resA; rw [if_pos h]; rfl⟩
theorem LastA.miss {l : List Ac} {q : Tu} {k : Nat} {a : Ac} {z : Int} (hz : LastA l q k z) (ha : l[k]? = some a) (h : hitA q a = false) : LastA l q (k + 1) z := by
  have e : (l.take (k + 1)).foldl (resA q) none = (l.take k).foldl (resA q) none := by
    rw [take_snocA ha, List.foldl_append]
    show resA q _ a = _
    unfold resA
    rw [if_neg (by rw [h]; decide)]
  rcases hz with ⟨h1, h2⟩ | ⟨j, b, h1, h2, h3, h4⟩
  · exact .inl ⟨h1, e.trans h2⟩
  · exact .inr ⟨j, b, h1, by omega, h3, e.trans h4⟩
end Go.Proofs.Ytfbiinipiklkaaa
namespace Go.Proofs.Ytfbiinipiklkaaa
set_option maxRecDepth 100000
open Go.RowKit Go.Lib

/-- What goes when f is put, if one goes (fw0 if none). -/
def goF (r : Nat) (m : List Fw) (f : Fw) : Fw := (goneT r m f).getD fw0
def lfB (r : Nat) (m : List Fw) (f : Fw) : Bool := (goneT r m f).isSome
theorem putV_form (r : Nat) (m : List Fw) (f : Fw) : putV r m f = .tuple #[fwC (goF r m f), .bool (lfB r m f), .int .i64 (if rightF f = true then 0 else 1)] := rfl
theorem lfB_bad {r : Nat} {m : List Fw} {f : Fw} (h : rightF f = false) : lfB r m f = false := by
  unfold lfB goneT
  rw [if_neg (by rw [h]; decide)]
  rfl
theorem lfB_has {r : Nat} {m : List Fw} {f : Fw} (h : (hasK m f.k).isSome = true) : lfB r m f = false := by
  unfold lfB goneT
  split
  · rfl
  · rfl
theorem lfB_new {r : Nat} {m : List Fw} {f : Fw} (hr : RightT r m) (h0 : 0 < r) (hf : rightF f = true) (h : (hasK m f.k).isSome = false) : lfB r m f = decide ((m.length : Int) = (r : Int)) := by
  unfold lfB goneT
  rw [if_pos hf, if_neg (by rw [h]; decide)]
  have := hr.fits
  split
  · rename_i h1
    cases m with
    | nil => simp at h1; omega
    | cons x m => exact (decide_eq_true (by omega)).symm
  · exact (decide_eq_false (by omega)).symm
/-- With one gone: it was the first, there was none of the key, and no room. -/
theorem lfB_yes {r : Nat} {m : List Fw} {f : Fw} (h : lfB r m f = true) : rightF f = true ∧ hasK m f.k = none ∧ ∃ t, m = goF r m f :: t ∧ madeR r m f.k = t := by
  unfold lfB goF goneT madeR at *
  cases hf : rightF f with
  | false => rw [hf] at h; simp at h
  | true =>
    rw [hf] at h
    cases hk : hasK m f.k with
    | some x => rw [hk] at h; simp at h
    | none =>
      rw [hk] at h
      refine ⟨rfl, rfl, ?_⟩
      by_cases hr : r ≤ m.length
      · simp only [hr, if_true] at h ⊢
        cases m with
        | nil => simp at h
        | cons x m => exact ⟨m, rfl, rfl⟩
      · simp [hr] at h
theorem put_old {r : Nat} {m : List Fw} {f y : Fw} (hr : RightT r m) (h : lfB r m f = true) (hy : y ∈ m) : olderF y (goF r m f) = false := by
  obtain ⟨_, _, t, e, _⟩ := lfB_yes h
  have h2 := hr.sort
  rw [e] at hy h2
  rcases List.mem_cons.1 hy with e2 | h3
  · rw [e2]
    exact older_irr _
  · exact older_asym ((List.pairwise_cons.1 h2).1 y h3)
theorem put_gone {r : Nat} {m : List Fw} {f y : Fw} (hr : RightT r m) (h : lfB r m f = true) (hy : y.k = (goF r m f).k) : hasK (putT r m f) y.k = none := by
  obtain ⟨hf, hn, t, e, ht⟩ := lfB_yes h
  refine hasK_no fun x hx => ?_
  unfold putT at hx
  rw [if_pos hf, ht, insF_mem] at hx
  have hg : goF r m f ∈ m := by generalize goF r m f = z at e; subst e; exact List.mem_cons_self
  have h2 := hr.apart
  rw [e] at h2
  rw [hy]
  rcases hx with rfl | hx
  · exact fun e2 => hasK_none hn _ hg e2.symm
  · exact fun e2 => (List.pairwise_cons.1 h2).1 x hx e2.symm
theorem put_stays {r : Nat} {m : List Fw} {f y : Fw} (hr : RightT r m) (h0 : 0 < r) (h : lfB r m f = true) (hy : y ∈ m) (hk : y.k ≠ (goF r m f).k) : hasK (putT r m f) y.k = some y := by
  obtain ⟨hf, hn, t, e, ht⟩ := lfB_yes h
  refine hasK_of (putT_right hr h0 f).apart ?_
  unfold putT
  rw [if_pos hf, ht, insF_mem]
  rw [e] at hy
  rcases List.mem_cons.1 hy with e2 | h3
  · exact absurd (congrArg Fw.k e2) hk
  · exact .inr h3
/-- With none gone, each stays as it was, or is of the key of what was put. -/
theorem put_all {r : Nat} {m : List Fw} {f y : Fw} (hr : RightT r m) (h0 : 0 < r) (h : lfB r m f = false) (hy : y ∈ m) : ∃ z, hasK (putT r m f) y.k = some z ∧ z.k = y.k ∧ (z = y ∨ tuQ y.k f.k = true ∧ rightF f = true) := by
  have hyk := hasK_of hr.apart hy
  cases hf : rightF f with
  | false =>
    rw [hasK_put_bad hf]
    exact ⟨y, hyk, rfl, .inl rfl⟩
  | true =>
    by_cases e : y.k = f.k
    · exact ⟨f, by rw [e]; exact hasK_put_self hr h0 hf, e.symm, .inr ⟨tuQ_eq.2 e, rfl⟩⟩
    · refine ⟨y, ?_, rfl, .inl rfl⟩
      rw [hasK_put_ne hr h0 ?_ e]
      · exact hyk
      · cases hk : (hasK m f.k).isSome with
        | true => exact .inl rfl
        | false =>
          have h2 := lfB_new hr h0 hf hk
          rw [h] at h2
          have h3 := of_decide_eq_false h2.symm
          have := hr.fits
          exact .inr (by omega)
end Go.Proofs.Ytfbiinipiklkaaa
namespace Go.Proofs.Ytfbiinipiklkaaa
set_option maxRecDepth 100000
open Go.RowKit Go.Lib

theorem builtRT (r : Int) (A : Option Addr) (n c : Nat) : Try.prog.built 44 [(0, .int .i64 r), (1, .slice A n c)] = some #[.int .i64 r, .slice A n c] := by kernel_rfl
theorem swept_nil (l : List Fw) (q : Fw → Bool) : (l.filter fun x => !q x).filter q = [] := by
  rw [List.filter_eq_nil_iff]
  intro x hx
  rw [List.mem_filter] at hx
  cases h : q x with
  | false => decide
  | true => rw [h] at hx; exact absurd hx.2 (by decide)
theorem swept_same (l : List Fw) (q : Fw → Bool) : (l.filter fun x => !q x).filter (fun x => !q x) = l.filter fun x => !q x := by
  rw [List.filter_filter]
  congr 1
  funext x
  rw [Bool.and_self]
theorem swept_len (l : List Fw) (q : Fw → Bool) : l.length = (l.filter q).length + (l.filter fun x => !q x).length := by
  induction l with
  | nil => rfl
  | cons x l ih =>
    cases h : q x with
    | true =>
      rw [List.filter_cons_of_pos (by exact h), List.filter_cons_of_neg (by simp [h]), List.length_cons, List.length_cons, ih]
      omega
    | false =>
      rw [List.filter_cons_of_neg (by simp [h]), List.filter_cons_of_pos (by simp [h]), List.length_cons, List.length_cons, ih]
      omega
theorem swept_none {r : Nat} {l : List Fw} (h : RightT r l) {q : Fw → Bool} {x : Fw} (hx : x ∈ l.filter q) : hasK (l.filter fun x => !q x) x.k = none := by
  obtain ⟨h1, h2⟩ := List.mem_filter.1 hx
  refine hasK_no fun y hy e => ?_
  obtain ⟨h3, h4⟩ := List.mem_filter.1 hy
  have h5 := hasK_of h.apart h1
  have h6 := hasK_of h.apart h3
  rw [e, h5] at h6
  cases h6
  rw [h2] at h4
  cases h4
theorem sort_next {r j : Nat} {l : List Fw} (h : RightT r l) {x y : Fw} (hx : l[j]? = some x) (hy : l[j + 1]? = some y) : olderF x y = true := by
  obtain ⟨h1, rfl⟩ := List.getElem?_eq_some_iff.1 hx
  obtain ⟨h2, rfl⟩ := List.getElem?_eq_some_iff.1 hy
  exact (List.pairwise_iff_getElem.1 h.sort) j (j + 1) h1 h2 (by omega)
theorem RefT.drew {w : World} {g : Nat} {room : Int} {lv : Value} {l : List Fw} (h : RefT w g room lv l) : RefT w.drew g room lv l := ⟨h.blk, h.own.drew, h.ne⟩
theorem yields_loadId {ops : Array Oper} {S : World → Prop} {op : Oper} {a : Act} (hw : Region.wanted op (yielded ops a.tmps) = true) (x : Operand) (ho : op.op = .load 45 x) (g o : Nat) (hx : a.eval x = .pointer (some ⟨g, o, none⟩)) {idle : List Int} (h6 : idle.length = 6) (hb : ∀ W, S W → W.rangeAt g o (zL idle)) (C : Array Value) (hC : (zL idle).toArray = C) : YieldsIf Try.prog ops S op (.agg C) a := by
  rw [← hC]
  exact yieldsIf_load_mid hw 45 x ho g o hx (zL idle) _ hb Try.underlying45 rfl (idleSize h6)
theorem wpList_loadId {w : World} {ops : Array Oper} {rest : List Oper} {op : Oper} {a : Act} {Q : Exit → Act → World → Prop} (x : Operand) (ho : op.op = .load 45 x) (hw : Region.wanted op (yielded ops a.tmps) = true)
    (g o : Nat) (hx : a.eval x = .pointer (some ⟨g, o, none⟩)) {idle : List Int} (h6 : idle.length = 6) (hb : w.rangeAt g o (zL idle)) (C : Array Value) (hC : (zL idle).toArray = C)
    (hk : wpList Try.prog ops Q rest (a.put op.dst (.agg C)) w) : wpList Try.prog ops Q (op :: rest) a w := by
  subst hC
  exact BigFrame.wpList_want hw fun _ hK => wp_load_mid 45 x ho g o hx (zL idle) _ hb Try.underlying45 rfl (idleSize h6) (hK _ _ hk)
/-- Two orders, one end, with a value between. -/
theorem cut_v {goal : Prop} {H M : Value → World → Prop} (h1 : (∀ v W, H v W → M v W) → goal) (h2 : ∀ v W, H v W → M v W) : goal := h1 h2
end Go.Proofs.Ytfbiinipiklkaaa
