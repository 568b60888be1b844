/-
  Plain mathematics of stage 19: names that rise, each once; the healths kept for them. No program is walked here.
-/
import Derived.Test.YteljijjebocbiaaYSet
namespace Go.Proofs.Yteljijjebocbiaa
open Go.RowKit Go.Lib

def RiseN (l : List (List UInt8)) : Prop := l.Pairwise fun a b => Op.bytesLess a b = true
/-- Laid in among what rises, unless it is there. -/
def insN (x : List UInt8) : List (List UInt8) → List (List UInt8)
  | [] => [x]
  | y :: l => if Op.bytesLess y x = true then y :: insN x l else if y = x then y :: l else x :: y :: l
def syncN (ns : List (List UInt8)) : List (List UInt8) := ns.foldl (fun o x => insN x o) []
theorem insN_mem {x z : List UInt8} : ∀ {l : List (List UInt8)}, z ∈ insN x l ↔ z = x ∨ z ∈ l
  | [] => by simp [insN]
  | y :: l => by
    unfold insN
    split
    · rw [List.mem_cons, insN_mem, List.mem_cons]
      constructor
      · rintro (h | h | h)
        · exact .inr (.inl h)
        · exact .inl h
        · exact .inr (.inr h)
      · rintro (h | h | h)
        · exact .inr (.inl h)
        · exact .inl h
        · exact .inr (.inr h)
    · split
      · rename_i h
        subst h
        simp
      · simp
theorem insN_rise {x : List UInt8} : ∀ {l : List (List UInt8)}, RiseN l → RiseN (insN x l)
  | [], _ => by simp [insN, RiseN]
  | y :: l, h => by
    obtain ⟨h1, h2⟩ := List.pairwise_cons.1 h
    unfold insN
    split
    · rename_i hy
      refine List.pairwise_cons.2 ⟨fun z hz => ?_, insN_rise h2⟩
      rcases insN_mem.1 hz with rfl | hz
      · exact hy
      · exact h1 z hz
    · rename_i hy
      split
      · exact h
      · rename_i hne
        have h3 := less_other (Bool.eq_false_iff.2 hy) hne
        refine List.pairwise_cons.2 ⟨fun z hz => ?_, h⟩
        rcases List.mem_cons.1 hz with rfl | hz
        · exact h3
        · exact less_trans h3 (h1 z hz)
theorem foldN : ∀ (ns o : List (List UInt8)), RiseN o → RiseN (ns.foldl (fun o x => insN x o) o) ∧ ∀ z, z ∈ ns.foldl (fun o x => insN x o) o ↔ z ∈ o ∨ z ∈ ns
  | [], o, h => ⟨h, fun z => by simp⟩
  | x :: ns, o, h => by
    rw [List.foldl_cons]
    obtain ⟨h1, h2⟩ := foldN ns (insN x o) (insN_rise h)
    refine ⟨h1, fun z => ?_⟩
    rw [h2, insN_mem, List.mem_cons]
    constructor
    · rintro ((h | h) | h)
      · exact .inr (.inl h)
      · exact .inl h
      · exact .inr (.inr h)
    · rintro (h | h | h)
      · exact .inl (.inr h)
      · exact .inl (.inl h)
      · exact .inr h
theorem syncN_rise (ns : List (List UInt8)) : RiseN (syncN ns) := (foldN ns [] List.Pairwise.nil).1
theorem syncN_mem {ns : List (List UInt8)} {z : List UInt8} : z ∈ syncN ns ↔ z ∈ ns := by
  have := (foldN ns [] List.Pairwise.nil).2 z
  show z ∈ ns.foldl (fun o x => insN x o) [] ↔ z ∈ ns
  simpa using this
/-- What rises is told by what is in it. -/
theorem riseN_ext : ∀ {l r : List (List UInt8)}, RiseN l → RiseN r → (∀ z, z ∈ l ↔ z ∈ r) → l = r
  | [], [], _, _, _ => rfl
  | [], y :: r, _, _, h => by cases (h y).2 List.mem_cons_self
  | x :: l, [], _, _, h => by cases (h x).1 List.mem_cons_self
  | x :: l, y :: r, h1, h2, h => by
    obtain ⟨h3, h4⟩ := List.pairwise_cons.1 h1
    obtain ⟨h5, h6⟩ := List.pairwise_cons.1 h2
    have hxy : x = y := by
      rcases List.mem_cons.1 ((h x).1 List.mem_cons_self) with e | h7
      · exact e
      · rcases List.mem_cons.1 ((h y).2 List.mem_cons_self) with e | h8
        · exact e.symm
        · have h9 := less_asym (h5 x h7)
          rw [h3 y h8] at h9
          cases h9
    subst hxy
    rw [riseN_ext h4 h6 (fun z => ?_)]
    constructor
    · intro hz
      rcases List.mem_cons.1 ((h z).1 (List.mem_cons_of_mem _ hz)) with rfl | h7
      · have := h3 z hz
        rw [less_irr] at this
        cases this
      · exact h7
    · intro hz
      rcases List.mem_cons.1 ((h z).2 (List.mem_cons_of_mem _ hz)) with rfl | h7
      · have := h5 z hz
        rw [less_irr] at this
        cases this
      · exact h7
/-- The health kept for a name: the first of that name, else a new one. -/
def hlOf (l : List Hl) (s : List UInt8) : Hl := match l.find? (fun h => decide (h.nm = s)) with
  | some h => h
  | none => ⟨s, false, 0⟩
theorem hlOf_nm (l : List Hl) (s : List UInt8) : (hlOf l s).nm = s := by
  unfold hlOf
  split
  · rename_i h e
    exact of_decide_eq_true (List.find?_some (p := fun h : Hl => decide (h.nm = s)) e)
  · rfl
def syncL (l : List Hl) (ns : List (List UInt8)) : List Hl := (syncN ns).map (hlOf l)
theorem hlOf_map {l : List Hl} {s : List UInt8} : ∀ {r : List (List UInt8)}, s ∈ r → hlOf (r.map (hlOf l)) s = hlOf l s
  | y :: r, h => by
    by_cases e : y = s
    · subst e
      have : (List.map (hlOf l) (y :: r)).find? (fun h => decide (h.nm = y)) = some (hlOf l y) := by
        rw [List.map_cons, List.find?_cons_of_pos (p := fun h : Hl => decide (h.nm = y)) (decide_eq_true (hlOf_nm l y))]
      unfold hlOf at this ⊢
      rw [this]
    · have h2 : s ∈ r := by
        rcases List.mem_cons.1 h with rfl | h
        · exact absurd rfl e
        · exact h
      have ih := hlOf_map (l := l) h2
      rw [← ih]
      have : (List.map (hlOf l) (y :: r)).find? (fun h => decide (h.nm = s)) = (List.map (hlOf l) r).find? (fun h => decide (h.nm = s)) := by
        rw [List.map_cons, List.find?_cons_of_neg (p := fun h : Hl => decide (h.nm = s)) (by rw [hlOf_nm]; simpa using e)]
      show (match (List.map (hlOf l) (y :: r)).find? (fun h => decide (h.nm = s)) with | some h => h | none => (⟨s, false, 0⟩ : Hl)) = _
      rw [this]
      rfl
theorem sync_twice (l : List Hl) (ns : List (List UInt8)) : syncL (syncL l ns) ns = syncL l ns := by
  unfold syncL
  exact List.map_congr_left fun s hs => hlOf_map hs
/-- Where the place of a name is, its health lies. -/
theorem hlOf_place {l : List Hl} {s : List UInt8} : (placeH (nmsH l) s = -1 ∧ hlOf l s = ⟨s, false, 0⟩) ∨ ∃ (k : Nat) (h : Hl), placeH (nmsH l) s = (k : Int) ∧ l[k]? = some h ∧ hlOf l s = h := by
  cases hf : l.find? (fun h => decide (h.nm = s)) with
  | none =>
    left
    refine ⟨placeH_no (fun b hb => ?_), by unfold hlOf; rw [hf]⟩
    obtain ⟨x, hx, rfl⟩ := List.mem_map.1 hb
    have := List.find?_eq_none.1 hf x hx
    simpa using this
  | some h =>
    right
    obtain ⟨hb, k, hk, e, hj⟩ := List.find?_eq_some_iff_getElem.1 hf
    have hlk : l[k]? = some h := by rw [List.getElem?_eq_getElem hk, e]
    have hnm : h.nm = s := of_decide_eq_true hb
    refine ⟨k, h, placeH_at (by rw [nms_at hlk, hnm]) (fun j c hjk hc e2 => ?_), hlk, by unfold hlOf; rw [hf]⟩
    obtain ⟨x, hx, rfl⟩ : ∃ x, l[j]? = some x ∧ x.nm = c := by
      unfold nmsH at hc
      rw [List.getElem?_map] at hc
      cases hx : l[j]? with
      | none => rw [hx] at hc; cases hc
      | some x => rw [hx] at hc; exact ⟨x, rfl, Option.some.inj hc⟩
    obtain ⟨h1, h2⟩ := List.getElem?_eq_some_iff.1 hx
    have := hj j hjk
    rw [h2, decide_eq_true e2] at this
    cases this
/-- Above all that is laid so far. -/
def abvN (o : List (List UInt8)) (y : List UInt8) : Bool := match o.getLast? with
  | none => true
  | some z => Op.bytesLess z y
theorem abvN_nil (y : List UInt8) : abvN [] y = true := rfl
theorem abvN_snoc (o : List (List UInt8)) (z y : List UInt8) : abvN (o ++ [z]) y = Op.bytesLess z y := by
  unfold abvN
  rw [List.getLast?_concat]
theorem filter_less {α : Type} {p q : α → Bool} : ∀ {l : List α}, (∀ y, p y = true → q y = true) → (∃ x, x ∈ l ∧ q x = true ∧ p x = false) → (l.filter p).length + 1 ≤ (l.filter q).length
  | [], _, ⟨x, h, _⟩ => by cases h
  | y :: l, hpq, ⟨x, hx, h1, h2⟩ => by
    have hle : ∀ l : List α, (l.filter p).length ≤ (l.filter q).length := fun l => by
      induction l with
      | nil => exact Nat.le_refl _
      | cons z l ih =>
        cases hz : p z with
        | true => rw [List.filter_cons_of_pos hz, List.filter_cons_of_pos (hpq z hz)]; simpa using ih
        | false =>
          rw [List.filter_cons_of_neg (by rw [hz]; decide)]
          cases hz2 : q z with
          | true => rw [List.filter_cons_of_pos hz2, List.length_cons]; omega
          | false => rw [List.filter_cons_of_neg (by rw [hz2]; decide)]; exact ih
    rcases List.mem_cons.1 hx with rfl | hx
    · rw [List.filter_cons_of_neg (by rw [h2]; decide), List.filter_cons_of_pos h1, List.length_cons]
      have := hle l
      omega
    · have ih := filter_less (p := p) (q := q) hpq ⟨x, hx, h1, h2⟩
      cases hz : p y with
      | true => rw [List.filter_cons_of_pos hz, List.filter_cons_of_pos (hpq y hz), List.length_cons, List.length_cons]; omega
      | false =>
        rw [List.filter_cons_of_neg (by rw [hz]; decide)]
        cases hz2 : q y with
        | true => rw [List.filter_cons_of_pos hz2, List.length_cons]; omega
        | false => rw [List.filter_cons_of_neg (by rw [hz2]; decide)]; exact ih
/-- What is laid so far, of the names: it rises, it is of the names, what isn't laid is above it, and there is room. -/
structure SoFar (ns o : List (List UInt8)) : Prop where
  rise : RiseN o
  of_ : ∀ z, z ∈ o → z ∈ ns
  rest : ∀ z, z ∈ ns → z ∈ o ∨ abvN o z = true
  room : o.length + (ns.filter (abvN o)).length ≤ ns.length
theorem SoFar.nil_ (ns : List (List UInt8)) : SoFar ns [] where
  rise := List.Pairwise.nil
  of_ _ h := by cases h
  rest _ _ := .inr rfl
  room := by rw [List.length_nil, Nat.zero_add]; exact List.length_filter_le _ _
theorem rise_last {o : List (List UInt8)} {x : List UInt8} (h : RiseN o) (ha : abvN o x = true) : ∀ z, z ∈ o → Op.bytesLess z x = true := by
  rcases List.eq_nil_or_concat o with rfl | ⟨o', z', rfl⟩
  · intro z hz
    cases hz
  · rw [List.concat_eq_append] at *
    rw [abvN_snoc] at ha
    intro z hz
    rcases List.mem_append.1 hz with hz | hz
    · exact less_trans ((List.pairwise_append.1 h).2.2 z hz z' List.mem_cons_self) ha
    · rw [List.mem_singleton.1 hz]
      exact ha
/-- The least one above is laid next. -/
theorem SoFar.next {ns o : List (List UInt8)} (h : SoFar ns o) {x : List UInt8} (hx : x ∈ ns) (ha : abvN o x = true) (hl : ∀ y, y ∈ ns → abvN o y = true → Op.bytesLess y x = false) : SoFar ns (o ++ [x]) where
  rise := by
    refine List.pairwise_append.2 ⟨h.rise, List.pairwise_singleton _ _, fun a hao b hb => ?_⟩
    rw [List.mem_singleton.1 hb]
    exact rise_last h.rise ha a hao
  of_ z hz := by
    rcases List.mem_append.1 hz with hz | hz
    · exact h.of_ z hz
    · rw [List.mem_singleton.1 hz]; exact hx
  rest z hz := by
    rcases h.rest z hz with h1 | h1
    · exact .inl (List.mem_append_left _ h1)
    · by_cases e : z = x
      · exact .inl (by rw [e]; exact List.mem_append_right _ List.mem_cons_self)
      · refine .inr ?_
        rw [abvN_snoc]
        exact less_other (hl z hz h1) e
  room := by
    have h1 := h.room
    have h2 : (ns.filter (abvN (o ++ [x]))).length + 1 ≤ (ns.filter (abvN o)).length := by
      refine filter_less (fun y hy => ?_) ⟨x, hx, ha, by rw [abvN_snoc]; exact less_irr x⟩
      rw [abvN_snoc] at hy
      rcases List.eq_nil_or_concat o with rfl | ⟨o', z', rfl⟩
      · rfl
      · rw [List.concat_eq_append] at *
        rw [abvN_snoc] at ha ⊢
        exact less_trans ha hy
    rw [List.length_append, List.length_singleton]
    omega
theorem SoFar.lt {ns o : List (List UInt8)} (h : SoFar ns o) {x : List UInt8} (hx : x ∈ ns) (ha : abvN o x = true) : o.length < ns.length := by
  have h1 := h.room
  have h2 : 0 < (ns.filter (abvN o)).length := List.length_pos_of_mem (List.mem_filter.2 ⟨hx, ha⟩)
  omega
theorem SoFar.all {ns o : List (List UInt8)} (h : SoFar ns o) (hn : ∀ y, y ∈ ns → abvN o y = false) : o = syncN ns := by
  refine riseN_ext h.rise (syncN_rise ns) (fun z => ?_)
  rw [syncN_mem]
  refine ⟨h.of_ z, fun hz => ?_⟩
  rcases h.rest z hz with h1 | h1
  · exact h1
  · rw [hn z hz] at h1
    cases h1
theorem syncN_len (ns : List (List UInt8)) : (syncN ns).length ≤ ns.length := by
  have h : ∀ (ns o : List (List UInt8)), (ns.foldl (fun o x => insN x o) o).length ≤ o.length + ns.length := by
    intro ns
    induction ns with
    | nil => exact fun o => Nat.le_refl _
    | cons x ns ih =>
      intro o
      have hi : ∀ o : List (List UInt8), (insN x o).length ≤ o.length + 1 := by
        intro o
        induction o with
        | nil => exact Nat.le_refl _
        | cons y o ih2 =>
          unfold insN
          split
          · rw [List.length_cons, List.length_cons]; omega
          · split <;> simp
      rw [List.foldl_cons, List.length_cons]
      have h1 := ih (insN x o)
      have h2 := hi o
      omega
  have := h ns []
  simpa [syncN] using this
end Go.Proofs.Yteljijjebocbiaa
