/-
  slices.Sorted and slices.Compact of names: the names, each once, rising.
-/
import Derived.Sort.OwnSorted
import Derived.Shelf.Slices.CompactS
import Derived.Test.YteljijjebocbiaaYShelf
import Derived.Test.YteljijjebocbiaaYSeq
import Derived.Test.YteljijjebocbiaaYSync
namespace Go.Proofs.Yteljijjebocbiaa
set_option maxRecDepth 100000
open Go.RowKit Go.Lib

/-! ### plain mathematics -/
theorem lt_less : ∀ (x y : List UInt8), x < y ↔ Op.bytesLess x y = true
  | x, [] => by
    constructor
    · intro h
      exact absurd h (List.not_lt_nil x)
    · intro h
      unfold Op.bytesLess at h
      cases h
  | [], b :: y => by
    constructor
    · intro _
      rfl
    · intro _
      exact List.nil_lt_cons b y
  | a :: x, b :: y => by
    rw [List.cons_lt_cons_iff, lt_less x y]
    show a < b ∨ a = b ∧ Op.bytesLess x y = true ↔ (decide (a < b) || a == b && Op.bytesLess x y) = true
    simp only [Bool.or_eq_true, Bool.and_eq_true, decide_eq_true_eq, beq_iff_eq]
theorem le_less (x y : List UInt8) : x ≤ y ↔ Op.bytesLess y x = false := by
  have h := lt_less y x
  show ¬ y < x ↔ _
  rw [h]
  simp
def leN (x y : List UInt8) : Bool := decide (x ≤ y)
theorem leN_iff (x y : List UInt8) : leN x y = true ↔ Op.bytesLess y x = false := by
  unfold leN
  rw [decide_eq_true_eq, le_less]
theorem less_cases {x y : List UInt8} (h : Op.bytesLess y x = false) : x = y ∨ Op.bytesLess x y = true := by
  by_cases e : x = y
  · exact .inl e
  · exact .inr (less_other h (fun e' => e e'.symm))
theorem leN_trans (x y z : List UInt8) (h1 : leN x y = true) (h2 : leN y z = true) : leN x z = true := by
  rw [leN_iff] at *
  rcases less_cases h1 with rfl | h1
  · exact h2
  · rcases less_cases h2 with rfl | h2
    · exact less_asym h1
    · exact less_asym (less_trans h1 h2)
theorem leN_total (x y : List UInt8) : (leN x y || leN y x) = true := by
  rw [Bool.or_eq_true, leN_iff, leN_iff]
  cases h : Op.bytesLess y x with
  | false => exact .inl rfl
  | true => exact .inr (less_asym h)
/-- Of what doesn't fall, so much as has been looked at. -/
theorem comp_upto {d : Array (List UInt8)} (hs : ∀ i j, i < j → j < d.size → leN d[i]! d[j]! = true) : ∀ m, m ≤ d.size →
    RiseN (compactUpTo d m) ∧ (∀ z, z ∈ compactUpTo d m ↔ ∃ j, j < m ∧ d[j]! = z) ∧ (∀ z, z ∈ compactUpTo d m → 0 < m → Op.bytesLess d[m - 1]! z = false)
  | 0, _ => by
    refine ⟨List.Pairwise.nil, fun z => ⟨fun h => ?_, fun ⟨j, h, _⟩ => absurd h (Nat.not_lt_zero j)⟩, fun z _ h => absurd h (Nat.lt_irrefl 0)⟩
    cases h
  | m + 1, hm => by
    obtain ⟨h1, h2, h3⟩ := comp_upto hs m (by omega)
    rw [compactUpTo_succ]
    by_cases hk : keeps d m = true
    · rw [if_pos hk]
      have hab : ∀ z, z ∈ compactUpTo d m → Op.bytesLess z d[m]! = true := fun z hz => by
        rcases Nat.eq_zero_or_pos m with rfl | h0
        · cases hz
        · have h5 := h3 z hz h0
          have h6 := (leN_iff _ _).1 (hs (m - 1) m (by omega) (by omega))
          have h7 : d[m]! ≠ d[m - 1]! := by
            intro e
            rw [keeps_neg h0 e] at hk
            cases hk
          have h8 := less_other h6 h7
          rcases less_cases h5 with e | h9
          · rw [e]; exact h8
          · exact less_trans h9 h8
      refine ⟨List.pairwise_append.2 ⟨h1, List.pairwise_singleton _ _, fun z hz y hy => by rw [List.mem_singleton.1 hy]; exact hab z hz⟩, fun z => ?_, fun z hz _ => ?_⟩
      · rw [List.mem_append, List.mem_singleton, h2]
        constructor
        · rintro (⟨j, hj, e⟩ | e)
          · exact ⟨j, by omega, e⟩
          · exact ⟨m, by omega, e.symm⟩
        · rintro ⟨j, hj, e⟩
          by_cases e2 : j = m
          · subst e2
            exact .inr e.symm
          · exact .inl ⟨j, by omega, e⟩
      · rw [Nat.add_sub_cancel]
        rcases List.mem_append.1 hz with hz | hz
        · exact less_asym (hab z hz)
        · rw [List.mem_singleton.1 hz]
          exact less_irr _
    · rw [if_neg hk, List.append_nil]
      have h0 : 0 < m := by
        rcases Nat.eq_zero_or_pos m with rfl | h0
        · exact absurd (keeps_lt_one d 0 (by omega)) hk
        · exact h0
      have he : d[m]! = d[m - 1]! := by
        by_cases e : d[m]! = d[m - 1]!
        · exact e
        · exact absurd (keeps_pos e) hk
      refine ⟨h1, fun z => ?_, fun z hz _ => ?_⟩
      · rw [h2]
        constructor
        · rintro ⟨j, hj, e⟩
          exact ⟨j, by omega, e⟩
        · rintro ⟨j, hj, e⟩
          by_cases e2 : j = m
          · subst e2
            exact ⟨j - 1, by omega, by rw [← he]; exact e⟩
          · exact ⟨j, by omega, e⟩
      · rw [Nat.add_sub_cancel, he]
        exact h3 z hz h0
theorem comp_sync (ns : List (List UInt8)) : Lib.compact (ns.mergeSort leN) = syncN ns := by
  have hp := List.pairwise_mergeSort (le := leN) leN_trans leN_total ns
  obtain ⟨ms, hms⟩ : ∃ ms, ns.mergeSort leN = ms := ⟨_, rfl⟩
  have hmem : ∀ z, z ∈ ms ↔ z ∈ ns := fun z => by rw [← hms]; exact List.mem_mergeSort
  rw [hms] at hp ⊢
  have hs : ∀ i j, i < j → j < ms.toArray.size → leN ms.toArray[i]! ms.toArray[j]! = true := fun i j hij hj => by
    have hj' : j < ms.length := by simpa using hj
    have := List.pairwise_iff_getElem.1 hp i j (by omega) hj' hij
    rw [getElem!_pos ms.toArray i (by simpa using Nat.lt_trans hij hj'), getElem!_pos ms.toArray j hj]
    simpa using this
  obtain ⟨h1, h2, _⟩ := comp_upto hs ms.length (by simp)
  unfold Lib.compact
  refine riseN_ext h1 (syncN_rise ns) (fun z => ?_)
  rw [h2, syncN_mem, ← hmem]
  constructor
  · rintro ⟨j, hj, e⟩
    rw [getElem!_pos ms.toArray j (by simpa using hj)] at e
    rw [← e]
    simp
  · intro hz
    obtain ⟨j, hj, e⟩ := List.mem_iff_getElem.1 hz
    refine ⟨j, hj, ?_⟩
    rw [getElem!_pos ms.toArray j (by simpa using hj)]
    simpa using e
theorem comp_len (ns : List (List UInt8)) : (Lib.compact ns).length ≤ ns.length := by
  unfold Lib.compact compactUpTo
  rw [List.length_map]
  have := List.length_filter_le (keeps ns.toArray) (List.range ns.length)
  rwa [List.length_range] at this
/-! ### the library's contracts -/
section
variable {w : World} {base n c g : Nat} {xs : List (List UInt8)}
theorem own_raw (h : OwnG eN w base (.slice (some ⟨g, 0, none⟩) n c) xs) : ∃ cur : Array Value, w.heap[g]? = some (.cells cur 9 (0, 0)) ∧ n = xs.length ∧ base ≤ g ∧ g < w.heap.size ∧ xs.length ≤ c ∧ c ≤ maxLen ∧ cur.size = c * 1 ∧ cur.toList.take xs.length = xs.map encStr := by
  have hn := h.lenEq
  rcases h.2 with ⟨e, _⟩ | ⟨g', cap, cur, e, hb, hg, hnc, hcm, hcs, ht⟩
  · cases e
  · cases e
    refine ⟨cur, hg, hn, hb, (Array.getElem?_eq_some_iff.1 hg).1, hnc, hcm, hcs, ?_⟩
    have h2 : cur.toList.take (xs.length * 1) = eN.cells xs := ht
    rw [Nat.mul_one] at h2
    rw [h2, cells_eN]
    rfl
theorem own_sorted (h : OwnG eN w base (.slice (some ⟨g, 0, none⟩) n c) xs) {ts : List (List UInt8)} (hl : ts.length = xs.length) (q : Nat) (os : Array Obj) :
    OwnG eN (Go.Sort.grow (Go.Sort.putRow encStr (Go.Sort.ahead w q) g 0 ts.toArray) os) base (.slice (some ⟨g, 0, none⟩) n c) ts := by
  obtain ⟨cur, hg, rfl, hb, _, h1, h2, h3, _⟩ := own_raw h
  have := ownsRow_sorted (os := os) (n := q) hl hb hg h1 h2 h3
  unfold OwnG
  rw [cells_eN, hl]
  exact this
theorem own_holds (h : OwnG eN w base (.slice (some ⟨g, 0, none⟩) n c) xs) : Go.Sort.Holds encStr w g 0 xs.toArray := by
  obtain ⟨cur, hg, _, _, _, _, _, _, h4⟩ := own_raw h
  exact holds_of_block hg h4
/-- A beginning of it. -/
theorem own_front {ys : List (List UInt8)} (h : OwnG eN w base (.slice (some ⟨g, 0, none⟩) n c) (xs ++ ys)) : OwnG eN w base (.slice (some ⟨g, 0, none⟩) xs.length c) xs := by
  obtain ⟨cur, hg, _, hb, _, h1, h2, h3, h4⟩ := own_raw h
  rw [List.length_append] at h1
  refine ⟨by rw [cells_eN, List.length_map]; exact (Nat.mul_one _).symm, .inr ⟨g, c, cur, rfl, hb, hg, by omega, h2, h3, ?_⟩⟩
  have h5 := congrArg (List.take xs.length) h4
  rw [List.take_take, List.length_append, Nat.min_eq_left (Nat.le_add_right _ _), List.map_append, List.take_left' (by rw [List.length_map])] at h5
  have e : xs.length * eN.k = xs.length := Nat.mul_one _
  rw [e, cells_eN]
  exact h5
end
theorem psort_any {w : World} {base : Nat} {v : Value} {xs : List (List UInt8)} (hn : xs.length ≤ 1000000) (h : OwnG eN w base v xs) (hbase : base ≤ w.heap.size) :
    Calls Try.prog 34 #[v] w fun e w' => e = .returned (.tuple #[]) ∧ OwnG eN w' base v (xs.mergeSort leN) ∧ Below base w w' := by
  rcases h.2 with ⟨rfl, h0⟩ | ⟨g, cap, cur, rfl, hb, hg, _⟩
  · have : xs = [] := List.eq_nil_of_length_eq_zero h0
    subst this
    refine (Any.slices_Sort_string_none sortStr none 0 w).mono ?_
    rintro e w' ⟨rfl, rfl⟩
    exact ⟨rfl, by simpa using h, Below.refl _ _⟩
  · refine (Any.slices_Sort_string sortStr g 0 cap xs w (own_holds h) (Array.getElem?_eq_some_iff.1 hg).1 (by omega)).mono ?_
    rintro e w' ⟨rfl, q, os, rfl⟩
    exact ⟨rfl, own_sorted h (by simp) q os, (Below.refl base w).grown (grownBy_sorted _) hbase (fun k hk => by cases hk; exact hb)⟩
theorem pcompact_any {w : World} {base : Nat} {v : Value} {xs : List (List UInt8)} (hn : xs.length ≤ 1000000) (h : OwnG eN w base v xs) (hbase : base ≤ w.heap.size) :
    Calls Try.prog 28 #[v] w fun e w' => ∃ v', e = .returned v' ∧ OwnG eN w' base v' (Lib.compact xs) ∧ Below base w w' := by
  rcases h.2 with ⟨rfl, h0⟩ | ⟨g, cap, cur, rfl, hb, hg, hnc, _⟩
  · have : xs = [] := List.eq_nil_of_length_eq_zero h0
    subst this
    refine (Any.slices_Compact_string_empty compStr none 0 w).mono ?_
    rintro e w' ⟨rfl, rfl⟩
    exact ⟨_, rfl, h, Below.refl _ _⟩
  · refine (Any.slices_Compact_string compStr g 0 cap xs w (own_holds h) (by omega) hnc).mono ?_
    rintro e w' ⟨rfl, q, rfl⟩
    have hc := comp_len xs
    have h1 := own_sorted h (ts := Lib.compact xs ++ List.replicate (xs.length - (Lib.compact xs).length) []) (by rw [List.length_append, List.length_replicate]; omega) q #[]
    rw [Go.Sort.grow_empty] at h1
    have h2 := grownBy_sorted (w := w) (g := g) (n := q) (os := #[]) (Lib.compact xs ++ List.replicate (xs.length - (Lib.compact xs).length) []).toArray
    rw [Go.Sort.grow_empty] at h2
    exact ⟨_, rfl, own_front h1, (Below.refl base w).grown h2 hbase (fun k hk => by cases hk; exact hb)⟩
theorem psorted_any (Bs : Nat) (A : Option Addr) (len cap : Nat) (xs : List (List UInt8)) (hlen : len ≤ 1000000) (w : World) (hBs : Bs < w.heap.size) (hbx : w.cell? ⟨Bs, 0, none⟩ = some (.slice A len cap)) (hI : RdG eN w w.heap.size A len xs) :
    Calls Try.prog 29 #[.func (.func 35) #[] #[.pointer (some ⟨Bs, 0, none⟩)]] w fun e W' => ∃ v, e = .returned v ∧ OwnG eN W' w.heap.size v (xs.mergeSort leN) ∧ Below w.heap.size w W' := by
  have H := Lib.hid (collect_any Bs A len cap xs hlen w hBs hbx hI)
  have HL := Lib.hid hI.len
  have HN := Lib.hid hlen
  clear hlen hBs hbx hI
  go_enter Try.func29, Try.ntmps29
  go_wp2_with (first
    | (go_at_call 33; refine H.out.mono ?_; rintro e w1 ⟨v, rfl, hown, hb1⟩; have HO := Lib.hid hown; have HB := Lib.hid hb1; clear hown hb1)
    | (go_at_call 34; refine (psort_any (by rw [HL.out]; exact HN.out) HO.out HB.out.size).mono ?_; rintro e w2 ⟨rfl, hown2, hb2⟩; have HO2 := Lib.hid hown2; have HB2 := Lib.hid (HB.out.trans hb2); clear hown2 hb2))
  go_ret
  exact ⟨_, rfl, HO2.out, HB2.out⟩
end Go.Proofs.Yteljijjebocbiaa
