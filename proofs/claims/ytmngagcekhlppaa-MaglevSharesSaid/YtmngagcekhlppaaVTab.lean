/-
  Plain mathematics of stage 17: the table of shares, by visits. The v-th visit is name v % n's turn v / n; its credit ahead of it is (v / n * quanta) % G, so no state is kept but the slots. What it gives: how many slots each name has, that each slot is a name's, the first one's first choice, that scaling changes nothing. No program is walked here.
  Text, compared byte by byte. No program is walked here.
  Plain mathematics of stage 17: shares, and what rises by its names. No program is walked here.
  The table of shares: turns, slots, names. No program is walked here.
-/
import Derived.Test.YtmngagcekhlppaaJMath
import Derived.Test.YtmngagcekhlppaaQB
namespace Go.Proofs.Ytmngagcekhlppaa

/-- Pigeonhole. -/
theorem nodup_le {l : List Nat} : ∀ {l' : List Nat}, l.Nodup → (∀ x, x ∈ l → x ∈ l') → l.length ≤ l'.length := by
  induction l with
  | nil => intro l' _ _; exact Nat.zero_le _
  | cons a l ih =>
    intro l' hn hs
    obtain ⟨h1, h2⟩ := List.nodup_cons.1 hn
    have ha := hs a List.mem_cons_self
    have h3 := ih (l' := l'.erase a) h2 (fun x hx => by
      refine (List.mem_erase_of_ne ?_).2 (hs x (List.mem_cons_of_mem _ hx))
      rintro rfl
      exact h1 hx)
    rw [List.length_erase_of_mem ha] at h3
    have := List.length_pos_of_mem ha
    simp only [List.length_cons]
    omega
theorem map_nodup (c : Nat → Nat) : ∀ m, (∀ j k, j < k → k < m → c j ≠ c k) → ((List.range m).map c).Nodup
  | 0, _ => by simp
  | m + 1, h => by
    rw [List.range_succ, List.map_append, List.nodup_append]
    refine ⟨map_nodup c m (fun j k h1 h2 => h j k h1 (by omega)), by simp, ?_⟩
    intro x hx y hy
    obtain ⟨j, hj, rfl⟩ := List.mem_map.1 hx
    have hj := List.mem_range.1 hj
    simp only [List.map_cons, List.map_nil, List.mem_singleton] at hy
    subst hy
    exact h j m hj (by omega)
/-- Of choices that reach each place at most once, each place is reached. -/
theorem reach (c : Nat → Nat) (m : Nat) (h : ∀ j k, j < k → k < m → c j ≠ c k) (hl : ∀ k, k < m → c k < m) {x : Nat} (hx : x < m) : ∃ k, k < m ∧ c k = x := by
  refine Decidable.byContradiction fun hn => ?_
  have h1 := nodup_le (l' := (List.range m).erase x) (map_nodup c m h) (fun y hy => by
    obtain ⟨k, hk, rfl⟩ := List.mem_map.1 hy
    have hk := List.mem_range.1 hk
    refine (List.mem_erase_of_ne ?_).2 (List.mem_range.2 (hl k hk))
    intro e
    exact hn ⟨k, hk, e⟩)
  rw [List.length_erase_of_mem (List.mem_range.2 hx), List.length_map, List.length_range] at h1
  omega

/-- Turns: how many names, slots, the greatest quanta, each one's quanta and choices. -/
structure Tb where
  n : Nat
  m : Nat
  G : Nat
  q : Nat → Nat
  ch : Nat → Nat → Nat
structure Tb.Ok (t : Tb) : Prop where
  n0 : 0 < t.n
  m0 : 0 < t.m
  g0 : 0 < t.G
  le : ∀ i, i < t.n → t.q i ≤ t.G
  top : ∃ i, i < t.n ∧ t.q i = t.G
  inj : ∀ i, i < t.n → ∀ j k, j < k → k < t.m → t.ch i j ≠ t.ch i k
  lt : ∀ i, i < t.n → ∀ k, k < t.m → t.ch i k < t.m
/-- How many slots no name took; how many a name has. -/
def freeN (S : List Int) : Nat := S.countP fun x => decide (x < 0)
def cntN (S : List Int) (j : Nat) : Nat := S.countP fun x => decide (x = (j : Int))
/-- Does the v-th visit take a slot? -/
def Tb.take (t : Tb) (v : Nat) : Bool := decide (t.G ≤ (v / t.n * t.q (v % t.n)) % t.G + t.q (v % t.n))
def Tb.put (t : Tb) (S : List Int) (i : Nat) : List Int :=
  match (List.range t.m).find? (fun k => decide (S.getD (t.ch i k) 0 < 0)) with
  | some k => S.set (t.ch i k) i
  | none => S
def Tb.tab (t : Tb) : Nat → List Int
  | 0 => List.replicate t.m (-1)
  | v + 1 => if t.take v = true then t.put (t.tab v) (v % t.n) else t.tab v
def Tb.out (t : Tb) : List Int := t.tab (t.n * t.m)

theorem Tb.put_len (t : Tb) (S : List Int) (i : Nat) : (t.put S i).length = S.length := by
  unfold Tb.put
  split
  · exact List.length_set
  · rfl
theorem Tb.tab_len (t : Tb) : ∀ v, (t.tab v).length = t.m
  | 0 => List.length_replicate
  | v + 1 => by
    unfold Tb.tab
    split
    · rw [Tb.put_len, tab_len t v]
    · exact tab_len t v
/-- The first choice that no name took. -/
theorem Tb.put_at {t : Tb} {S : List Int} {i k : Nat} {x : Int} (hk : k < t.m) (h1 : S[t.ch i k]? = some x) (h2 : x < 0) (h3 : ∀ j, j < k → ∃ y, S[t.ch i j]? = some y ∧ 0 ≤ y) : t.put S i = S.set (t.ch i k) i := by
  unfold Tb.put
  have e : (List.range t.m).find? (fun k => decide (S.getD (t.ch i k) 0 < 0)) = some k := by
    rw [List.find?_range_eq_some]
    refine ⟨?_, List.mem_range.2 hk, ?_⟩
    · rw [List.getD_eq_getElem?_getD, h1]
      exact decide_eq_true h2
    · intro j hj
      obtain ⟨y, h4, h5⟩ := h3 j hj
      rw [List.getD_eq_getElem?_getD, h4]
      simp only [Option.getD_some, Bool.not_eq_true', decide_eq_false_iff_not]
      omega
  rw [e]
theorem free_pos {S : List Int} (h : 0 < freeN S) : ∃ (x : Nat) (y : Int), S[x]? = some y ∧ y < 0 := by
  unfold freeN at h
  obtain ⟨y, h1, h2⟩ := List.countP_pos_iff.1 h
  obtain ⟨x, h3⟩ := List.getElem?_of_mem h1
  exact ⟨x, y, h3, by simpa using h2⟩
theorem free_zero {S : List Int} (h : freeN S = 0) {x : Nat} {y : Int} (hx : S[x]? = some y) : 0 ≤ y := by
  unfold freeN at h
  have := List.countP_eq_zero.1 h y (List.mem_of_getElem? hx)
  simp at this
  omega
/-- While a slot is free, each name has a first choice that is. -/
theorem Tb.Ok.first {t : Tb} (ht : t.Ok) {S : List Int} (hS : S.length = t.m) (hf : 0 < freeN S) {i : Nat} (hi : i < t.n) : ∃ k x, k < t.m ∧ S[t.ch i k]? = some x ∧ x < 0 ∧ ∀ j, j < k → ∃ y, S[t.ch i j]? = some y ∧ 0 ≤ y := by
  obtain ⟨x, y, h1, h2⟩ := free_pos hf
  have hx : x < t.m := by
    rw [← hS]
    exact (List.getElem?_eq_some_iff.1 h1).1
  obtain ⟨k, hk, rfl⟩ := reach (t.ch i) t.m (ht.inj i hi) (ht.lt i hi) hx
  have key : ∀ a, a ≤ k → (∀ j, j < a → ∃ y, S[t.ch i j]? = some y ∧ 0 ≤ y) ∨ ∃ k' x, k' < a ∧ S[t.ch i k']? = some x ∧ x < 0 ∧ ∀ j, j < k' → ∃ y, S[t.ch i j]? = some y ∧ 0 ≤ y := by
    intro a
    induction a with
    | zero => intro _; exact .inl fun j hj => absurd hj (by omega)
    | succ a ih =>
      intro ha
      rcases ih (by omega) with h | ⟨k', x, h3, h4⟩
      · have hl : t.ch i a < S.length := by rw [hS]; exact ht.lt i hi a (by omega)
        rcases Int.lt_or_le S[t.ch i a] 0 with h5 | h5
        · exact .inr ⟨a, _, by omega, List.getElem?_eq_getElem hl, h5, h⟩
        · refine .inl fun j hj => ?_
          rcases Nat.lt_or_ge j a with h6 | h6
          · exact h j h6
          · obtain rfl : j = a := by omega
            exact ⟨_, List.getElem?_eq_getElem hl, h5⟩
      · exact .inr ⟨k', x, by omega, h4⟩
  rcases key k (Nat.le_refl _) with h | ⟨k', x, h3, h4, h5, h6⟩
  · exact ⟨k, y, hk, h1, h2, h⟩
  · exact ⟨k', x, by omega, h4, h5, h6⟩
theorem Tb.put_full {t : Tb} {S : List Int} (hf : freeN S = 0) (i : Nat) : t.put S i = S := by
  unfold Tb.put
  split
  · rename_i k hk
    have h1 := List.find?_some hk
    rw [List.getD_eq_getElem?_getD] at h1
    cases h2 : S[t.ch i k]? with
    | none => rw [h2] at h1; simp at h1
    | some y =>
      rw [h2] at h1
      have := free_zero hf h2
      simp at h1
      omega
  · rfl
/-- What is taken stays. -/
theorem Tb.put_keep {t : Tb} {S : List Int} (i : Nat) {x : Nat} {y : Int} (h : S[x]? = some y) (hy : 0 ≤ y) : (t.put S i)[x]? = some y := by
  unfold Tb.put
  split
  · rename_i k hk
    have h1 := List.find?_some hk
    rw [List.getElem?_set_ne, h]
    rintro rfl
    rw [List.getD_eq_getElem?_getD, h] at h1
    simp at h1
    omega
  · exact h
theorem Tb.tab_keep {t : Tb} {v : Nat} {x : Nat} {y : Int} (h : (t.tab v)[x]? = some y) (hy : 0 ≤ y) : ∀ d, (t.tab (v + d))[x]? = some y
  | 0 => h
  | d + 1 => by
    rw [← Nat.add_assoc]
    unfold Tb.tab
    split
    · exact t.put_keep _ (tab_keep h hy d) hy
    · exact tab_keep h hy d
theorem Tb.tab_full {t : Tb} {v : Nat} (h : freeN (t.tab v) = 0) : ∀ d, t.tab (v + d) = t.tab v
  | 0 => rfl
  | d + 1 => by
    have ih := tab_full h d
    rw [← Nat.add_assoc]
    conv => lhs; unfold Tb.tab
    rw [ih]
    split
    · exact t.put_full h _
    · rfl
theorem cnt_set {S : List Int} {x : Nat} {y : Int} (h : S[x]? = some y) (hy : y < 0) (i j : Nat) : cntN (S.set x i) j = cntN S j + if j = i then 1 else 0 := by
  obtain ⟨hl, he⟩ := List.getElem?_eq_some_iff.1 h
  unfold cntN
  rw [List.countP_set hl, he]
  rw [if_neg (by simp; omega)]
  by_cases hij : j = i
  · subst hij
    simp
  · rw [if_neg hij, if_neg (by simp; omega), Nat.sub_zero]
theorem free_set {S : List Int} {x : Nat} {y : Int} (h : S[x]? = some y) (hy : y < 0) (i : Nat) : freeN S = freeN (S.set x i) + 1 := by
  obtain ⟨hl, he⟩ := List.getElem?_eq_some_iff.1 h
  have hp : 0 < freeN S := by
    unfold freeN
    refine List.countP_pos_iff.2 ⟨y, List.mem_of_getElem? h, by simpa using hy⟩
  unfold freeN at hp ⊢
  rw [List.countP_set hl, he, if_pos (by simpa using hy), if_neg (by simp)]
  omega
/-- How often name j was gone through in the first v visits. -/
def Tb.rd (t : Tb) (j v : Nat) : Nat := v / t.n + if j < v % t.n then 1 else 0
theorem divmod_succ {n : Nat} (hn : 0 < n) (v : Nat) : (v % n + 1 < n ∧ (v + 1) / n = v / n ∧ (v + 1) % n = v % n + 1) ∨ (v % n + 1 = n ∧ (v + 1) / n = v / n + 1 ∧ (v + 1) % n = 0) := by
  have h1 := Nat.mod_lt v hn
  have h2 := Nat.div_add_mod v n
  rcases Nat.lt_or_ge (v % n + 1) n with h | h
  · left
    have e : v + 1 = (v % n + 1) + n * (v / n) := by omega
    refine ⟨h, ?_, ?_⟩
    · rw [e, Nat.add_mul_div_left _ _ hn, Nat.div_eq_of_lt h, Nat.zero_add]
    · rw [e, Nat.add_mul_mod_self_left, Nat.mod_eq_of_lt h]
  · right
    have e : v + 1 = n * (v / n + 1) := by rw [Nat.mul_add]; omega
    refine ⟨by omega, ?_, ?_⟩
    · rw [e, Nat.mul_div_cancel_left _ hn]
    · rw [e, Nat.mul_mod_right]
theorem Tb.rd_succ {t : Tb} (hn : 0 < t.n) {j : Nat} (hj : j < t.n) (v : Nat) : t.rd j (v + 1) = t.rd j v + if j = v % t.n then 1 else 0 := by
  unfold Tb.rd
  rcases divmod_succ hn v with ⟨h1, h2, h3⟩ | ⟨h1, h2, h3⟩
  · rw [h2, h3]
    repeat' split
    all_goals omega
  · rw [h2, h3]
    repeat' split
    all_goals omega
theorem Tb.rd_own {t : Tb} (v : Nat) : t.rd (v % t.n) v = v / t.n := by
  unfold Tb.rd
  rw [if_neg (Nat.lt_irrefl _)]
  rfl
/-- The credit: a turn more. -/
theorem turn_div {q G : Nat} (hG : 0 < G) (hq : q ≤ G) (r : Nat) : (r + 1) * q / G = r * q / G + if G ≤ r * q % G + q then 1 else 0 := by
  have h1 := Nat.div_add_mod (r * q) G
  have h2 := Nat.mod_lt (r * q) hG
  have e : (r + 1) * q = (r * q % G + q) + G * (r * q / G) := by rw [Nat.add_mul, Nat.one_mul]; omega
  rw [e, Nat.add_mul_div_left _ _ hG]
  split
  · rename_i h
    have : (r * q % G + q) / G = 1 := Nat.div_eq_of_lt_le (by omega) (by omega)
    omega
  · rename_i h
    rw [Nat.div_eq_of_lt (by omega)]
    omega
theorem turn_mod {q G : Nat} (hG : 0 < G) (hq : q ≤ G) (r : Nat) : (r + 1) * q % G = if G ≤ r * q % G + q then r * q % G + q - G else r * q % G + q := by
  have h2 := Nat.mod_lt (r * q) hG
  have e : (r + 1) * q % G = (r * q % G + q) % G := by rw [Nat.add_mul, Nat.one_mul, Nat.mod_add_mod]
  rw [e]
  split
  · rename_i h
    rw [Nat.mod_eq_sub_mod h, Nat.mod_eq_of_lt (by omega)]
  · rename_i h
    exact Nat.mod_eq_of_lt (by omega)
/-- A visit that takes. -/
theorem Tb.tab_take {t : Tb} (ht : t.Ok) {v : Nat} (hf : 0 < freeN (t.tab v)) (hk : t.take v = true) : ∃ k x, k < t.m ∧ (t.tab v)[t.ch (v % t.n) k]? = some x ∧ x < 0 ∧ (∀ j, j < k → ∃ y, (t.tab v)[t.ch (v % t.n) j]? = some y ∧ 0 ≤ y) ∧ t.tab (v + 1) = (t.tab v).set (t.ch (v % t.n) k) (v % t.n : Nat) := by
  obtain ⟨k, x, h1, h2, h3, h4⟩ := ht.first (t.tab_len v) hf (Nat.mod_lt v ht.n0)
  refine ⟨k, x, h1, h2, h3, h4, ?_⟩
  conv => lhs; unfold Tb.tab
  rw [if_pos hk]
  exact t.put_at h1 h2 h3 h4
theorem Tb.tab_idle {t : Tb} {v : Nat} (hk : t.take v = false) : t.tab (v + 1) = t.tab v := by
  conv => lhs; unfold Tb.tab
  rw [if_neg (by rw [hk]; exact Bool.false_ne_true)]
theorem Tb.tab_cnt {t : Tb} (ht : t.Ok) : ∀ v, (∀ u, u < v → 0 < freeN (t.tab u)) → ∀ j, j < t.n → cntN (t.tab v) j = t.rd j v * t.q j / t.G
  | 0, _, j, hj => by
    unfold Tb.tab Tb.rd cntN
    rw [Nat.zero_div, Nat.zero_mod, if_neg (Nat.not_lt_zero _), Nat.zero_add, Nat.zero_mul, Nat.zero_div, List.countP_eq_zero]
    intro a ha
    rw [List.eq_of_mem_replicate ha]
    simp
  | v + 1, h, j, hj => by
    have ih := tab_cnt ht v (fun u hu => h u (by omega)) j hj
    have hf := h v (by omega)
    rw [t.rd_succ ht.n0 hj]
    by_cases hji : j = v % t.n
    · rw [if_pos hji, turn_div ht.g0 (ht.le j hj), ← ih]
      have e : t.rd j v = v / t.n := by rw [hji]; exact t.rd_own v
      rw [e]
      cases hk : t.take v with
      | true =>
        obtain ⟨k, x, h1, h2, h3, h4, h5⟩ := t.tab_take ht hf hk
        rw [h5, cnt_set h2 h3, if_pos hji]
        unfold Tb.take at hk
        rw [← hji] at hk
        rw [if_pos (of_decide_eq_true hk)]
      | false =>
        rw [t.tab_idle hk]
        unfold Tb.take at hk
        rw [← hji] at hk
        rw [if_neg (of_decide_eq_false hk)]
        rfl
    · rw [if_neg hji, Nat.add_zero (t.rd j v), ← ih]
      cases hk : t.take v with
      | true =>
        obtain ⟨k, x, h1, h2, h3, h4, h5⟩ := t.tab_take ht hf hk
        rw [h5, cnt_set h2 h3, if_neg hji, Nat.add_zero]
      | false => rw [t.tab_idle hk]
/-- Each slot is free or a name's. -/
theorem Tb.tab_range {t : Tb} (hn : 0 < t.n) : ∀ v x, x ∈ t.tab v → x = -1 ∨ 0 ≤ x ∧ x < t.n
  | 0, x, h => .inl (List.eq_of_mem_replicate h)
  | v + 1, x, h => by
    unfold Tb.tab at h
    split at h
    · unfold Tb.put at h
      split at h
      · rcases List.mem_or_eq_of_mem_set h with h | rfl
        · exact tab_range hn v x h
        · have := Nat.mod_lt v hn
          right
          omega
      · exact tab_range hn v x h
    · exact tab_range hn v x h
def sumC (c : Nat → Nat) : Nat → Nat
  | 0 => 0
  | n + 1 => sumC c n + c n
theorem cnt_sum (S : List Int) : ∀ n : Nat, sumC (cntN S) n = S.countP fun x => decide (0 ≤ x ∧ x < (n : Int))
  | 0 => by
    unfold sumC
    symm
    rw [List.countP_eq_zero]
    intro a _
    simp
  | n + 1 => by
    unfold sumC
    rw [cnt_sum S n]
    unfold cntN
    induction S with
    | nil => rfl
    | cons a S ih =>
      simp only [List.countP_cons]
      rw [← ih]
      simp only [decide_eq_true_eq]
      repeat' split
      all_goals omega
theorem Tb.tab_sum {t : Tb} (hn : 0 < t.n) (v : Nat) : sumC (cntN (t.tab v)) t.n + freeN (t.tab v) = t.m := by
  rw [cnt_sum, ← t.tab_len v]
  have h := t.tab_range hn v
  generalize t.tab v = S at h
  unfold freeN
  induction S with
  | nil => rfl
  | cons a S ih =>
    have ih := ih (fun x hx => h x (List.mem_cons_of_mem _ hx))
    have ha := h a List.mem_cons_self
    simp only [List.countP_cons, List.length_cons, decide_eq_true_eq]
    repeat' split
    all_goals omega
theorem sum_le (c : Nat → Nat) : ∀ {n j : Nat}, j < n → c j ≤ sumC c n
  | n + 1, j, h => by
    unfold sumC
    rcases Nat.lt_or_ge j n with h1 | h1
    · have := sum_le c h1
      omega
    · obtain rfl : j = n := by omega
      omega
theorem Tb.free_mono {t : Tb} {v : Nat} (h : freeN (t.tab v) = 0) {w : Nat} (hw : v ≤ w) : freeN (t.tab w) = 0 := by
  obtain ⟨d, rfl⟩ := Nat.le.dest hw
  rw [t.tab_full h d]
  exact h
/-- So many visits fill the table. -/
theorem Tb.out_full {t : Tb} (ht : t.Ok) : freeN t.out = 0 := by
  refine Nat.eq_zero_of_not_pos fun hf => ?_
  have hall : ∀ u, u < t.n * t.m → 0 < freeN (t.tab u) := fun u hu => Nat.pos_of_ne_zero fun h0 => by
    have := t.free_mono h0 (Nat.le_of_lt hu)
    unfold Tb.out at hf
    omega
  obtain ⟨i, hi, hq⟩ := ht.top
  have h1 := t.tab_cnt ht _ hall i hi
  have e : t.rd i (t.n * t.m) = t.m := by
    unfold Tb.rd
    rw [Nat.mul_div_cancel_left _ ht.n0, Nat.mul_mod_right, if_neg (Nat.not_lt_zero _), Nat.add_zero]
  rw [e, hq, Nat.mul_div_cancel _ ht.g0] at h1
  have h2 := t.tab_sum ht.n0 (t.n * t.m)
  have h3 := sum_le (cntN (t.tab (t.n * t.m))) hi
  unfold Tb.out at hf
  omega
theorem least (P : Nat → Prop) [DecidablePred P] : ∀ {N : Nat}, P N → ∃ e, e ≤ N ∧ P e ∧ ∀ u, u < e → ¬ P u
  | 0, h => ⟨0, Nat.le_refl _, h, fun u hu => absurd hu (by omega)⟩
  | N + 1, h => by
    by_cases hx : ∃ u, u ≤ N ∧ P u
    · obtain ⟨u, h1, h2⟩ := hx
      have key : ∀ d : Nat, ∀ u, u ≤ d → P u → ∃ e, e ≤ u ∧ P e ∧ ∀ u, u < e → ¬ P u := by
        intro d
        induction d with
        | zero =>
          intro u hu hp
          exact ⟨u, Nat.le_refl _, hp, fun a ha => absurd ha (by omega)⟩
        | succ d ih =>
          intro u hu hp
          by_cases hy : ∃ a, a < u ∧ P a
          · obtain ⟨a, h3, h4⟩ := hy
            obtain ⟨e, h5, h6, h7⟩ := ih a (by omega) h4
            exact ⟨e, by omega, h6, h7⟩
          · exact ⟨u, Nat.le_refl _, hp, fun a ha hb => hy ⟨a, ha, hb⟩⟩
      obtain ⟨e, h3, h4, h5⟩ := key N u h1 h2
      exact ⟨e, by omega, h4, h5⟩
    · exact ⟨N + 1, Nat.le_refl _, h, fun u hu hp => hx ⟨u, by omega, hp⟩⟩
/-- How many slots each name has, of a whole table: r turns' or r + 1 turns'. -/
theorem Tb.out_cnt {t : Tb} (ht : t.Ok) : ∃ r i : Nat, i < t.n ∧ ∀ j, j < t.n → cntN t.out j = (r + if j ≤ i then 1 else 0) * t.q j / t.G := by
  obtain ⟨e, h1, h2, h3⟩ := least (fun v => freeN (t.tab v) = 0) (t.out_full ht)
  have h4 : t.out = t.tab e := by
    unfold Tb.out
    obtain ⟨d, hd⟩ := Nat.le.dest h1
    rw [← hd]
    exact t.tab_full h2 d
  have h5 := t.tab_cnt ht e (fun u hu => Nat.pos_of_ne_zero (h3 u hu))
  cases e with
  | zero =>
    exfalso
    have h6 : freeN (t.tab 0) = t.m := by
      unfold Tb.tab freeN
      rw [List.countP_replicate]
      rfl
    have := ht.m0
    omega
  | succ v =>
    refine ⟨v / t.n, v % t.n, Nat.mod_lt v ht.n0, fun j hj => ?_⟩
    rw [h4, h5 j hj, t.rd_succ ht.n0 hj]
    congr 2
    unfold Tb.rd
    repeat' split
    all_goals omega
theorem Tb.out_len (t : Tb) : t.out.length = t.m := t.tab_len _
theorem Tb.out_range {t : Tb} (ht : t.Ok) {x : Int} (hx : x ∈ t.out) : 0 ≤ x ∧ x < t.n := by
  rcases t.tab_range ht.n0 _ x hx with rfl | h
  · exfalso
    obtain ⟨k, hk⟩ := List.getElem?_of_mem hx
    have := free_zero (t.out_full ht) hk
    omega
  · exact h
theorem Tb.out_sum {t : Tb} (ht : t.Ok) : sumC (cntN t.out) t.n = t.m := by
  have h1 := t.tab_sum ht.n0 (t.n * t.m)
  have h2 := t.out_full ht
  unfold Tb.out at h2 ⊢
  omega
/-- The first with the greatest quanta has its first choice. -/
theorem Tb.out_first {t : Tb} (ht : t.Ok) {i : Nat} (hi : i < t.n) (hq : t.q i = t.G) (hj : ∀ j, j < i → t.q j < t.G) : t.out[t.ch i 0]? = some (i : Int) := by
  have h1 : ∀ v, v ≤ i → t.tab v = List.replicate t.m (-1) := by
    intro v
    induction v with
    | zero => intro _; rfl
    | succ v ih =>
      intro hv
      rw [t.tab_idle (by
        unfold Tb.take
        have hv2 : v < t.n := by omega
        rw [Nat.div_eq_of_lt hv2, Nat.mod_eq_of_lt hv2, Nat.zero_mul, Nat.zero_mod, Nat.zero_add]
        exact decide_eq_false (Nat.not_le_of_lt (hj v (by omega))))]
      exact ih (by omega)
  have h2 := h1 i (Nat.le_refl _)
  have hl := ht.lt i hi 0 ht.m0
  have h3 : (t.tab (i + 1))[t.ch i 0]? = some (i : Int) := by
    have hk : t.take i = true := by
      unfold Tb.take
      rw [Nat.div_eq_of_lt hi, Nat.mod_eq_of_lt hi, Nat.zero_mul, Nat.zero_mod, Nat.zero_add, hq]
      exact decide_eq_true (Nat.le_refl _)
    conv => lhs; unfold Tb.tab
    rw [if_pos hk, h2, Nat.mod_eq_of_lt hi, t.put_at (k := 0) (x := -1) ht.m0 (by rw [List.getElem?_replicate, if_pos hl]) (by omega) (fun j hj => absurd hj (by omega)), List.getElem?_set_self (by rw [List.length_replicate]; exact hl)]
  have h4 : i + 1 ≤ t.n * t.m := by
    have := Nat.mul_le_mul hi ht.m0
    omega
  obtain ⟨d, hd⟩ := Nat.le.dest h4
  unfold Tb.out
  rw [← hd]
  exact t.tab_keep h3 (by omega) d
theorem find_same {α : Type} {p q : α → Bool} : ∀ {l : List α}, (∀ x, x ∈ l → p x = q x) → l.find? p = l.find? q
  | [], _ => rfl
  | a :: l, h => by
    rw [List.find?_cons, List.find?_cons, h a List.mem_cons_self, find_same (fun x hx => h x (List.mem_cons_of_mem _ hx))]
/-- What the table depends on. -/
theorem Tb.out_congr {t u : Tb} (hn : t.n = u.n) (hn0 : 0 < t.n) (hm : t.m = u.m) (hk : ∀ v, t.take v = u.take v) (hc : ∀ i, i < t.n → ∀ k, k < t.m → t.ch i k = u.ch i k) : t.out = u.out := by
  have h1 : ∀ v, t.tab v = u.tab v := by
    intro v
    induction v with
    | zero => unfold Tb.tab; rw [hm]
    | succ v ih =>
      unfold Tb.tab
      rw [hk v, ih, ← hn]
      have hi := Nat.mod_lt v hn0
      have e : t.put (u.tab v) (v % t.n) = u.put (u.tab v) (v % t.n) := by
        have e2 : (List.range t.m).find? (fun k => decide ((u.tab v).getD (t.ch (v % t.n) k) 0 < 0)) = (List.range t.m).find? (fun k => decide ((u.tab v).getD (u.ch (v % t.n) k) 0 < 0)) := by
          apply find_same
          intro k hk
          rw [hc _ hi k (List.mem_range.1 hk)]
        unfold Tb.put
        rw [← hm, e2]
        split
        · rename_i k hk
          rw [hc _ hi k (List.mem_range.1 (List.mem_of_find?_eq_some hk))]
        · rfl
      rw [e]
  unfold Tb.out
  rw [h1, hn, hm]
/-- Quanta that are all so many times as many. -/
theorem take_times {q G k : Nat} (hk : 0 < k) (r : Nat) : decide (k * G ≤ (r * (k * q)) % (k * G) + k * q) = decide (G ≤ (r * q) % G + q) := by
  rw [show r * (k * q) = k * (r * q) by rw [Nat.mul_left_comm], Nat.mul_mod_mul_left, ← Nat.mul_add]
  by_cases h : G ≤ r * q % G + q
  · rw [decide_eq_true h, decide_eq_true (Nat.mul_le_mul_left k h)]
  · rw [decide_eq_false h, decide_eq_false (fun h2 => h (Nat.le_of_mul_le_mul_left h2 hk))]
end Go.Proofs.Ytmngagcekhlppaa
namespace Go.Proofs.Ytmngagcekhlppaa
open Go.RowKit Go.Lib

theorem less_irr : ∀ x : List UInt8, Op.bytesLess x x = false
  | [] => rfl
  | a :: x => by
    unfold Op.bytesLess
    rw [less_irr x]
    simp
theorem less_trans : ∀ {x y z : List UInt8}, Op.bytesLess x y = true → Op.bytesLess y z = true → Op.bytesLess x z = true
  | x, y, [], _, h => by
    unfold Op.bytesLess at h
    cases h
  | x, [], c :: z, h, _ => by
    unfold Op.bytesLess at h
    cases h
  | [], b :: y, c :: z, _, _ => rfl
  | a :: x, b :: y, c :: z, h1, h2 => by
    unfold Op.bytesLess at h1 h2 ⊢
    simp only [Bool.or_eq_true, Bool.and_eq_true, decide_eq_true_eq, beq_iff_eq] at h1 h2 ⊢
    rcases h1 with h1 | ⟨rfl, h1⟩
    · rcases h2 with h2 | ⟨rfl, h2⟩
      · exact .inl (UInt8.lt_trans h1 h2)
      · exact .inl h1
    · rcases h2 with h2 | ⟨rfl, h2⟩
      · exact .inl h2
      · exact .inr ⟨rfl, less_trans h1 h2⟩
theorem less_asym {x y : List UInt8} (h : Op.bytesLess x y = true) : Op.bytesLess y x = false := by
  apply Bool.eq_false_iff.2
  intro h2
  have h3 := less_trans h h2
  rw [less_irr] at h3
  cases h3
theorem less_other : ∀ {x y : List UInt8}, Op.bytesLess x y = false → x ≠ y → Op.bytesLess y x = true
  | [], [], _, h => absurd rfl h
  | [], _ :: _, h, _ => by
    unfold Op.bytesLess at h
    cases h
  | _ :: _, [], _, _ => rfl
  | a :: x, b :: y, h, hn => by
    unfold Op.bytesLess at h ⊢
    simp only [Bool.or_eq_false_iff, Bool.and_eq_false_iff, decide_eq_false_iff_not, Bool.or_eq_true, Bool.and_eq_true, decide_eq_true_eq, beq_iff_eq, beq_eq_false_iff_ne] at h ⊢
    obtain ⟨h1, h2⟩ := h
    by_cases hab : a = b
    · subst hab
      refine .inr ⟨rfl, less_other ?_ (fun e => hn (by rw [e]))⟩
      rcases h2 with h2 | h2
      · exact absurd rfl h2
      · exact h2
    · left
      rcases UInt8.lt_or_lt_of_ne hab with h3 | h3
      · exact absurd h3 h1
      · exact h3
/-- A share. -/
structure Shr where
  nm : List UInt8
  q : Int
end Go.Proofs.Ytmngagcekhlppaa
namespace Go.Proofs.Ytmngagcekhlppaa
open Go.RowKit Go.Lib

/-- Laid in among what rises. -/
def insS (x : Shr) : List Shr → List Shr
  | [] => [x]
  | y :: l => if Op.bytesLess y.nm x.nm = true then y :: insS x l else x :: y :: l
def riseF (out : List Shr) (x : Shr) : List Shr := if x.q = 0 then out else insS x out
/-- Those with quanta, rising by their names. -/
def riseL (l : List Shr) : List Shr := l.foldl riseF []
theorem insS_perm (x : Shr) : ∀ l, (insS x l).Perm (x :: l)
  | [] => List.Perm.refl _
  | y :: l => by
    unfold insS
    split
    · exact ((insS_perm x l).cons y).trans (List.Perm.swap x y l)
    · exact List.Perm.refl _
/-- Where it is laid in: behind a first part of less ones. -/
theorem insS_at (x : Shr) : ∀ (l : List Shr) (k : Nat), k ≤ l.length → (∀ j y, j < k → l[j]? = some y → Op.bytesLess y.nm x.nm = true) → (∀ y, l[k]? = some y → Op.bytesLess y.nm x.nm = false) → insS x l = l.take k ++ x :: l.drop k
  | [], k, hk, _, _ => by
    obtain rfl : k = 0 := by simpa using hk
    rfl
  | y :: l, 0, _, _, h2 => by
    unfold insS
    rw [if_neg (by rw [h2 y rfl]; exact Bool.false_ne_true)]
    rfl
  | y :: l, k + 1, hk, h1, h2 => by
    unfold insS
    rw [if_pos (h1 0 y (by omega) rfl), insS_at x l k (by simpa using hk) (fun j z hj hz => h1 (j + 1) z (by omega) (by simpa using hz)) (fun z hz => h2 z (by simpa using hz))]
    rfl
theorem riseF_perm : ∀ (l out : List Shr), (l.foldl riseF out).Perm (out ++ l.filter fun x => decide (x.q ≠ 0))
  | [], out => by simp
  | x :: l, out => by
    rw [List.foldl_cons]
    refine (riseF_perm l _).trans ?_
    unfold riseF
    by_cases h : x.q = 0
    · rw [if_pos h, List.filter_cons_of_neg (by simpa using h)]
    · rw [if_neg h, List.filter_cons_of_pos (by simpa using h)]
      exact ((insS_perm x out).append_right _).trans (List.perm_middle.symm)
theorem riseL_perm (l : List Shr) : (riseL l).Perm (l.filter fun x => decide (x.q ≠ 0)) := riseF_perm l []
theorem riseL_mem {l : List Shr} {x : Shr} : x ∈ riseL l ↔ x ∈ l ∧ x.q ≠ 0 := by
  rw [(riseL_perm l).mem_iff, List.mem_filter, decide_eq_true_eq]
/-- No two have one name; rising. -/
def Apart (l : List Shr) : Prop := l.Pairwise fun a b => a.nm ≠ b.nm
def Rising (l : List Shr) : Prop := l.Pairwise fun a b => Op.bytesLess a.nm b.nm = true
theorem insS_rise {x : Shr} : ∀ {l : List Shr}, Rising l → (∀ y, y ∈ l → y.nm ≠ x.nm) → Rising (insS x l)
  | [], _, _ => by
    unfold insS Rising
    simp
  | y :: l, h, hx => by
    unfold insS
    obtain ⟨h1, h2⟩ := List.pairwise_cons.1 h
    split
    · rename_i hy
      refine List.pairwise_cons.2 ⟨fun z hz => ?_, insS_rise h2 (fun z hz => hx z (List.mem_cons_of_mem _ hz))⟩
      rcases List.mem_cons.1 ((insS_perm x l).mem_iff.1 hz) with rfl | hz
      · exact hy
      · exact h1 z hz
    · rename_i hy
      have h3 := less_other (Bool.eq_false_iff.2 hy) (hx y List.mem_cons_self)
      refine List.pairwise_cons.2 ⟨fun z hz => ?_, h⟩
      rcases List.mem_cons.1 hz with rfl | hz
      · exact h3
      · exact less_trans h3 (h1 z hz)
theorem riseF_rise : ∀ {l out : List Shr}, Rising out → Apart l → (∀ a b, a ∈ out → b ∈ l → a.nm ≠ b.nm) → Rising (l.foldl riseF out)
  | [], out, h, _, _ => h
  | x :: l, out, h, ha, hb => by
    obtain ⟨h1, h2⟩ := List.pairwise_cons.1 ha
    rw [List.foldl_cons]
    unfold riseF
    split
    · exact riseF_rise h h2 (fun a b h3 h4 => hb a b h3 (List.mem_cons_of_mem _ h4))
    · refine riseF_rise (insS_rise h (fun y hy => hb y x hy List.mem_cons_self)) h2 (fun a b h3 h4 => ?_)
      rcases List.mem_cons.1 ((insS_perm x out).mem_iff.1 h3) with rfl | h5
      · exact h1 b h4
      · exact hb a b h5 (List.mem_cons_of_mem _ h4)
theorem riseL_rise {l : List Shr} (h : Apart l) : Rising (riseL l) := riseF_rise List.Pairwise.nil h (fun _ _ h => by cases h)
/-- What rises is told by what is in it. -/
theorem rise_eq : ∀ {l r : List Shr}, Rising l → Rising r → l.Perm r → l = r
  | [], r, _, _, h => h.nil_eq
  | x :: l, [], _, _, h => by
    have := h.length_eq
    simp at this
  | x :: l, y :: r, h1, h2, h => by
    obtain ⟨h3, h4⟩ := List.pairwise_cons.1 h1
    obtain ⟨h5, h6⟩ := List.pairwise_cons.1 h2
    have hxy : x = y := by
      rcases List.mem_cons.1 (h.mem_iff.1 List.mem_cons_self) with rfl | h7
      · rfl
      · rcases List.mem_cons.1 (h.mem_iff.2 List.mem_cons_self) with rfl | h8
        · rfl
        · have h9 := less_asym (h5 x h7)
          rw [h3 y h8] at h9
          cases h9
    subst hxy
    rw [rise_eq h4 h6 (h.cons_inv)]
theorem Apart.perm {l r : List Shr} (h : Apart l) (hp : l.Perm r) : Apart r := hp.pairwise h (fun h => fun e => h e.symm)
/-- The order of shares doesn't matter. -/
theorem riseL_perm_eq {l r : List Shr} (h : Apart l) (hp : l.Perm r) : riseL l = riseL r :=
  rise_eq (riseL_rise h) (riseL_rise (h.perm hp)) (((riseL_perm l).trans (hp.filter _)).trans (riseL_perm r).symm)
theorem Rising.apart {l : List Shr} (h : Rising l) : Apart l := List.Pairwise.imp (fun {a b} h e => by rw [e, less_irr] at h; cases h) h
theorem riseL_twice {l : List Shr} (h : Apart l) : riseL (riseL l) = riseL l := by
  have h1 := riseL_rise h
  refine rise_eq (riseL_rise h1.apart) h1 ((riseL_perm _).trans ?_)
  rw [List.filter_eq_self.2]
  intro x hx
  exact decide_eq_true (riseL_mem.1 hx).2
theorem riseL_turn {l : List Shr} (h : Apart l) (k : Nat) : riseL (l.drop k ++ l.take k) = riseL l := by
  symm
  refine riseL_perm_eq h ?_
  have h1 := List.perm_append_comm (l₁ := l.take k) (l₂ := l.drop k)
  rwa [List.take_append_drop] at h1
/-- All quanta so many times as many. -/
def Shr.times (k : Nat) (x : Shr) : Shr := ⟨x.nm, x.q * k⟩
theorem insS_times (k : Nat) (x : Shr) : ∀ l : List Shr, insS (x.times k) (l.map (Shr.times k)) = (insS x l).map (Shr.times k)
  | [] => rfl
  | y :: l => by
    rw [List.map_cons]
    unfold insS
    by_cases h : Op.bytesLess y.nm x.nm = true
    · rw [if_pos h, if_pos (show Op.bytesLess (y.times k).nm (x.times k).nm = true from h), List.map_cons, insS_times k x l]
    · rw [if_neg h, if_neg (show ¬ Op.bytesLess (y.times k).nm (x.times k).nm = true from h), List.map_cons, List.map_cons]
theorem riseF_times {k : Nat} (hk : 0 < k) : ∀ l out : List Shr, (l.map (Shr.times k)).foldl riseF (out.map (Shr.times k)) = (l.foldl riseF out).map (Shr.times k)
  | [], _ => rfl
  | x :: l, out => by
    rw [List.map_cons, List.foldl_cons, List.foldl_cons]
    have e : riseF (out.map (Shr.times k)) (x.times k) = (riseF out x).map (Shr.times k) := by
      unfold riseF
      have h1 : (x.times k).q = 0 ↔ x.q = 0 := by
        unfold Shr.times
        constructor
        · intro h
          rcases Int.mul_eq_zero.1 h with h | h
          · exact h
          · omega
        · intro h
          rw [show (Shr.mk x.nm (x.q * k)).q = x.q * k from rfl, h, Int.zero_mul]
      by_cases h : x.q = 0
      · rw [if_pos h, if_pos (h1.2 h)]
      · rw [if_neg h, if_neg (fun h2 => h (h1.1 h2)), insS_times]
    rw [e, riseF_times hk l]
theorem riseL_times {k : Nat} (hk : 0 < k) (l : List Shr) : riseL (l.map (Shr.times k)) = (riseL l).map (Shr.times k) := riseF_times hk l []
/-- May shares be? -/
structure MayS (l : List Shr) : Prop where
  few : l.length ≤ 1024
  qu : ∀ x, x ∈ l → 0 ≤ x.q ∧ x.q ≤ 1024000
  apart : Apart l
theorem MayS.rise {l : List Shr} (h : MayS l) : MayS (riseL l) where
  few := by
    have h1 := (riseL_perm l).length_eq
    have h2 := List.length_filter_le (fun x : Shr => decide (x.q ≠ 0)) l
    have := h.few
    omega
  qu := fun x hx => h.qu x (riseL_mem.1 hx).1
  apart := (riseL_rise h.apart).apart
theorem MayS.turn {l : List Shr} (h : MayS l) (k : Nat) : MayS (l.drop k ++ l.take k) := by
  have h1 := List.perm_append_comm (l₁ := l.take k) (l₂ := l.drop k)
  rw [List.take_append_drop] at h1
  refine ⟨?_, fun x hx => h.qu x (h1.mem_iff.2 hx), h.apart.perm h1⟩
  rw [← h1.length_eq]
  exact h.few
theorem MayS.times {l : List Shr} (h : MayS l) {k : Nat} (hk : ∀ x, x ∈ l → x.q * k ≤ 1024000) : MayS (l.map (Shr.times k)) := by
  refine ⟨by rw [List.length_map]; exact h.few, ?_, ?_⟩
  · intro x hx
    obtain ⟨y, hy, rfl⟩ := List.mem_map.1 hx
    exact ⟨Int.mul_nonneg (h.qu y hy).1 (by omega), hk y hy⟩
  · unfold Apart
    rw [List.pairwise_map]
    exact h.apart
/-- The greatest quanta. -/
def bestF (n : Int) (x : Shr) : Int := if x.q > n then x.q else n
def bestL (l : List Shr) : Int := l.foldl bestF 0
theorem bestF_ge : ∀ (l : List Shr) (n : Int), n ≤ l.foldl bestF n ∧ (∀ x, x ∈ l → x.q ≤ l.foldl bestF n) ∧ (l.foldl bestF n = n ∨ ∃ x, x ∈ l ∧ x.q = l.foldl bestF n)
  | [], n => ⟨Int.le_refl _, fun _ h => (by cases h), .inl rfl⟩
  | y :: l, n => by
    rw [List.foldl_cons]
    obtain ⟨h1, h2, h3⟩ := bestF_ge l (bestF n y)
    have h4 : n ≤ bestF n y ∧ y.q ≤ bestF n y ∧ (bestF n y = n ∨ bestF n y = y.q) := by unfold bestF; split <;> omega
    refine ⟨by omega, fun x hx => ?_, ?_⟩
    · rcases List.mem_cons.1 hx with rfl | hx
      · omega
      · exact h2 x hx
    · rcases h3 with h3 | ⟨x, h5, h6⟩
      · rcases h4.2.2 with h5 | h5
        · exact .inl (by omega)
        · exact .inr ⟨y, List.mem_cons_self, by omega⟩
      · exact .inr ⟨x, List.mem_cons_of_mem _ h5, h6⟩
theorem bestL_ge {l : List Shr} {x : Shr} (h : x ∈ l) : x.q ≤ bestL l := (bestF_ge l 0).2.1 x h
theorem bestL_pos (l : List Shr) : 0 ≤ bestL l := (bestF_ge l 0).1
theorem bestL_some {l : List Shr} (h : 0 < bestL l) : ∃ x, x ∈ l ∧ x.q = bestL l := by
  rcases (bestF_ge l 0).2.2 with h1 | h1
  · unfold bestL at h
    omega
  · exact h1
theorem bestF_times (k : Nat) (hk : 0 < k) : ∀ (l : List Shr) (n : Int), (l.map (Shr.times k)).foldl bestF (n * k) = l.foldl bestF n * k
  | [], _ => rfl
  | y :: l, n => by
    rw [List.map_cons, List.foldl_cons, List.foldl_cons, ← bestF_times k hk l]
    congr 1
    unfold bestF Shr.times
    dsimp only
    have hk2 : (0 : Int) < k := by omega
    by_cases h : y.q > n
    · rw [if_pos h, if_pos (Int.mul_lt_mul_of_pos_right h hk2)]
    · rw [if_neg h, if_neg (fun h2 => h (Int.lt_of_mul_lt_mul_right h2 (by omega)))]
theorem bestL_times {k : Nat} (hk : 0 < k) (l : List Shr) : bestL (l.map (Shr.times k)) = bestL l * k := by
  have := bestF_times k hk l 0
  rwa [Int.zero_mul] at this
end Go.Proofs.Ytmngagcekhlppaa
namespace Go.Proofs.Ytmngagcekhlppaa
open Go.RowKit Go.Lib

def atS (R : List Shr) (i : Nat) : Shr := (R[i]?).getD ⟨[], 0⟩
theorem atS_eq {R : List Shr} {i : Nat} {x : Shr} (h : R[i]? = some x) : atS R i = x := by
  unfold atS
  rw [h]
  rfl
theorem atS_get {R : List Shr} {i : Nat} (h : i < R.length) : R[i]? = some (atS R i) := by
  unfold atS
  rw [List.getElem?_eq_getElem h]
  rfl
theorem atS_mem {R : List Shr} {i : Nat} (h : i < R.length) : atS R i ∈ R := List.mem_of_getElem? (atS_get h)
/-- The turns of shares that rise, with quanta. -/
def tbOf (key : List UInt8) (p : Nat) (R : List Shr) : Tb where
  n := R.length
  m := p
  G := (bestL R).toNat
  q := fun i => (atS R i).q.toNat
  ch := fun i => chN (offN key (atS R i).nm p) (skN key (atS R i).nm p) p
/-- With quanta, all of them. -/
structure Full (R : List Shr) : Prop where
  few : R.length ≤ 1024
  qu : ∀ x, x ∈ R → 0 < x.q ∧ x.q ≤ 1024000
theorem MayS.full {l : List Shr} (h : MayS l) : Full (riseL l) where
  few := h.rise.few
  qu := fun x hx => by
    have h1 := h.rise.qu x hx
    have h2 := (riseL_mem.1 hx).2
    omega
theorem Full.best {R : List Shr} (h : Full R) (hR : R ≠ []) : 0 < bestL R ∧ bestL R ≤ 1024000 := by
  cases R with
  | nil => exact absurd rfl hR
  | cons x R =>
    have h1 := h.qu x List.mem_cons_self
    have h2 := bestL_ge (l := x :: R) List.mem_cons_self
    have h3 : 0 < bestL (x :: R) := by omega
    obtain ⟨y, hy, he⟩ := bestL_some h3
    have h4 := h.qu y hy
    omega
theorem bestL_nil : bestL [] = 0 := rfl
theorem Full.none {R : List Shr} (h : Full R) : bestL R = 0 ↔ R = [] := by
  constructor
  · intro h0
    refine Decidable.byContradiction fun hn => ?_
    have := (h.best hn).1
    omega
  · rintro rfl
    rfl
theorem Full.ok {R : List Shr} (h : Full R) (hR : R ≠ []) (key : List UInt8) {p : Nat} (hp : SizeN p) : (tbOf key p R).Ok where
  n0 := List.length_pos_iff.2 hR
  m0 := show 0 < p by have := hp.two; omega
  g0 := by
    have := (h.best hR).1
    show 0 < (bestL R).toNat
    omega
  le := fun i hi => by
    have h1 := bestL_ge (atS_mem (R := R) hi)
    show (atS R i).q.toNat ≤ (bestL R).toNat
    omega
  top := by
    obtain ⟨x, hx, he⟩ := bestL_some (h.best hR).1
    obtain ⟨i, hi⟩ := List.getElem?_of_mem hx
    have hl := (List.getElem?_eq_some_iff.1 hi).1
    refine ⟨i, hl, ?_⟩
    show (atS R i).q.toNat = (bestL R).toNat
    rw [atS_eq hi, he]
  inj := fun i _ j k hjk hk => by
    have h1 := skN_lt hp key (atS R i).nm
    exact chN_inj hp.prime h1.1 h1.2 hk hjk
  lt := fun i _ k _ => chN_lt hp.two _ _ k
/-- The slots: of each the place of its name. -/
def slotL (key : List UInt8) (p : Nat) (R : List Shr) : List Int := if R = [] then [] else (tbOf key p R).out
theorem slotL_len (key : List UInt8) {p : Nat} {R : List Shr} (hR : R ≠ []) : (slotL key p R).length = p := by
  unfold slotL
  rw [if_neg hR]
  exact (tbOf key p R).out_len
theorem slotL_range {R : List Shr} (h : Full R) (key : List UInt8) {p : Nat} (hp : SizeN p) {x : Int} (hx : x ∈ slotL key p R) : 0 ≤ x ∧ x < R.length := by
  unfold slotL at hx
  split at hx
  · cases hx
  · rename_i hR
    exact (tbOf key p R).out_range (h.ok hR key hp) hx
theorem map_times_nil {k : Nat} {R : List Shr} : R.map (Shr.times k) = [] ↔ R = [] := by simp
/-- Quanta that are all so many times as many. -/
theorem slotL_times {R : List Shr} (h : Full R) (key : List UInt8) {p k : Nat} (hk : 0 < k) : slotL key p (R.map (Shr.times k)) = slotL key p R := by
  unfold slotL
  by_cases hR : R = []
  · rw [if_pos hR, if_pos (map_times_nil.2 hR)]
  · rw [if_neg hR, if_neg (fun e => hR (map_times_nil.1 e))]
    have hat : ∀ i, i < R.length → atS (R.map (Shr.times k)) i = (atS R i).times k := fun i hi => by
      apply atS_eq
      rw [List.getElem?_map, atS_get hi]
      rfl
    have hn0 : 0 < R.length := List.length_pos_iff.2 hR
    refine Tb.out_congr (List.length_map _) (by rw [show (tbOf key p (R.map (Shr.times k))).n = (R.map (Shr.times k)).length from rfl, List.length_map]; exact hn0) rfl ?_ ?_
    · intro v
      have hv := Nat.mod_lt v hn0
      unfold Tb.take
      show decide ((bestL (R.map (Shr.times k))).toNat ≤ (v / (R.map (Shr.times k)).length * (atS (R.map (Shr.times k)) (v % (R.map (Shr.times k)).length)).q.toNat) % (bestL (R.map (Shr.times k))).toNat + (atS (R.map (Shr.times k)) (v % (R.map (Shr.times k)).length)).q.toNat) = decide ((bestL R).toNat ≤ (v / R.length * (atS R (v % R.length)).q.toNat) % (bestL R).toNat + (atS R (v % R.length)).q.toNat)
      rw [List.length_map, hat _ hv, bestL_times hk]
      have h1 : (bestL R * (k : Int)).toNat = k * (bestL R).toNat := by
        rw [Int.mul_comm, Int.toNat_mul (by omega) (bestL_pos R), Int.toNat_natCast]
      have h2 : ((atS R (v % R.length)).times k).q.toNat = k * (atS R (v % R.length)).q.toNat := by
        have := (h.qu _ (atS_mem hv)).1
        show ((atS R (v % R.length)).q * (k : Int)).toNat = _
        rw [Int.mul_comm, Int.toNat_mul (by omega) (by omega), Int.toNat_natCast]
      rw [h1, h2]
      exact take_times hk _
    · intro i hi j _
      have hi : i < R.length := by
        rw [show (tbOf key p (R.map (Shr.times k))).n = (R.map (Shr.times k)).length from rfl, List.length_map] at hi
        exact hi
      show chN (offN key (atS (R.map (Shr.times k)) i).nm p) (skN key (atS (R.map (Shr.times k)) i).nm p) p j = _
      rw [hat i hi]
      rfl
end Go.Proofs.Ytmngagcekhlppaa
