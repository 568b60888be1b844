/-
  Plain mathematics of stage 21: open addressing, slot by slot, round the end; what stands behind a hole is moved back into it. No program is walked here.
-/
import Derived.Test.YtfbiinipiklkaaaQB
namespace Go.Proofs.Ytfbiinipiklkaaa

/-- How far it is from a to b, round the end of m slots. -/
def dst (m a b : Nat) : Nat := if a ≤ b then b - a else b + m - a
/-- The slot behind i. -/
def nxt (m i : Nat) : Nat := if i + 1 < m then i + 1 else 0
theorem nxt_lt {m i : Nat} (h : i < m) : nxt m i < m := by unfold nxt; split <;> omega
theorem dst_lt {m a b : Nat} (ha : a < m) (hb : b < m) : dst m a b < m := by unfold dst; split <;> omega
theorem dst_self (m a : Nat) : dst m a a = 0 := by unfold dst; rw [if_pos (Nat.le_refl a), Nat.sub_self]
theorem dst_zero {m a b : Nat} (ha : a < m) (_hb : b < m) (h : dst m a b = 0) : a = b := by unfold dst at h; split at h <;> omega
theorem dst_inj {m a b c : Nat} (ha : a < m) (hb : b < m) (hc : c < m) (h : dst m a b = dst m a c) : b = c := by unfold dst at h; split at h <;> split at h <;> omega
theorem dst_nxt {m a b : Nat} (ha : a < m) (hb : b < m) (h : nxt m b ≠ a) : dst m a (nxt m b) = dst m a b + 1 := by
  unfold nxt at h ⊢
  unfold dst
  split <;> split <;> split <;> simp_all <;> omega
theorem dst_last {m a b : Nat} (ha : a < m) (hb : b < m) (h : nxt m b = a) : dst m a b = m - 1 := by
  unfold nxt at h
  unfold dst
  split at h <;> split <;> omega
/-- From h by way of i to q, and j between i and q. -/
theorem dst_mid {m h i j q : Nat} (hh : h < m) (hi : i < m) (hj : j < m) (hq : q < m) (h1 : dst m h i < dst m h q) (h2 : dst m i j < dst m i q) : dst m h j < dst m h q := by
  unfold dst at *
  repeat' split at h1
  all_goals repeat' split at h2
  all_goals repeat' split
  all_goals omega
/-- The slot so far behind h. -/
def slotAt (m h d : Nat) : Nat := if h + d < m then h + d else h + d - m
theorem slotAt_lt {m h d : Nat} (hh : h < m) (hd : d < m) : slotAt m h d < m := by unfold slotAt; split <;> omega
theorem dst_slotAt {m h d : Nat} (hh : h < m) (hd : d < m) : dst m h (slotAt m h d) = d := by
  unfold slotAt
  split
  · unfold dst; split <;> omega
  · unfold dst; split <;> omega
theorem slotAt_dst {m h p : Nat} (hh : h < m) (hp : p < m) : slotAt m h (dst m h p) = p := by
  unfold slotAt dst
  repeat' split
  all_goals omega
theorem nxt_slotAt {m h d : Nat} (hh : h < m) (hd : d + 1 < m) : nxt m (slotAt m h d) = slotAt m h (d + 1) := by
  unfold nxt slotAt
  repeat' split
  all_goals omega

section
variable {α : Type} (m : Nat) (home : α → Nat)
/-- Between the home of what is there and its slot nothing is empty. -/
def Probed (s : Nat → Option α) : Prop := ∀ i x, i < m → s i = some x → ∀ p, p < m → dst m (home x) p < dst m (home x) i → s p ≠ none
/-- The same, but for a hole at i. -/
def Holed (s : Nat → Option α) (i : Nat) : Prop := s i = none ∧ ∀ q x, q < m → s q = some x → ∀ p, p < m → p ≠ i → dst m (home x) p < dst m (home x) q → s p ≠ none
/-- Behind the hole at i, up to j: all is taken, and none would be moved into the hole. -/
def Passed (s : Nat → Option α) (i j : Nat) : Prop := ∀ q, q < m → 0 < dst m i q → dst m i q < dst m i j → ∃ x, s q = some x ∧ ¬ dst m (home x) i < dst m (home x) q
def upd (s : Nat → Option α) (i : Nat) (v : Option α) : Nat → Option α := fun k => if k = i then v else s k
variable {m home}
variable {s : Nat → Option α}
theorem upd_at (i : Nat) (v : Option α) : upd s i v i = v := if_pos rfl
theorem upd_ne {i k : Nat} (v : Option α) (h : k ≠ i) : upd s i v k = s k := if_neg h
/-- An empty slot on the way from a home: what has that home and another key isn't behind it. -/
theorem probe_none (hp : Probed m home s) {h p : Nat} (hpm : p < m) (hn : s p = none) {i : Nat} {x : α} (hi : i < m) (hx : s i = some x) (hh : home x = h) (hhm : h < m) : dst m h i < dst m h p := by
  subst hh
  rcases Nat.lt_trichotomy (dst m (home x) i) (dst m (home x) p) with h1 | h1 | h1
  · exact h1
  · have := dst_inj hhm hi hpm h1
    subst this
    rw [hx] at hn
    cases hn
  · exact absurd hn (hp i x hi hx p hpm h1)
/-- Something more, in the first empty slot from its home. -/
theorem probe_put (hp : Probed m home s) {p : Nat} {x : α} (hpm : p < m) (hn : s p = none) (hb : ∀ q, q < m → dst m (home x) q < dst m (home x) p → s q ≠ none) : Probed m home (upd s p (some x)) := by
  intro i y hi hy q hq hd
  by_cases hqp : q = p
  · subst hqp
    rw [upd_at]
    exact nofun
  · rw [upd_ne _ hqp]
    by_cases hip : i = p
    · subst hip
      rw [upd_at] at hy
      obtain rfl := Option.some.inj hy
      exact hb q hq hd
    · rw [upd_ne _ hip] at hy
      exact hp i y hi hy q hq hd
/-- Something else of the same home, in the place of one. -/
theorem probe_set (hp : Probed m home s) {p : Nat} {x y : α} (hpm : p < m) (hy : s p = some y) (hh : home x = home y) : Probed m home (upd s p (some x)) := by
  intro i z hi hz q hq hd
  by_cases hqp : q = p
  · subst hqp
    rw [upd_at]
    exact nofun
  · rw [upd_ne _ hqp]
    by_cases hip : i = p
    · subst hip
      rw [upd_at] at hz
      obtain rfl := Option.some.inj hz
      rw [hh] at hd
      exact hp i y hpm hy q hq hd
    · rw [upd_ne _ hip] at hz
      exact hp i z hi hz q hq hd
/-- One taken out leaves a hole. -/
theorem hole_new (hp : Probed m home s) (i : Nat) : Holed m home (upd s i none) i := by
  refine ⟨upd_at i none, fun q x hq hx p hpm hpi hd => ?_⟩
  rw [upd_ne _ hpi]
  by_cases hqi : q = i
  · subst hqi
    rw [upd_at] at hx
    cases hx
  · rw [upd_ne _ hqi] at hx
    exact hp q x hq hx p hpm hd
theorem passed_new (s : Nat → Option α) {i : Nat} (hi : i < m) (hm : 1 < m) : Passed m home s i (nxt m i) := by
  intro q hq h0 h1
  have hne : nxt m i ≠ i := by unfold nxt; split <;> omega
  rw [dst_nxt hi hi hne, dst_self] at h1
  omega
/-- It stays where it is: the hole isn't on its way. -/
theorem passed_more {i j : Nat} {x : α} (hi : i < m) (hj : j < m) (hx : s j = some x) (hn : ¬ dst m (home x) i < dst m (home x) j) (hne : nxt m j ≠ i) (hp : Passed m home s i j) : Passed m home s i (nxt m j) := by
  intro q hq h0 h1
  rw [dst_nxt hi hj hne] at h1
  rcases Nat.lt_or_ge (dst m i q) (dst m i j) with h2 | h2
  · exact hp q hq h0 h2
  · have := dst_inj hi hq hj (by omega)
    subst this
    exact ⟨x, hx, hn⟩
/-- It is moved into the hole; where it was is the new one. -/
theorem hole_move {i j : Nat} {x : α} (_hi : i < m) (hj : j < m) (hx : s j = some x) (hn : dst m (home x) i < dst m (home x) j) (hp : Holed m home s i) : Holed m home (upd (upd s i (some x)) j none) j := by
  have hij : i ≠ j := fun e => by subst e; omega
  refine ⟨upd_at j none, fun q y hq hy p hpm hpj hd => ?_⟩
  rw [upd_ne _ hpj]
  by_cases hpi : p = i
  · subst hpi
    rw [upd_at]
    exact nofun
  · rw [upd_ne _ hpi]
    by_cases hqj : q = j
    · subst hqj
      rw [upd_at] at hy
      cases hy
    · rw [upd_ne _ hqj] at hy
      by_cases hqi : q = i
      · subst hqi
        rw [upd_at] at hy
        obtain rfl := Option.some.inj hy
        exact hp.2 j x hj hx p hpm hpi (Nat.lt_trans hd hn)
      · rw [upd_ne _ hqi] at hy
        exact hp.2 q y hq hy p hpm hpi hd
/-- The next slot is empty: all is well. -/
theorem hole_end {i j : Nat} (hi : i < m) (hj : j < m) (hh : ∀ q x, q < m → s q = some x → home x < m) (hp : Holed m home s i) (ha : Passed m home s i j) (hn : s j = none) (hij : i ≠ j) : Probed m home s := by
  intro q x hq hx p hpm hd
  by_cases hpi : p = i
  · subst hpi
    exfalso
    have hqj : q ≠ j := fun e => by subst e; rw [hx] at hn; cases hn
    have hqi : q ≠ p := fun e => by subst e; omega
    have h0 : 0 < dst m p q := Nat.pos_of_ne_zero fun e => hqi (dst_zero hi hq e).symm
    rcases Nat.lt_trichotomy (dst m p q) (dst m p j) with h1 | h1 | h1
    · obtain ⟨y, hy, hny⟩ := ha q hq h0 h1
      rw [hx] at hy
      obtain rfl := Option.some.inj hy
      exact hny hd
    · exact hqj (dst_inj hi hq hj h1)
    · exact absurd hn (hp.2 q x hq hx j hj (fun e => hij e.symm) (dst_mid (hh q x hq hx) hi hj hq hd h1))
  · exact hp.2 q x hq hx p hpm hpi hd
/-- Once round: all is well, too. -/
theorem hole_round {i : Nat} (hi : i < m) (hp : Holed m home s i) (ha : ∀ q, q < m → 0 < dst m i q → ∃ x, s q = some x ∧ ¬ dst m (home x) i < dst m (home x) q) : Probed m home s := by
  intro q x hq hx p hpm hd
  by_cases hpi : p = i
  · subst hpi
    exfalso
    have hqi : q ≠ p := fun e => by subst e; omega
    have h0 : 0 < dst m p q := Nat.pos_of_ne_zero fun e => hqi (dst_zero hi hq e).symm
    obtain ⟨y, hy, hny⟩ := ha q hq h0
    rw [hx] at hy
    obtain rfl := Option.some.inj hy
    exact hny hd
  · exact hp.2 q x hq hx p hpm hpi hd
/-- What is there, slot by slot. -/
def liveL (s : Nat → Option α) : Nat → List α
  | 0 => []
  | n + 1 => liveL s n ++ (s n).toList
theorem live_congr {s t : Nat → Option α} : ∀ {n : Nat}, (∀ k, k < n → s k = t k) → liveL s n = liveL t n
  | 0, _ => rfl
  | n + 1, h => by
    unfold liveL
    rw [live_congr (n := n) (fun k hk => h k (by omega)), h n (by omega)]
theorem live_mem {x : α} : ∀ {n : Nat}, x ∈ liveL s n ↔ ∃ i, i < n ∧ s i = some x
  | 0 => ⟨fun h => (by cases h), fun ⟨i, hi, _⟩ => absurd hi (Nat.not_lt_zero i)⟩
  | n + 1 => by
    unfold liveL
    rw [List.mem_append, live_mem (n := n), Option.mem_toList]
    constructor
    · rintro (⟨i, hi, h⟩ | h)
      · exact ⟨i, by omega, h⟩
      · exact ⟨n, by omega, h⟩
    · rintro ⟨i, hi, h⟩
      rcases Nat.lt_or_ge i n with h1 | h1
      · exact .inl ⟨i, h1, h⟩
      · obtain rfl : i = n := by omega
        exact .inr h
/-- What stands at p, and all else. -/
theorem live_at {p : Nat} (v : Option α) : ∀ {n : Nat}, p < n → (liveL (upd s p v) n).Perm (v.toList ++ liveL (upd s p none) n)
  | 0, h => by omega
  | n + 1, h => by
    unfold liveL
    by_cases hp : p = n
    · subst hp
      rw [upd_at, upd_at, live_congr (s := upd s p v) (t := upd s p none) (fun k hk => by rw [upd_ne _ (by omega), upd_ne _ (by omega)])]
      rw [Option.toList_none, List.append_nil]
      exact List.perm_append_comm
    · rw [upd_ne _ (fun e => hp e.symm), upd_ne _ (fun e => hp e.symm), ← List.append_assoc]
      exact (live_at v (by omega)).append_right _
theorem upd_same {p : Nat} : upd s p (s p) = s := by
  funext k
  unfold upd
  split
  · rename_i h; rw [h]
  · rfl
theorem upd_twice {p : Nat} (v u : Option α) : upd (upd s p v) p u = upd s p u := by
  funext k
  unfold upd
  split <;> rfl
theorem live_put {p n : Nat} {x : α} (hp : p < n) (hn : s p = none) : (liveL (upd s p (some x)) n).Perm (x :: liveL s n) := by
  have h1 := live_at (s := s) (some x) hp
  have h2 : upd s p none = s := by rw [← hn]; exact upd_same
  rw [h2] at h1
  exact h1
theorem live_out {p n : Nat} {x : α} (hp : p < n) (hx : s p = some x) : (liveL s n).Perm (x :: liveL (upd s p none) n) := by
  have h1 := live_at (s := s) (some x) hp
  have h2 : upd s p (some x) = s := by rw [← hx]; exact upd_same
  rw [h2] at h1
  exact h1
theorem live_move {i j n : Nat} {x : α} (hi : i < n) (hj : j < n) (hx : s j = some x) (hn : s i = none) : (liveL (upd (upd s i (some x)) j none) n).Perm (liveL s n) := by
  have hij : i ≠ j := fun e => by subst e; rw [hx] at hn; cases hn
  have h1 := live_put (x := x) hi hn
  have h2 := live_out (s := upd s i (some x)) hj ((upd_ne _ (fun e => hij e.symm)).trans hx)
  exact (List.perm_cons x).1 (h2.symm.trans h1)
theorem live_len_le : ∀ n : Nat, (liveL s n).length ≤ n
  | 0 => Nat.le_refl _
  | n + 1 => by
    unfold liveL
    rw [List.length_append]
    have h1 := live_len_le n
    have h2 : (s n).toList.length ≤ 1 := by cases s n <;> simp
    omega
/-- Where there are fewer than there are slots, one is empty. -/
theorem live_hole : ∀ {n : Nat}, (liveL s n).length < n → ∃ p, p < n ∧ s p = none
  | 0, h => by omega
  | n + 1, h => by
    unfold liveL at h
    rw [List.length_append] at h
    cases hs : s n with
    | none => exact ⟨n, by omega, hs⟩
    | some x =>
      rw [hs] at h
      simp at h
      obtain ⟨p, hp, hn⟩ := live_hole (n := n) h
      exact ⟨p, by omega, hn⟩
theorem live_empty : ∀ n : Nat, liveL (fun _ => (none : Option α)) n = []
  | 0 => rfl
  | n + 1 => by
    unfold liveL
    rw [live_empty n]
    rfl
/-- So many steps from a home: not yet all round. -/
theorem probe_short {m h d : Nat} (hh : h < m) (hf : (liveL s m).length < m) (hd : ∀ e, e < d → s (slotAt m h e) ≠ none) : d < m := by
  obtain ⟨p, hp, hn⟩ := live_hole hf
  rcases Nat.lt_or_ge d m with h1 | h1
  · exact h1
  · exact absurd (by rw [slotAt_dst hh hp]; exact hn) (hd (dst m h p) (Nat.lt_of_lt_of_le (dst_lt hh hp) h1))
end
end Go.Proofs.Ytfbiinipiklkaaa
