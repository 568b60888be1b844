/-
  Bytes laid anew at a place, and what a sum of words is then. No program is walked here.
-/
import Derived.Test.YtkmcopenflakkaaQB
import Derived.Test.YtkmcopenflakkaaQ6
import Derived.Test.YtkmcopenflakkaaQ10
namespace Go.Proofs.Ytkmcopenflakkaa
open Go.RowKit Go.Lib

/-- Bytes laid anew from place k on. -/
def setL (xs : List UInt8) (k : Nat) (ys : List UInt8) : List UInt8 := xs.mapIdx fun i x => if k ≤ i ∧ i < k + ys.length then ys.getD (i - k) 0 else x
section
variable {xs ys zs : List UInt8} {k j p n : Nat}
theorem setL_len (xs : List UInt8) (k : Nat) (ys : List UInt8) : (setL xs k ys).length = xs.length := List.length_mapIdx
theorem setL_get (xs : List UInt8) (k : Nat) (ys : List UInt8) (i : Nat) : (setL xs k ys)[i]? = (xs[i]?).map fun x => if k ≤ i ∧ i < k + ys.length then ys.getD (i - k) 0 else x := List.getElem?_mapIdx
theorem setL_ne {i : Nat} (h : i < k ∨ k + ys.length ≤ i) : (setL xs k ys)[i]? = xs[i]? := by
  rw [setL_get]
  cases xs[i]? with
  | none => rfl
  | some x =>
    show some (if _ then _ else _) = some x
    rw [if_neg (by omega)]
theorem setL_in {i : Nat} (h : i < ys.length) (hx : k + i < xs.length) : (setL xs k ys)[k + i]? = ys[i]? := by
  rw [setL_get, List.getElem?_eq_getElem hx, Option.map_some, if_pos (by omega), Nat.add_sub_cancel_left, List.getD_eq_getElem?_getD, List.getElem?_eq_getElem h]
  rfl
theorem setL_bne {i : Nat} (h : i < k ∨ k + ys.length ≤ i) : batN (setL xs k ys) i = batN xs i := by
  unfold batN
  rw [List.getD_eq_getElem?_getD, List.getD_eq_getElem?_getD, setL_ne h]
theorem setL_wne {i : Nat} (h : i + 1 < k ∨ k + ys.length ≤ i) : wat (setL xs k ys) i = wat xs i := by
  unfold wat
  rw [setL_bne (by omega), setL_bne (by omega)]
theorem setL_eq (h : k + ys.length ≤ xs.length) : setL xs k ys = xs.take k ++ (ys ++ xs.drop (k + ys.length)) := by
  apply List.ext_getElem?
  intro i
  by_cases h1 : i < k
  · rw [setL_ne (by omega), List.getElem?_append_left (by rw [List.length_take]; omega), List.getElem?_take_of_lt h1]
  · rw [List.getElem?_append_right (by rw [List.length_take]; omega), List.length_take, Nat.min_eq_left (by omega)]
    by_cases h2 : i < k + ys.length
    · obtain ⟨q, rfl⟩ : ∃ q, i = k + q := ⟨i - k, by omega⟩
      rw [setL_in (by omega) (by omega), Nat.add_sub_cancel_left, List.getElem?_append_left (by omega)]
    · rw [setL_ne (by omega), List.getElem?_append_right (by omega), List.getElem?_drop]
      congr 1
      omega
theorem setL_drop (h : p ≤ k) : (setL xs k ys).drop p = setL (xs.drop p) (k - p) ys := by
  apply List.ext_getElem?
  intro i
  rw [List.getElem?_drop, setL_get, setL_get, List.getElem?_drop]
  congr 1
  funext x
  by_cases hc : k ≤ p + i ∧ p + i < k + ys.length
  · rw [if_pos hc, if_pos (by omega)]
    congr 1
    omega
  · rw [if_neg hc, if_neg (by omega)]
theorem setL_drop_ge (h : k + ys.length ≤ p) : (setL xs k ys).drop p = xs.drop p := by
  apply List.ext_getElem?
  intro i
  rw [List.getElem?_drop, List.getElem?_drop, setL_ne (by omega)]
theorem setL_take (xs : List UInt8) (k : Nat) (ys : List UInt8) (n : Nat) : (setL xs k ys).take n = setL (xs.take n) k ys := by
  apply List.ext_getElem?
  intro i
  rw [List.getElem?_take, setL_get, setL_get, List.getElem?_take]
  split <;> rfl
theorem setL_take_le (h : n ≤ k) : (setL xs k ys).take n = xs.take n := by
  apply List.ext_getElem?
  intro i
  rw [List.getElem?_take, List.getElem?_take]
  split
  · rw [setL_ne (by omega)]
  · rfl
theorem setL_got (h : k + ys.length ≤ xs.length) : ((setL xs k ys).drop k).take ys.length = ys := by
  rw [setL_eq h, List.drop_append, List.length_take, Nat.min_eq_left (by omega), Nat.sub_self, List.drop_zero, List.drop_of_length_le (by rw [List.length_take]; omega), List.nil_append, List.take_append_of_le_length (Nat.le_refl _), List.take_length]
theorem setL_part (h : k + ys.length ≤ p ∨ p + n ≤ k) : ((setL xs k ys).drop p).take n = (xs.drop p).take n := by
  rcases h with h | h
  · rw [setL_drop_ge h]
  · rw [List.take_drop, List.take_drop, setL_take_le h]
theorem setL_self (xs : List UInt8) (k n : Nat) (h : k + n ≤ xs.length) : setL xs k ((xs.drop k).take n) = xs := by
  have hl : ((xs.drop k).take n).length = n := by rw [List.length_take, List.length_drop]; omega
  rw [setL_eq (by omega), hl, ← List.drop_drop, List.take_append_drop, List.take_append_drop]
theorem setL_setL (h : zs.length = ys.length) : setL (setL xs k ys) k zs = setL xs k zs := by
  apply List.ext_getElem?
  intro i
  rw [setL_get, setL_get, setL_get, Option.map_map]
  congr 1
  funext x
  show (if _ then _ else (if _ then _ else _)) = _
  by_cases hc : k ≤ i ∧ i < k + zs.length
  · rw [if_pos hc, if_pos hc]
  · rw [if_neg hc, if_neg (by omega), if_neg hc]
theorem setL_comm (xs : List UInt8) (h : k + ys.length ≤ j) : setL (setL xs k ys) j zs = setL (setL xs j zs) k ys := by
  apply List.ext_getElem?
  intro i
  rw [setL_get, setL_get, setL_get, setL_get, Option.map_map, Option.map_map]
  congr 1
  funext x
  show (if _ then _ else (if _ then _ else _)) = (if _ then _ else (if _ then _ else _))
  by_cases hc : j ≤ i ∧ i < j + zs.length
  · rw [if_pos hc, if_neg (by omega), if_pos hc]
  · rw [if_neg hc, if_neg hc]
theorem setL_app1 (h : k + ys.length ≤ xs.length) : setL (xs ++ zs) k ys = setL xs k ys ++ zs := by
  apply List.ext_getElem?
  intro i
  by_cases hi : i < xs.length
  · rw [setL_get, List.getElem?_append_left hi, List.getElem?_append_left (by rw [setL_len]; exact hi), setL_get]
  · rw [setL_ne (by omega), List.getElem?_append_right (by omega), List.getElem?_append_right (by rw [setL_len]; omega), setL_len]
theorem setL_app2 : setL (xs ++ zs) (xs.length + k) ys = xs ++ setL zs k ys := by
  apply List.ext_getElem?
  intro i
  by_cases hi : i < xs.length
  · rw [setL_ne (by omega), List.getElem?_append_left hi, List.getElem?_append_left hi]
  · rw [setL_get, List.getElem?_append_right (by omega), List.getElem?_append_right (by omega), setL_get]
    congr 1
    funext x
    by_cases hc : xs.length + k ≤ i ∧ i < xs.length + k + ys.length
    · rw [if_pos hc, if_pos (by omega)]
      congr 1
      omega
    · rw [if_neg hc, if_neg (by omega)]
theorem put2_setL (xs : List UInt8) (p n : Nat) : put2_10 xs p n = setL xs p (be2 n) := by
  apply List.ext_getElem?
  intro i
  unfold put2_10
  by_cases h1 : i = p
  · subst h1
    rw [List.getElem?_set_ne (by omega), List.getElem?_set, if_pos rfl, setL_get]
    by_cases hi : i < xs.length
    · rw [if_pos hi, List.getElem?_eq_getElem hi, Option.map_some, if_pos (by rw [be2_len]; omega), Nat.sub_self]; rfl
    · rw [if_neg hi, List.getElem?_eq_none (by omega)]; rfl
  · by_cases h2 : i = p + 1
    · subst h2
      rw [List.getElem?_set, if_pos rfl, List.length_set, setL_get]
      by_cases hi : p + 1 < xs.length
      · rw [if_pos hi, List.getElem?_eq_getElem hi, Option.map_some, if_pos (by rw [be2_len]; omega), Nat.add_sub_cancel_left]; rfl
      · rw [if_neg hi, List.getElem?_eq_none (by omega)]; rfl
    · rw [List.getElem?_set_ne (by omega), List.getElem?_set_ne (by omega), setL_ne (by rw [be2_len]; omega)]
theorem setL_one {i : Nat} {x : UInt8} (hi : ys[i]? = some x) : (setL xs k (ys.take i)).set (k + i) x = setL xs k (ys.take (i + 1)) := by
  have hl : i < ys.length := (List.getElem?_eq_some_iff.1 hi).1
  have h1 : (ys.take i).length = i := by rw [List.length_take]; omega
  have h2 : (ys.take (i + 1)).length = i + 1 := by rw [List.length_take]; omega
  apply List.ext_getElem?
  intro q
  by_cases hq : q = k + i
  · subst hq
    by_cases hx : k + i < xs.length
    · rw [List.getElem?_set_self (by rw [setL_len]; exact hx), setL_in (by omega) hx, List.getElem?_take_of_lt (by omega), hi]
    · rw [List.getElem?_eq_none (by rw [List.length_set, setL_len]; omega), List.getElem?_eq_none (by rw [setL_len]; omega)]
  · rw [List.getElem?_set_ne (by omega)]
    by_cases hr : k ≤ q ∧ q < k + i
    · obtain ⟨r, rfl⟩ : ∃ r, q = k + r := ⟨q - k, by omega⟩
      by_cases hx : k + r < xs.length
      · rw [setL_in (by omega) hx, setL_in (by omega) hx, List.getElem?_take_of_lt (by omega), List.getElem?_take_of_lt (by omega)]
      · rw [List.getElem?_eq_none (by rw [setL_len]; omega), List.getElem?_eq_none (by rw [setL_len]; omega)]
    · rw [setL_ne (by omega), setL_ne (by omega)]
theorem setL_nil (xs : List UInt8) (k : Nat) : setL xs k [] = xs := by
  apply List.ext_getElem?
  intro i
  rw [setL_ne (by simp; omega)]
theorem wsum_front (h : xs.length % 2 = 0) (ys : List UInt8) : wsum false (xs ++ ys) = wsum false xs + wsum false ys := by
  rw [wsum_append, show turnOdd false xs.length = false from if_neg (by omega)]
theorem wsum_setL (h : k + ys.length ≤ xs.length) (hk : k % 2 = 0) (hy : ys.length % 2 = 0) : wsum false (setL xs k ys) + wsum false ((xs.drop k).take ys.length) = wsum false xs + wsum false ys := by
  have hl : (xs.take k).length = k := by rw [List.length_take]; omega
  have hm : ((xs.drop k).take ys.length).length = ys.length := by rw [List.length_take, List.length_drop]; omega
  have e : xs = xs.take k ++ ((xs.drop k).take ys.length ++ xs.drop (k + ys.length)) := by rw [← List.drop_drop, List.take_append_drop, List.take_append_drop]
  rw [setL_eq h, wsum_front (by omega), wsum_front hy]
  conv => rhs; rw [e, wsum_front (by omega), wsum_front (by omega)]
  omega
theorem wsum_two (xs : List UInt8) (p : Nat) (h : p + 2 ≤ xs.length) : wsum false ((xs.drop p).take 2) = wat xs p := by
  rw [two_of xs p h]
  unfold wat batN
  simp only [List.getD, List.getElem?_eq_getElem (show p < xs.length by omega), List.getElem?_eq_getElem (show p + 1 < xs.length by omega), wsum]
  simp
theorem wsum_be2 {n : Nat} (h : n < 65536) : wsum false (be2 n) = n := by
  show 256 * (UInt8.ofNat (n / 256)).toNat + ((UInt8.ofNat (n % 256)).toNat + 0) = n
  rw [u8nat (by omega), u8nat (by omega)]
  omega
theorem two_be2 (xs : List UInt8) (p : Nat) (h : p + 2 ≤ xs.length) : be2 (wat xs p) = (xs.drop p).take 2 := by
  rw [two_of xs p h]
  unfold wat batN be2
  simp only [List.getD, List.getElem?_eq_getElem (show p < xs.length by omega), List.getElem?_eq_getElem (show p + 1 < xs.length by omega), Option.getD_some]
  have h1 := (xs[p]).toNat_lt
  have h2 := (xs[p + 1]).toNat_lt
  congr 1
  · apply UInt8.toNat_inj.1
    rw [u8nat (by omega)]
    omega
  · congr 1
    apply UInt8.toNat_inj.1
    rw [u8nat (by omega)]
    omega
theorem setL_wat {n : Nat} (h : p + 2 ≤ xs.length) (hn : n < 65536) : wat (setL xs p (be2 n)) p = n := by rw [← put2_setL]; exact wat_put2 xs h hn
end

/-- Numbers that tell one class of checksums: of UDP 1 to 65535, else 0 to 65534. -/
def InR (u : Bool) (n : Nat) : Prop := n ≤ 65535 ∧ (u = true → 0 < n) ∧ (u = false → n < 65535)
theorem inR_uniq {u : Bool} {a b : Nat} (ha : InR u a) (hb : InR u b) (h : a % 65535 = b % 65535) : a = b := by
  obtain ⟨a1, a2, a3⟩ := ha
  obtain ⟨b1, b2, b3⟩ := hb
  cases u
  · have := a3 rfl
    have := b3 rfl
    omega
  · have := a2 rfl
    have := b2 rfl
    omega
theorem nrm_mod (n : Nat) : nrm n % 65535 = n % 65535 := by unfold nrm; split <;> omega
theorem nrm_same {a b : Nat} (ha : 0 < a) (hb : 0 < b) (h : a % 65535 = b % 65535) : nrm a = nrm b := by rw [nrm_pos ha, nrm_pos hb]; omega
theorem chgs_nrmW : ∀ (ms ns : List Nat) (c : Nat), c ≤ 65535 → (∀ n ∈ ns, n ≤ 65535) → (∀ m ∈ ms, m ≤ 65535) → ms.length = ns.length →
    chgs c ms ns = 65535 - nrm ((65535 - c) + (65535 * ms.length - ms.sum) + ns.sum) ∧ ms.sum ≤ 65535 * ms.length
  | [], [], c, hc, _, _, _ => by
    refine ⟨?_, by simp⟩
    have e : 65535 - c + (65535 * ([] : List Nat).length - ([] : List Nat).sum) + ([] : List Nat).sum = 65535 - c := by simp
    rw [e, nrm_small (by omega)]
    show c = _
    omega
  | [], _ :: _, _, _, _, _, h => by simp at h
  | _ :: _, [], _, _, _, _, h => by simp at h
  | m :: ms, n :: ns, c, hc, hn, hm, h => by
    have hn0 := hn n (List.mem_cons_self ..)
    have hm0 := hm m (List.mem_cons_self ..)
    obtain ⟨h1, h2⟩ := chgs_nrmW ms ns (chg c m n) (chg_le _ _ _) (fun x hx => hn x (List.mem_cons_of_mem _ hx)) (fun x hx => hm x (List.mem_cons_of_mem _ hx)) (by simpa using h)
    have hq := nrm_le ((65535 - c) + (65535 - m) + n)
    simp only [List.length_cons, List.sum_cons]
    refine ⟨?_, by omega⟩
    simp only [chgs]
    rw [h1, chg_nrm hn0, show 65535 - (65535 - nrm ((65535 - c) + (65535 - m) + n)) = nrm ((65535 - c) + (65535 - m) + n) by omega, Nat.add_assoc, nrm_add]
    congr 2
    omega
section
variable {c : Nat} {old new : List UInt8}
theorem ch_eq (hl : new.length = old.length) (hc : c ≤ 65535) : ∃ A : Nat, changedOf c old new = 65535 - nrm A ∧ (A + c + wsum false old) % 65535 = (wsum false new) % 65535 ∧ (c < 65535 → 0 < A) := by
  obtain ⟨h1, h2⟩ := chgs_nrmW (wordsOf old) (wordsOf new) c hc (wordsOf_le new) (wordsOf_le old) (by rw [wordsOf_length, wordsOf_length, hl])
  rw [changedOf_same hl]
  rw [wordsOf_sum] at h1 h2
  rw [wordsOf_sum] at h1
  exact ⟨_, h1, by omega, fun h => by omega⟩
theorem ch_le (hc : c ≤ 65535) (hl : new.length = old.length) : changedOf c old new ≤ 65535 := by
  obtain ⟨A, h, _⟩ := ch_eq hl hc
  omega
theorem ch_mod (hl : new.length = old.length) (hc : c ≤ 65535) : (changedOf c old new + wsum false new) % 65535 = (c + wsum false old) % 65535 := by
  obtain ⟨A, h, h2, _⟩ := ch_eq hl hc
  have h3 := nrm_mod A
  have h4 := nrm_le A
  rw [h]
  omega
theorem ch_lt (hl : new.length = old.length) (hc : c < 65535) : changedOf c old new < 65535 := by
  obtain ⟨A, h, _, h2⟩ := ch_eq hl (Nat.le_of_lt hc)
  have h3 := h2 hc
  have h4 : nrm A ≠ 0 := fun e => by have := nrm_eq_zero.1 e; omega
  omega
end
/-- The segment's checksum, changed along. -/
def numW (u : Bool) (c : Nat) (old new oldp newp : List UInt8) : Nat := if u = true ∧ c = 0 then 0 else numS u (changedOf (changedOf c old new) oldp newp)
section
variable {u : Bool} {c : Nat} {old new oldp newp : List UInt8}
theorem numW_idle (h : u = true ∧ c = 0) : numW u c old new oldp newp = 0 := if_pos h
theorem numW_le (hl : new.length = old.length) (hp : newp.length = oldp.length) (hc : c ≤ 65535) : numW u c old new oldp newp ≤ 65535 := by
  unfold numW
  split
  · omega
  · exact numS_le (ch_le (ch_le hc hl) hp)
theorem numW_mod (hl : new.length = old.length) (hp : newp.length = oldp.length) (hc : c ≤ 65535) (h : ¬ (u = true ∧ c = 0)) : (numW u c old new oldp newp + wsum false new + wsum false newp) % 65535 = (c + wsum false old + wsum false oldp) % 65535 := by
  have h1 := ch_mod hl hc
  have h2 := ch_mod (c := changedOf c old new) hp (ch_le hc hl)
  unfold numW
  rw [if_neg h]
  unfold numS
  split
  · rename_i h3
    rw [h3.2] at h2
    omega
  · omega
theorem numW_in (hl : new.length = old.length) (hp : newp.length = oldp.length) (hc : InR u c) : InR u (numW u c old new oldp newp) := by
  obtain ⟨c1, c2, c3⟩ := hc
  refine ⟨numW_le hl hp c1, fun hu => ?_, fun hu => ?_⟩
  · have := c2 hu
    unfold numW
    rw [if_neg (by omega)]
    unfold numS
    split
    · omega
    · rename_i h3
      have : ¬ changedOf (changedOf c old new) oldp newp = 0 := fun e => h3 ⟨hu, e⟩
      omega
  · have hlt := c3 hu
    unfold numW
    rw [if_neg (by rw [hu]; simp)]
    unfold numS
    rw [if_neg (by rw [hu]; simp)]
    exact ch_lt hp (ch_lt hl hlt)
theorem numW_udp (hp : newp.length = oldp.length) (hl : new.length = old.length) (hc : c ≤ 65535) (hu : u = true) (h0 : c ≠ 0) : 0 < numW u c old new oldp newp := (numW_in hl hp ⟨hc, fun _ => by omega, fun h => by rw [hu] at h; cases h⟩).2.1 hu
end
end Go.Proofs.Ytkmcopenflakkaa
