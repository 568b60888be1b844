/-
  Plain mathematics of stage 10: a segment of TCP or UDP, its reading, its checksum, the checksum put in. No program is walked here.
-/
import Derived.Test.YtgjjepcjdekihaaPPseudo
namespace Go.Proofs.Ytgjjepcjdekihaa
open Go.RowKit Go.Lib

/-- The protocol's number; where the checksum begins. -/
def prN (u : Bool) : Nat := if u then 17 else 6
def plc (u : Bool) : Nat := if u then 6 else 16
theorem prN_lt (u : Bool) : prN u < 256 := by cases u <;> decide
theorem prN_pos (u : Bool) : 0 < prN u := by cases u <;> decide
/-- How many bytes the TCP header has, by what it tells. -/
def hlN (xs : List UInt8) : Nat := 4 * (batN xs 12 / 16)
theorem hlN_le (xs : List UInt8) : hlN xs ≤ 60 := by have := batN_lt xs 12; unfold hlN; omega
/-- Why no segment begins there. -/
def faultT (xs : List UInt8) : Nat := if xs.length < 20 then 2 else if hlN xs < 20 then 3 else if xs.length < hlN xs then 2 else 0
def faultU (xs : List UInt8) : Nat := if xs.length < 8 then 2 else if wat xs 4 < 8 then 3 else if xs.length < wat xs 4 then 2 else 0
def faultP (n : Int) (xs : List UInt8) : Nat := if n = 6 then faultT xs else if n = 17 then faultU xs else 5
def faultB (u : Bool) (xs : List UInt8) : Nat := if u then faultU xs else faultT xs
theorem faultP_pr (u : Bool) (xs : List UInt8) : faultP (prN u : Nat) xs = faultB u xs := by cases u <;> rfl
theorem faultP_le (n : Int) (xs : List UInt8) : faultP n xs ≤ 5 := by
  unfold faultP faultT faultU
  repeat' split
  all_goals omega
/-- A header. -/
structure Po where
  s : Nat
  d : Nat
  f : Nat
  h : Nat
  t : Nat
def Po.zero : Po := ⟨0, 0, 0, 0, 0⟩
def poT (xs : List UInt8) : Po := ⟨wat xs 0, wat xs 2, batN xs 13 % 64, hlN xs, xs.length⟩
def poU (xs : List UInt8) : Po := ⟨wat xs 0, wat xs 2, 0, 8, wat xs 4⟩
def rdP (n : Int) (xs : List UInt8) : Po := if faultP n xs = 0 then (if n = 6 then poT xs else poU xs) else Po.zero
theorem rdP_no {n : Int} {xs : List UInt8} (h : faultP n xs ≠ 0) : rdP n xs = Po.zero := if_neg h
theorem rdP_T {xs : List UInt8} (h : faultP 6 xs = 0) : rdP 6 xs = poT xs := if_pos h
theorem rdP_U {xs : List UInt8} (h : faultP 17 xs = 0) : rdP 17 xs = poU xs := if_pos h
/-- The cells of a header. -/
def poC (p : Po) : Value := .agg #[.int .i64 (p.s : Int), .int .i64 (p.d : Int), .int .i64 (p.f : Int), .int .i64 (p.h : Int), .int .i64 (p.t : Int)]
/-- How many bytes the segment has. -/
def totN (u : Bool) (xs : List UInt8) : Nat := if u then wat xs 4 else xs.length
theorem rdP_tot {u : Bool} {xs : List UInt8} (h : faultB u xs = 0) : (rdP (prN u : Nat) xs).t = totN u xs := by
  cases u
  · rw [show ((prN false : Nat) : Int) = 6 from rfl, rdP_T h]; rfl
  · rw [show ((prN true : Nat) : Int) = 17 from rfl, rdP_U h]; rfl
theorem faultT_zero {xs : List UInt8} (h : faultT xs = 0) : 20 ≤ xs.length ∧ 20 ≤ hlN xs ∧ hlN xs ≤ xs.length := by
  unfold faultT at h
  repeat' split at h
  all_goals omega
theorem faultU_zero {xs : List UInt8} (h : faultU xs = 0) : 8 ≤ xs.length ∧ 8 ≤ wat xs 4 ∧ wat xs 4 ≤ xs.length := by
  unfold faultU at h
  repeat' split at h
  all_goals omega
theorem tot_ok {u : Bool} {xs : List UInt8} (h : faultB u xs = 0) : plc u + 2 ≤ totN u xs ∧ 8 ≤ totN u xs ∧ totN u xs ≤ xs.length := by
  cases u
  · obtain ⟨h1, h2, h3⟩ := faultT_zero h
    exact ⟨by show 16 + 2 ≤ xs.length; omega, by show 8 ≤ xs.length; omega, Nat.le_refl _⟩
  · obtain ⟨h1, h2, h3⟩ := faultU_zero h
    exact ⟨h2, h2, h3⟩

/-- Two bytes are laid anew. -/
def put2 (xs : List UInt8) (p n : Nat) : List UInt8 := (xs.set p (UInt8.ofNat (n / 256))).set (p + 1) (UInt8.ofNat (n % 256))
theorem put2_len (xs : List UInt8) (p n : Nat) : (put2 xs p n).length = xs.length := by unfold put2; rw [List.length_set, List.length_set]
theorem put2_eq : ∀ (xs : List UInt8) (p n : Nat), p + 2 ≤ xs.length → put2 xs p n = xs.take p ++ (be2 n ++ xs.drop (p + 2))
  | a :: b :: r, 0, n, _ => rfl
  | a :: r, p + 1, n, h => by
    have ih := put2_eq r p n (by simp at h; omega)
    show a :: put2 r p n = a :: (r.take p ++ (be2 n ++ r.drop (p + 2)))
    rw [ih]
  | [], p, n, h => by simp at h
  | [a], 0, n, h => by simp at h
theorem put2_put2 (xs : List UInt8) (p m n : Nat) : put2 (put2 xs p m) p n = put2 xs p n := by
  apply List.ext_getElem?
  intro i
  unfold put2
  simp only [List.getElem?_set, List.length_set]
  by_cases h1 : p + 1 = i
  · simp [h1]
  · by_cases h2 : p = i
    · simp [h2]
    · simp [h1, h2]
theorem put2_get_ne (xs : List UInt8) (p n : Nat) {i : Nat} (h1 : i ≠ p) (h2 : i ≠ p + 1) : (put2 xs p n)[i]? = xs[i]? := by
  unfold put2
  rw [List.getElem?_set_ne (by omega), List.getElem?_set_ne (by omega)]
theorem batN_of {xs ys : List UInt8} {i j : Nat} (h : xs[i]? = ys[j]?) : batN xs i = batN ys j := by
  unfold batN
  rw [List.getD_eq_getElem?_getD, List.getD_eq_getElem?_getD, h]
theorem batN_set_ne (xs : List UInt8) {i j : Nat} (y : UInt8) (h : i ≠ j) : batN (xs.set i y) j = batN xs j := batN_of (by rw [List.getElem?_set_ne h])
theorem batN_set (xs : List UInt8) {i : Nat} (y : UInt8) (h : i < xs.length) : batN (xs.set i y) i = y.toNat := by
  unfold batN
  rw [List.getD_eq_getElem?_getD, List.getElem?_set_self h]
  rfl
theorem batN_put2_ne (xs : List UInt8) (p n : Nat) {i : Nat} (h1 : i ≠ p) (h2 : i ≠ p + 1) : batN (put2 xs p n) i = batN xs i := batN_of (put2_get_ne xs p n h1 h2)
theorem wat_put2 (xs : List UInt8) {p n : Nat} (h : p + 2 ≤ xs.length) (hn : n < 65536) : wat (put2 xs p n) p = n := by
  unfold wat put2
  rw [batN_set_ne _ _ (by omega), batN_set _ _ (by omega), batN_set _ _ (by rw [List.length_set]; omega), u8nat (by omega), u8nat (by omega)]
  omega
/-- What a checksum put in leaves as it was. -/
theorem keep_fault {u : Bool} {xs ys : List UInt8} (hl : ys.length = xs.length) (hT : u = false → batN ys 12 = batN xs 12) (hU : u = true → wat ys 4 = wat xs 4) : faultB u ys = faultB u xs ∧ totN u ys = totN u xs := by
  cases u
  · refine ⟨?_, hl⟩
    show faultT ys = faultT xs
    unfold faultT hlN
    rw [hl, hT rfl]
  · refine ⟨?_, hU rfl⟩
    show faultU ys = faultU xs
    unfold faultU
    rw [hl, hU rfl]
theorem put2_fault (u : Bool) (xs : List UInt8) (n : Nat) : faultB u (put2 xs (plc u) n) = faultB u xs ∧ totN u (put2 xs (plc u) n) = totN u xs :=
  keep_fault (put2_len _ _ _) (fun h => by subst h; exact batN_put2_ne xs 16 n (by decide) (by decide))
    (fun h => by subst h; unfold wat; rw [batN_put2_ne xs (plc true) n (by decide) (by decide), batN_put2_ne xs (plc true) n (by decide) (by decide)])

/-- The pseudo header and the segment. -/
def segP (six : Bool) (a b : List UInt8) (u : Bool) (xs : List UInt8) : List UInt8 := pseudoOf six a b (prN u) (totN u xs) ++ xs.take (totN u xs)
def ckS (six : Bool) (a b : List UInt8) (u : Bool) (xs : List UInt8) : Nat := ckOf (segP six a b u xs)
theorem ckS_le (six : Bool) (a b : List UInt8) (u : Bool) (xs : List UInt8) : ckS six a b u xs ≤ 65535 := ckOf_le _
/-- Is the checksum right? -/
def rightS (six : Bool) (a b : List UInt8) (u : Bool) (xs : List UInt8) : Bool := if u = true ∧ wat xs 6 = 0 then !six else decide (ckS six a b u xs = 0)
/-- The checksum of what has 0 in its place; what is laid for it. -/
def ck0 (six : Bool) (a b : List UInt8) (u : Bool) (xs : List UInt8) : Nat := ckS six a b u (put2 xs (plc u) 0)
def numS (u : Bool) (c : Nat) : Nat := if u = true ∧ c = 0 then 65535 else c
theorem numS_le {u : Bool} {c : Nat} (h : c ≤ 65535) : numS u c ≤ 65535 := by unfold numS; split <;> omega
/-- The checksum put in. -/
def fillS (six : Bool) (a b : List UInt8) (u : Bool) (xs : List UInt8) : List UInt8 := put2 xs (plc u) (numS u (ck0 six a b u xs))
theorem pseudo_even (six : Bool) (a b : List UInt8) (ha : a.length = 16) (hb : b.length = 16) (p l : Nat) : (pseudoOf six a b p l).length % 2 = 0 ∧ 0 < (pseudoOf six a b p l).length ∧ (pseudoOf six a b p l).length ≤ 40 := by
  cases six <;> simp [pseudoOf, ha, hb]
theorem pseudo_pos (six : Bool) (a b : List UInt8) (p l : Nat) (h0 : 0 < p) (hp : p < 256) (rest : List UInt8) (o : Bool) : 0 < wsum o (pseudoOf six a b p l ++ rest) := by
  rcases Nat.eq_zero_or_pos (wsum o (pseudoOf six a b p l ++ rest)) with h | h
  · have := (wsum_zero _ o).1 h (UInt8.ofNat p) (by cases six <;> simp [pseudoOf])
    have e := congrArg UInt8.toNat this
    rw [u8nat hp] at e
    exact absurd e (by show p ≠ 0; omega)
  · exact h
section
variable {six : Bool} {a b : List UInt8} {u : Bool} {xs : List UInt8}
theorem fillS_len : (fillS six a b u xs).length = xs.length := put2_len _ _ _
theorem fill_fault : faultB u (fillS six a b u xs) = faultB u xs ∧ totN u (fillS six a b u xs) = totN u xs := put2_fault u xs _
theorem fillS_fillS : fillS six a b u (fillS six a b u xs) = fillS six a b u xs := by
  have e : ck0 six a b u (fillS six a b u xs) = ck0 six a b u xs := by
    unfold ck0 fillS
    rw [put2_put2]
  show put2 (fillS six a b u xs) (plc u) (numS u (ck0 six a b u (fillS six a b u xs))) = _
  rw [e]
  exact put2_put2 _ _ _ _
theorem fillS_get {i : Nat} (h1 : i ≠ plc u) (h2 : i ≠ plc u + 1) : (fillS six a b u xs)[i]? = xs[i]? := put2_get_ne _ _ _ h1 h2
/-- The sum of a segment whose checksum was put in. -/
theorem seg_sum (ha : a.length = 16) (hb : b.length = 16) (h : faultB u xs = 0) {n : Nat} (hn : n < 65536) :
    wsum false (segP six a b u (put2 xs (plc u) n)) = wsum false (segP six a b u (put2 xs (plc u) 0)) + n := by
  obtain ⟨t1, t2, t3⟩ := tot_ok h
  have e : ∀ m, m < 65536 → wsum false (segP six a b u (put2 xs (plc u) m)) = wsum false (pseudoOf six a b (prN u) (totN u xs)) + (wsum false (xs.take (plc u)) + (m + wsum false ((xs.drop (plc u + 2)).take (totN u xs - (plc u + 2))))) := by
    intro m hm
    unfold segP
    rw [(put2_fault u xs m).2, wsum_append, show turnOdd false (pseudoOf six a b (prN u) (totN u xs)).length = false from if_neg (by rw [(pseudo_even six a b ha hb (prN u) (totN u xs)).1]; decide),
      put2_eq xs (plc u) m (by omega), List.take_append, List.take_of_length_le (l := xs.take (plc u)) (by rw [List.length_take]; omega), wsum_append,
      show turnOdd false (xs.take (plc u)).length = false from if_neg (by rw [List.length_take, Nat.min_eq_left (by omega)]; cases u <;> decide), List.length_take, Nat.min_eq_left (show plc u ≤ xs.length by omega), List.take_append,
      List.take_of_length_le (l := be2 m) (by rw [be2_len]; omega), wsum_append, show turnOdd false (be2 m).length = false from if_neg (by rw [be2_len]; decide), be2_len, show totN u xs - plc u - 2 = totN u xs - (plc u + 2) by omega]
    congr 3
    show 256 * (UInt8.ofNat (m / 256)).toNat + ((UInt8.ofNat (m % 256)).toNat + 0) = m
    rw [u8nat (by omega), u8nat (by omega)]
    omega
  rw [e n hn, e 0 (by omega)]
  omega
theorem fill_ck (ha : a.length = 16) (hb : b.length = 16) (h : faultB u xs = 0) : ckS six a b u (fillS six a b u xs) = 0 := by
  have hl := nrm_le (wsum false (segP six a b u (put2 xs (plc u) 0)))
  have hpos : 0 < wsum false (segP six a b u (put2 xs (plc u) 0)) := pseudo_pos _ _ _ _ _ (prN_pos u) (prN_lt u) _ _
  have hnp : nrm (wsum false (segP six a b u (put2 xs (plc u) 0))) ≠ 0 := fun e => by have := nrm_eq_zero.1 e; omega
  have hc : ck0 six a b u xs = 65535 - nrm (wsum false (segP six a b u (put2 xs (plc u) 0))) := rfl
  have hle : numS u (ck0 six a b u xs) ≤ 65535 := numS_le (ckS_le _ _ _ _ _)
  show ckOf (segP six a b u (put2 xs (plc u) (numS u (ck0 six a b u xs)))) = 0
  rw [ckOf_zero]
  unfold rsumOf
  rw [seg_sum ha hb h (show numS u (ck0 six a b u xs) < 65536 by omega)]
  by_cases h0 : u = true ∧ ck0 six a b u xs = 0
  · rw [show numS u (ck0 six a b u xs) = 65535 * 1 from if_pos h0, nrm_more hpos]
    have := h0.2
    omega
  · rw [show numS u (ck0 six a b u xs) = ck0 six a b u xs from if_neg h0, hc, ← nrm_add, nrm_small (by omega)]
    omega
/-- What is filled in isn't 0 for UDP. -/
theorem fill_num (h : faultB u xs = 0) (hu : u = true) : wat (fillS six a b u xs) 6 ≠ 0 := by
  subst hu
  obtain ⟨t1, t2, t3⟩ := tot_ok h
  have hle : numS true (ck0 six a b true xs) ≤ 65535 := numS_le (ckS_le _ _ _ _ _)
  have e : wat (fillS six a b true xs) 6 = numS true (ck0 six a b true xs) := wat_put2 xs (p := 6) (by omega) (by omega)
  rw [e]
  unfold numS
  split
  · decide
  · rename_i hh
    exact fun e => hh ⟨rfl, e⟩
theorem fill_right (ha : a.length = 16) (hb : b.length = 16) (h : faultB u xs = 0) : rightS six a b u (fillS six a b u xs) = true := by
  unfold rightS
  rw [if_neg (fun hh => fill_num h hh.1 hh.2)]
  exact decide_eq_true (fill_ck ha hb h)
/-- One byte of what is right changed: it isn't right. -/
theorem spoilt_ck (ha : a.length = 16) (hb : b.length = 16) (hf : ckS six a b u xs = 0) {i : Nat} {x y : UInt8} (hx : xs[i]? = some x) (hne : x ≠ y) (hi : i < totN u xs) (ht : totN u (xs.set i y) = totN u xs) : ckS six a b u (xs.set i y) ≠ 0 := by
  have hp := (pseudo_even six a b ha hb (prN u) (totN u xs))
  have e : segP six a b u (xs.set i y) = (segP six a b u xs).set ((pseudoOf six a b (prN u) (totN u xs)).length + i) y := by
    unfold segP
    rw [ht, List.set_append_right _ _ (by omega), Nat.add_sub_cancel_left, List.take_set]
  have hpos : 0 < wsum false (segP six a b u (xs.set i y)) := pseudo_pos _ _ _ _ _ (prN_pos u) (prN_lt u) _ _
  unfold ckS
  rw [e] at hpos ⊢
  refine ck_spoilt hf (x := x) ?_ hne hpos
  unfold segP
  rw [List.getElem?_append_right (by omega), Nat.add_sub_cancel_left, List.getElem?_take, if_pos hi, hx]
end
end Go.Proofs.Ytgjjepcjdekihaa
