/-
  Plain mathematics of stage 7: a link's header, its bytes, its reading. No program is named here.
-/
import Derived.Test.YtbahlhafckkapaaNum
namespace Go.Proofs.Ytbahlhafckkapaa

/-- A tag: its type, its number. -/
structure Tg where
  t : Int
  c : Int
/-- A link's header. -/
structure Lk where
  d : List UInt8
  s : List UInt8
  ts : List Tg
  ty : Int
  at_ : Int
def zeros6 : List UInt8 := [0, 0, 0, 0, 0, 0]
def Lk.zero : Lk := ⟨zeros6, zeros6, [], 0, 0⟩
/-- Both addresses have six bytes. -/
structure Lk.Six (L : Lk) : Prop where
  d : L.d.length = 6
  s : L.s.length = 6
theorem Lk.six_zero : Lk.zero.Six := ⟨rfl, rfl⟩

def isTg (n : Int) : Bool := decide (n = 33024 ∨ n = 34984)
/-- The number of two bytes from place p on. -/
def wd (xs : List UInt8) (p : Nat) : Nat := 256 * (xs.getD p 0).toNat + (xs.getD (p + 1) 0).toNat
theorem wd_lt (xs : List UInt8) (p : Nat) : wd xs p < 65536 := by
  unfold wd
  have := (xs.getD p 0).toNat_lt
  have := (xs.getD (p + 1) 0).toNat_lt
  omega
theorem two_of (xs : List UInt8) (p : Nat) (h : p + 2 ≤ xs.length) : (xs.drop p).take 2 = [xs[p], xs[p + 1]] := by
  have e1 : xs.drop p = xs[p] :: xs.drop (p + 1) := List.drop_eq_getElem_cons (by omega)
  have e2 : xs.drop (p + 1) = xs[p + 1] :: xs.drop (p + 2) := List.drop_eq_getElem_cons (by omega)
  rw [e1, e2]
  rfl
theorem wd_num (xs : List UInt8) (p : Nat) (h : p + 2 ≤ xs.length) : num ((xs.drop p).take 2) = wd xs p := by
  rw [two_of xs p h]
  unfold wd
  simp [num, List.getD, List.getElem?_eq_getElem (show p < xs.length by omega), List.getElem?_eq_getElem (show p + 1 < xs.length by omega)]

/-- A number in two bytes. -/
def be2 (n : Int) : List UInt8 := [UInt8.ofNat (n.toNat / 256), UInt8.ofNat (n.toNat % 256)]
theorem be2_len (n : Int) : (be2 n).length = 2 := rfl
theorem be2_dig (n : Nat) : (dig n 2).reverse = be2 (n : Int) := by
  simp only [dig, be2, Int.toNat_natCast, List.reverse_cons, List.reverse_nil, List.nil_append, List.cons_append]
  congr 2
  apply UInt8.toNat_inj.1
  simp
def fitsB (n : Int) : Bool := decide (0 ≤ n ∧ n < 65536)
theorem fits_yes {n : Int} (h : fitsB n = true) : 0 ≤ n ∧ n < 65536 := of_decide_eq_true h
theorem wd_be2 (pre rest : List UInt8) (n : Int) (h : fitsB n = true) (p : Nat) (hp : pre.length = p) : (wd (pre ++ (be2 n ++ rest)) p : Int) = n := by
  obtain ⟨h0, h1⟩ := fits_yes h
  obtain ⟨m, rfl⟩ := Int.eq_ofNat_of_zero_le h0
  have e1 : (pre ++ (be2 (m : Int) ++ rest)).getD p 0 = UInt8.ofNat (m / 256) := by
    rw [List.getD, List.getElem?_append_right (by omega), hp, Nat.sub_self]; rfl
  have e2 : (pre ++ (be2 (m : Int) ++ rest)).getD (p + 1) 0 = UInt8.ofNat (m % 256) := by
    rw [List.getD, List.getElem?_append_right (by omega), hp, Nat.add_sub_cancel_left]; rfl
  unfold wd
  rw [e1, e2, UInt8.toNat_ofNat', UInt8.toNat_ofNat']
  omega
theorem be2_wd (xs : List UInt8) (p : Nat) (h : p + 2 ≤ xs.length) : be2 (wd xs p : Int) = (xs.drop p).take 2 := by
  have h1 := (xs[p]'(by omega)).toNat_lt
  have h2 := (xs[p + 1]'(by omega)).toNat_lt
  have e3 : wd xs p = 256 * (xs[p]'(by omega)).toNat + (xs[p + 1]'(by omega)).toNat := by
    unfold wd
    simp [List.getD, List.getElem?_eq_getElem (show p < xs.length by omega), List.getElem?_eq_getElem (show p + 1 < xs.length by omega)]
  rw [two_of xs p h, e3]
  unfold be2
  rw [Int.toNat_natCast]
  rw [show (256 * (xs[p]'(by omega)).toNat + (xs[p + 1]'(by omega)).toNat) / 256 = (xs[p]'(by omega)).toNat by omega, show (256 * (xs[p]'(by omega)).toNat + (xs[p + 1]'(by omega)).toNat) % 256 = (xs[p + 1]'(by omega)).toNat by omega]
  simp

def tgB (x : Tg) : List UInt8 := be2 x.t ++ be2 x.c
def tsB : List Tg → List UInt8
  | [] => []
  | x :: ts => tgB x ++ tsB ts
theorem tsB_len : ∀ ts : List Tg, (tsB ts).length = 4 * ts.length
  | [] => rfl
  | x :: ts => by
    show (tgB x ++ tsB ts).length = _
    rw [List.length_append, tsB_len ts]
    simp [tgB, be2]; omega
theorem tsB_snoc : ∀ (ts : List Tg) (x : Tg), tsB (ts ++ [x]) = tsB ts ++ tgB x
  | [], x => by simp [tsB]
  | y :: ts, x => by
    show tgB y ++ tsB (ts ++ [x]) = tgB y ++ tsB ts ++ tgB x
    rw [tsB_snoc ts x, List.append_assoc]
/-- A header's bytes. -/
def lkB (L : Lk) : List UInt8 := L.d ++ (L.s ++ (tsB L.ts ++ be2 L.ty))
theorem lkB_len {L : Lk} (h : L.Six) : (lkB L).length = 14 + 4 * L.ts.length := by
  unfold lkB
  rw [List.length_append, List.length_append, List.length_append, h.d, h.s, tsB_len, be2_len]; omega
def tgOk (x : Tg) : Bool := isTg x.t && fitsB x.c
/-- May the header be? -/
def rightB (L : Lk) : Bool := decide (L.ts.length ≤ 2) && (L.ts.all tgOk && (fitsB L.ty && !isTg L.ty))
theorem right_parts {L : Lk} (h : rightB L = true) : L.ts.length ≤ 2 ∧ L.ts.all tgOk = true ∧ fitsB L.ty = true ∧ isTg L.ty = false := by
  unfold rightB at h
  simp only [Bool.and_eq_true, decide_eq_true_eq, Bool.not_eq_true'] at h
  exact ⟨h.1, h.2.1, h.2.2.1, h.2.2.2⟩

/-- The reading from place p on, with the tags that were read, and so many that may come, and one. -/
def rdGo (xs : List UInt8) : Nat → List Tg → Nat → Lk × Nat
  | 0, _, _ => (Lk.zero, 4)
  | k + 1, ts, p =>
    if xs.length < p + 2 then (Lk.zero, 2)
    else if isTg (wd xs p) = false then (⟨xs.take 6, (xs.drop 6).take 6, ts, (wd xs p : Nat), ((p + 2 : Nat) : Int)⟩, 0)
    else if k = 0 then (Lk.zero, 4)
    else rdGo xs k (ts ++ [⟨(wd xs p : Nat), (wd xs (p + 2) : Nat)⟩]) (p + 4)
def rdOf (xs : List UInt8) : Lk × Nat := rdGo xs 3 [] 12

theorem rdGo_end {xs : List UInt8} {k : Nat} {ts : List Tg} {p : Nat} (h : xs.length < p + 2) : rdGo xs (k + 1) ts p = (Lk.zero, 2) := by
  rw [rdGo, if_pos h]
theorem rdGo_ok {xs : List UInt8} {k : Nat} {ts : List Tg} {p : Nat} (h : p + 2 ≤ xs.length) (ht : isTg (wd xs p) = false) :
    rdGo xs (k + 1) ts p = (⟨xs.take 6, (xs.drop 6).take 6, ts, (wd xs p : Nat), ((p + 2 : Nat) : Int)⟩, 0) := by
  rw [rdGo, if_neg (by omega), if_pos ht]
theorem rdGo_long {xs : List UInt8} {ts : List Tg} {p : Nat} (h : p + 2 ≤ xs.length) (ht : isTg (wd xs p) = true) : rdGo xs 1 ts p = (Lk.zero, 4) := by
  rw [rdGo, if_neg (by omega), if_neg (by rw [ht]; decide), if_pos rfl]
theorem rdGo_tag {xs : List UInt8} {k : Nat} {ts : List Tg} {p : Nat} (h : p + 2 ≤ xs.length) (ht : isTg (wd xs p) = true) :
    rdGo xs (k + 2) ts p = rdGo xs (k + 1) (ts ++ [⟨(wd xs p : Nat), (wd xs (p + 2) : Nat)⟩]) (p + 4) := by
  rw [rdGo, if_neg (by omega), if_neg (by rw [ht]; decide), if_neg (by omega)]

theorem all_tail {x : Tg} {ts : List Tg} (h : (x :: ts).all tgOk = true) : (isTg x.t = true ∧ fitsB x.c = true) ∧ ts.all tgOk = true := by
  simp only [List.all_cons, Bool.and_eq_true, tgOk] at h
  exact h
theorem isTg_fits {n : Int} (h : isTg n = true) : fitsB n = true := by
  have := of_decide_eq_true h
  exact decide_eq_true (by omega)

theorem rdGo_put (ty : Int) (hf : fitsB ty = true) (hn : isTg ty = false) (more : List UInt8) : ∀ (ts : List Tg) (k : Nat) (ts0 : List Tg) (pre : List UInt8) (p : Nat), pre.length = p → ts.length ≤ k → ts.all tgOk = true →
    rdGo (pre ++ (tsB ts ++ (be2 ty ++ more))) (k + 1) ts0 p = (⟨(pre ++ (tsB ts ++ (be2 ty ++ more))).take 6, ((pre ++ (tsB ts ++ (be2 ty ++ more))).drop 6).take 6, ts0 ++ ts, ty, ((p + 4 * ts.length + 2 : Nat) : Int)⟩, 0)
  | [], k, ts0, pre, p, hp, _, _ => by
    have e : (wd (pre ++ (tsB [] ++ (be2 ty ++ more))) p : Int) = ty := by
      show (wd (pre ++ (be2 ty ++ more)) p : Int) = ty
      exact wd_be2 pre more ty hf p hp
    rw [rdGo_ok (by simp [be2_len]; omega) (by rw [e]; exact hn), e, List.append_nil]
    simp
  | x :: ts, 0, _, _, _, _, hk, _ => by simp at hk
  | x :: ts, k + 1, ts0, pre, p, hp, hk, ha => by
    obtain ⟨⟨h1, h2⟩, h3⟩ := all_tail ha
    have e0 : pre ++ (tsB (x :: ts) ++ (be2 ty ++ more)) = pre ++ (be2 x.t ++ (be2 x.c ++ (tsB ts ++ (be2 ty ++ more)))) := by simp [tsB, tgB]
    have e0' : pre ++ (tsB (x :: ts) ++ (be2 ty ++ more)) = (pre ++ be2 x.t) ++ (be2 x.c ++ (tsB ts ++ (be2 ty ++ more))) := by simp [tsB, tgB]
    have e0'' : pre ++ (tsB (x :: ts) ++ (be2 ty ++ more)) = (pre ++ tgB x) ++ (tsB ts ++ (be2 ty ++ more)) := by simp [tsB]
    have e1 : (wd (pre ++ (tsB (x :: ts) ++ (be2 ty ++ more))) p : Int) = x.t := by rw [e0]; exact wd_be2 _ _ _ (isTg_fits h1) p hp
    have e2 : (wd (pre ++ (tsB (x :: ts) ++ (be2 ty ++ more))) (p + 2) : Int) = x.c := by rw [e0']; exact wd_be2 _ _ _ h2 _ (by rw [List.length_append, be2_len, hp])
    rw [rdGo_tag (by rw [e0]; simp [be2_len]; omega) (by rw [e1]; exact h1), e1, e2, e0'']
    rw [rdGo_put ty hf hn more ts k (ts0 ++ [x]) (pre ++ tgB x) (p + 4) (by simp [tgB, be2_len, hp]) (by simpa using hk) h3]
    simp only [List.append_assoc, List.cons_append, List.nil_append, List.length_cons]
    rw [show p + 4 + 4 * ts.length + 2 = p + 4 * (ts.length + 1) + 2 by omega]
theorem rdOf_back {L : Lk} (h6 : L.Six) (h : rightB L = true) (more : List UInt8) : rdOf (lkB L ++ more) = ({ L with at_ := ((14 + 4 * L.ts.length : Nat) : Int) }, 0) := by
  obtain ⟨h1, h2, h3, h4⟩ := right_parts h
  have e : lkB L ++ more = (L.d ++ L.s) ++ (tsB L.ts ++ (be2 L.ty ++ more)) := by simp [lkB]
  rw [rdOf, e, rdGo_put L.ty h3 h4 more L.ts 2 [] (L.d ++ L.s) 12 (by rw [List.length_append, h6.d, h6.s]) h1 h2]
  have e1 : (L.d ++ L.s ++ (tsB L.ts ++ (be2 L.ty ++ more))).take 6 = L.d := by
    rw [List.append_assoc, List.take_append_of_le_length (by rw [h6.d]; omega), List.take_of_length_le (by rw [h6.d]; omega)]
  have e2 : ((L.d ++ L.s ++ (tsB L.ts ++ (be2 L.ty ++ more))).drop 6).take 6 = L.s := by
    rw [List.append_assoc, List.drop_append_of_le_length (by rw [h6.d]; omega), List.drop_eq_nil_of_le (by rw [h6.d]; omega), List.nil_append, List.take_append_of_le_length (by rw [h6.s]; omega), List.take_of_length_le (by rw [h6.s]; omega)]
  rw [e1, e2, show 12 + 4 * L.ts.length + 2 = 14 + 4 * L.ts.length by omega]
  rfl

theorem rdGo_cut (ty : Int) : ∀ (ts : List Tg) (k : Nat) (ts0 : List Tg) (pre : List UInt8) (p j : Nat), pre.length = p → ts.length ≤ k → ts.all tgOk = true → j < 4 * ts.length + 2 →
    rdGo (pre ++ (tsB ts ++ be2 ty).take j) (k + 1) ts0 p = (Lk.zero, 2)
  | [], k, ts0, pre, p, j, hp, _, _, hj => rdGo_end (by rw [List.length_append, List.length_take, hp]; simp at hj; omega)
  | x :: ts, 0, _, _, _, _, _, hk, _, _ => by simp at hk
  | x :: ts, k + 1, ts0, pre, p, j, hp, hk, ha, hj => by
    obtain ⟨⟨h1, h2⟩, h3⟩ := all_tail ha
    by_cases hj2 : j < 2
    · exact rdGo_end (by rw [List.length_append, List.length_take, hp]; omega)
    · have e0 : tsB (x :: ts) ++ be2 ty = be2 x.t ++ (be2 x.c ++ (tsB ts ++ be2 ty)) := by simp [tsB, tgB]
      have e1 : (tsB (x :: ts) ++ be2 ty).take j = be2 x.t ++ (be2 x.c ++ (tsB ts ++ be2 ty)).take (j - 2) := by
        rw [e0, List.take_append, be2_len, List.take_of_length_le (by rw [be2_len]; omega)]
      have hlen : ((tsB (x :: ts) ++ be2 ty).take j).length = j := by
        rw [List.length_take, List.length_append, tsB_len, be2_len, List.length_cons]
        simp at hj; omega
      have hw : (wd (pre ++ (tsB (x :: ts) ++ be2 ty).take j) p : Int) = x.t := by rw [e1]; exact wd_be2 _ _ _ (isTg_fits h1) p hp
      rw [rdGo_tag (by rw [List.length_append, hlen, hp]; omega) (by rw [hw]; exact h1)]
      by_cases hj4 : j < 4
      · exact rdGo_end (by rw [List.length_append, hlen, hp]; omega)
      · have e2 : (tsB (x :: ts) ++ be2 ty).take j = tgB x ++ (tsB ts ++ be2 ty).take (j - 4) := by
          have : tsB (x :: ts) ++ be2 ty = tgB x ++ (tsB ts ++ be2 ty) := by simp [tsB]
          have hl : (tgB x).length = 4 := rfl
          rw [this, List.take_append, hl, List.take_of_length_le (by rw [hl]; omega)]
        rw [e2, ← List.append_assoc]
        exact rdGo_cut ty ts k _ (pre ++ tgB x) (p + 4) (j - 4) (by simp [tgB, be2_len, hp]) (by simpa using hk) h3 (by simp at hj; omega)
theorem rdOf_short {xs : List UInt8} (h : xs.length < 14) : rdOf xs = (Lk.zero, 2) := rdGo_end h
theorem rdOf_cut {L : Lk} (h6 : L.Six) (h : rightB L = true) (j : Nat) (hj : j < 14 + 4 * L.ts.length) : rdOf ((lkB L).take j) = (Lk.zero, 2) := by
  obtain ⟨h1, h2, h3, h4⟩ := right_parts h
  by_cases h12 : j < 12
  · exact rdOf_short (by rw [List.length_take]; omega)
  · have e : (lkB L).take j = (L.d ++ L.s) ++ (tsB L.ts ++ be2 L.ty).take (j - 12) := by
      have hl : (L.d ++ L.s).length = 12 := by rw [List.length_append, h6.d, h6.s]
      have : lkB L = (L.d ++ L.s) ++ (tsB L.ts ++ be2 L.ty) := by simp [lkB]
      rw [this, List.take_append, hl, List.take_of_length_le (by rw [hl]; omega)]
    rw [e]
    exact rdGo_cut L.ty L.ts 2 [] (L.d ++ L.s) 12 (j - 12) (by rw [List.length_append, h6.d, h6.s]) h1 h2 (by omega)

theorem wd_fits (xs : List UInt8) (p : Nat) : fitsB (wd xs p : Int) = true := by
  have := wd_lt xs p
  exact decide_eq_true (by omega)
theorem rdGo_only (xs : List UInt8) : ∀ (k : Nat) (ts0 : List Tg) (p : Nat) (L : Lk), rdGo xs (k + 1) ts0 p = (L, 0) →
    ∃ ts : List Tg, L.d = xs.take 6 ∧ L.s = (xs.drop 6).take 6 ∧ L.ts = ts0 ++ ts ∧ L.at_ = ((p + 4 * ts.length + 2 : Nat) : Int) ∧ ts.length ≤ k ∧ ts.all tgOk = true ∧ fitsB L.ty = true ∧ isTg L.ty = false ∧
      p + 4 * ts.length + 2 ≤ xs.length ∧ tsB ts ++ be2 L.ty = (xs.drop p).take (4 * ts.length + 2)
  | k, ts0, p, L, h => by
    by_cases h2 : xs.length < p + 2
    · rw [rdGo_end h2] at h; cases h
    · by_cases ht : isTg (wd xs p) = true
      · match k with
        | 0 => rw [rdGo_long (by omega) ht] at h; cases h
        | k + 1 =>
          rw [rdGo_tag (by omega) ht] at h
          obtain ⟨ts, a1, a2, a3, a4, a5, a6, a7, a8, a9, a10⟩ := rdGo_only xs k _ (p + 4) L h
          refine ⟨⟨(wd xs p : Nat), (wd xs (p + 2) : Nat)⟩ :: ts, a1, a2, by rw [a3]; simp, by rw [a4, List.length_cons]; congr 1; omega, by simpa using a5, ?_, a7, a8, by rw [List.length_cons]; omega, ?_⟩
          · rw [List.all_cons, a6, Bool.and_true]
            unfold tgOk
            rw [ht, wd_fits]
            rfl
          · show tgB _ ++ tsB ts ++ be2 L.ty = _
            rw [List.append_assoc, a10]
            unfold tgB
            rw [be2_wd xs p (by omega), be2_wd xs (p + 2) (by omega), List.length_cons]
            obtain ⟨q, hq⟩ : ∃ q, 4 * ts.length + 2 = q := ⟨_, rfl⟩
            rw [show 4 * (ts.length + 1) + 2 = 2 + (2 + q) by omega, hq, List.take_add, List.drop_drop, List.take_add, List.drop_drop, List.append_assoc, show p + 2 + 2 = p + 4 by omega]
      · have ht : isTg (wd xs p) = false := by simpa using ht
        rw [rdGo_ok (by omega) ht] at h
        cases h
        refine ⟨[], rfl, rfl, by simp, rfl, by simp, rfl, wd_fits xs p, ht, by simp; omega, ?_⟩
        show be2 _ = _
        exact be2_wd xs p (by omega)
theorem rdOf_only {xs : List UInt8} {L : Lk} (h : rdOf xs = (L, 0)) : L.Six ∧ rightB L = true ∧ ∃ m : Nat, L.at_ = (m : Int) ∧ m ≤ xs.length ∧ 14 ≤ m ∧ m ≤ 22 ∧ lkB L = xs.take m := by
  obtain ⟨ts, a1, a2, a3, a4, a5, a6, a7, a8, a9, a10⟩ := rdGo_only xs 2 [] 12 L h
  rw [List.nil_append] at a3
  subst a3
  refine ⟨⟨by rw [a1, List.length_take]; omega, by rw [a2, List.length_take, List.length_drop]; omega⟩, ?_, _, a4, by omega, by omega, by omega, ?_⟩
  · unfold rightB
    rw [a6, a7, a8, decide_eq_true a5]
    rfl
  · unfold lkB
    obtain ⟨q, hq⟩ : ∃ q, 4 * L.ts.length + 2 = q := ⟨_, rfl⟩
    rw [a10, a1, a2, show 12 + 4 * L.ts.length + 2 = 6 + (6 + q) by omega, hq, List.take_add, List.take_add, List.drop_drop]
theorem rdGo_err (xs : List UInt8) : ∀ (k : Nat) (ts0 : List Tg) (p : Nat) (L : Lk) (e : Nat), rdGo xs k ts0 p = (L, e) → e ≠ 0 → L = Lk.zero ∧ (e = 2 ∨ e = 4)
  | 0, ts0, p, L, e, h, _ => by rw [rdGo] at h; cases h; exact ⟨rfl, .inr rfl⟩
  | k + 1, ts0, p, L, e, h, he => by
    by_cases h2 : xs.length < p + 2
    · rw [rdGo_end h2] at h; cases h; exact ⟨rfl, .inl rfl⟩
    · by_cases ht : isTg (wd xs p) = true
      · match k with
        | 0 => rw [rdGo_long (by omega) ht] at h; cases h; exact ⟨rfl, .inr rfl⟩
        | k + 1 => rw [rdGo_tag (by omega) ht] at h; exact rdGo_err xs (k + 1) _ _ L e h he
      · rw [rdGo_ok (by omega) (by simpa using ht)] at h; cases h; exact absurd rfl he
theorem rdOf_six (xs : List UInt8) (L : Lk) (e : Nat) (h : rdOf xs = (L, e)) : L.Six ∧ L.ts.length ≤ 2 ∧ e ≤ 4 ∧ 0 ≤ L.ty ∧ L.ty < 65536 ∧ 0 ≤ L.at_ ∧ L.at_ ≤ 22 := by
  by_cases he : e = 0
  · subst he
    obtain ⟨h1, h2, m, h3, _, h4, h5, _⟩ := rdOf_only h
    obtain ⟨a, b, c, d⟩ := right_parts h2
    have := fits_yes c
    exact ⟨h1, a, by omega, this.1, this.2, by omega, by omega⟩
  · obtain ⟨rfl, h2⟩ := rdGo_err xs _ _ _ L e h he
    exact ⟨Lk.six_zero, by simp [Lk.zero], by omega, by simp [Lk.zero], by simp [Lk.zero], by simp [Lk.zero], by simp [Lk.zero]⟩

/-- The bytes with other addresses, as far as they go. -/
def turnOf (xs d s : List UInt8) : List UInt8 := (d ++ s).take xs.length ++ xs.drop 12
theorem turnOf_len (xs d s : List UInt8) (hd : d.length = 6) (hs : s.length = 6) : (turnOf xs d s).length = xs.length := by
  unfold turnOf
  rw [List.length_append, List.length_take, List.length_append, List.length_drop, hd, hs]; omega
theorem turnOf_wd (xs d s : List UInt8) (hd : d.length = 6) (hs : s.length = 6) (p : Nat) (hp : 12 ≤ p) : wd (turnOf xs d s) p = wd xs p := by
  have key : ∀ j, 12 ≤ j → (turnOf xs d s)[j]? = xs[j]? := fun j hj => by
    unfold turnOf
    have hl : ((d ++ s).take xs.length).length = min xs.length 12 := by rw [List.length_take, List.length_append, hd, hs]
    by_cases hx : 12 ≤ xs.length
    · rw [List.getElem?_append_right (by omega), hl, Nat.min_eq_right hx, List.getElem?_drop, show 12 + (j - 12) = j by omega]
    · rw [List.drop_eq_nil_of_le (by omega), List.append_nil, List.getElem?_eq_none (by omega), List.getElem?_eq_none (by omega)]
  unfold wd
  rw [List.getD, List.getD, List.getD, List.getD, key p hp, key (p + 1) (by omega)]
theorem rdGo_turn (xs d s : List UInt8) (hd : d.length = 6) (hs : s.length = 6) : ∀ (k : Nat) (ts0 : List Tg) (p : Nat), 12 ≤ p →
    rdGo (turnOf xs d s) k ts0 p = (if (rdGo xs k ts0 p).2 = 0 then { (rdGo xs k ts0 p).1 with d := d, s := s } else (rdGo xs k ts0 p).1, (rdGo xs k ts0 p).2)
  | 0, ts0, p, _ => rfl
  | k + 1, ts0, p, hp => by
    have hl := turnOf_len xs d s hd hs
    have hw := turnOf_wd xs d s hd hs p hp
    have hw2 := turnOf_wd xs d s hd hs (p + 2) (by omega)
    by_cases h2 : xs.length < p + 2
    · rw [rdGo_end h2, rdGo_end (by rw [hl]; exact h2)]; rfl
    · by_cases ht : isTg (wd xs p) = true
      · match k with
        | 0 => rw [rdGo_long (by omega) ht, rdGo_long (by omega) (by rw [hw]; exact ht)]; rfl
        | k + 1 =>
          rw [rdGo_tag (by omega) ht, rdGo_tag (by omega) (by rw [hw]; exact ht), hw, hw2]
          exact rdGo_turn xs d s hd hs (k + 1) _ (p + 4) (by omega)
      · have ht : isTg (wd xs p) = false := by simpa using ht
        rw [rdGo_ok (by omega) ht, rdGo_ok (by omega) (by rw [hw]; exact ht), hw]
        have e1 : (turnOf xs d s).take 6 = d := by
          unfold turnOf
          rw [List.take_of_length_le (l := d ++ s) (by rw [List.length_append]; omega), List.append_assoc, List.take_append_of_le_length (by omega), List.take_of_length_le (by omega)]
        have e2 : ((turnOf xs d s).drop 6).take 6 = s := by
          unfold turnOf
          rw [List.take_of_length_le (l := d ++ s) (by rw [List.length_append]; omega), List.append_assoc, List.drop_append_of_le_length (by omega), List.drop_eq_nil_of_le (by omega), List.nil_append, List.take_append_of_le_length (by omega), List.take_of_length_le (by omega)]
        rw [e1, e2]
        rfl
theorem rdOf_turn (xs d s : List UInt8) (hd : d.length = 6) (hs : s.length = 6) :
    rdOf (turnOf xs d s) = (if (rdOf xs).2 = 0 then { (rdOf xs).1 with d := d, s := s } else (rdOf xs).1, (rdOf xs).2) := rdGo_turn xs d s hd hs 3 [] 12 (by omega)
theorem turnOf_get (xs d s : List UInt8) (hd : d.length = 6) (hs : s.length = 6) (j : Nat) (hj : j < xs.length) :
    (turnOf xs d s)[j]? = if j < 6 then d[j]? else if j < 12 then s[j - 6]? else xs[j]? := by
  unfold turnOf
  have hl : ((d ++ s).take xs.length).length = min xs.length 12 := by rw [List.length_take, List.length_append, hd, hs]
  split
  · rw [List.getElem?_append_left (by omega), List.getElem?_take_of_lt hj, List.getElem?_append_left (by omega)]
  · split
    · rw [List.getElem?_append_left (by omega), List.getElem?_take_of_lt hj, List.getElem?_append_right (by omega), hd]
    · rw [List.getElem?_append_right (by omega), hl, Nat.min_eq_right (by omega), List.getElem?_drop, show 12 + (j - 12) = j by omega]
end Go.Proofs.Ytbahlhafckkapaa
