/-
  Several texts in one: LMath LCell LSmall LRead LRRead LTag LPut LRPut.
-/
import Derived.Deep.MidRow
import Derived.Laws.ResultCell
import Derived.Laws.CopyOwn
import Derived.Deep.RegionHeld3
import Derived.Deep.AppendLies
import Derived.Lib.SliceRun
import Derived.IntWalk
import Derived.Deep.QuietTactic
import Derived.BigQuiet
import Derived.Deep.RegionLaw
import Derived.Test.YtomkfcpellcncaaQB
namespace Go.Proofs.Ytomkfcpellcncaa
set_option maxRecDepth 100000
section
/-- A tag: its type, its number. -/
structure Tg where
  t : Int
  c : Int
/-- A link's header. -/
structure Lk where
  d : List UInt8
  s : List UInt8
  ts : List Tg
  ty : Int
  at_ : Int
def zeros6 : List UInt8 := [0, 0, 0, 0, 0, 0]
def Lk.zero : Lk := ⟨zeros6, zeros6, [], 0, 0⟩
/-- Both addresses have six bytes. -/
structure Lk.Six (L : Lk) : Prop where
  d : L.d.length = 6
  s : L.s.length = 6
theorem Lk.six_zero : Lk.zero.Six := ⟨rfl, rfl⟩
def isTg (n : Int) : Bool := decide (n = 33024 ∨ n = 34984)
/-- The number of two bytes from place p on. -/
def wd (xs : List UInt8) (p : Nat) : Nat := 256 * (xs.getD p 0).toNat + (xs.getD (p + 1) 0).toNat
theorem wd_lt (xs : List UInt8) (p : Nat) : wd xs p < 65536 := by
  unfold wd
  have := (xs.getD p 0).toNat_lt
  have := (xs.getD (p + 1) 0).toNat_lt
  omega
theorem wd_num (xs : List UInt8) (p : Nat) (h : p + 2 ≤ xs.length) : num ((xs.drop p).take 2) = wd xs p := by
  rw [two_of xs p h]
  unfold wd
  simp [num, List.getD, List.getElem?_eq_getElem (show p < xs.length by omega), List.getElem?_eq_getElem (show p + 1 < xs.length by omega)]
/-- A number in two bytes. -/
def be2_7 (n : Int) : List UInt8 := [UInt8.ofNat (n.toNat / 256), UInt8.ofNat (n.toNat % 256)]
theorem be2_len_7 (n : Int) : (be2_7 n).length = 2 := rfl
theorem be2_dig_7 (n : Nat) : (dig n 2).reverse = be2_7 (n : Int) := by
  simp only [dig, be2_7, Int.toNat_natCast, List.reverse_cons, List.reverse_nil, List.nil_append, List.cons_append]
  congr 2
  apply UInt8.toNat_inj.1
  simp
def fitsB (n : Int) : Bool := decide (0 ≤ n ∧ n < 65536)
theorem fits_yes {n : Int} (h : fitsB n = true) : 0 ≤ n ∧ n < 65536 := of_decide_eq_true h
theorem wd_be2 (pre rest : List UInt8) (n : Int) (h : fitsB n = true) (p : Nat) (hp : pre.length = p) : (wd (pre ++ (be2_7 n ++ rest)) p : Int) = n := by
  obtain ⟨h0, h1⟩ := fits_yes h
  obtain ⟨m, rfl⟩ := Int.eq_ofNat_of_zero_le h0
  have e1 : (pre ++ (be2_7 (m : Int) ++ rest)).getD p 0 = UInt8.ofNat (m / 256) := by
    rw [List.getD, List.getElem?_append_right (by omega), hp, Nat.sub_self]; rfl
  have e2 : (pre ++ (be2_7 (m : Int) ++ rest)).getD (p + 1) 0 = UInt8.ofNat (m % 256) := by
    rw [List.getD, List.getElem?_append_right (by omega), hp, Nat.add_sub_cancel_left]; rfl
  unfold wd
  rw [e1, e2, UInt8.toNat_ofNat', UInt8.toNat_ofNat']
  omega
theorem be2_wd (xs : List UInt8) (p : Nat) (h : p + 2 ≤ xs.length) : be2_7 (wd xs p : Int) = (xs.drop p).take 2 := by
  have h1 := (xs[p]'(by omega)).toNat_lt
  have h2 := (xs[p + 1]'(by omega)).toNat_lt
  have e3 : wd xs p = 256 * (xs[p]'(by omega)).toNat + (xs[p + 1]'(by omega)).toNat := by
    unfold wd
    simp [List.getD, List.getElem?_eq_getElem (show p < xs.length by omega), List.getElem?_eq_getElem (show p + 1 < xs.length by omega)]
  rw [two_of xs p h, e3]
  unfold be2_7
  rw [Int.toNat_natCast]
  rw [show (256 * (xs[p]'(by omega)).toNat + (xs[p + 1]'(by omega)).toNat) / 256 = (xs[p]'(by omega)).toNat by omega, show (256 * (xs[p]'(by omega)).toNat + (xs[p + 1]'(by omega)).toNat) % 256 = (xs[p + 1]'(by omega)).toNat by omega]
  simp
def tgB (x : Tg) : List UInt8 := be2_7 x.t ++ be2_7 x.c
def tsB : List Tg → List UInt8
  | [] => []
  | x :: ts => tgB x ++ tsB ts
theorem tsB_len : ∀ ts : List Tg, (tsB ts).length = 4 * ts.length
  | [] => rfl
  | x :: ts => by
    show (tgB x ++ tsB ts).length = _
    rw [List.length_append, tsB_len ts]
    simp [tgB, be2_7]; omega
theorem tsB_snoc : ∀ (ts : List Tg) (x : Tg), tsB (ts ++ [x]) = tsB ts ++ tgB x
  | [], x => by simp [tsB]
  | y :: ts, x => by
    show tgB y ++ tsB (ts ++ [x]) = tgB y ++ tsB ts ++ tgB x
    rw [tsB_snoc ts x, List.append_assoc]
/-- A header's bytes. -/
def lkB (L : Lk) : List UInt8 := L.d ++ (L.s ++ (tsB L.ts ++ be2_7 L.ty))
theorem lkB_len {L : Lk} (h : L.Six) : (lkB L).length = 14 + 4 * L.ts.length := by
  unfold lkB
  rw [List.length_append, List.length_append, List.length_append, h.d, h.s, tsB_len, be2_len_7]; omega
def tgOk (x : Tg) : Bool := isTg x.t && fitsB x.c
/-- May the header be? -/
def rightB_7 (L : Lk) : Bool := decide (L.ts.length ≤ 2) && (L.ts.all tgOk && (fitsB L.ty && !isTg L.ty))
theorem right_parts {L : Lk} (h : rightB_7 L = true) : L.ts.length ≤ 2 ∧ L.ts.all tgOk = true ∧ fitsB L.ty = true ∧ isTg L.ty = false := by
  unfold rightB_7 at h
  simp only [Bool.and_eq_true, decide_eq_true_eq, Bool.not_eq_true'] at h
  exact ⟨h.1, h.2.1, h.2.2.1, h.2.2.2⟩
/-- The reading from place p on, with the tags that were read, and so many that may come, and one. -/
def rdGo (xs : List UInt8) : Nat → List Tg → Nat → Lk × Nat
  | 0, _, _ => (Lk.zero, 4)
  | k + 1, ts, p =>
    if xs.length < p + 2 then (Lk.zero, 2)
    else if isTg (wd xs p) = false then (⟨xs.take 6, (xs.drop 6).take 6, ts, (wd xs p : Nat), ((p + 2 : Nat) : Int)⟩, 0)
    else if k = 0 then (Lk.zero, 4)
    else rdGo xs k (ts ++ [⟨(wd xs p : Nat), (wd xs (p + 2) : Nat)⟩]) (p + 4)
def rdOf (xs : List UInt8) : Lk × Nat := rdGo xs 3 [] 12
theorem rdGo_end {xs : List UInt8} {k : Nat} {ts : List Tg} {p : Nat} (h : xs.length < p + 2) : rdGo xs (k + 1) ts p = (Lk.zero, 2) := by
  rw [rdGo, if_pos h]
theorem rdGo_ok {xs : List UInt8} {k : Nat} {ts : List Tg} {p : Nat} (h : p + 2 ≤ xs.length) (ht : isTg (wd xs p) = false) :
    rdGo xs (k + 1) ts p = (⟨xs.take 6, (xs.drop 6).take 6, ts, (wd xs p : Nat), ((p + 2 : Nat) : Int)⟩, 0) := by
  rw [rdGo, if_neg (by omega), if_pos ht]
theorem rdGo_long {xs : List UInt8} {ts : List Tg} {p : Nat} (h : p + 2 ≤ xs.length) (ht : isTg (wd xs p) = true) : rdGo xs 1 ts p = (Lk.zero, 4) := by
  rw [rdGo, if_neg (by omega), if_neg (by rw [ht]; decide), if_pos rfl]
theorem rdGo_tag {xs : List UInt8} {k : Nat} {ts : List Tg} {p : Nat} (h : p + 2 ≤ xs.length) (ht : isTg (wd xs p) = true) :
    rdGo xs (k + 2) ts p = rdGo xs (k + 1) (ts ++ [⟨(wd xs p : Nat), (wd xs (p + 2) : Nat)⟩]) (p + 4) := by
  rw [rdGo, if_neg (by omega), if_neg (by rw [ht]; decide), if_neg (by omega)]
theorem all_tail {x : Tg} {ts : List Tg} (h : (x :: ts).all tgOk = true) : (isTg x.t = true ∧ fitsB x.c = true) ∧ ts.all tgOk = true := by
  simp only [List.all_cons, Bool.and_eq_true, tgOk] at h
  exact h
theorem isTg_fits {n : Int} (h : isTg n = true) : fitsB n = true := by
  have := of_decide_eq_true h
  exact decide_eq_true (by omega)
theorem rdGo_put (ty : Int) (hf : fitsB ty = true) (hn : isTg ty = false) (more : List UInt8) : ∀ (ts : List Tg) (k : Nat) (ts0 : List Tg) (pre : List UInt8) (p : Nat), pre.length = p → ts.length ≤ k → ts.all tgOk = true →
    rdGo (pre ++ (tsB ts ++ (be2_7 ty ++ more))) (k + 1) ts0 p = (⟨(pre ++ (tsB ts ++ (be2_7 ty ++ more))).take 6, ((pre ++ (tsB ts ++ (be2_7 ty ++ more))).drop 6).take 6, ts0 ++ ts, ty, ((p + 4 * ts.length + 2 : Nat) : Int)⟩, 0)
  | [], k, ts0, pre, p, hp, _, _ => by
    have e : (wd (pre ++ (tsB [] ++ (be2_7 ty ++ more))) p : Int) = ty := by
      show (wd (pre ++ (be2_7 ty ++ more)) p : Int) = ty
      exact wd_be2 pre more ty hf p hp
    rw [rdGo_ok (by simp [be2_len_7]; omega) (by rw [e]; exact hn), e, List.append_nil]
    simp
  | x :: ts, 0, _, _, _, _, hk, _ => by simp at hk
  | x :: ts, k + 1, ts0, pre, p, hp, hk, ha => by
    obtain ⟨⟨h1, h2⟩, h3⟩ := all_tail ha
    have e0 : pre ++ (tsB (x :: ts) ++ (be2_7 ty ++ more)) = pre ++ (be2_7 x.t ++ (be2_7 x.c ++ (tsB ts ++ (be2_7 ty ++ more)))) := by simp [tsB, tgB]
    have e0' : pre ++ (tsB (x :: ts) ++ (be2_7 ty ++ more)) = (pre ++ be2_7 x.t) ++ (be2_7 x.c ++ (tsB ts ++ (be2_7 ty ++ more))) := by simp [tsB, tgB]
    have e0'' : pre ++ (tsB (x :: ts) ++ (be2_7 ty ++ more)) = (pre ++ tgB x) ++ (tsB ts ++ (be2_7 ty ++ more)) := by simp [tsB]
    have e1 : (wd (pre ++ (tsB (x :: ts) ++ (be2_7 ty ++ more))) p : Int) = x.t := by rw [e0]; exact wd_be2 _ _ _ (isTg_fits h1) p hp
    have e2 : (wd (pre ++ (tsB (x :: ts) ++ (be2_7 ty ++ more))) (p + 2) : Int) = x.c := by rw [e0']; exact wd_be2 _ _ _ h2 _ (by rw [List.length_append, be2_len_7, hp])
    rw [rdGo_tag (by rw [e0]; simp [be2_len_7]; omega) (by rw [e1]; exact h1), e1, e2, e0'']
    rw [rdGo_put ty hf hn more ts k (ts0 ++ [x]) (pre ++ tgB x) (p + 4) (by simp [tgB, be2_len_7, hp]) (by simpa using hk) h3]
    simp only [List.append_assoc, List.cons_append, List.nil_append, List.length_cons]
    rw [show p + 4 + 4 * ts.length + 2 = p + 4 * (ts.length + 1) + 2 by omega]
theorem rdOf_back {L : Lk} (h6 : L.Six) (h : rightB_7 L = true) (more : List UInt8) : rdOf (lkB L ++ more) = ({ L with at_ := ((14 + 4 * L.ts.length : Nat) : Int) }, 0) := by
  obtain ⟨h1, h2, h3, h4⟩ := right_parts h
  have e : lkB L ++ more = (L.d ++ L.s) ++ (tsB L.ts ++ (be2_7 L.ty ++ more)) := by simp [lkB]
  rw [rdOf, e, rdGo_put L.ty h3 h4 more L.ts 2 [] (L.d ++ L.s) 12 (by rw [List.length_append, h6.d, h6.s]) h1 h2]
  have e1 : (L.d ++ L.s ++ (tsB L.ts ++ (be2_7 L.ty ++ more))).take 6 = L.d := by
    rw [List.append_assoc, List.take_append_of_le_length (by rw [h6.d]; omega), List.take_of_length_le (by rw [h6.d]; omega)]
  have e2 : ((L.d ++ L.s ++ (tsB L.ts ++ (be2_7 L.ty ++ more))).drop 6).take 6 = L.s := by
    rw [List.append_assoc, List.drop_append_of_le_length (by rw [h6.d]; omega), List.drop_eq_nil_of_le (by rw [h6.d]; omega), List.nil_append, List.take_append_of_le_length (by rw [h6.s]; omega), List.take_of_length_le (by rw [h6.s]; omega)]
  rw [e1, e2, show 12 + 4 * L.ts.length + 2 = 14 + 4 * L.ts.length by omega]
  rfl
theorem rdGo_cut (ty : Int) : ∀ (ts : List Tg) (k : Nat) (ts0 : List Tg) (pre : List UInt8) (p j : Nat), pre.length = p → ts.length ≤ k → ts.all tgOk = true → j < 4 * ts.length + 2 →
    rdGo (pre ++ (tsB ts ++ be2_7 ty).take j) (k + 1) ts0 p = (Lk.zero, 2)
  | [], k, ts0, pre, p, j, hp, _, _, hj => rdGo_end (by rw [List.length_append, List.length_take, hp]; simp at hj; omega)
  | x :: ts, 0, _, _, _, _, _, hk, _, _ => by simp at hk
  | x :: ts, k + 1, ts0, pre, p, j, hp, hk, ha, hj => by
    obtain ⟨⟨h1, h2⟩, h3⟩ := all_tail ha
    by_cases hj2 : j < 2
    · exact rdGo_end (by rw [List.length_append, List.length_take, hp]; omega)
    · have e0 : tsB (x :: ts) ++ be2_7 ty = be2_7 x.t ++ (be2_7 x.c ++ (tsB ts ++ be2_7 ty)) := by simp [tsB, tgB]
      have e1 : (tsB (x :: ts) ++ be2_7 ty).take j = be2_7 x.t ++ (be2_7 x.c ++ (tsB ts ++ be2_7 ty)).take (j - 2) := by
        rw [e0, List.take_append, be2_len_7, List.take_of_length_le (by rw [be2_len_7]; omega)]
      have hlen : ((tsB (x :: ts) ++ be2_7 ty).take j).length = j := by
        rw [List.length_take, List.length_append, tsB_len, be2_len_7, List.length_cons]
        simp at hj; omega
      have hw : (wd (pre ++ (tsB (x :: ts) ++ be2_7 ty).take j) p : Int) = x.t := by rw [e1]; exact wd_be2 _ _ _ (isTg_fits h1) p hp
      rw [rdGo_tag (by rw [List.length_append, hlen, hp]; omega) (by rw [hw]; exact h1)]
      by_cases hj4 : j < 4
      · exact rdGo_end (by rw [List.length_append, hlen, hp]; omega)
      · have e2 : (tsB (x :: ts) ++ be2_7 ty).take j = tgB x ++ (tsB ts ++ be2_7 ty).take (j - 4) := by
          have : tsB (x :: ts) ++ be2_7 ty = tgB x ++ (tsB ts ++ be2_7 ty) := by simp [tsB]
          have hl : (tgB x).length = 4 := rfl
          rw [this, List.take_append, hl, List.take_of_length_le (by rw [hl]; omega)]
        rw [e2, ← List.append_assoc]
        exact rdGo_cut ty ts k _ (pre ++ tgB x) (p + 4) (j - 4) (by simp [tgB, be2_len_7, hp]) (by simpa using hk) h3 (by simp at hj; omega)
theorem rdOf_short {xs : List UInt8} (h : xs.length < 14) : rdOf xs = (Lk.zero, 2) := rdGo_end h
theorem rdOf_cut {L : Lk} (h6 : L.Six) (h : rightB_7 L = true) (j : Nat) (hj : j < 14 + 4 * L.ts.length) : rdOf ((lkB L).take j) = (Lk.zero, 2) := by
  obtain ⟨h1, h2, h3, h4⟩ := right_parts h
  by_cases h12 : j < 12
  · exact rdOf_short (by rw [List.length_take]; omega)
  · have e : (lkB L).take j = (L.d ++ L.s) ++ (tsB L.ts ++ be2_7 L.ty).take (j - 12) := by
      have hl : (L.d ++ L.s).length = 12 := by rw [List.length_append, h6.d, h6.s]
      have : lkB L = (L.d ++ L.s) ++ (tsB L.ts ++ be2_7 L.ty) := by simp [lkB]
      rw [this, List.take_append, hl, List.take_of_length_le (by rw [hl]; omega)]
    rw [e]
    exact rdGo_cut L.ty L.ts 2 [] (L.d ++ L.s) 12 (j - 12) (by rw [List.length_append, h6.d, h6.s]) h1 h2 (by omega)
theorem wd_fits (xs : List UInt8) (p : Nat) : fitsB (wd xs p : Int) = true := by
  have := wd_lt xs p
  exact decide_eq_true (by omega)
theorem rdGo_only (xs : List UInt8) : ∀ (k : Nat) (ts0 : List Tg) (p : Nat) (L : Lk), rdGo xs (k + 1) ts0 p = (L, 0) →
    ∃ ts : List Tg, L.d = xs.take 6 ∧ L.s = (xs.drop 6).take 6 ∧ L.ts = ts0 ++ ts ∧ L.at_ = ((p + 4 * ts.length + 2 : Nat) : Int) ∧ ts.length ≤ k ∧ ts.all tgOk = true ∧ fitsB L.ty = true ∧ isTg L.ty = false ∧
      p + 4 * ts.length + 2 ≤ xs.length ∧ tsB ts ++ be2_7 L.ty = (xs.drop p).take (4 * ts.length + 2)
  | k, ts0, p, L, h => by
    by_cases h2 : xs.length < p + 2
    · rw [rdGo_end h2] at h; cases h
    · by_cases ht : isTg (wd xs p) = true
      · match k with
        | 0 => rw [rdGo_long (by omega) ht] at h; cases h
        | k + 1 =>
          rw [rdGo_tag (by omega) ht] at h
          obtain ⟨ts, a1, a2, a3, a4, a5, a6, a7, a8, a9, a10⟩ := rdGo_only xs k _ (p + 4) L h
          refine ⟨⟨(wd xs p : Nat), (wd xs (p + 2) : Nat)⟩ :: ts, a1, a2, by rw [a3]; simp, by rw [a4, List.length_cons]; congr 1; omega, by simpa using a5, ?_, a7, a8, by rw [List.length_cons]; omega, ?_⟩
          · rw [List.all_cons, a6, Bool.and_true]
            unfold tgOk
            rw [ht, wd_fits]
            rfl
          · show tgB _ ++ tsB ts ++ be2_7 L.ty = _
            rw [List.append_assoc, a10]
            unfold tgB
            rw [be2_wd xs p (by omega), be2_wd xs (p + 2) (by omega), List.length_cons]
            obtain ⟨q, hq⟩ : ∃ q, 4 * ts.length + 2 = q := ⟨_, rfl⟩
            rw [show 4 * (ts.length + 1) + 2 = 2 + (2 + q) by omega, hq, List.take_add, List.drop_drop, List.take_add, List.drop_drop, List.append_assoc, show p + 2 + 2 = p + 4 by omega]
      · have ht : isTg (wd xs p) = false := by simpa using ht
        rw [rdGo_ok (by omega) ht] at h
        cases h
        refine ⟨[], rfl, rfl, by simp, rfl, by simp, rfl, wd_fits xs p, ht, by simp; omega, ?_⟩
        show be2_7 _ = _
        exact be2_wd xs p (by omega)
theorem rdOf_only {xs : List UInt8} {L : Lk} (h : rdOf xs = (L, 0)) : L.Six ∧ rightB_7 L = true ∧ ∃ m : Nat, L.at_ = (m : Int) ∧ m ≤ xs.length ∧ 14 ≤ m ∧ m ≤ 22 ∧ lkB L = xs.take m := by
  obtain ⟨ts, a1, a2, a3, a4, a5, a6, a7, a8, a9, a10⟩ := rdGo_only xs 2 [] 12 L h
  rw [List.nil_append] at a3
  subst a3
  refine ⟨⟨by rw [a1, List.length_take]; omega, by rw [a2, List.length_take, List.length_drop]; omega⟩, ?_, _, a4, by omega, by omega, by omega, ?_⟩
  · unfold rightB_7
    rw [a6, a7, a8, decide_eq_true a5]
    rfl
  · unfold lkB
    obtain ⟨q, hq⟩ : ∃ q, 4 * L.ts.length + 2 = q := ⟨_, rfl⟩
    rw [a10, a1, a2, show 12 + 4 * L.ts.length + 2 = 6 + (6 + q) by omega, hq, List.take_add, List.take_add, List.drop_drop]
theorem rdGo_err (xs : List UInt8) : ∀ (k : Nat) (ts0 : List Tg) (p : Nat) (L : Lk) (e : Nat), rdGo xs k ts0 p = (L, e) → e ≠ 0 → L = Lk.zero ∧ (e = 2 ∨ e = 4)
  | 0, ts0, p, L, e, h, _ => by rw [rdGo] at h; cases h; exact ⟨rfl, .inr rfl⟩
  | k + 1, ts0, p, L, e, h, he => by
    by_cases h2 : xs.length < p + 2
    · rw [rdGo_end h2] at h; cases h; exact ⟨rfl, .inl rfl⟩
    · by_cases ht : isTg (wd xs p) = true
      · match k with
        | 0 => rw [rdGo_long (by omega) ht] at h; cases h; exact ⟨rfl, .inr rfl⟩
        | k + 1 => rw [rdGo_tag (by omega) ht] at h; exact rdGo_err xs (k + 1) _ _ L e h he
      · rw [rdGo_ok (by omega) (by simpa using ht)] at h; cases h; exact absurd rfl he
theorem rdOf_six (xs : List UInt8) (L : Lk) (e : Nat) (h : rdOf xs = (L, e)) : L.Six ∧ L.ts.length ≤ 2 ∧ e ≤ 4 ∧ 0 ≤ L.ty ∧ L.ty < 65536 ∧ 0 ≤ L.at_ ∧ L.at_ ≤ 22 := by
  by_cases he : e = 0
  · subst he
    obtain ⟨h1, h2, m, h3, _, h4, h5, _⟩ := rdOf_only h
    obtain ⟨a, b, c, d⟩ := right_parts h2
    have := fits_yes c
    exact ⟨h1, a, by omega, this.1, this.2, by omega, by omega⟩
  · obtain ⟨rfl, h2⟩ := rdGo_err xs _ _ _ L e h he
    exact ⟨Lk.six_zero, by simp [Lk.zero], by omega, by simp [Lk.zero], by simp [Lk.zero], by simp [Lk.zero], by simp [Lk.zero]⟩
/-- The bytes with other addresses, as far as they go. -/
def turnOf (xs d s : List UInt8) : List UInt8 := (d ++ s).take xs.length ++ xs.drop 12
theorem turnOf_len (xs d s : List UInt8) (hd : d.length = 6) (hs : s.length = 6) : (turnOf xs d s).length = xs.length := by
  unfold turnOf
  rw [List.length_append, List.length_take, List.length_append, List.length_drop, hd, hs]; omega
theorem turnOf_wd (xs d s : List UInt8) (hd : d.length = 6) (hs : s.length = 6) (p : Nat) (hp : 12 ≤ p) : wd (turnOf xs d s) p = wd xs p := by
  have key : ∀ j, 12 ≤ j → (turnOf xs d s)[j]? = xs[j]? := fun j hj => by
    unfold turnOf
    have hl : ((d ++ s).take xs.length).length = min xs.length 12 := by rw [List.length_take, List.length_append, hd, hs]
    by_cases hx : 12 ≤ xs.length
    · rw [List.getElem?_append_right (by omega), hl, Nat.min_eq_right hx, List.getElem?_drop, show 12 + (j - 12) = j by omega]
    · rw [List.drop_eq_nil_of_le (by omega), List.append_nil, List.getElem?_eq_none (by omega), List.getElem?_eq_none (by omega)]
  unfold wd
  rw [List.getD, List.getD, List.getD, List.getD, key p hp, key (p + 1) (by omega)]
theorem rdGo_turn (xs d s : List UInt8) (hd : d.length = 6) (hs : s.length = 6) : ∀ (k : Nat) (ts0 : List Tg) (p : Nat), 12 ≤ p →
    rdGo (turnOf xs d s) k ts0 p = (if (rdGo xs k ts0 p).2 = 0 then { (rdGo xs k ts0 p).1 with d := d, s := s } else (rdGo xs k ts0 p).1, (rdGo xs k ts0 p).2)
  | 0, ts0, p, _ => rfl
  | k + 1, ts0, p, hp => by
    have hl := turnOf_len xs d s hd hs
    have hw := turnOf_wd xs d s hd hs p hp
    have hw2 := turnOf_wd xs d s hd hs (p + 2) (by omega)
    by_cases h2 : xs.length < p + 2
    · rw [rdGo_end h2, rdGo_end (by rw [hl]; exact h2)]; rfl
    · by_cases ht : isTg (wd xs p) = true
      · match k with
        | 0 => rw [rdGo_long (by omega) ht, rdGo_long (by omega) (by rw [hw]; exact ht)]; rfl
        | k + 1 =>
          rw [rdGo_tag (by omega) ht, rdGo_tag (by omega) (by rw [hw]; exact ht), hw, hw2]
          exact rdGo_turn xs d s hd hs (k + 1) _ (p + 4) (by omega)
      · have ht : isTg (wd xs p) = false := by simpa using ht
        rw [rdGo_ok (by omega) ht, rdGo_ok (by omega) (by rw [hw]; exact ht), hw]
        have e1 : (turnOf xs d s).take 6 = d := by
          unfold turnOf
          rw [List.take_of_length_le (l := d ++ s) (by rw [List.length_append]; omega), List.append_assoc, List.take_append_of_le_length (by omega), List.take_of_length_le (by omega)]
        have e2 : ((turnOf xs d s).drop 6).take 6 = s := by
          unfold turnOf
          rw [List.take_of_length_le (l := d ++ s) (by rw [List.length_append]; omega), List.append_assoc, List.drop_append_of_le_length (by omega), List.drop_eq_nil_of_le (by omega), List.nil_append, List.take_append_of_le_length (by omega), List.take_of_length_le (by omega)]
        rw [e1, e2]
        rfl
theorem rdOf_turn (xs d s : List UInt8) (hd : d.length = 6) (hs : s.length = 6) :
    rdOf (turnOf xs d s) = (if (rdOf xs).2 = 0 then { (rdOf xs).1 with d := d, s := s } else (rdOf xs).1, (rdOf xs).2) := rdGo_turn xs d s hd hs 3 [] 12 (by omega)
end
section
open Go.RowKit Go.Lib
/-- The cells of a header whose tags lie in the slice tv. -/
def lkL (L : Lk) (tv : Value) : List Value := L.d.map v8 ++ (L.s.map v8 ++ [tv, .int .i64 L.ty, .int .i64 L.at_])
def lkC (L : Lk) (tv : Value) : Value := .agg (lkL L tv).toArray
theorem lkL_len {L : Lk} (h : L.Six) (tv : Value) : (lkL L tv).length = 15 := by
  unfold lkL
  rw [List.length_append, List.length_append, List.length_map, List.length_map, h.d, h.s]
  rfl
section
variable {L : Lk}
theorem lkL_tail (h : L.Six) (tv : Value) (i : Nat) : (lkL L tv)[12 + i]? = [tv, .int .i64 L.ty, .int .i64 L.at_][i]? := by
  unfold lkL
  rw [List.getElem?_append_right (by rw [List.length_map, h.d]; omega), List.length_map, h.d, List.getElem?_append_right (by rw [List.length_map, h.s]; omega), List.length_map, h.s]
  congr 1; omega
theorem lkL_tags (h : L.Six) (tv : Value) : (lkL L tv)[12]? = some tv := lkL_tail h tv 0
theorem lkL_ty (h : L.Six) (tv : Value) : (lkL L tv)[13]? = some (.int .i64 L.ty) := lkL_tail h tv 1
theorem lkL_at (h : L.Six) (tv : Value) : (lkL L tv)[14]? = some (.int .i64 L.at_) := lkL_tail h tv 2
theorem lkL_set (h : L.Six) (tv : Value) (i : Nat) (u : Value) : (lkL L tv).set (12 + i) u = L.d.map v8 ++ (L.s.map v8 ++ ([tv, .int .i64 L.ty, .int .i64 L.at_].set i u)) := by
  unfold lkL
  rw [List.set_append_right _ _ (by rw [List.length_map, h.d]; omega), List.length_map, h.d, List.set_append_right _ _ (by rw [List.length_map, h.s]; omega), List.length_map, h.s]
  congr 3; omega
theorem lkL_tags' (h : L.Six) (tv : Value) (u : Value) : (lkL L tv).set 12 u = lkL L u := lkL_set h tv 0 u
theorem lkL_ty' (h : L.Six) (tv : Value) (n : Int) : (lkL L tv).set 13 (.int .i64 n) = lkL { L with ty := n } tv := lkL_set h tv 1 _
theorem lkL_at' (h : L.Six) (tv : Value) (n : Int) : (lkL L tv).set 14 (.int .i64 n) = lkL { L with at_ := n } tv := lkL_set h tv 2 _
end
theorem lkL_one (L : Lk) (tv : Value) (ht : tv.oneCell' = true) : ∀ v ∈ lkL L tv, v.oneCell' = true := by
  intro v hv
  unfold lkL at hv
  simp only [List.mem_append, List.mem_cons, List.not_mem_nil, or_false] at hv
  rcases hv with hv | hv | rfl | rfl | rfl
  · exact oneCell8 _ v hv
  · exact oneCell8 _ v hv
  · exact ht
  · rfl
  · rfl
theorem zeroC : #[Value.int .u8 0, .int .u8 0, .int .u8 0, .int .u8 0, .int .u8 0, .int .u8 0, .int .u8 0, .int .u8 0, .int .u8 0, .int .u8 0, .int .u8 0, .int .u8 0, .slice none 0 0, .int .i64 0, .int .i64 0] = (lkL Lk.zero (.slice none 0 0)).toArray := by rfl
theorem sizeLk : (Try.prog.info? 41).map (·.size) = some 15 := by kernel_rfl
theorem sizeLkL {L : Lk} (h : L.Six) (tv : Value) : (Try.prog.info? 41).map (·.size) = some (lkL L tv).length := by rw [lkL_len h]; exact sizeLk
/-- Block g is a row of just these cells, of type T. -/
def Blk_7 (w : World) (T : TypeId) (g : Nat) (cs : List Value) : Prop := w.heap[g]? = some (.cells cs.toArray T (0, 0))
section
variable {w w' : World} {T : TypeId} {g : Nat} {cs : List Value}
theorem Blk_7.lt (h : Blk_7 w T g cs) : g < w.heap.size := (Array.getElem?_eq_some_iff.1 h).1
theorem Blk_7.new (w : World) (T : TypeId) (cs : List Value) : Blk_7 (w.alloc (.cells cs.toArray T)) T w.heap.size cs := heap_alloc_new w _
theorem Blk_7.alloc (h : Blk_7 w T g cs) (o : Obj) : Blk_7 (w.alloc o) T g cs := (Below.heap_alloc w o g h.lt).trans h
theorem Blk_7.drew (h : Blk_7 w T g cs) : Blk_7 w.drew T g cs := h
theorem Blk_7.below (h : Blk_7 w T g cs) {B : Nat} (hB : g < B) (hb : Below B w w') : Blk_7 w' T g cs := (hb.block g hB).trans h
theorem Blk_7.cell (h : Blk_7 w T g cs) {i : Nat} {v : Value} (hv : cs[i]? = some v) : w.cell? ⟨g, i, none⟩ = some v := by
  rw [cell_of_row w g i _ _ (0, 0) h]; simpa using hv
theorem Blk_7.frozen (h : Blk_7 w T g cs) (i : Nat) : w.frozen? ⟨g, i, none⟩ = false := by
  unfold Blk_7 at h; simp [World.frozen?, h]
theorem Blk_7.set (h : Blk_7 w T g cs) (i : Nat) (v : Value) : Blk_7 (w.setCell ⟨g, i, none⟩ v) T g (cs.set i v) := by
  unfold Blk_7 at h ⊢
  simp [World.setCell, Array.getElem?_modify, h]
theorem Blk_7.far (h : Blk_7 w T g cs) {p : Addr} (hp : g ≠ p.block) (u : Value) : Blk_7 (w.setCell p u) T g cs := (Below.heap_setCell w p u g hp).trans h
theorem Blk_7.setRow_ (h : Blk_7 w T g cs) (ds : List Value) : Blk_7 (w.setRow g ds.toArray) T g ds := setRow_heap w g _ _ T (0, 0) h
theorem Blk_7.setRow_far (h : Blk_7 w T g cs) {b : Nat} (hb : g ≠ b) (ds : Array Value) : Blk_7 (w.setRow b ds) T g cs := (setRow_other w b g ds hb).trans h
theorem Blk_7.grown (h : Blk_7 w T g cs) {row : Option Nat} (hg : w.grownBy w' row) (hr : row ≠ some g) : Blk_7 w' T g cs := (hg.block g h.lt (fun e => hr e.symm)).trans h
theorem Blk_7.range (h : Blk_7 w T g cs) : w.rangeAt g 0 cs := fun j v hv => by
  rw [Nat.zero_add]; exact h.cell hv
/-- The addresses in a header's block. -/
theorem Blk_7.dst {L : Lk} {tv : Value} (h : Blk_7 w T g (lkL L tv)) : w.rangeAt g 0 (L.d.map v8) := fun j v hv => by
  rw [Nat.zero_add]
  refine h.cell ?_
  unfold lkL
  rw [List.getElem?_append_left (List.getElem?_eq_some_iff.1 hv).1]; exact hv
theorem Blk_7.src {L : Lk} {tv : Value} (h : Blk_7 w T g (lkL L tv)) (h6 : L.Six) : w.rangeAt g 6 (L.s.map v8) := fun j v hv => by
  refine h.cell ?_
  unfold lkL
  rw [List.getElem?_append_right (by rw [List.length_map, h6.d]; omega), List.length_map, h6.d, Nat.add_sub_cancel_left, List.getElem?_append_left (List.getElem?_eq_some_iff.1 hv).1]; exact hv
end
/-- A whole header into its block: a law for the walk. -/
theorem wpList_storeR_7 {w : World} {ops : Array Oper} {rest : List Oper} {op : Oper} {a : Act} {Q : Exit → Act → World → Prop} (hgd : op.guard = none) (T : TypeId) (x y : Operand) (ho : op.op = .store T x y)
    (g : Nat) (hx : a.eval x = .pointer (some ⟨g, 0, none⟩)) (cs : List Value) (hy : a.eval y = .agg cs.toArray) (old : List Value) (hb : Blk_7 w T g old) (hl : old.length = cs.length)
    (hi : (Try.prog.info? T).map (·.size) = some cs.length) (h1 : ∀ v ∈ cs, v.oneCell' = true)
    (h : wpList Try.prog ops Q rest (a.put op.dst undef) (w.setRow g cs.toArray)) : wpList Try.prog ops Q (op :: rest) a w := by
  refine wpList_plain hgd fun K hK => ?_
  have hr := run_storeVar_row (P := Try.prog) w g T T old.toArray cs.toArray hb (by simpa using hi) (by simpa using hl) (Array.all_eq_true_iff_forall_mem.2 (fun v hv => h1 v (by simpa using hv)))
  unfold Oper.wp execOp
  simp only [ho, hx, hy, Instr.storeAt, Instr.sureAddr, Sem.run_bind, Sem.run_pure, Result.andThen_ok, hr]
  exact hK _ _ h
/-- A whole header out of its block: a law for the walk. -/
theorem wpList_loadL {w : World} {ops : Array Oper} {rest : List Oper} {op : Oper} {a : Act} {Q : Exit → Act → World → Prop} (hgd : op.guard = none) (x : Operand) (ho : op.op = .load 41 x)
    (g : Nat) (hx : a.eval x = .pointer (some ⟨g, 0, none⟩)) (L : Lk) (h6 : L.Six) (tv : Value) (hb : Blk_7 w 41 g (lkL L tv))
    (h : wpList Try.prog ops Q rest (a.put op.dst (lkC L tv)) w) : wpList Try.prog ops Q (op :: rest) a w :=
  wpList_load_mid hgd 41 x ho g 0 hx (lkL L tv) _ hb.range Try.underlying41 rfl (sizeLkL h6 tv) h
/-- The results (header, number), the header in a cell. -/
theorem results_lk {fn : Func} {p u : Tmp} (hr : fn.results = #[.cell p 41, .tmp u]) (tmps : Array Value) (w : World) (g : Nat) (hp : tmps.getD p undef = .pointer (some ⟨g, 0, none⟩)) (L : Lk) (h6 : L.Six) (tv : Value) (hb : Blk_7 w 41 g (lkL L tv))
    (v : Value) (hu : tmps.getD u undef = v) : (results fn tmps).run Try.prog w = .ok (.tuple #[lkC L tv, v]) w := by
  have hl := run_loadVar_mid (P := Try.prog) w g 0 41 (lkL L tv) _ hb.range Try.underlying41 rfl (sizeLkL h6 tv)
  rw [results_cell_tmp hr, hp, hu]
  simp [Result.andThen, asAddr, hl, lkC]
/-- The slice reads as these tags. -/
def TagsAt (w : World) (B : Nat) (A : Option Addr) (len : Nat) (xs : List Tg) : Prop :=
  xs.length = len ∧ (0 < len → ∃ b off, A = some ⟨b, off, none⟩ ∧ b < B ∧ ∀ (j : Nat) (x : Tg), xs[j]? = some x →
    w.cell? ⟨b, off + j * 2, none⟩ = some (.int .i64 x.t) ∧ w.cell? ⟨b, off + j * 2 + 1, none⟩ = some (.int .i64 x.c))
section
variable {w w' : World} {B B' len : Nat} {A : Option Addr} {xs : List Tg}
theorem TagsAt.size (h : TagsAt w B A len xs) : xs.length = len := h.1
theorem TagsAt.nil_ (A : Option Addr) : TagsAt w B A 0 [] := ⟨rfl, fun h => absurd h (by omega)⟩
theorem TagsAt.keep (h : TagsAt w B A len xs) (hk : ∀ p : Addr, p.block < B → w'.cell? p = w.cell? p) : TagsAt w' B A len xs :=
  ⟨h.1, fun hn => by
    obtain ⟨b, off, e, hb, hc⟩ := h.2 hn
    refine ⟨b, off, e, hb, fun j x hx => ?_⟩
    obtain ⟨h1, h2⟩ := hc j x hx
    exact ⟨(hk _ hb).trans h1, (hk _ hb).trans h2⟩⟩
theorem TagsAt.below (h : TagsAt w B A len xs) (hb : Below B w w') : TagsAt w' B A len xs := h.keep fun _ hp => hb.cell hp
theorem TagsAt.more (h : TagsAt w B A len xs) (hB : B ≤ B') : TagsAt w B' A len xs :=
  ⟨h.1, fun hn => by
    obtain ⟨b, off, e, hb, hc⟩ := h.2 hn
    exact ⟨b, off, e, by omega, hc⟩⟩
theorem TagsAt.addr (h : TagsAt w B A len xs) (hn : 0 < len) : ∃ b off, A = some ⟨b, off, none⟩ ∧ b < B := by
  obtain ⟨b, off, e, hb, _⟩ := h.2 hn
  exact ⟨b, off, e, hb⟩
theorem TagsAt.cell {b off : Nat} (h : TagsAt w B (some ⟨b, off, none⟩) len xs) {k : Nat} {x : Tg} (hx : xs[k]? = some x) : w.cell? ⟨b, off + k * 2, none⟩ = some (.int .i64 x.t) ∧ w.cell? ⟨b, off + k * 2 + 1, none⟩ = some (.int .i64 x.c) := by
  obtain ⟨b', off', e, _, hc⟩ := h.2 (by have := (List.getElem?_eq_some_iff.1 hx).1; have := h.1; omega)
  cases e
  exact hc k x hx
end
/-- The cells of tags. -/
def tcells : List Tg → List Value
  | [] => []
  | x :: ts => .int .i64 x.t :: .int .i64 x.c :: tcells ts
theorem tcells_snoc : ∀ (ts : List Tg) (x : Tg), tcells (ts ++ [x]) = tcells ts ++ [.int .i64 x.t, .int .i64 x.c]
  | [], _ => rfl
  | y :: ts, x => by
    show _ :: _ :: tcells (ts ++ [x]) = _
    rw [tcells_snoc ts x]
    rfl
theorem tcells_get : ∀ (ts : List Tg) (j : Nat) (x : Tg), ts[j]? = some x → (tcells ts)[j * 2]? = some (.int .i64 x.t) ∧ (tcells ts)[j * 2 + 1]? = some (.int .i64 x.c)
  | [], _, _, hx => by simp at hx
  | y :: ts, 0, x, hx => by simp at hx; subst hx; exact ⟨rfl, rfl⟩
  | y :: ts, j + 1, x, hx => by
    have := tcells_get ts j x (by simpa using hx)
    rw [show (j + 1) * 2 = j * 2 + 1 + 1 by omega]
    exact this
/-- The slice value v owns these tags. -/
def OwnT (w : World) (base : Nat) (v : Value) (ts : List Tg) : Prop := w.ownsRow base 74 2 v ts.length (tcells ts)
section
variable {w w' : World} {base base' : Nat} {v v' : Value} {ts : List Tg}
theorem OwnT.nil_ (w : World) (base : Nat) : OwnT w base (.slice none 0 0) [] := World.ownsRow_nil w base _ 2
theorem OwnT.kept (h : OwnT w base v ts) {row : Option Nat} (hg : w.grownBy w' row) (hne : v.ownBlock = none ∨ v.ownBlock ≠ row) : OwnT w' base v ts := World.ownsRow.kept h hg hne
theorem OwnT.kept1 (h : OwnT w base v ts) {g : Nat} (hg : w.grownBy w' (some g)) (hlt : g < base) : OwnT w' base v ts := by
  refine h.kept hg ?_
  cases hv : v.ownBlock with
  | none => exact .inl rfl
  | some b => exact .inr (fun e => by have := (World.ownsRow.lt h b hv).1; cases e; omega)
theorem OwnT.alloc (h : OwnT w base v ts) (o : Obj) : OwnT (w.alloc o) base v ts := World.ownsRow.alloc h o
theorem OwnT.drew (h : OwnT w base v ts) : OwnT w.drew base v ts := h
theorem OwnT.lt (h : OwnT w base v ts) : ∀ g, v.ownBlock = some g → base ≤ g ∧ g < w.heap.size := fun g hg => World.ownsRow.lt h g hg
theorem OwnT.base_le (h : OwnT w base v ts) (hb : base' ≤ base) : OwnT w base' v ts := by
  refine ⟨h.1, ?_⟩
  rcases h.2 with hn | ⟨g, cap, cur, rfl, hbg, rest⟩
  · exact .inl hn
  · exact .inr ⟨g, cap, cur, rfl, by omega, rest⟩
theorem OwnT.below (h : OwnT w base v ts) (hb : Below w.heap.size w w') : OwnT w' base v ts := by
  refine ⟨h.1, ?_⟩
  rcases h.2 with hn | ⟨g, cap, cur, rfl, hbg, hg, rest⟩
  · exact .inl hn
  · exact .inr ⟨g, cap, cur, rfl, hbg, (hb.block g (Array.getElem?_eq_some_iff.1 hg).1).trans hg, rest⟩
/-- What is owned reads so. -/
theorem OwnT.sl (h : OwnT w base v ts) : ∃ A m c, v = .slice A m c ∧ m = ts.length ∧ m ≤ c ∧ c ≤ maxLen ∧ TagsAt w w.heap.size A m ts ∧ (0 < m → ∃ g, A = some ⟨g, 0, none⟩ ∧ base ≤ g) := by
  rcases h.2 with ⟨rfl, h0⟩ | ⟨g, cap, cur, rfl, hbg, hg, hnc, hcm, hcs, ht⟩
  · have : ts = [] := List.eq_nil_of_length_eq_zero h0
    subst this
    exact ⟨none, 0, 0, rfl, rfl, Nat.le_refl _, by simp [maxLen], TagsAt.nil_ _, fun h => absurd h (by omega)⟩
  · refine ⟨_, _, cap, rfl, rfl, hnc, hcm, ⟨rfl, fun _ => ⟨g, 0, rfl, (Array.getElem?_eq_some_iff.1 hg).1, fun j x hx => ?_⟩⟩, fun _ => ⟨g, rfl, hbg⟩⟩
    have hcell := World.ownsRow.cells h (g := g) rfl
    obtain ⟨e1, e2⟩ := tcells_get ts j x hx
    have c1 := hcell (j * 2) _ e1
    have c2 := hcell (j * 2 + 1) _ e2
    rw [add_plain] at c1 c2
    exact ⟨c1, by rw [← Nat.add_assoc] at c2; exact c2⟩
theorem OwnT.one (h : OwnT w base v ts) : v.oneCell' = true := by
  obtain ⟨A, m, c, rfl, _⟩ := h.sl
  rfl
end
theorem infoT : (Try.prog.info? 74).map (fun i => (i.zero, i.size, i.bytes)) = some (some (.agg #[.int .i64 0, .int .i64 0]), 2, 16) := by kernel_rfl
/-- append of one tag, laid in a new block of its own, onto an owned slice of tags. -/
theorem run_appendT (W : World) (ty : TypeId) (base : Nat) (v : Value) (ts : List Tg) (x : Tg) (hown : OwnT W base v ts) (hlen : ts.length ≤ 1000000) (hbase : base ≤ W.heap.size) (g : Nat) (hg : Blk_7 W 74 g [.int .i64 x.t, .int .i64 x.c]) :
    ∃ v' w', (Builtin.append_ #[39, 39] ty #[v, .slice (some ⟨g, 0, none⟩) 1 1]).run Try.prog W = .ok v' w' ∧ OwnT w' base v' (ts ++ [x]) ∧ W.grownBy w' v.ownBlock ∧ (v'.ownBlock = v.ownBlock ∨ v'.ownBlock = some W.heap.size) := by
  obtain ⟨i0, hi, hz0, hz1, hz2⟩ := info_parts infoT
  have c0 := hg.cell (i := 0) rfl
  have c1 := hg.cell (i := 1) rfl
  obtain ⟨v', w', h1, h2, h3, _, h5⟩ := run_append_own_at (P := Try.prog) W base 39 ty 74 i0 _ 2 16 Try.underlying39 hi hz0 hz1 hz2 rfl (by decide) v ts.length (tcells ts) hown ⟨g, 0, none⟩ 1 1 [.int .i64 x.t, .int .i64 x.c] rfl
    (by
      intro j y hj
      match j, hj with
      | 0, hj => simp at hj; subst hj; rw [add_plain]; exact c0
      | 1, hj => simp at hj; subst hj; rw [add_plain]; exact c1)
    (by
      intro y hy
      simp at hy
      rcases hy with rfl | rfl
      · rfl
      · rfl) (by unfold maxLen; omega) (by omega) hbase
  refine ⟨v', w', h1, ?_, h3, h5⟩
  unfold OwnT
  rw [tcells_snoc, List.length_append]
  exact h2
/-- The same, at a step of a region that draws its order. -/
theorem step_appendT {W : World} {ops : Array Oper} {o : Oper} {a : Act} {K : Act → World → Prop} {Q : Exit → Act → World → Prop} {E : Prop} (hgd : o.guard = none) (s x : Operand)
    (ho : o.op = .call { callee := .builtin .append, args := #[s, x], argTypes := #[39, 39] })
    (base : Nat) (v : Value) (ts : List Tg) (y : Tg) (hs : a.eval s = v) (g : Nat) (hx : a.eval x = .slice (some ⟨g, 0, none⟩) 1 1) (hown : OwnT W base v ts) (hlen : ts.length ≤ 1000000) (hbase : base ≤ W.heap.size) (hg : Blk_7 W 74 g [.int .i64 y.t, .int .i64 y.c])
    (h : ∀ v' w', OwnT w' base v' (ts ++ [y]) → W.grownBy w' v.ownBlock → (v'.ownBlock = v.ownBlock ∨ v'.ownBlock = some W.heap.size) → K (a.put o.dst v') w') :
    if Region.wanted o (yielded ops a.tmps) = true then Oper.wp Try.prog o a W K Q else E := by
  have hw : Region.wanted o (yielded ops a.tmps) = true := by simp [Region.wanted, hgd]
  rw [if_pos hw]
  obtain ⟨v', w', hrun, h2, h3, h4⟩ := run_appendT W o.type base v ts y hown hlen hbase g hg
  unfold Oper.wp execOp
  simp only [ho, resolve, invoke, builtin, Sem.run_bind, Sem.run_pure, Result.andThen_ok, List.map_toArray, List.map_cons, List.map_nil, hs, hx, hrun]
  exact h v' w' h2 h3 h4
/-- What a reading of a header answers: the header, its tags in new memory, and a number. -/
def ReadGave_7 (w : World) (r : Lk × Nat) (e : Ending) (w' : World) : Prop :=
  ∃ tv, e = .returned (.tuple #[lkC r.1 tv, .int .i64 (r.2 : Int)]) ∧ OwnT w' w.heap.size tv r.1.ts ∧ Below w.heap.size w w'
/-- b[L:H], where L and H are whole numbers that come to l and l + n. -/
def cutA_7 (A : Option Addr) (cap l : Nat) : Option Addr := if cap = l then A else A.map fun a => a.add l
theorem Rd.part_7 {w : World} {B len : Nat} {A : Option Addr} {xs : List UInt8} (h : Rd w B A len xs) {k n : Nat} (hk : k + n ≤ len) (hn : 0 < n) :
    Rd w B (A.map fun a => a.add k) n ((xs.drop k).take n) := by
  refine ⟨by rw [List.length_take, List.length_drop, h.1]; omega, fun _ => ?_⟩
  obtain ⟨b, off, rfl, hb, hc⟩ := h.2 (by omega)
  refine ⟨b, off + k, by simp [add_plain], hb, fun j x hx => ?_⟩
  rw [show off + k + j = off + (k + j) by omega]
  refine hc (k + j) x ?_
  rw [List.getElem?_take] at hx
  split at hx
  · rw [List.getElem?_drop] at hx; exact hx
  · cases hx
theorem Rd.cut_7 {w : World} {B len : Nat} {A : Option Addr} {xs : List UInt8} (h : Rd w B A len xs) {l n : Nat} (hk : l + n ≤ len) (cap : Nat) (hcap : len ≤ cap) : Rd w B (cutA_7 A cap l) n ((xs.drop l).take n) := by
  unfold cutA_7
  rcases Nat.eq_zero_or_pos n with rfl | hn
  · rw [List.take_zero]; exact Rd.nil_ _
  · rw [if_neg (by omega)]; exact h.part_7 hk hn
theorem Rd.from_7 {w : World} {B len : Nat} {A : Option Addr} {xs : List UInt8} (h : Rd w B A len xs) {l : Nat} (hk : l ≤ len) (cap : Nat) (hcap : len ≤ cap) : Rd w B (cutA_7 A cap l) (len - l) (xs.drop l) := by
  have := h.cut_7 (l := l) (n := len - l) (by omega) cap hcap
  rwa [List.take_of_length_le (by rw [List.length_drop, h.1]; exact Nat.le_refl _)] at this
theorem run_cut8_7 (A : Option Addr) (len cap l n : Nat) (L H : Int) (hL : L = (l : Int)) (hH : H = ((l + n : Nat) : Int)) (h2 : l + n ≤ cap) (W : World) :
    (Instr.slice 22 (.slice A len cap) (some (.int .i64 L)) (some (.int .i64 H)) none).run Try.prog W = .ok (.slice (cutA_7 A cap l) n (cap - l)) W := by
  subst hL hH
  obtain ⟨i0, hi, hz0, hz1, hz2⟩ := info_parts info8
  have hb := run_sliceBound (P := Try.prog) (w := W) .i64 (l : Int) (l + n) .sliceB (by omega) (by omega)
  have hc := run_sliceBound (P := Try.prog) (w := W) .i64 ((l + n : Nat) : Int) cap .sliceAcap (by omega) (by omega)
  simp only [Int.natCast_add] at hc
  simp [Instr.slice, hb, hc, run_underlying Try.underlying22, Instr.sliceBounds, sizeOf, typeInfo, hi, hz1, cutA_7, show ((l : Int) + (n : Int)).toNat = l + n by omega]
theorem run_from8_7 (A : Option Addr) (len cap l : Nat) (h1 : l ≤ len) (W : World) :
    (Instr.slice 22 (.slice A len cap) (some (.int .i64 (l : Int))) none none).run Try.prog W = .ok (.slice (cutA_7 A cap l) (len - l) (cap - l)) W := by
  obtain ⟨i0, hi, hz0, hz1, hz2⟩ := info_parts info8
  have hb := run_sliceBound (P := Try.prog) (w := W) .i64 (l : Int) len .sliceB (by omega) (by omega)
  simp [Instr.slice, hb, run_underlying Try.underlying22, Instr.sliceBounds, sizeOf, typeInfo, hi, hz1, cutA_7]
end
section
open Go.RowKit Go.Lib
set_option maxHeartbeats 400000 in
theorem istag_any (n : Int) (w : World) : Calls Try.prog 53 #[.int .i64 n] w fun e w' => e = .returned (.bool (isTg n)) ∧ w = w' := by
  by_cases h1 : n = 33024
  · subst h1
    go_enter Try.func53, Try.ntmps53
    go_wp2
    go_ret
    exact ⟨rfl, rfl⟩
  · have b1 : (n == 33024) = false := beq_eq_false_iff_ne.2 h1
    by_cases h2 : n = 34984
    · subst h2
      clear h1
      go_enter Try.func53, Try.ntmps53
      go_wp2
      go_ret
      exact ⟨rfl, rfl⟩
    · have b2 : (n == 34984) = false := beq_eq_false_iff_ne.2 h2
      have e : isTg n = false := decide_eq_false (by omega)
      rw [e]
      clear h1 h2 e
      go_enter Try.func53, Try.ntmps53
      go_wp2
      go_ret
      exact ⟨rfl, rfl⟩
set_option maxHeartbeats 400000 in
theorem rtag_any (n : Int) (w : World) : Calls Try.prog 30 #[.int .i64 n] w fun e w' => e = .returned (.bool (isTg n)) ∧ w = w' := by
  by_cases h1 : n = 33024
  · subst h1
    go_enter Try.func30, Try.ntmps30
    go_wp2
    go_ret
    exact ⟨rfl, rfl⟩
  · have b1 : (n == 33024) = false := beq_eq_false_iff_ne.2 h1
    by_cases h2 : n = 34984
    · subst h2
      clear h1
      go_enter Try.func30, Try.ntmps30
      go_wp2
      go_ret
      exact ⟨rfl, rfl⟩
    · have b2 : (n == 34984) = false := beq_eq_false_iff_ne.2 h2
      have e : isTg n = false := decide_eq_false (by omega)
      rw [e]
      clear h1 h2 e
      go_enter Try.func30, Try.ntmps30
      go_wp2
      go_ret
      exact ⟨rfl, rfl⟩
set_option maxHeartbeats 400000 in
theorem fits_any (n : Int) (w : World) : Calls Try.prog 83 #[.int .i64 n] w fun e w' => e = .returned (.bool (fitsB n)) ∧ w = w' := by
  by_cases h1 : 0 ≤ n
  · by_cases h2 : n < 65536
    · have e : fitsB n = true := decide_eq_true ⟨h1, h2⟩
      rw [e]
      clear e
      go_enter Try.func83, Try.ntmps83
      go_wp2
      go_ret
      exact ⟨rfl, rfl⟩
    · have e : fitsB n = false := decide_eq_false (by omega)
      rw [e]
      clear e
      have b2 : decide (n < 65536) = false := decide_eq_false h2
      go_enter Try.func83, Try.ntmps83
      go_wp2
      go_ret
      exact ⟨rfl, rfl⟩
  · have e : fitsB n = false := decide_eq_false (by omega)
    rw [e]
    clear e
    have b2 : decide (0 ≤ n) = false := decide_eq_false h1
    go_enter Try.func83, Try.ntmps83
    go_wp2
    go_ret
    exact ⟨rfl, rfl⟩
set_option maxHeartbeats 400000 in
theorem isnum_yes (A : Option Addr) (len cap p : Nat) (hlen : len ≤ 1000000000) (h : p + 2 ≤ len) (w : World) :
    Calls Try.prog 51 #[.slice A len cap, .int .i64 (p : Int)] w fun e w' => e = .returned (.bool true) ∧ w = w' := by
  have h1 : (2 : Int) ≤ (len : Int) - (p : Int) := by omega
  have h2 : IntKind.i64.wrap ((len : Int) - (p : Int)) = (len : Int) - (p : Int) := by rw [IntKind.wrap_i64]; omega
  go_enter Try.func51, Try.ntmps51
  go_wp2
  go_ret
  exact ⟨rfl, rfl⟩
set_option maxHeartbeats 400000 in
theorem isnum_no (A : Option Addr) (len cap p : Nat) (hlen : len ≤ 1000000000) (hp : p ≤ 1000000000) (h : len < p + 2) (w : World) :
    Calls Try.prog 51 #[.slice A len cap, .int .i64 (p : Int)] w fun e w' => e = .returned (.bool false) ∧ w = w' := by
  have h1 : ¬ (2 : Int) ≤ (len : Int) - (p : Int) := by omega
  have h2 : IntKind.i64.wrap ((len : Int) - (p : Int)) = (len : Int) - (p : Int) := by rw [IntKind.wrap_i64]; omega
  go_enter Try.func51, Try.ntmps51
  go_wp2
  go_ret
  exact ⟨rfl, rfl⟩
set_option maxHeartbeats 1000000 in
theorem num_any_7 {A : Option Addr} {len : Nat} {cap p : Nat} {xs : List UInt8} (hlen : len ≤ 1000000000) (hcap : len ≤ cap) (hcap2 : cap ≤ maxLen) (h : p + 2 ≤ len) {w : World} (hI : Rd w w.heap.size A len xs) :
    Calls Try.prog 52 #[.slice A len cap, .int .i64 (p : Int)] w fun e w' => e = .returned (.int .i64 (wd xs p : Nat)) ∧ Below w.heap.size w w' := by
  have hcut := run_cut8_7 A len cap p 2 (p : Int) ((p : Int) + 2) rfl (by omega) (by omega)
  have hr := hI.cut_7 (l := p) (n := 2) h cap hcap
  have hg := get_any (cutA_7 A cap p) 2 (cap - p) ((xs.drop p).take 2) true (by omega) (by omega) (by omega) w hr
  have e : getOf ((xs.drop p).take 2) true = wd xs p := by
    rw [← wd_num xs p (by rw [hI.len]; exact h)]
    unfold getOf
    rw [if_pos rfl, List.take_of_length_le (i := 8) (by rw [List.length_take]; omega)]
  rw [e] at hg
  have hlt := wd_lt xs p
  obtain ⟨n, hn⟩ : ∃ n, wd xs p = n := ⟨_, rfl⟩
  rw [hn] at hg hlt ⊢
  have HG := Lib.hid hg
  have hw : IntKind.i64.wrap ((p : Int) + 2) = (p : Int) + 2 := by rw [IntKind.wrap_i64]; omega
  clear hg e hn hr hI
  go_enter Try.func52, Try.ntmps52
  go_wp2_with fail
  refine HG.out.mono ?_
  rintro e w1 ⟨rfl, hb⟩
  go_wp2_with fail
  go_ret
  exact ⟨rfl, hb⟩
theorem isnum_yes' (A : Option Addr) (len cap p : Nat) (z : Int) (hz : z = (p : Int)) (hlen : len ≤ 1000000000) (h : p + 2 ≤ len) (w : World) :
    Calls Try.prog 51 #[.slice A len cap, .int .i64 z] w fun e w' => e = .returned (.bool true) ∧ w = w' := by subst hz; exact isnum_yes A len cap p hlen h w
theorem isnum_no' (A : Option Addr) (len cap p : Nat) (z : Int) (hz : z = (p : Int)) (hlen : len ≤ 1000000000) (hp : p ≤ 1000000000) (h : len < p + 2) (w : World) :
    Calls Try.prog 51 #[.slice A len cap, .int .i64 z] w fun e w' => e = .returned (.bool false) ∧ w = w' := by subst hz; exact isnum_no A len cap p hlen hp h w
theorem num_any' {A : Option Addr} {len : Nat} {cap p : Nat} {xs : List UInt8} (z : Int) (hz : z = (p : Int)) (n : Nat) (hn : wd xs p = n) (hlen : len ≤ 1000000000) (hcap : len ≤ cap) (hcap2 : cap ≤ maxLen) (h : p + 2 ≤ len) {w : World} (hI : Rd w w.heap.size A len xs) :
    Calls Try.prog 52 #[.slice A len cap, .int .i64 z] w fun e w' => e = .returned (.int .i64 (n : Int)) ∧ Below w.heap.size w w' := by subst hz hn; exact num_any_7 hlen hcap hcap2 h hI
theorem Rd.cellD_7 {w : World} {B n : Nat} {xs : List UInt8} {b off : Nat} (h : Rd w B (some ⟨b, off, none⟩) n xs) {k : Nat} (hk : k < n) : w.cell? ⟨b, off + k, none⟩ = some (.int .u8 ((xs.getD k 0).toNat : Int)) := by
  have := h.cell hk
  rw [List.getD, List.getElem?_eq_getElem (by rw [h.len]; exact hk)]
  exact this
set_option maxHeartbeats 1000000 in
theorem two_any_7 {A : Option Addr} {len : Nat} {cap p : Nat} {xs : List UInt8} (hlen : len ≤ 1000000000) (h : p + 2 ≤ len) {w : World} {B : Nat} (hI : Rd w B A len xs) :
    Calls Try.prog 31 #[.slice A len cap, .int .i64 (p : Int)] w fun e w' => e = .returned (.int .i64 (wd xs p : Nat)) ∧ ∃ n, w' = w.drewN n := by
  obtain ⟨b, off, rfl, _⟩ := hI.addr (by omega)
  have c0 := hI.cellD_7 (k := p) (by omega)
  have c1 := hI.cellD_7 (k := p + 1) (by omega)
  have x0 := (xs.getD p 0).toNat_lt
  have x1 := (xs.getD (p + 1) 0).toNat_lt
  have e : (wd xs p : Nat) = 256 * (xs.getD p 0).toNat + (xs.getD (p + 1) 0).toNat := rfl
  generalize (xs.getD p 0).toNat = a at *
  generalize (xs.getD (p + 1) 0).toNat = c at *
  obtain ⟨r, hr⟩ : ∃ r : Nat, wd xs p = r := ⟨_, rfl⟩
  rw [hr] at e ⊢
  have E : ((r : Nat) : Int) = 256 * (a : Int) + (c : Int) := by omega
  have hw1 : IntKind.i64.wrap ((p : Int) + 1) = (p : Int) + 1 := by rw [IntKind.wrap_i64]; omega
  have hw2 : IntKind.i64.wrap (256 * (a : Int)) = 256 * (a : Int) := by rw [IntKind.wrap_i64]; omega
  have hw3 : IntKind.i64.wrap (256 * (a : Int) + (c : Int)) = 256 * (a : Int) + (c : Int) := by rw [IntKind.wrap_i64]; omega
  have hw4 : IntKind.i64.wrap (a : Int) = (a : Int) := by rw [IntKind.wrap_i64]; omega
  have hw5 : IntKind.i64.wrap (c : Int) = (c : Int) := by rw [IntKind.wrap_i64]; omega
  have l1 : (p : Int) < (len : Int) := by omega
  have l2 : (p : Int) + 1 < (len : Int) := by omega
  have t1 : ((p : Int) + 1).toNat = p + 1 := by omega
  have HE := Lib.hid E
  clear E e hr hI
  go_enter Try.func31, Try.ntmps31
  go_wp2_with fail
  go_quiet (fail)
  go_wp2_with fail
  go_ret
  exact ⟨by rw [HE.out]; rfl, _, rfl⟩
/-- Two bytes of a row are laid anew. -/
def put2_7 (ys : List UInt8) (off : Nat) (n : Nat) : List UInt8 := ys.take off ++ (be2_7 (n : Int) ++ ys.drop (off + 2))
set_option maxHeartbeats 1000000 in
theorem lay_any_7 (n : Nat) (hn : n < 65536) {w : World} {g : Nat} {ys : List UInt8} (hrow : Row8 w g ys) (off m c : Nat) (hm : 2 ≤ m) (hoff : off + 2 ≤ ys.length) :
    Calls Try.prog 62 #[.slice (some ⟨g, off, none⟩) m c, .int .i64 (n : Int)] w fun e w' => e = .returned (.int .i64 2) ∧ Row8 w' g (put2_7 ys off n) ∧ w.grownBy w' (some g) := by
  have hp := put_any n 2 true w
  have e : bytesOf n (sizeOf8 2) true = be2_7 (n : Int) := by
    show (dig n 2).reverse = _
    exact be2_dig_7 n
  rw [e] at hp
  have HP := Lib.hid hp
  have hw : IntKind.u64.wrap (n : Int) = (n : Int) := by rw [IntKind.wrap_u64]; omega
  clear hp e
  go_enter Try.func62, Try.ntmps62
  go_wp2_with fail
  refine HP.out.mono ?_
  rintro e w1 ⟨v, rfl, hown, hb⟩
  obtain ⟨A1, m1, c1, rfl, hm1, _, _, hrd⟩ := hown.sl
  have hm2 : m1 = 2 := hm1
  subst hm2
  have hrow1 : Row8 w1 g ys := (hb.block g hrow.lt).trans hrow
  obtain ⟨ad, rfl, hc⟩ := hrd.cells (by omega)
  have HR := Lib.hid hrow1
  have HC := Lib.hid hc
  clear hm1 hrow1 hc
  go_wp2_with ((with_reducible show wpList _ _ _ _ _ _); refine wpList_copy_own rfl (.tmp 5) (.tmp 8) 22 22 rfl 5 Try.underlying22 size8 g off m c ad _ _ (by rfl) (by rfl) (ys.map v8).toArray 5 HR.out ((be2_7 (n : Int)).map v8) (by rw [List.length_map, be2_len_7]; exact (Nat.min_eq_left hm).symm) HC.out (by rw [List.length_map, be2_len_7]; simpa using hoff) (oneCell8 _) ?_)
  go_ret
  refine ⟨rfl, ?_, ?_⟩
  · unfold Row8
    refine (setRow_heap w1 g _ _ 5 (0, 0) HR.out).trans ?_
    unfold put2_7
    simp [be2_len_7, List.map_take, List.map_drop]
  · exact gb_setRow (gb_below (World.grownBy.refl w (some g)) hb (Nat.le_refl _)) _
end
section
open Go.RowKit Go.Lib
/-- Six bytes that begin with these. -/
def pad6 (ys : List UInt8) : List UInt8 := ys ++ List.replicate (6 - ys.length) 0
theorem pad6_len (ys : List UInt8) (h : ys.length ≤ 6) : (pad6 ys).length = 6 := by unfold pad6; rw [List.length_append, List.length_replicate]; omega
theorem pad6_all (ys : List UInt8) (h : ys.length = 6) : pad6 ys = ys := by unfold pad6; rw [h]; simp
theorem splice_dst (ys s : List UInt8) (ts : List Tg) (ty at_ : Int) (tv : Value) (h : ys.length ≤ 6) : splice (lkL ⟨zeros6, s, ts, ty, at_⟩ tv) 0 (ys.map v8) = lkL ⟨pad6 ys, s, ts, ty, at_⟩ tv := by
  have e : (zeros6.map v8).drop ys.length = (List.replicate (6 - ys.length) (0 : UInt8)).map v8 := by
    rw [show zeros6 = List.replicate 6 0 from rfl, ← List.map_drop, List.drop_replicate]
  unfold splice lkL pad6
  rw [List.take_zero, List.nil_append, List.length_map, Nat.zero_add, List.drop_append_of_le_length (by simpa [zeros6] using h), e, List.map_append, List.append_assoc]
theorem splice_src (d ys : List UInt8) (ts : List Tg) (ty at_ : Int) (tv : Value) (hd : d.length = 6) (h : ys.length ≤ 6) : splice (lkL ⟨d, zeros6, ts, ty, at_⟩ tv) 6 (ys.map v8) = lkL ⟨d, pad6 ys, ts, ty, at_⟩ tv := by
  have e : (zeros6.map v8).drop ys.length = (List.replicate (6 - ys.length) (0 : UInt8)).map v8 := by
    rw [show zeros6 = List.replicate 6 0 from rfl, ← List.map_drop, List.drop_replicate]
  unfold splice lkL pad6
  rw [List.take_append_of_le_length (by rw [List.length_map, hd]; omega), List.take_of_length_le (by rw [List.length_map, hd]; omega), List.length_map]
  rw [List.drop_append, List.length_map, hd, Nat.add_sub_cancel_left, List.drop_eq_nil_of_le (by rw [List.length_map, hd]; omega), List.nil_append]
  rw [List.drop_append_of_le_length (by simpa [zeros6] using h), e, List.map_append, List.append_assoc]
set_option maxRecDepth 100000 in
set_option maxHeartbeats 2000000 in
theorem read_any_7 (A : Option Addr) (len cap : Nat) (xs : List UInt8) (hlen : len ≤ 1000000) (hcap : len ≤ cap) (hcap2 : cap ≤ maxLen) (w : World) (hI : Rd w w.heap.size A len xs) :
    Calls Try.prog 36 #[.slice A len cap] w (ReadGave_7 w (rdOf xs)) := by
  have HL := Lib.hid hI.len
  obtain ⟨Z, hZ⟩ : ∃ Z : World, (w.alloc (.cells (lkL Lk.zero (.slice none 0 0)).toArray 41)).alloc (.cells (lkL Lk.zero (.slice none 0 0)).toArray 41) = Z := ⟨_, rfl⟩
  have b1 : Blk_7 Z 41 w.heap.size (lkL Lk.zero (.slice none 0 0)) := by
    rw [← hZ]; exact (Blk_7.new w _ _).alloc _
  have b2 : Blk_7 Z 41 (w.heap.size + 1) (lkL Lk.zero (.slice none 0 0)) := by
    rw [← hZ]
    have := Blk_7.new (w.alloc (.cells (lkL Lk.zero (.slice none 0 0)).toArray 41)) 41 (lkL Lk.zero (.slice none 0 0))
    simpa using this
  have hB0 : Below w.heap.size w Z := by
    rw [← hZ]; exact ((Below.refl w.heap.size w).alloc (Nat.le_refl _) _).alloc (by simp) _
  have hz : Z.heap.size = w.heap.size + 2 := by rw [← hZ]; simp
  rw [← zeroC] at hZ
  obtain ⟨m1, hm1⟩ : ∃ m1, (xs.take 6).length = m1 := ⟨_, rfl⟩
  have hm1' : m1 = min 6 len := by rw [← hm1, List.length_take, HL.out]
  obtain ⟨m2, hm2⟩ : ∃ m2, ((xs.drop m1).take 6).length = m2 := ⟨_, rfl⟩
  have hm2' : m2 = min 6 (len - m1) := by rw [← hm2, List.length_take, List.length_drop, HL.out]
  obtain ⟨C1, hC1⟩ : ∃ C1, C1 = (xs.take 6).map v8 := ⟨_, rfl⟩
  obtain ⟨C2, hC2⟩ : ∃ C2, C2 = ((xs.drop m1).take 6).map v8 := ⟨_, rfl⟩
  have hC1l : C1.length = m1 := by rw [hC1, List.length_map, hm1]
  have hC2l : C2.length = m2 := by rw [hC2, List.length_map, hm2]
  have h1one : ∀ v ∈ C1, v.oneCell' = true := by rw [hC1]; exact oneCell8 _
  have h2one : ∀ v ∈ C2, v.oneCell' = true := by rw [hC2]; exact oneCell8 _
  have hsrc1 : ∀ W : World, Below w.heap.size w W → 0 < C1.length → ∃ ad, A = some ad ∧ ∀ j v, C1[j]? = some v → W.cell? (ad.add j) = some v := by
    intro W hb h0
    have hr : Rd W w.heap.size A m1 (xs.take 6) := by
      rw [hm1']
      rcases Nat.le_total 6 len with h | h
      · rw [Nat.min_eq_left h]; exact (hI.below hb).take h
      · rw [Nat.min_eq_right h, List.take_of_length_le (by rw [hI.len]; exact h)]; exact hI.below hb
    obtain ⟨ad, h1, h2⟩ := hr.cells (by omega)
    exact ⟨ad, h1, by rw [hC1]; exact h2⟩
  have hsrc2 : ∀ W : World, Below w.heap.size w W → 0 < C2.length → ∃ ad, cutA_7 A cap m1 = some ad ∧ ∀ j v, C2[j]? = some v → W.cell? (ad.add j) = some v := by
    intro W hb h0
    have hr0 := (hI.below hb).from_7 (l := m1) (by omega) cap hcap
    have hr : Rd W w.heap.size (cutA_7 A cap m1) m2 ((xs.drop m1).take 6) := by
      rw [hm2']
      rcases Nat.le_total 6 (len - m1) with h | h
      · rw [Nat.min_eq_left h]; exact hr0.take h
      · rw [Nat.min_eq_right h, List.take_of_length_le (by rw [List.length_drop, hI.len]; exact h)]; exact hr0
    obtain ⟨ad, h1, h2⟩ := hr.cells (by omega)
    exact ⟨ad, h1, by rw [hC2]; exact h2⟩
  have hD : splice (lkL Lk.zero (.slice none 0 0)) 0 C1 = lkL ⟨pad6 (xs.take 6), zeros6, [], 0, 0⟩ (.slice none 0 0) := by
    rw [hC1]; exact splice_dst _ _ _ _ _ _ (by rw [List.length_take]; omega)
  have hS : splice (lkL ⟨pad6 (xs.take 6), zeros6, [], 0, 0⟩ (.slice none 0 0)) 6 C2 = lkL ⟨pad6 (xs.take 6), pad6 ((xs.drop m1).take 6), [], 0, 0⟩ (.slice none 0 0) := by
    rw [hC2]; exact splice_src _ _ _ _ _ _ (pad6_len _ (by rw [List.length_take]; omega)) (by rw [List.length_take]; omega)
  have h6 : ∀ ts ty at_, Lk.Six ⟨pad6 (xs.take 6), pad6 ((xs.drop m1).take 6), ts, ty, at_⟩ := fun _ _ _ => ⟨pad6_len _ (by rw [List.length_take]; omega), pad6_len _ (by rw [List.length_take]; omega)⟩
  have h12 : 12 ≤ len → pad6 (xs.take 6) = xs.take 6 ∧ pad6 ((xs.drop m1).take 6) = (xs.drop 6).take 6 := by
    intro h
    have e : m1 = 6 := by omega
    rw [e]
    exact ⟨pad6_all _ (by rw [List.length_take, HL.out]; omega), pad6_all _ (by rw [List.length_take, List.length_drop, HL.out]; omega)⟩
  have hsm : m1 + m2 ≤ 12 := by omega
  have hst : rdGo xs 3 [] (m1 + m2) = rdOf xs := by
    by_cases h : len < 14
    · rw [rdOf, rdGo_end (by rw [HL.out]; omega), rdGo_end (by rw [HL.out]; omega)]
    · rw [show m1 + m2 = 12 by omega]; rfl
  have hp12 : m1 + m2 + 2 ≤ len → 12 ≤ len := by omega
  have hcut := run_from8_7 A len cap m1 (by omega)
  have hw1 : IntKind.i64.wrap ((m1 : Int) + (m2 : Int)) = (m1 : Int) + (m2 : Int) := by rw [IntKind.wrap_i64]; omega
  generalize pad6 (xs.take 6) = D at *
  generalize pad6 ((xs.drop m1).take 6) = S at *
  have HM1 := Lib.hid hm1'
  have HM2 := Lib.hid hm2'
  have HC1l := Lib.hid hC1l
  have HC2l := Lib.hid hC2l
  have H1one := Lib.hid h1one
  have H2one := Lib.hid h2one
  have HS1 := Lib.hid hsrc1
  have HS2 := Lib.hid hsrc2
  have HD := Lib.hid hD
  have HS := Lib.hid hS
  have H6 := Lib.hid h6
  have H12 := Lib.hid h12
  have HST := Lib.hid hst
  have HP12 := Lib.hid hp12
  have HB0 := Lib.hid hB0
  have HB1 := Lib.hid b1
  have HB2 := Lib.hid b2
  have HZ := Lib.hid hz
  have HZZ := Lib.hid hZ
  clear hm1 hm1' hm2 hm2' hC1 hC2 hC1l hC2l h1one h2one hsrc1 hsrc2 hD hS h6 h12 hst hp12 hB0 b1 b2 hz hZ
  go_enter Try.func36, Try.ntmps36
  go_wp2_with ((with_reducible show wpList _ _ _ _ _ _); rw [HZZ.out]; refine wpList_copy_splice rfl (.tmp 8) (.tmp 9) 22 22 rfl 5 Try.underlying22 size8 _ _ _ _ _ _ (by rfl) (by rfl) (w.heap.size + 1) 0 (lkL Lk.zero (.slice none 0 0)) 41 HB2.out C1 (by rw [HC1l.out, HM1.out]; exact Nat.min_comm _ _) (fun h0 => ⟨rfl, HS1.out _ HB0.out h0⟩) (by rw [HC1l.out, HM1.out, lkL_len Lk.six_zero]; omega) H1one.out (w.heap.size + 1) Z (Below.refl _ _) (Nat.le_refl _) ?_; intro w2 HG2 hB2; rw [HC1l.out])
  have z2 : w.heap.size + 2 ≤ w2.heap.size := by have := hB2.size; rw [HZ.out] at this; exact this
  have R1 := HB1.out.below (Nat.lt_succ_self _) hB2
  have L1 : Blk_7 w2 41 (w.heap.size + 1) (lkL ⟨D, zeros6, [], 0, 0⟩ (.slice none 0 0)) := by rw [← HD.out]; exact HG2.out
  have B1 := HB0.out.trans (hB2.mono (Nat.le_succ _))
  clear HG2 hB2
  go_region_law (refine step_copy_splice rfl (.tmp 13) (.tmp 16) 22 22 rfl 5 Try.underlying22 size8 (some ⟨w.heap.size + 1, 6, none⟩) (cutA_7 A cap m1) 6 6 (len - m1) (cap - m1) (by simp [Act.eval, Act.put]) (by simp [Act.eval, Act.put]) (w.heap.size + 1) 6 (lkL ⟨D, zeros6, [], 0, 0⟩ (.slice none 0 0)) 41 L1 C2 (by rw [HC2l.out, HM2.out]; exact Nat.min_comm _ _) (fun h0 => ⟨rfl, HS2.out _ B1.drew h0⟩) (by rw [HC2l.out, HM2.out, lkL_len (L := ⟨D, zeros6, [], 0, 0⟩) ⟨(H6.out [] 0 0).d, rfl⟩]; omega) H2one.out (w.heap.size + 1) w2 (Below.refl _ _).drew (Nat.le_refl _) ?_; intro w3 HG3 hB3; rw [HC2l.out])
  have z3 : w.heap.size + 2 ≤ w3.heap.size := Nat.le_trans z2 hB3.size
  have R2 := R1.below (Nat.lt_succ_self _) hB3
  have L2 : Blk_7 w3 41 (w.heap.size + 1) (lkL ⟨D, S, [], 0, 0⟩ (.slice none 0 0)) := by rw [← HS.out]; exact HG3.out
  have B2 := B1.trans (hB3.mono (Nat.le_succ _))
  clear HG3 hB3 L1 R1 B1 z2 hcut hw1
  go_wp2_with fail
  simp only [Act.put, List.getElem_toArray, List.getElem_cons_succ, List.getElem_cons_zero, List.setIfInBounds_toArray, List.set_cons_zero, List.set_cons_succ]
  go_loopw [5] (fun at_ wr => ∃ (k p : Nat) (ts : List Tg) (tv : Value), at_ = .int .i64 (p : Int) ∧ k + ts.length = 2 ∧ p ≤ 12 + 4 * ts.length ∧ (p + 2 ≤ len → 12 ≤ len) ∧ rdGo xs (k + 1) ts p = rdOf xs ∧ w.heap.size + 2 ≤ wr.heap.size ∧ OwnT wr (w.heap.size + 2) tv ts ∧ Blk_7 wr 41 w.heap.size (lkL Lk.zero (.slice none 0 0)) ∧ Blk_7 wr 41 (w.heap.size + 1) (lkL ⟨D, S, [], 0, 0⟩ tv) ∧ Below w.heap.size w wr) (fun at_ _ => 100 - (intOf at_).toNat)
  case atStart => exact ⟨2, m1 + m2, [], _, by rw [Int.natCast_add], rfl, by simpa using hsm, HP12.out, HST.out, z3, OwnT.nil_ _ _, R2, L2, B2⟩
  case round =>
    clear R2 L2 B2 z3
    obtain ⟨k, p, ts, tv, rfl, hk, hp, hp12, hgo, hz, hown, R, L, B⟩ := hrel
    have HGO := Lib.hid hgo
    have HONE := Lib.hid hown.one
    have HK := Lib.hid hk
    clear hgo hk
    by_cases hb : p + 2 ≤ len
    · have hwl : wd xs p < 65536 := wd_lt xs p
      have hI' := (hI.below B).more B.size
      have HN := Lib.hid (num_any_7 (p := p) (by omega) hcap hcap2 hb hI')
      obtain ⟨n, hn⟩ : ∃ n : Nat, wd xs p = n := ⟨_, rfl⟩
      rw [hn] at HN hwl
      have HY := Lib.hid (fun W => isnum_yes A len cap p (by omega) hb W)
      have hwp : IntKind.i64.wrap ((p : Int) + 2) = (p : Int) + 2 := by rw [IntKind.wrap_i64]; omega
      have hp40 : p ≤ 20 := by have := HK.out; omega
      by_cases ht : isTg (n : Int) = true
      · have HT := Lib.hid (fun W => ht ▸ istag_any (n : Int) W)
        obtain ⟨A5, m5, c5, rfl, hm5, hmc5, hcm5, _, _⟩ := hown.sl
        match k with
        | 0 =>
          have hm2 : m5 = 2 := by have := HK.out; omega
          subst hm2
          have hres : rdOf xs = (Lk.zero, 4) := by rw [← HGO.out]; exact rdGo_long (by rw [HL.out]; exact hb) (by rw [hn]; exact ht)
          have HR := Lib.hid hres
          clear hres hn ht hm5 hI'
          go_wp2_with fail
          refine (HY.out _).mono ?_
          rintro e w4 ⟨rfl, rfl⟩
          go_wp2_with fail
          refine (HN.out).mono ?_
          rintro e w4 ⟨rfl, hb4⟩
          have c12 := (L.below (by omega) hb4).cell (lkL_tags (H6.out _ _ _) _)
          have R6 := Lib.hid (R.below (by omega) hb4)
          have B4 := B.trans (hb4.mono (by omega))
          clear R
          go_wp2_with (first
            | (go_at_call 53; refine (HT.out _).mono ?_; rintro e w5 ⟨rfl, rfl⟩)
            | ((with_reducible show wpList _ _ _ _ _ _); refine wpList_storeR_7 rfl 41 _ _ rfl w.heap.size (by rfl) (lkL Lk.zero (.slice none 0 0)) (by exact congrArg Value.agg zeroC) _ R6.out rfl (sizeLkL Lk.six_zero _) (lkL_one _ _ rfl) ?_))
          refine bodyPost_ret (v := .tuple #[lkC Lk.zero (.slice none 0 0), .int .i64 4]) (results_lk rfl _ _ w.heap.size (by rfl) _ Lk.six_zero _ (R6.out.setRow_ _) _ (by rfl)) rfl ?_
          refine ⟨.slice none 0 0, ?_, ?_, below_setRow B4 (Nat.le_refl _) _⟩
          · rw [HR.out]; rfl
          · rw [HR.out]; exact OwnT.nil_ _ _
        | k + 1 =>
          have hm2 : ((m5 : Int) == 2) = false := beq_eq_false_iff_ne.2 (by have := HK.out; omega)
          have hm2' : (m5 == 2) = false := beq_eq_false_iff_ne.2 (by have := HK.out; omega)
          by_cases hb2 : p + 2 + 2 ≤ len
          · have HY2 := Lib.hid (fun W => isnum_yes' A len cap (p + 2) ((p : Int) + 2) (by omega) (by omega) (by omega) W)
            obtain ⟨n2, hn2⟩ : ∃ n2 : Nat, wd xs (p + 2) = n2 := ⟨_, rfl⟩
            have hw2l : n2 < 65536 := by rw [← hn2]; exact wd_lt xs (p + 2)
            have HN2 := Lib.hid (fun W (hW : Below wr.heap.size wr W) => num_any' (p := p + 2) (cap := cap) ((p : Int) + 2) (by omega) n2 hn2 (by omega) hcap hcap2 hb2 (((hI.below B).below (hW.mono B.size)).more (Nat.le_trans B.size hW.size)))
            have hgo2 : rdGo xs (k + 1) (ts ++ [⟨(n : Int), (n2 : Int)⟩]) (p + 4) = rdOf xs := by
              rw [← HGO.out, rdGo_tag (by rw [HL.out]; exact hb) (by rw [hn]; exact ht), hn, hn2]
            have HGO2 := Lib.hid hgo2
            have HOW := Lib.hid hown
            have HM5 := Lib.hid hm5
            have hw4 : IntKind.i64.wrap ((p : Int) + 2 + 2) = (p : Int) + 2 + 2 := by rw [IntKind.wrap_i64]; omega
            clear hgo2 hn hn2 ht hm5 hI' hown
            go_wp2_with fail
            refine (HY.out _).mono ?_
            rintro e w4 ⟨rfl, rfl⟩
            go_wp2_with fail
            refine (HN.out).mono ?_
            rintro e w4 ⟨rfl, hb4⟩
            have z4 := hb4.size
            have R4 := R.below (by omega) hb4
            have L4 := L.below (by omega) hb4
            have B4 := B.trans (hb4.mono (by omega))
            have O4 := HOW.out.below hb4
            have c12 := L4.cell (lkL_tags (H6.out _ _ _) _)
            have L4 := Lib.hid L4
            have R4 := Lib.hid R4
            have O4 := Lib.hid O4
            clear L R
            go_wp2_with (first
              | (go_at_call 53; refine (HT.out _).mono ?_; rintro e w5 ⟨rfl, rfl⟩)
              | (go_at_call 51; refine (HY2.out _).mono ?_; rintro e w5 ⟨rfl, rfl⟩))
            have ob : ∀ g, (Value.slice A5 m5 c5).ownBlock = some g → w.heap.size + 2 ≤ g := fun g hg => (O4.out.lt g hg).1
            have OB := Lib.hid ob
            clear ob
            go_region_law (first
              | (rw [if_pos (by rfl)]; go_simp; refine (HN2.out _ hb4.drew).mono ?_; rintro e w6 ⟨rfl, hb6⟩; have c12' := (hb6.cell (p := ⟨w.heap.size + 1, 12, none⟩) (by simp; omega)).trans c12; have c12'' := (World.cell?_alloc_lt w6 (.cells #[.int .i64 (n : Int), .int .i64 (n2 : Int)] 74) ⟨w.heap.size + 1, 12, none⟩ (by have := hb6.size; simp at this ⊢; omega)).trans c12')
              | (refine step_appendT (by rfl) (.tmp 45) (.tmp 51) (by rfl) (w.heap.size + 2) (.slice A5 m5 c5) ts ⟨(n : Int), (n2 : Int)⟩ (by simp [Act.eval]) w6.heap.size (by simp [Act.eval]) ((O4.out.drew.below hb6).alloc _) (by have := HK.out; omega) (by have := hb6.size; simp at this; simp; omega) (Blk_7.new w6 _ _) ?_; intro v7 w7 hO7 hg7 hob7; have L7 := (((L4.out.drew).below (by simp; omega) hb6).alloc (.cells #[.int .i64 (n : Int), .int .i64 (n2 : Int)] 74)).grown hg7 (fun e => by have := OB.out _ e; omega); have R7 := (((R4.out.drew).below (by simp; omega) hb6).alloc (.cells #[.int .i64 (n : Int), .int .i64 (n2 : Int)] 74)).grown hg7 (fun e => by have := OB.out _ e; omega); obtain ⟨A7, m7, c7, rfl, hm7, _, _, _, _⟩ := hO7.sl; have HM7 := Lib.hid hm7; clear hm7; have d12 := L7.cell (lkL_tags (H6.out _ _ _) _); have d12f := L7.frozen 12; clear c12' c12''))
            all_goals
              have e7 : Below w.heap.size w w7 := ((B4.drew.trans (hb6.mono (by simp; omega))).alloc (by have := hb6.size; simp at this ⊢; omega) (.cells #[.int .i64 (n : Int), .int .i64 (n2 : Int)] 74)).grown hg7 (by have := hb6.size; simp at this ⊢; omega) (fun g hg => by have := OB.out g hg; omega)
              have e8 := e7.setCell (p := ⟨w.heap.size + 1, 12, none⟩) (by simp) (.slice A7 m7 c7)
              have L8 := L7.set 12 (.slice A7 m7 c7)
              rw [lkL_tags' (H6.out _ _ _)] at L8
              have R8 := R7.far (p := ⟨w.heap.size + 1, 12, none⟩) (by simp) (.slice A7 m7 c7)
              have O8 := hO7.kept1 (gb_set (World.grownBy.refl w7 (some (w.heap.size + 1))) 12 (.slice A7 m7 c7)) (by omega)
              have z8 : w.heap.size + 2 ≤ (w7.setCell ⟨w.heap.size + 1, 12, none⟩ (.slice A7 m7 c7)).heap.size := by
                have h1 := hg7.size; have h2 := hb6.size; simp [World.setCell] at h1 h2 ⊢; omega
              have E8 := Lib.hid e8
              have L8 := Lib.hid L8
              have R8 := Lib.hid R8
              have O8 := Lib.hid O8
              have Z8 := Lib.hid z8
              clear e7 e8 L7 R7 hO7 hg7 hob7 d12 d12f c12 z8
              go_wp2_with fail
              clear hwp hw4
              go_roundw
              case rel => exact ⟨k, p + 4, ts ++ [⟨(n : Int), (n2 : Int)⟩], _, by go_num, by have := HK.out; rw [List.length_append, List.length_singleton]; omega, by rw [List.length_append, List.length_singleton]; omega, fun _ => hp12 hb, HGO2.out, Z8.out, O8.out, R8.out, L8.out, E8.out⟩
              case measure => simp [intOf]; omega
          · have HY2 := Lib.hid (fun W => isnum_no' A len cap (p + 2) ((p : Int) + 2) (by omega) (by omega) (by omega) (by omega) W)
            have hres : rdOf xs = (Lk.zero, 2) := by
              rw [← HGO.out, rdGo_tag (by rw [HL.out]; exact hb) (by rw [hn]; exact ht)]
              exact rdGo_end (by rw [HL.out]; omega)
            have HR := Lib.hid hres
            clear hres hn ht hm5 hI'
            go_wp2_with fail
            refine (HY.out _).mono ?_
            rintro e w4 ⟨rfl, rfl⟩
            go_wp2_with fail
            refine (HN.out).mono ?_
            rintro e w4 ⟨rfl, hb4⟩
            have c12 := (L.below (by omega) hb4).cell (lkL_tags (H6.out _ _ _) _)
            have R6 := Lib.hid (R.below (by omega) hb4)
            have B4 := B.trans (hb4.mono (by omega))
            clear R
            go_wp2_with (first
              | (go_at_call 53; refine (HT.out _).mono ?_; rintro e w5 ⟨rfl, rfl⟩)
              | (go_at_call 51; refine (HY2.out _).mono ?_; rintro e w5 ⟨rfl, rfl⟩)
              | ((with_reducible show wpList _ _ _ _ _ _); refine wpList_storeR_7 rfl 41 _ _ rfl w.heap.size (by rfl) (lkL Lk.zero (.slice none 0 0)) (by exact congrArg Value.agg zeroC) _ R6.out rfl (sizeLkL Lk.six_zero _) (lkL_one _ _ rfl) ?_))
            refine bodyPost_ret (v := .tuple #[lkC Lk.zero (.slice none 0 0), .int .i64 2]) (results_lk rfl _ _ w.heap.size (by rfl) _ Lk.six_zero _ (R6.out.setRow_ _) _ (by rfl)) rfl ?_
            refine ⟨.slice none 0 0, ?_, ?_, below_setRow B4 (Nat.le_refl _) _⟩
            · rw [HR.out]; rfl
            · rw [HR.out]; exact OwnT.nil_ _ _
      · have ht : isTg (n : Int) = false := by simpa using ht
        have HT := Lib.hid (fun W => ht ▸ istag_any (n : Int) W)
        have hres : rdOf xs = (⟨D, S, ts, (n : Int), ((p + 2 : Nat) : Int)⟩, 0) := by
          obtain ⟨e1, e2⟩ := H12.out (hp12 hb)
          rw [← HGO.out, rdGo_ok (by rw [HL.out]; exact hb) (by rw [hn]; exact ht), hn, e1, e2]
        have HR := Lib.hid hres
        clear hn ht hres hI'
        go_wp2_with fail
        refine (HY.out _).mono ?_
        rintro e w4 ⟨rfl, rfl⟩
        go_wp2_with fail
        refine (HN.out).mono ?_
        rintro e w4 ⟨rfl, hb4⟩
        have z4 := hb4.size
        have R4 := R.below (by omega) hb4
        have L4 := L.below (by omega) hb4
        have B4 := B.trans (hb4.mono (by omega))
        have O4 := hown.below hb4
        have c13 := L4.cell (lkL_ty (H6.out _ _ _) tv)
        have c14 := L4.cell (lkL_at (H6.out _ _ _) tv)
        have f13 := L4.frozen 13
        have f14 := L4.frozen 14
        have L5 := (L4.set 13 (.int .i64 (n : Int)))
        rw [lkL_ty' (H6.out _ _ _)] at L5
        have L6 := (L5.set 14 (.int .i64 ((p + 2 : Nat) : Int)))
        rw [lkL_at' (H6.out _ _ _)] at L6
        have R6 := (R4.far (p := ⟨w.heap.size + 1, 13, none⟩) (by simp) (.int .i64 (n : Int))).far (p := ⟨w.heap.size + 1, 14, none⟩) (by simp) (.int .i64 ((p + 2 : Nat) : Int))
        have B6 := (B4.setCell (p := ⟨w.heap.size + 1, 13, none⟩) (by simp) (.int .i64 (n : Int))).setCell (p := ⟨w.heap.size + 1, 14, none⟩) (by simp) (.int .i64 ((p + 2 : Nat) : Int))
        have O6 : OwnT ((w4.setCell ⟨w.heap.size + 1, 13, none⟩ (.int .i64 (n : Int))).setCell ⟨w.heap.size + 1, 14, none⟩ (.int .i64 ((p + 2 : Nat) : Int))) (w.heap.size + 2) tv ts := by
          exact O4.kept1 (gb_set (gb_set (World.grownBy.refl w4 (some (w.heap.size + 1))) 13 _) 14 _) (by omega)
        have L6 := Lib.hid L6
        have R6 := Lib.hid R6
        have B6 := Lib.hid B6
        have O6 := Lib.hid O6
        clear L4 L5 R4 B4 O4 L R B hown
        rw [Int.natCast_add] at L6 R6 B6 O6
        go_wp2_with (first
          | (go_at_call 53; refine (HT.out _).mono ?_; rintro e w5 ⟨rfl, rfl⟩)
          | ((with_reducible show wpList _ _ _ _ _ _); refine wpList_loadL rfl _ rfl (w.heap.size + 1) (by rfl) _ (H6.out _ _ _) tv L6.out ?_)
          | ((with_reducible show wpList _ _ _ _ _ _); refine wpList_storeR_7 rfl 41 _ _ rfl w.heap.size (by rfl) (lkL ⟨D, S, [], (n : Int), (p : Int) + 2⟩ tv) (by rfl) _ R6.out (by rw [lkL_len Lk.six_zero, lkL_len (H6.out _ _ _)]) (sizeLkL (H6.out _ _ _) tv) (lkL_one _ _ HONE.out) ?_))
        refine bodyPost_ret (v := .tuple #[lkC ⟨D, S, [], (n : Int), (p : Int) + 2⟩ tv, .int .i64 0]) (results_lk rfl _ _ w.heap.size (by rfl) _ (H6.out _ _ _) tv (R6.out.setRow_ (lkL ⟨D, S, [], (n : Int), (p : Int) + 2⟩ tv)) _ (by rfl)) rfl ?_
        refine ⟨tv, ?_, ?_, below_setRow B6.out (Nat.le_refl _) _⟩
        · rw [HR.out]; rfl
        · rw [HR.out]
          exact (O6.out.kept1 (gb_setRow (World.grownBy.refl _ (some w.heap.size)) _) (by omega)).base_le (by omega)
    · have HY := Lib.hid (fun W => isnum_no A len cap p (by omega) (by have := HK.out; omega) (by omega) W)
      have hres : rdOf xs = (Lk.zero, 2) := by rw [← HGO.out]; exact rdGo_end (by rw [HL.out]; omega)
      have HR := Lib.hid hres
      have R6 := Lib.hid R
      clear hres R
      go_wp2_with (first
        | (go_at_call 51; refine (HY.out _).mono ?_; rintro e w5 ⟨rfl, rfl⟩)
        | ((with_reducible show wpList _ _ _ _ _ _); refine wpList_storeR_7 rfl 41 _ _ rfl w.heap.size (by rfl) (lkL Lk.zero (.slice none 0 0)) (by exact congrArg Value.agg zeroC) _ R6.out rfl (sizeLkL Lk.six_zero _) (lkL_one _ _ rfl) ?_))
      refine bodyPost_ret (v := .tuple #[lkC Lk.zero (.slice none 0 0), .int .i64 2]) (results_lk rfl _ _ w.heap.size (by rfl) _ Lk.six_zero _ (R6.out.setRow_ _) _ (by rfl)) rfl ?_
      refine ⟨.slice none 0 0, ?_, ?_, below_setRow B (Nat.le_refl _) _⟩
      · rw [HR.out]; rfl
      · rw [HR.out]; exact OwnT.nil_ _ _
end
section
open Go.RowKit Go.Lib
set_option maxHeartbeats 1000000 in
/-- The document's two, at a number that comes to p. -/
theorem two_any' {A : Option Addr} {len : Nat} {cap p : Nat} {xs : List UInt8} (z : Int) (hz : z = (p : Int)) (n : Nat) (hn : wd xs p = n) (hlen : len ≤ 1000000000) (h : p + 2 ≤ len) {w : World} {B : Nat} (hI : Rd w B A len xs) :
    Calls Try.prog 31 #[.slice A len cap, .int .i64 z] w fun e w' => e = .returned (.int .i64 (n : Int)) ∧ ∃ n, w' = w.drewN n := by subst hz hn; exact two_any_7 hlen h hI
/-- f up to k, nought from there on: the first k bytes laid over six noughts. -/
def fill6 (ys : List UInt8) (k : Nat) : List UInt8 := ys.take k ++ List.replicate (6 - k) 0
theorem fill6_len (ys : List UInt8) (k : Nat) (hk : k ≤ 6) (hy : ys.length = 6) : (fill6 ys k).length = 6 := by
  unfold fill6; rw [List.length_append, List.length_take, List.length_replicate]; omega
theorem fill6_set (ys : List UInt8) (k : Nat) (hk : k < 6) (hy : ys.length = 6) (x : UInt8) (hx : ys[k]? = some x) : (fill6 ys k).set k x = fill6 ys (k + 1) := by
  unfold fill6
  rw [List.set_append_right _ _ (by rw [List.length_take]; omega), List.length_take, Nat.min_eq_left (by omega), Nat.sub_self]
  obtain ⟨m, hm⟩ : ∃ m, 6 - k = m + 1 := ⟨5 - k, by omega⟩
  rw [hm, List.replicate_succ, show 6 - (k + 1) = m by omega, List.set_cons_zero]
  have : ys.take (k + 1) = ys.take k ++ [x] := by
    obtain ⟨hl, hx⟩ := List.getElem?_eq_some_iff.1 hx
    rw [← hx]; exact (List.take_append_getElem hl).symm
  rw [this, List.append_assoc]
  rfl
theorem fill6_all (ys : List UInt8) (hy : ys.length = 6) : fill6 ys 6 = ys := by unfold fill6; rw [List.take_of_length_le (by omega)]; simp
theorem fill6_none (ys : List UInt8) : fill6 ys 0 = zeros6 := by unfold fill6; simp [zeros6]
theorem lkL_set_d {d s : List UInt8} {ts : List Tg} {ty at_ : Int} (hd : d.length = 6) (tv : Value) (k : Nat) (hk : k < 6) (x : UInt8) : (lkL ⟨d, s, ts, ty, at_⟩ tv).set k (.int .u8 (x.toNat : Int)) = lkL ⟨d.set k x, s, ts, ty, at_⟩ tv := by
  unfold lkL
  rw [List.set_append_left _ _ (by rw [List.length_map]; show k < d.length; omega)]
  rw [show Value.int .u8 (x.toNat : Int) = v8 x from rfl, ← List.map_set]
theorem lkL_set_s {d s : List UInt8} {ts : List Tg} {ty at_ : Int} (hd : d.length = 6) (hs : s.length = 6) (tv : Value) (k : Nat) (hk : k < 6) (x : UInt8) : (lkL ⟨d, s, ts, ty, at_⟩ tv).set (6 + k) (.int .u8 (x.toNat : Int)) = lkL ⟨d, s.set k x, ts, ty, at_⟩ tv := by
  unfold lkL
  rw [List.set_append_right _ _ (by rw [List.length_map]; show d.length ≤ 6 + k; omega), List.length_map, hd, Nat.add_sub_cancel_left, List.set_append_left _ _ (by rw [List.length_map]; show k < s.length; omega)]
  rw [show Value.int .u8 (x.toNat : Int) = v8 x from rfl, ← List.map_set]
theorem lkL_get_d {L : Lk} (h : L.Six) (tv : Value) (k : Nat) (hk : k < 6) : ∃ x : UInt8, (lkL L tv)[k]? = some (.int .u8 (x.toNat : Int)) := by
  obtain ⟨x, hx⟩ : ∃ x, L.d[k]? = some x := ⟨_, List.getElem?_eq_getElem (by rw [h.d]; exact hk)⟩
  refine ⟨x, ?_⟩
  unfold lkL
  rw [List.getElem?_append_left (by rw [List.length_map, h.d]; exact hk), List.getElem?_map, hx]
  rfl
theorem lkL_get_s {L : Lk} (h : L.Six) (tv : Value) (k : Nat) (hk : k < 6) : ∃ x : UInt8, (lkL L tv)[6 + k]? = some (.int .u8 (x.toNat : Int)) := by
  obtain ⟨x, hx⟩ : ∃ x, L.s[k]? = some x := ⟨_, List.getElem?_eq_getElem (by rw [h.s]; exact hk)⟩
  refine ⟨x, ?_⟩
  unfold lkL
  rw [List.getElem?_append_right (by rw [List.length_map, h.d]; omega), List.length_map, h.d, Nat.add_sub_cancel_left, List.getElem?_append_left (by rw [List.length_map, h.s]; exact hk), List.getElem?_map, hx]
  rfl
set_option maxRecDepth 100000 in
set_option maxHeartbeats 2000000 in
theorem rread_any_7 (A : Option Addr) (len cap : Nat) (xs : List UInt8) (hlen : len ≤ 1000000) (w : World) (hI : Rd w w.heap.size A len xs) :
    Calls Try.prog 15 #[.slice A len cap] w (ReadGave_7 w (rdOf xs)) := by
  have HL := Lib.hid hI.len
  obtain ⟨Z, hZ⟩ : ∃ Z : World, (w.alloc (.cells (lkL Lk.zero (.slice none 0 0)).toArray 41)).alloc (.cells (lkL Lk.zero (.slice none 0 0)).toArray 41) = Z := ⟨_, rfl⟩
  have b1 : Blk_7 Z 41 w.heap.size (lkL Lk.zero (.slice none 0 0)) := by
    rw [← hZ]; exact (Blk_7.new w _ _).alloc _
  have b2 : Blk_7 Z 41 (w.heap.size + 1) (lkL Lk.zero (.slice none 0 0)) := by
    rw [← hZ]
    have := Blk_7.new (w.alloc (.cells (lkL Lk.zero (.slice none 0 0)).toArray 41)) 41 (lkL Lk.zero (.slice none 0 0))
    simpa using this
  have hB0 : Below w.heap.size w Z := by
    rw [← hZ]; exact ((Below.refl w.heap.size w).alloc (Nat.le_refl _) _).alloc (by simp) _
  have hz : Z.heap.size = w.heap.size + 2 := by rw [← hZ]; simp
  rw [← zeroC] at hZ
  have h6 : ∀ ts ty at_, Lk.Six ⟨zeros6, zeros6, ts, ty, at_⟩ := fun _ _ _ => ⟨rfl, rfl⟩
  have HB0 := Lib.hid hB0
  have HB1 := Lib.hid b1
  have HB2 := Lib.hid b2
  have HZ := Lib.hid hz
  have HZZ := Lib.hid hZ
  have H6 := Lib.hid h6
  clear hB0 b1 b2 hz hZ h6
  go_enter Try.func15, Try.ntmps15
  go_wp2_with fail
  rw [HZZ.out]
  go_loopw [5] (fun at_ wr => ∃ (k p : Nat) (ts : List Tg) (tv : Value), at_ = .int .i64 (p : Int) ∧ k + ts.length = 2 ∧ p = 12 + 4 * ts.length ∧ rdGo xs (k + 1) ts p = rdOf xs ∧ w.heap.size + 2 ≤ wr.heap.size ∧ OwnT wr (w.heap.size + 2) tv ts ∧ Blk_7 wr 41 w.heap.size (lkL Lk.zero (.slice none 0 0)) ∧ Blk_7 wr 41 (w.heap.size + 1) (lkL ⟨zeros6, zeros6, [], 0, 0⟩ tv) ∧ Below w.heap.size w wr) (fun at_ _ => 100 - (intOf at_).toNat)
  case atStart => exact ⟨2, 12, [], _, rfl, rfl, rfl, rfl, Nat.le_of_eq HZ.out.symm, OwnT.nil_ _ _, HB1.out, HB2.out, HB0.out⟩
  case round =>
    obtain ⟨k, p, ts, tv, rfl, hk, hp, hgo, hz, hown, R, L, B⟩ := hrel
    have HGO := Lib.hid hgo
    have HK := Lib.hid hk
    have HONE := Lib.hid hown.one
    have HP := Lib.hid hp
    have hp40 : p ≤ 20 := by omega
    clear hgo hk hp
    have hI' := hI.below B
    by_cases hb : p + 2 ≤ len
    · obtain ⟨n, hn⟩ : ∃ n : Nat, wd xs p = n := ⟨_, rfl⟩
      have hnl : n < 65536 := by rw [← hn]; exact wd_lt xs p
      have HN := Lib.hid (fun W (hW : Rd W w.heap.size A len xs) => two_any' (cap := cap) (p : Int) rfl n hn (by omega) hb hW)
      have hwp : IntKind.i64.wrap ((p : Int) + 2) = (p : Int) + 2 := by rw [IntKind.wrap_i64]; omega
      have hb' : (p : Int) + 2 ≤ (len : Int) := by omega
      by_cases ht : isTg (n : Int) = true
      · have HT := Lib.hid (fun W => ht ▸ rtag_any (n : Int) W)
        obtain ⟨A5, m5, c5, rfl, hm5, hmc5, hcm5, _, _⟩ := hown.sl
        match k with
        | 0 =>
          have hm2 : m5 = 2 := by have := HK.out; omega
          subst hm2
          have hres : rdOf xs = (Lk.zero, 4) := by rw [← HGO.out]; exact rdGo_long (by rw [HL.out]; exact hb) (by rw [hn]; exact ht)
          have HR := Lib.hid hres
          clear hres hn ht hm5
          go_wp2_with fail
          refine (HN.out _ hI').mono ?_
          rintro e w4 ⟨rfl, hq⟩
          have L4 : Blk_7 w4 41 (w.heap.size + 1) (lkL ⟨zeros6, zeros6, [], 0, 0⟩ (.slice A5 2 c5)) := by obtain ⟨q, rfl⟩ := hq; exact L
          have R4 : Blk_7 w4 41 w.heap.size (lkL Lk.zero (.slice none 0 0)) := by obtain ⟨q, rfl⟩ := hq; exact R
          have B4 : Below w.heap.size w w4 := by obtain ⟨q, rfl⟩ := hq; exact below_drewN B q
          have c12 := L4.cell (lkL_tags (H6.out _ _ _) _)
          have R6 := Lib.hid R4
          clear R R4 hq
          go_wp2_with (first
            | (go_at_call 30; refine (HT.out _).mono ?_; rintro e w5 ⟨rfl, rfl⟩)
            | ((with_reducible show wpList _ _ _ _ _ _); refine wpList_storeR_7 rfl 41 _ _ rfl w.heap.size (by rfl) (lkL Lk.zero (.slice none 0 0)) (by exact congrArg Value.agg zeroC) _ R6.out rfl (sizeLkL Lk.six_zero _) (lkL_one _ _ rfl) ?_))
          refine bodyPost_ret (v := .tuple #[lkC Lk.zero (.slice none 0 0), .int .i64 4]) (results_lk rfl _ _ w.heap.size (by rfl) _ Lk.six_zero _ (R6.out.setRow_ _) _ (by rfl)) rfl ?_
          refine ⟨.slice none 0 0, ?_, ?_, below_setRow B4 (Nat.le_refl _) _⟩
          · rw [HR.out]; rfl
          · rw [HR.out]; exact OwnT.nil_ _ _
        | k + 1 =>
          have hm2 : ((m5 : Int) == 2) = false := beq_eq_false_iff_ne.2 (by have := HK.out; omega)
          have hm2' : (m5 == 2) = false := beq_eq_false_iff_ne.2 (by have := HK.out; omega)
          have hwp6 : IntKind.i64.wrap ((p : Int) + 6) = (p : Int) + 6 := by rw [IntKind.wrap_i64]; omega
          by_cases hb2 : p + 6 ≤ len
          · obtain ⟨n2, hn2⟩ : ∃ n2 : Nat, wd xs (p + 2) = n2 := ⟨_, rfl⟩
            have hw2l : n2 < 65536 := by rw [← hn2]; exact wd_lt xs (p + 2)
            have HN2 := Lib.hid (fun W (hW : Rd W w.heap.size A len xs) => two_any' (cap := cap) ((p : Int) + 2) (show (p : Int) + 2 = ((p + 2 : Nat) : Int) by omega) n2 hn2 (by omega) (by omega) hW)
            have hgo2 : rdGo xs (k + 1) (ts ++ [⟨(n : Int), (n2 : Int)⟩]) (p + 4) = rdOf xs := by
              rw [← HGO.out, rdGo_tag (by rw [HL.out]; exact hb) (by rw [hn]; exact ht), hn, hn2]
            have HGO2 := Lib.hid hgo2
            have hb6' : ¬ (len : Int) < (p : Int) + 6 := by omega
            have HM5 := Lib.hid hm5
            have hw4 : IntKind.i64.wrap ((p : Int) + 4) = (p : Int) + 4 := by rw [IntKind.wrap_i64]; omega
            clear hgo2 hn hn2 ht hm5
            go_wp2_with fail
            refine (HN.out _ hI').mono ?_
            rintro e w4 ⟨rfl, hq⟩
            have L4 : Blk_7 w4 41 (w.heap.size + 1) (lkL ⟨zeros6, zeros6, [], 0, 0⟩ (.slice A5 m5 c5)) := by obtain ⟨q, rfl⟩ := hq; exact L
            have R4 : Blk_7 w4 41 w.heap.size (lkL Lk.zero (.slice none 0 0)) := by obtain ⟨q, rfl⟩ := hq; exact R
            have B4 : Below w.heap.size w w4 := by obtain ⟨q, rfl⟩ := hq; exact below_drewN B q
            have O4 : OwnT w4 (w.heap.size + 2) (.slice A5 m5 c5) ts := by obtain ⟨q, rfl⟩ := hq; exact hown
            have z4 : wr.heap.size = w4.heap.size := by obtain ⟨q, rfl⟩ := hq; rfl
            have HI4 := Lib.hid (hI.below B4)
            have c12 := L4.cell (lkL_tags (H6.out _ _ _) _)
            have ob : ∀ g, (Value.slice A5 m5 c5).ownBlock = some g → w.heap.size + 2 ≤ g := fun g hg => (O4.lt g hg).1
            have OB := Lib.hid ob
            have L4 := Lib.hid L4
            have R4 := Lib.hid R4
            have O4 := Lib.hid O4
            have hz4 : w.heap.size + 2 ≤ w4.heap.size := by rw [← z4]; exact hz
            have hca : ∀ (q : Nat) (o : Obj), ((w4.drewN q).alloc o).cell? ⟨w.heap.size + 1, 12, none⟩ = some (.slice A5 m5 c5) := fun q o => (World.cell?_alloc_lt (w4.drewN q) o ⟨w.heap.size + 1, 12, none⟩ (by simp; omega)).trans c12
            have Z4 := Lib.hid z4
            clear L R hq hown ob z4
            go_wp2_with (first
              | (go_at_call 30; refine (HT.out _).mono ?_; rintro e w5 ⟨rfl, rfl⟩))
            go_region_law (first
              | (rw [if_pos (by rfl)]; go_simp; (with_reducible refine (HN.out _ ?hr).mono ?_); (case hr => exact HI4.out); rintro e w6 ⟨rfl, q6, rfl⟩)
              | (rw [if_pos (by rfl)]; go_simp; (with_reducible refine (HN2.out _ ?hr).mono ?_); (case hr => exact HI4.out); rintro e w6 ⟨rfl, q7, rfl⟩)
              | (refine step_appendT (by rfl) (.tmp 30) (.tmp 39) (by rfl) (w.heap.size + 2) (.slice A5 m5 c5) ts ⟨(n : Int), (n2 : Int)⟩ (by simp [Act.eval]) w4.heap.size (by simp [Act.eval]) (OwnT.alloc (by exact O4.out) _) (by have := HK.out; omega) (by simp; omega) (Blk_7.new _ _ _) ?_; intro v7 w7 hO7 hg7 hob7; have L7 : Blk_7 w7 41 (w.heap.size + 1) (lkL ⟨zeros6, zeros6, [], 0, 0⟩ (.slice A5 m5 c5)) := Blk_7.grown (Blk_7.alloc (by exact L4.out) _) hg7 (fun e => by have := OB.out _ e; omega); have R7 : Blk_7 w7 41 w.heap.size (lkL Lk.zero (.slice none 0 0)) := Blk_7.grown (Blk_7.alloc (by exact R4.out) _) hg7 (fun e => by have := OB.out _ e; omega); obtain ⟨A7, m7, c7, rfl, hm7, _, _, _, _⟩ := hO7.sl; have HM7 := Lib.hid hm7; clear hm7; have d12 := L7.cell (lkL_tags (H6.out _ _ _) _); have d12f := L7.frozen 12))
            all_goals
              have e7 : Below w.heap.size w w7 := Below.grown (Below.alloc (by exact below_drewN B4 _) (by simp; omega) _) hg7 (by simp; omega) (fun g hg => by have := OB.out g hg; omega)
              have e8 := e7.setCell (p := ⟨w.heap.size + 1, 12, none⟩) (by simp) (.slice A7 m7 c7)
              have L8 := L7.set 12 (.slice A7 m7 c7)
              rw [lkL_tags' (H6.out _ _ _)] at L8
              have R8 := R7.far (p := ⟨w.heap.size + 1, 12, none⟩) (by simp) (.slice A7 m7 c7)
              have O8 := hO7.kept1 (gb_set (World.grownBy.refl w7 (some (w.heap.size + 1))) 12 (.slice A7 m7 c7)) (by omega)
              have z8 : w.heap.size + 2 ≤ (w7.setCell ⟨w.heap.size + 1, 12, none⟩ (.slice A7 m7 c7)).heap.size := by
                have h1 := hg7.size; simp [World.setCell] at h1 ⊢; omega
              have E8 := Lib.hid e8
              have L8 := Lib.hid L8
              have R8 := Lib.hid R8
              have O8 := Lib.hid O8
              have Z8 := Lib.hid z8
              clear e7 e8 L7 R7 hO7 hg7 hob7 d12 d12f c12 z8 hca
              go_wp2_with fail
              clear hwp hw4 hwp6
              go_roundw
              case rel => exact ⟨k, p + 4, ts ++ [⟨(n : Int), (n2 : Int)⟩], _, by go_num, by have := HK.out; rw [List.length_append, List.length_singleton]; omega, by have := HP.out; rw [List.length_append, List.length_singleton]; omega, HGO2.out, Z8.out, O8.out, R8.out, L8.out, E8.out⟩
              case measure => simp [intOf]; omega
          · have hres : rdOf xs = (Lk.zero, 2) := by
              rw [← HGO.out, rdGo_tag (by rw [HL.out]; exact hb) (by rw [hn]; exact ht)]
              exact rdGo_end (by rw [HL.out]; omega)
            have HR := Lib.hid hres
            have hb6' : (len : Int) < (p : Int) + 6 := by omega
            clear hres hn ht hm5
            go_wp2_with fail
            refine (HN.out _ hI').mono ?_
            rintro e w4 ⟨rfl, hq⟩
            have L4 : Blk_7 w4 41 (w.heap.size + 1) (lkL ⟨zeros6, zeros6, [], 0, 0⟩ (.slice A5 m5 c5)) := by obtain ⟨q, rfl⟩ := hq; exact L
            have R4 : Blk_7 w4 41 w.heap.size (lkL Lk.zero (.slice none 0 0)) := by obtain ⟨q, rfl⟩ := hq; exact R
            have B4 : Below w.heap.size w w4 := by obtain ⟨q, rfl⟩ := hq; exact below_drewN B q
            have c12 := L4.cell (lkL_tags (H6.out _ _ _) _)
            have R6 := Lib.hid R4
            clear R R4 hq
            go_wp2_with (first
              | (go_at_call 30; refine (HT.out _).mono ?_; rintro e w5 ⟨rfl, rfl⟩)
              | ((with_reducible show wpList _ _ _ _ _ _); refine wpList_storeR_7 rfl 41 _ _ rfl w.heap.size (by rfl) (lkL Lk.zero (.slice none 0 0)) (by exact congrArg Value.agg zeroC) _ R6.out rfl (sizeLkL Lk.six_zero _) (lkL_one _ _ rfl) ?_))
            refine bodyPost_ret (v := .tuple #[lkC Lk.zero (.slice none 0 0), .int .i64 2]) (results_lk rfl _ _ w.heap.size (by rfl) _ Lk.six_zero _ (R6.out.setRow_ _) _ (by rfl)) rfl ?_
            refine ⟨.slice none 0 0, ?_, ?_, below_setRow B4 (Nat.le_refl _) _⟩
            · rw [HR.out]; rfl
            · rw [HR.out]; exact OwnT.nil_ _ _
      · have ht : isTg (n : Int) = false := by simpa using ht
        have HT := Lib.hid (fun W => ht ▸ rtag_any (n : Int) W)
        have hx12 : 12 ≤ len := by have := HP.out; omega
        have hD6 : (xs.take 6).length = 6 := by rw [List.length_take, HL.out]; omega
        have hS6 : ((xs.drop 6).take 6).length = 6 := by rw [List.length_take, List.length_drop, HL.out]; omega
        have hDx : ∀ j, j < 6 → (xs.take 6)[j]? = xs[j]? := fun j hj => List.getElem?_take_of_lt hj
        have hSx : ∀ j, j < 6 → ((xs.drop 6).take 6)[j]? = xs[6 + j]? := fun j hj => by rw [List.getElem?_take_of_lt hj, List.getElem?_drop]
        have hres : rdOf xs = (⟨xs.take 6, (xs.drop 6).take 6, ts, (n : Int), ((p + 2 : Nat) : Int)⟩, 0) := by
          rw [← HGO.out, rdGo_ok (by rw [HL.out]; exact hb) (by rw [hn]; exact ht), hn]
        obtain ⟨D, hD⟩ : ∃ D, xs.take 6 = D := ⟨_, rfl⟩
        obtain ⟨S, hS⟩ : ∃ S, (xs.drop 6).take 6 = S := ⟨_, rfl⟩
        rw [hD] at hD6 hres hDx
        rw [hS] at hS6 hres hSx
        have HR := Lib.hid hres
        have HDX := Lib.hid hDx
        have HSX := Lib.hid hSx
        have HD6 := Lib.hid hD6
        have HS6 := Lib.hid hS6
        have h6k : ∀ k ts ty at_, k ≤ 6 → Lk.Six ⟨fill6 D k, fill6 S k, ts, ty, at_⟩ := fun k _ _ _ hk => ⟨fill6_len D k hk hD6, fill6_len S k hk hS6⟩
        have H6K := Lib.hid h6k
        have h6k' : ∀ k ts ty at_, k < 6 → Lk.Six ⟨fill6 D (k + 1), fill6 S k, ts, ty, at_⟩ := fun k _ _ _ hk => ⟨fill6_len D (k + 1) (by omega) hD6, fill6_len S k (by omega) hS6⟩
        have H6K' := Lib.hid h6k'
        have hb2 : ¬ (len : Int) < (p : Int) + 2 := by omega
        clear hres hDx hSx hD hS hn ht hD6 hS6 h6k h6k'
        go_wp2_with fail
        refine (HN.out _ hI').mono ?_
        rintro e w4 ⟨rfl, hq⟩
        have L4 : Blk_7 w4 41 (w.heap.size + 1) (lkL ⟨fill6 D 0, fill6 S 0, [], 0, 0⟩ tv) := by obtain ⟨q, rfl⟩ := hq; rw [fill6_none, fill6_none]; exact L
        have R4 : Blk_7 w4 41 w.heap.size (lkL Lk.zero (.slice none 0 0)) := by obtain ⟨q, rfl⟩ := hq; exact R
        have B4 : Below w.heap.size w w4 := by obtain ⟨q, rfl⟩ := hq; exact below_drewN B q
        have O4 : OwnT w4 (w.heap.size + 2) tv ts := by obtain ⟨q, rfl⟩ := hq; exact hown
        have L4 := Lib.hid L4
        have R4 := Lib.hid R4
        have B4 := Lib.hid B4
        have O4 := Lib.hid O4
        clear L R B hown hq hI'
        go_wp2_with (first
          | (go_at_call 30; refine (HT.out _).mono ?_; rintro e w5 ⟨rfl, rfl⟩))
        go_loopw [6] (fun i wr => ∃ k : Nat, k ≤ 6 ∧ i = .int .i64 (k : Int) ∧ OwnT wr (w.heap.size + 2) tv ts ∧ Blk_7 wr 41 w.heap.size (lkL Lk.zero (.slice none 0 0)) ∧ Blk_7 wr 41 (w.heap.size + 1) (lkL ⟨fill6 D k, fill6 S k, [], 0, 0⟩ tv) ∧ Below w.heap.size w wr) (fun i _ => 6 - (intOf i).toNat)
        case atStart => exact ⟨0, by omega, rfl, O4.out, R4.out, L4.out, B4.out⟩
        case round =>
          clear O4 R4 L4 B4
          obtain ⟨j, hj, rfl, O, R, L, B⟩ := hrel
          by_cases hlt : j < 6
          · have hlt' : (j : Int) < 6 := by omega
            have hI5 := hI.below B
            obtain ⟨b, off, rfl, _⟩ := hI5.addr (by omega)
            have g1 := hI5.cell (k := j) (by omega)
            have g2 := hI5.cell (k := 6 + j) (by omega)
            obtain ⟨x, hx⟩ : ∃ x, xs[j]'(by rw [HL.out]; omega) = x := ⟨_, rfl⟩
            obtain ⟨y, hy⟩ : ∃ y, xs[6 + j]'(by rw [HL.out]; omega) = y := ⟨_, rfl⟩
            rw [hx] at g1
            rw [hy] at g2
            have hbB : b < w.heap.size := by obtain ⟨b', o', e, h⟩ := hI.addr (by omega); cases e; exact h
            have hdx : D[j]? = some x := by rw [HDX.out j hlt, List.getElem?_eq_getElem (by rw [HL.out]; omega), hx]
            have hsx : S[j]? = some y := by rw [HSX.out j hlt, List.getElem?_eq_getElem (by rw [HL.out]; omega), hy]
            have HDE := Lib.hid (fill6_set D j hlt HD6.out x hdx)
            have HSE := Lib.hid (fill6_set S j hlt HS6.out y hsx)
            obtain ⟨u1, hu1⟩ := lkL_get_d (H6K.out j [] 0 0 hj) tv j hlt
            have c1 := L.cell hu1
            have f1 := L.frozen j
            have L5 := L.set j (.int .u8 (x.toNat : Int))
            rw [lkL_set_d (fill6_len D j hj HD6.out) tv j hlt x, HDE.out] at L5
            obtain ⟨u2, hu2⟩ := lkL_get_s (H6K'.out j [] 0 0 hlt) tv j hlt
            have c2 := L5.cell hu2
            have f2 := L5.frozen (6 + j)
            have g2' : (wr.setCell ⟨w.heap.size + 1, j, none⟩ (.int .u8 (x.toNat : Int))).cell? ⟨b, off + (6 + j), none⟩ = some (.int .u8 (y.toNat : Int)) := by
              rw [World.cell?_setCell_other _ _ _ _ (fun e => by have := congrArg Addr.block e; simp at this; omega)]; exact g2
            have L6 := L5.set (6 + j) (.int .u8 (y.toNat : Int))
            rw [lkL_set_s (fill6_len D (j + 1) (by omega) HD6.out) (fill6_len S j hj HS6.out) tv j hlt y, HSE.out] at L6
            have R6 := (R.far (p := ⟨w.heap.size + 1, j, none⟩) (by simp) (.int .u8 (x.toNat : Int))).far (p := ⟨w.heap.size + 1, 6 + j, none⟩) (by simp) (.int .u8 (y.toNat : Int))
            have B6 := (B.setCell (p := ⟨w.heap.size + 1, j, none⟩) (by simp) (.int .u8 (x.toNat : Int))).setCell (p := ⟨w.heap.size + 1, 6 + j, none⟩) (by simp) (.int .u8 (y.toNat : Int))
            have O6 := O.kept1 (gb_set (gb_set (World.grownBy.refl wr (some (w.heap.size + 1))) j (.int .u8 (x.toNat : Int))) (6 + j) (.int .u8 (y.toNat : Int))) (by omega)
            have L6 := Lib.hid L6
            have R6 := Lib.hid R6
            have B6 := Lib.hid B6
            have O6 := Lib.hid O6
            have hwj : IntKind.i64.wrap (6 + (j : Int)) = 6 + (j : Int) := by rw [IntKind.wrap_i64]; omega
            have hl6 : (6 : Int) + (j : Int) < (len : Int) := by omega
            have hlj : (j : Int) < (len : Int) := by omega
            have ht6 : (6 + (j : Int)).toNat = 6 + j := by omega
            clear hx hy hdx hsx hu1 hu2 L5 L R B O hI5 g2
            go_wp2_with fail
            go_roundw
            case rel => exact ⟨j + 1, by omega, by go_num, O6.out, R6.out, L6.out, B6.out⟩
            case measure => simp [intOf]; omega
          · obtain rfl : j = 6 := by omega
            rw [fill6_all D HD6.out, fill6_all S HS6.out] at L
            have h6f : ∀ ts ty at_, Lk.Six ⟨D, S, ts, ty, at_⟩ := fun _ _ _ => ⟨HD6.out, HS6.out⟩
            have H6F := Lib.hid h6f
            have hI5 := hI.below B
            clear hlt hj h6f
            go_wp2_with fail
            refine (HN.out _ hI5).mono ?_
            rintro e w4 ⟨rfl, hq⟩
            have L4 : Blk_7 w4 41 (w.heap.size + 1) (lkL ⟨D, S, [], 0, 0⟩ tv) := by obtain ⟨q, rfl⟩ := hq; exact L
            have R4 : Blk_7 w4 41 w.heap.size (lkL Lk.zero (.slice none 0 0)) := by obtain ⟨q, rfl⟩ := hq; exact R
            have B4 : Below w.heap.size w w4 := by obtain ⟨q, rfl⟩ := hq; exact below_drewN B q
            have O4 : OwnT w4 (w.heap.size + 2) tv ts := by obtain ⟨q, rfl⟩ := hq; exact O
            have c13 := L4.cell (lkL_ty (H6F.out _ _ _) tv)
            have c14 := L4.cell (lkL_at (H6F.out _ _ _) tv)
            have f13 := L4.frozen 13
            have f14 := L4.frozen 14
            have L5 := (L4.set 13 (.int .i64 (n : Int)))
            rw [lkL_ty' (H6F.out _ _ _)] at L5
            have L6 := (L5.set 14 (.int .i64 ((p : Int) + 2)))
            rw [lkL_at' (H6F.out _ _ _)] at L6
            have R6 := (R4.far (p := ⟨w.heap.size + 1, 13, none⟩) (by simp) (.int .i64 (n : Int))).far (p := ⟨w.heap.size + 1, 14, none⟩) (by simp) (.int .i64 ((p : Int) + 2))
            have B6 := (B4.setCell (p := ⟨w.heap.size + 1, 13, none⟩) (by simp) (.int .i64 (n : Int))).setCell (p := ⟨w.heap.size + 1, 14, none⟩) (by simp) (.int .i64 ((p : Int) + 2))
            have O6 : OwnT ((w4.setCell ⟨w.heap.size + 1, 13, none⟩ (.int .i64 (n : Int))).setCell ⟨w.heap.size + 1, 14, none⟩ (.int .i64 ((p : Int) + 2))) (w.heap.size + 2) tv ts :=
              O4.kept1 (gb_set (gb_set (World.grownBy.refl w4 (some (w.heap.size + 1))) 13 _) 14 _) (by omega)
            have L6 := Lib.hid L6
            have R6 := Lib.hid R6
            have B6 := Lib.hid B6
            have O6 := Lib.hid O6
            clear L4 L5 R4 B4 O4 L R B O hq hI5
            go_wp2_with (first
              | ((with_reducible show wpList _ _ _ _ _ _); refine wpList_loadL rfl _ rfl (w.heap.size + 1) (by rfl) _ (H6F.out _ _ _) tv L6.out ?_)
              | ((with_reducible show wpList _ _ _ _ _ _); refine wpList_storeR_7 rfl 41 _ _ rfl w.heap.size (by rfl) (lkL ⟨D, S, [], (n : Int), (p : Int) + 2⟩ tv) (by rfl) _ R6.out (by rw [lkL_len Lk.six_zero, lkL_len (H6F.out _ _ _)]) (sizeLkL (H6F.out _ _ _) tv) (lkL_one _ _ HONE.out) ?_))
            refine bodyPost_ret (v := .tuple #[lkC ⟨D, S, [], (n : Int), (p : Int) + 2⟩ tv, .int .i64 0]) (results_lk rfl _ _ w.heap.size (by rfl) _ (H6F.out _ _ _) tv (R6.out.setRow_ (lkL ⟨D, S, [], (n : Int), (p : Int) + 2⟩ tv)) _ (by rfl)) rfl ?_
            refine ⟨tv, ?_, ?_, below_setRow B6.out (Nat.le_refl _) _⟩
            · rw [HR.out]; rfl
            · rw [HR.out]
              exact (O6.out.kept1 (gb_setRow (World.grownBy.refl _ (some w.heap.size)) _) (by omega)).base_le (by omega)
    · have hb' : ¬ (p : Int) + 2 ≤ (len : Int) := by omega
      have hb2 : (len : Int) < (p : Int) + 2 := by omega
      have hwp : IntKind.i64.wrap ((p : Int) + 2) = (p : Int) + 2 := by rw [IntKind.wrap_i64]; omega
      have hres : rdOf xs = (Lk.zero, 2) := by rw [← HGO.out]; exact rdGo_end (by rw [HL.out]; omega)
      have HR := Lib.hid hres
      have R6 := Lib.hid R
      clear hres R
      go_wp2_with (first
        | ((with_reducible show wpList _ _ _ _ _ _); refine wpList_storeR_7 rfl 41 _ _ rfl w.heap.size (by rfl) (lkL Lk.zero (.slice none 0 0)) (by exact congrArg Value.agg zeroC) _ R6.out rfl (sizeLkL Lk.six_zero _) (lkL_one _ _ rfl) ?_))
      refine bodyPost_ret (v := .tuple #[lkC Lk.zero (.slice none 0 0), .int .i64 2]) (results_lk rfl _ _ w.heap.size (by rfl) _ Lk.six_zero _ (R6.out.setRow_ _) _ (by rfl)) rfl ?_
      refine ⟨.slice none 0 0, ?_, ?_, below_setRow B (Nat.le_refl _) _⟩
      · rw [HR.out]; rfl
      · rw [HR.out]; exact OwnT.nil_ _ _
end
section
open Go.RowKit Go.Lib
set_option maxHeartbeats 1000000 in
theorem wrong_any (x : Tg) (w : World) : Calls Try.prog 82 #[.agg #[.int .i64 x.t, .int .i64 x.c]] w fun e w' => e = .returned (.bool (!tgOk x)) ∧ Below w.heap.size w w' := by
  obtain ⟨t, c⟩ := x
  have HT := Lib.hid (fun W => istag_any t W)
  have HF := Lib.hid (fun W => fits_any c W)
  unfold tgOk
  by_cases ht : isTg t = true
  · rw [ht] at HT
    simp only [ht, Bool.true_and]
    obtain ⟨f, hf⟩ : ∃ f, fitsB c = f := ⟨_, rfl⟩
    rw [hf] at HF ⊢
    clear hf ht
    go_enter Try.func82, Try.ntmps82
    go_wp2_with (first
      | (go_at_call 53; refine (HT.out _).mono ?_; rintro e w5 ⟨rfl, rfl⟩)
      | (go_at_call 83; refine (HF.out _).mono ?_; rintro e w5 ⟨rfl, rfl⟩))
    go_ret
    exact ⟨rfl, (Below.refl _ _).alloc (Nat.le_refl _) _⟩
  · have ht : isTg t = false := by simpa using ht
    rw [ht] at HT
    simp only [ht, Bool.false_and, Bool.not_false]
    clear ht
    go_enter Try.func82, Try.ntmps82
    go_wp2_with (first
      | (go_at_call 53; refine (HT.out _).mono ?_; rintro e w5 ⟨rfl, rfl⟩)
      | (go_at_call 83; refine (HF.out _).mono ?_; rintro e w5 ⟨rfl, rfl⟩))
    go_ret
    exact ⟨rfl, (Below.refl _ _).alloc (Nat.le_refl _) _⟩
/-- The place of the first tag that may not be, or -1. -/
def idxOf : List Tg → Nat → Int
  | [], _ => -1
  | x :: ts, k => if tgOk x = true then idxOf ts (k + 1) else (k : Int)
theorem idx_neg : ∀ (ts : List Tg) (k : Nat), (idxOf ts k < 0) = (ts.all tgOk = true)
  | [], k => by simp [idxOf]
  | x :: ts, k => by
    unfold idxOf
    by_cases h : tgOk x = true
    · rw [if_pos h, idx_neg ts (k + 1), List.all_cons, h, Bool.true_and]
    · rw [if_neg h, List.all_cons]
      have : tgOk x = false := by simpa using h
      rw [this]
      simp only [Bool.false_and, Bool.false_eq_true, eq_iff_iff, iff_false]
      omega
set_option maxRecDepth 100000 in
set_option maxHeartbeats 1000000 in
theorem index_any {A : Option Addr} {len : Nat} {ts : List Tg} (cap : Nat) (hlen : len ≤ 1000000) {w : World} (hT : TagsAt w w.heap.size A len ts) :
    Calls Try.prog 91 #[.slice A len cap, .func (.func 82) #[] #[]] w fun e w' => e = .returned (.int .i64 (idxOf ts 0)) ∧ Below w.heap.size w w' := by
  have HL := Lib.hid hT.size
  go_enter Try.func91, Try.ntmps91
  go_wp2_with fail
  go_loopw [8] (fun i wr => ∃ k : Nat, k ≤ len ∧ i = .int .i64 (k : Int) ∧ idxOf (ts.drop k) k = idxOf ts 0 ∧ Below w.heap.size w wr) (fun i _ => len - (intOf i).toNat)
  case atStart => exact ⟨0, by omega, rfl, by rw [List.drop_zero], Below.refl _ _⟩
  case round =>
    obtain ⟨k, hk, rfl, hi, B⟩ := hrel
    have HI := Lib.hid hi
    clear hi
    by_cases hlt : k < len
    · have hlt' : (k : Int) < (len : Int) := by omega
      obtain ⟨b, off, rfl, _⟩ := hT.addr (by omega)
      obtain ⟨x, hx⟩ : ∃ x, ts[k]? = some x := ⟨_, List.getElem?_eq_getElem (by rw [HL.out]; exact hlt)⟩
      obtain ⟨c1, c2⟩ := (hT.below B).cell hx
      have hd : ts.drop k = x :: ts.drop (k + 1) := by
        obtain ⟨h1, h2⟩ := List.getElem?_eq_some_iff.1 hx
        rw [← h2]; exact List.drop_eq_getElem_cons h1
      have HD := Lib.hid hd
      have HW := Lib.hid (fun W => wrong_any x W)
      clear hd hx
      by_cases ho : tgOk x = true
      · rw [ho] at HW
        have HO := Lib.hid ho
        clear ho
        go_wp2_with fail
        refine (HW.out _).mono ?_
        rintro e w1 ⟨rfl, hb1⟩
        have B1 := B.trans (hb1.mono B.size)
        go_wp2_with fail
        go_roundw
        case rel => exact ⟨k + 1, by omega, by go_num, by rw [← HI.out, HD.out, idxOf, if_pos HO.out], B1⟩
        case measure => simp [intOf]; omega
      · have ho : tgOk x = false := by simpa using ho
        rw [ho] at HW
        have HO := Lib.hid ho
        clear ho
        go_wp2_with fail
        refine (HW.out _).mono ?_
        rintro e w1 ⟨rfl, hb1⟩
        have B1 := B.trans (hb1.mono B.size)
        go_wp2_with fail
        go_ret
        exact ⟨by rw [← HI.out, HD.out, idxOf, if_neg (by rw [HO.out]; decide)]; rfl, B1⟩
    · obtain rfl : k = len := by omega
      have hn : ts.drop k = [] := List.drop_eq_nil_of_le (by rw [HL.out]; exact Nat.le_refl _)
      have HN := Lib.hid hn
      clear hn
      go_wp2_with fail
      go_ret
      exact ⟨by rw [← HI.out, HN.out]; rfl, B⟩
set_option maxHeartbeats 1000000 in
theorem contains_any {A : Option Addr} {len : Nat} {ts : List Tg} (cap : Nat) (hlen : len ≤ 1000000) {w : World} (hT : TagsAt w w.heap.size A len ts) (r : Bool) (hr : ts.all tgOk = r) :
    Calls Try.prog 81 #[.slice A len cap, .func (.func 82) #[] #[]] w fun e w' => e = .returned (.bool (!r)) ∧ Below w.heap.size w w' := by
  have HI := Lib.hid (index_any cap hlen hT)
  have hneg := idx_neg ts 0
  rw [hr] at hneg
  obtain ⟨z, hz⟩ : ∃ z, idxOf ts 0 = z := ⟨_, rfl⟩
  rw [hz] at HI hneg
  clear hz hr
  cases r
  · have h0 : 0 ≤ z := by simpa using hneg
    clear hneg
    go_enter Try.func81, Try.ntmps81
    go_wp2_with fail
    refine (HI.out).mono ?_
    rintro e w1 ⟨rfl, hb1⟩
    go_wp2_with fail
    go_ret
    exact ⟨rfl, hb1⟩
  · have h0 : z < 0 := by simpa using hneg
    have h1 : decide (0 ≤ z) = false := decide_eq_false (by omega)
    clear hneg
    go_enter Try.func81, Try.ntmps81
    go_wp2_with fail
    refine (HI.out).mono ?_
    rintro e w1 ⟨rfl, hb1⟩
    go_wp2_with fail
    go_ret
    exact ⟨rfl, hb1⟩
set_option maxRecDepth 100000 in
set_option maxHeartbeats 1000000 in
theorem maybe_any_7 (L : Lk) (h6 : L.Six) {A : Option Addr} {n : Nat} (cap : Nat) (hn : n ≤ 1000000) {w : World} (hT : TagsAt w w.heap.size A n L.ts) :
    Calls Try.prog 61 #[lkC L (.slice A n cap)] w fun e w' => e = .returned (.bool (rightB_7 L)) ∧ Below w.heap.size w w' := by
  have k12 := lkL_tags h6 (.slice A n cap)
  have k13 := lkL_ty h6 (.slice A n cap)
  have hB1 := (Below.refl w.heap.size w).alloc (Nat.le_refl _) (.cells (lkL L (.slice A n cap)).toArray 41)
  have hb1 := Blk_7.new w 41 (lkL L (.slice A n cap))
  have hlen := hT.size
  obtain ⟨r, hr⟩ : ∃ r, L.ts.all tgOk = r := ⟨_, rfl⟩
  have hT1 := (hT.below hB1).more hB1.size
  have HC := Lib.hid (contains_any cap hn hT1 r hr)
  have HF := Lib.hid (fun W => fits_any L.ty W)
  have HI := Lib.hid (fun W => istag_any L.ty W)
  have hres : rightB_7 L = (decide (n ≤ 2) && (r && (fitsB L.ty && !isTg L.ty))) := by unfold rightB_7; rw [hr, hlen]
  rw [hres]
  obtain ⟨f, hf⟩ : ∃ f, fitsB L.ty = f := ⟨_, rfl⟩
  obtain ⟨g, hg⟩ : ∃ g, isTg L.ty = g := ⟨_, rfl⟩
  rw [hf] at HF ⊢
  rw [hg] at HI ⊢
  generalize L.ty = ty at *
  unfold lkC
  generalize lkL L (.slice A n cap) = C at *
  have c12 := hb1.cell k12
  have c13 := hb1.cell k13
  have HB := Lib.hid hB1
  have HBB := Lib.hid hb1
  clear hf hg hr hres hlen hT hT1 hB1 hb1
  by_cases h2 : n ≤ 2
  · have h2' : (n : Int) ≤ 2 := by omega
    have e2 : decide (n ≤ 2) = true := decide_eq_true h2
    rw [e2, Bool.true_and]
    clear e2
    cases r
    · rw [Bool.false_and]
      go_enter Try.func61, Try.ntmps61
      go_wp2_with fail
      refine HC.out.mono ?_
      rintro e w2 ⟨rfl, hb2⟩
      go_wp2_with fail
      go_ret
      exact ⟨rfl, HB.out.trans (hb2.mono HB.out.size)⟩
    · rw [Bool.true_and]
      cases f
      · rw [Bool.false_and]
        go_enter Try.func61, Try.ntmps61
        go_wp2_with fail
        refine HC.out.mono ?_
        rintro e w2 ⟨rfl, hb2⟩
        have d13 := (HBB.out.below (by simp) hb2).cell k13
        go_wp2_with (go_at_call 83; refine (HF.out _).mono ?_; rintro e w5 ⟨rfl, rfl⟩)
        go_ret
        exact ⟨rfl, HB.out.trans (hb2.mono HB.out.size)⟩
      · rw [Bool.true_and]
        go_enter Try.func61, Try.ntmps61
        go_wp2_with fail
        refine HC.out.mono ?_
        rintro e w2 ⟨rfl, hb2⟩
        have d13 := (HBB.out.below (by simp) hb2).cell k13
        go_wp2_with (first
          | (go_at_call 83; refine (HF.out _).mono ?_; rintro e w5 ⟨rfl, rfl⟩)
          | (go_at_call 53; refine (HI.out _).mono ?_; rintro e w5 ⟨rfl, rfl⟩))
        go_ret
        exact ⟨rfl, HB.out.trans (hb2.mono HB.out.size)⟩
  · have e2 : decide (n ≤ 2) = false := decide_eq_false h2
    have h2' : ¬ (n : Int) ≤ 2 := by omega
    rw [e2, Bool.false_and]
    go_enter Try.func61, Try.ntmps61
    go_wp2_with fail
    go_ret
    exact ⟨rfl, HB.out⟩
end
section
open Go.RowKit Go.Lib
/-- So many bytes, the first of which are these, noughts behind. -/
def rowOf (pre : List UInt8) (N : Nat) : List UInt8 := pre ++ List.replicate (N - pre.length) 0
theorem rowOf_len (pre : List UInt8) (N : Nat) (h : pre.length ≤ N) : (rowOf pre N).length = N := by unfold rowOf; rw [List.length_append, List.length_replicate]; omega
theorem rowOf_all (pre : List UInt8) (N : Nat) (h : pre.length = N) : rowOf pre N = pre := by unfold rowOf; rw [h]; simp
theorem rowOf_splice (pre ys : List UInt8) (N p : Nat) (hp : pre.length = p) : splice ((rowOf pre N).map v8) p (ys.map v8) = (rowOf (pre ++ ys) N).map v8 := by
  unfold splice rowOf
  rw [← List.map_take, List.length_map, ← List.map_drop, ← List.map_append, ← List.map_append, List.take_append_of_le_length (by omega), List.take_of_length_le (by omega), List.drop_append, hp, List.drop_eq_nil_of_le (by omega), List.nil_append, Nat.add_sub_cancel_left, List.drop_replicate, List.length_append, hp, List.append_assoc, show N - p - ys.length = N - (p + ys.length) by omega]
theorem rowOf_put2 (pre : List UInt8) (N p n : Nat) (hp : pre.length = p) : put2_7 (rowOf pre N) p n = rowOf (pre ++ be2_7 (n : Int)) N := by
  unfold put2_7 rowOf
  rw [List.take_append_of_le_length (by omega), List.take_of_length_le (by omega), List.drop_append, hp, List.drop_eq_nil_of_le (by omega), List.nil_append, Nat.add_sub_cancel_left, List.drop_replicate, List.length_append, hp, be2_len_7, List.append_assoc, show N - p - 2 = N - (p + 2) by omega]
theorem lay_row (n : Nat) (hn : n < 65536) {w : World} {g N p : Nat} {pre : List UInt8} (hrow : Row8 w g (rowOf pre N)) (m c : Nat) (hm : 2 ≤ m) (hp : pre.length = p) (h : p + 2 ≤ N) (z : Int) (hz : z = (n : Int)) :
    Calls Try.prog 62 #[.slice (some ⟨g, p, none⟩) m c, .int .i64 z] w fun e w' => e = .returned (.int .i64 2) ∧ Row8 w' g (rowOf (pre ++ be2_7 (n : Int)) N) ∧ w.grownBy w' (some g) := by
  subst hz
  rw [← rowOf_put2 pre N p n hp]
  exact lay_any_7 n hn hrow p m c hm (by rw [rowOf_len _ _ (by omega)]; exact h)
theorem run_fromB (g N p : Nat) (h : p < N) (W : World) :
    (Instr.slice 22 (.slice (some ⟨g, 0, none⟩) N N) (some (.int .i64 (p : Int))) none none).run Try.prog W = .ok (.slice (some ⟨g, p, none⟩) (N - p) (N - p)) W := by
  rw [run_from8_7 _ N N p (by omega)]
  unfold cutA_7
  rw [if_neg (by omega)]
  simp [add_plain]
theorem run_fromB' (g N p : Nat) (z : Int) (hz : z = (p : Int)) (h : p < N) (W : World) :
    (Instr.slice 22 (.slice (some ⟨g, 0, none⟩) N N) (some (.int .i64 z)) none none).run Try.prog W = .ok (.slice (some ⟨g, p, none⟩) (N - p) (N - p)) W := by subst hz; exact run_fromB g N p h W
set_option maxRecDepth 100000 in
set_option maxHeartbeats 1000000 in
theorem put_no_7 (L : Lk) (h6 : L.Six) {A : Option Addr} {n : Nat} (cap : Nat) (hn : n ≤ 1000000) {w : World} (hT : TagsAt w w.heap.size A n L.ts) (hr : rightB_7 L = false) :
    Calls Try.prog 42 #[lkC L (.slice A n cap)] w fun e w' => e = .returned (.tuple #[.slice none 0 0, .int .i64 1]) ∧ Below w.heap.size w w' := by
  have hB1 := (Below.refl w.heap.size w).alloc (Nat.le_refl _) (.cells (lkL L (.slice A n cap)).toArray 41)
  have hb1 := Blk_7.new w 41 (lkL L (.slice A n cap))
  have hT1 := (hT.below hB1).more hB1.size
  have HM := Lib.hid (maybe_any_7 L h6 cap hn hT1)
  rw [hr] at HM
  have HB := Lib.hid hb1
  have HB1 := Lib.hid hB1
  clear hb1 hT1 hB1 hr
  go_enter Try.func42, Try.ntmps42
  unfold lkC
  go_wp2_with (first
    | ((with_reducible show wpList _ _ _ _ _ _); refine wpList_loadL rfl _ rfl w.heap.size (by rfl) L h6 _ HB.out ?_))
  refine HM.out.mono ?_
  rintro e w2 ⟨rfl, hb2⟩
  go_wp2_with fail
  go_ret2
  exact ⟨rfl, HB1.out.trans (hb2.mono HB1.out.size)⟩
set_option maxRecDepth 100000 in
set_option maxHeartbeats 2000000 in
theorem put_yes_7 (L : Lk) (h6 : L.Six) {A : Option Addr} {n : Nat} (cap : Nat) {w : World} (hT : TagsAt w w.heap.size A n L.ts) (hr : rightB_7 L = true) :
    Calls Try.prog 42 #[lkC L (.slice A n cap)] w fun e w' => ∃ v, e = .returned (.tuple #[v, .int .i64 0]) ∧ Own8 w' w.heap.size v (lkB L) ∧ Below w.heap.size w w' := by
  obtain ⟨q1, q2, q3, q4⟩ := right_parts hr
  have hsz := hT.size
  have hn2 : n ≤ 2 := by omega
  have hB1 := (Below.refl w.heap.size w).alloc (Nat.le_refl _) (.cells (lkL L (.slice A n cap)).toArray 41)
  have hb1 := Blk_7.new w 41 (lkL L (.slice A n cap))
  have hT1 := (hT.below hB1).more hB1.size
  have HM := Lib.hid (maybe_any_7 L h6 cap (by omega) hT1)
  rw [hr] at HM
  have HB := Lib.hid hb1
  have HB1 := Lib.hid hB1
  have HSZ := Lib.hid hsz
  obtain ⟨N, hN⟩ : ∃ N, 14 + 4 * n = N := ⟨_, rfl⟩
  have hmk := run_make8 N N (Nat.le_refl _) (by omega)
  have hNI : (N : Int) = 12 + 2 * (2 * (n : Int) + 1) := by omega
  rw [hNI] at hmk
  have HN := Lib.hid hN
  clear hb1 hT1 hB1 hr hsz hN hNI
  go_enter Try.func42, Try.ntmps42
  unfold lkC
  go_wp2_with (first
    | ((with_reducible show wpList _ _ _ _ _ _); refine wpList_loadL rfl _ rfl w.heap.size (by rfl) L h6 _ HB.out ?_))
  refine HM.out.mono ?_
  rintro e w2 ⟨rfl, hb2⟩
  have b2 := HB.out.below (by simp) hb2
  have c12 := b2.cell (lkL_tags h6 _)
  have z2 : w.heap.size + 1 ≤ w2.heap.size := by have := hb2.size; simpa using this
  have hrow : Row8 (w2.alloc (.cells (madeCells #[.int .u8 0] N) 5)) w2.heap.size (rowOf [] N) := Row8.made w2 N
  obtain ⟨w3, hw3⟩ : ∃ w3, w2.alloc (.cells (madeCells #[.int .u8 0] N) 5) = w3 := ⟨_, rfl⟩
  have hmk2 := hmk w2
  rw [hw3] at hrow hmk2
  have hb3 : Below w2.heap.size w2 w3 := by rw [← hw3]; exact (Below.refl _ _).alloc (Nat.le_refl _) _
  have hgl : w2.heap.size < w3.heap.size := by rw [← hw3]; simp
  obtain ⟨g, hg⟩ : ∃ g, w2.heap.size = g := ⟨_, rfl⟩
  rw [hg] at hmk2 hrow hb3 hgl z2
  have b3 := b2.below (by omega) hb3
  have B3 := HB1.out.trans ((hb2.mono HB1.out.size).trans (hb3.mono (by omega)))
  have hd6 : (L.d.map v8).length = 6 := by rw [List.length_map]; exact h6.d
  have hs6 : (L.s.map v8).length = 6 := by rw [List.length_map]; exact h6.s
  have e1 : splice ((rowOf [] N).map v8) 0 (L.d.map v8) = (rowOf L.d N).map v8 := by have := rowOf_splice [] L.d N 0 rfl; simpa using this
  have e2 : splice ((rowOf L.d N).map v8) 6 (L.s.map v8) = (rowOf (L.d ++ L.s) N).map v8 := rowOf_splice L.d L.s N 6 h6.d
  have hdr : ∀ j v, (L.d.map v8)[j]? = some v → w3.cell? ((⟨w.heap.size, 0, none⟩ : Addr).add j) = some v := fun j v hv => by rw [add_plain]; exact b3.dst j v hv
  have hsr : ∀ W : World, Below g w3 W → ∀ j v, (L.s.map v8)[j]? = some v → W.cell? ((⟨w.heap.size, 6, none⟩ : Addr).add j) = some v := fun W hW j v hv => by rw [add_plain]; exact (b3.below (by omega) hW).src h6 j v hv
  have hc6 : ∀ W, (Instr.slice 22 (.slice (some ⟨g, 0, none⟩) N N) (some (.int .i64 6)) none none).run Try.prog W = .ok (.slice (some ⟨g, 6, none⟩) (N - 6) (N - 6)) W := fun W => run_fromB g N 6 (by have := HN.out; omega) W
  have hN14 : 14 ≤ N := by have := HN.out; omega
  have HDR := Lib.hid hdr
  have HSR := Lib.hid hsr
  have HD6 := Lib.hid hd6
  have HS6 := Lib.hid hs6
  have E1 := Lib.hid e1
  have E2 := Lib.hid e2
  have HROW := Lib.hid hrow
  have HBL := Lib.hid b3
  have HB3 := Lib.hid B3
  have HG := Lib.hid hg
  clear hdr hsr hd6 hs6 e1 e2 hrow b3 B3 hw3 hmk hb2 b2 hb3
  go_wp2_with ((with_reducible show wpList _ _ _ _ _ _); refine wpList_copy_splice rfl (.tmp 19) (.tmp 21) 22 22 rfl 5 Try.underlying22 size8 _ _ _ _ _ _ (by rfl) (by rfl) g 0 ((rowOf [] N).map v8) 5 HROW.out (L.d.map v8) (by rw [HD6.out]; exact (Nat.min_eq_left (by omega)).symm) (fun h0 => ⟨rfl, ⟨w.heap.size, 0, none⟩, rfl, HDR.out⟩) (by rw [HD6.out, List.length_map, rowOf_len _ _ (Nat.zero_le _)]; omega) (oneCell8 _) g w3 (Below.refl _ _) (Nat.le_refl _) ?_; intro w4 HG4 hB4; rw [HD6.out])
  rw [E1.out] at HG4
  go_region_law (refine step_copy_splice rfl (.tmp 26) (.tmp 28) 22 22 rfl 5 Try.underlying22 size8 (some ⟨g, 6, none⟩) (some ⟨w.heap.size, 6, none⟩) (N - 6) (N - 6) 6 6 (by simp [Act.eval, Act.put]) (by simp [Act.eval, Act.put]) g 6 ((rowOf L.d N).map v8) 5 HG4.out (L.s.map v8) (by rw [HS6.out]; exact (Nat.min_eq_left (by omega)).symm) (fun h0 => ⟨rfl, ⟨w.heap.size, 6, none⟩, rfl, HSR.out _ hB4.drew⟩) (by rw [HS6.out, List.length_map, rowOf_len _ _ (by rw [h6.d]; omega)]; omega) (oneCell8 _) g w4 (Below.refl _ _).drew (Nat.le_refl _) ?_; intro w5 HG5 hB5; rw [HS6.out])
  rw [E2.out] at HG5
  have B45 := hB4.trans hB5
  have R5 : Row8 w5 g (rowOf (L.d ++ L.s) N) := HG5.out
  have L5 := HBL.out.below (by omega) B45
  have hgl5 : g < w5.heap.size := Nat.lt_of_lt_of_le hgl B45.size
  have B5 := HB3.out.trans (B45.mono (by omega))
  have hc12 := L5.cell (lkL_tags h6 _)
  have R5 := Lib.hid R5
  have L5 := Lib.hid L5
  have B5 := Lib.hid B5
  clear HG4 HG5 hB4 hB5 B45 c12 hc6
  go_wp2_with fail
  go_loopw [5, 34] (fun at_ i wr => ∃ k p : Nat, k ≤ n ∧ i = .int .i64 (k : Int) ∧ at_ = .int .i64 (p : Int) ∧ p = 12 + 4 * k ∧ Row8 wr g (rowOf (L.d ++ (L.s ++ tsB (L.ts.take k))) N) ∧ Blk_7 wr 41 w.heap.size (lkL L (.slice A n cap)) ∧ g < wr.heap.size ∧ Below w.heap.size w wr) (fun _ i _ => n - (intOf i).toNat)
  case atStart => exact ⟨0, 12, by omega, rfl, rfl, rfl, by rw [List.take_zero]; show Row8 w5 g (rowOf (L.d ++ (L.s ++ [])) N); rw [List.append_nil]; exact R5.out, L5.out, hgl5, B5.out⟩
  case round =>
    clear R5 L5 B5 hgl5 hc12
    obtain ⟨k, p, hk, rfl, rfl, hp, R, Lb, hgw, B⟩ := hrel
    have HP := Lib.hid hp
    have hp20 : p ≤ 20 := by omega
    have hpl : (L.d ++ (L.s ++ tsB (L.ts.take k))).length = p := by
      rw [List.length_append, List.length_append, h6.d, h6.s, tsB_len, List.length_take, HSZ.out, Nat.min_eq_left hk]; omega
    clear hp
    by_cases hlt : k < n
    · have hlt' : (k : Int) < (n : Int) := by omega
      have hT5 := hT.below B
      obtain ⟨b, off, rfl, _⟩ := hT5.addr (by omega)
      obtain ⟨x, hx⟩ : ∃ x, L.ts[k]? = some x := ⟨_, List.getElem?_eq_getElem (by rw [HSZ.out]; exact hlt)⟩
      obtain ⟨c1, c2⟩ := hT5.cell hx
      have hpN : p + 4 + 2 ≤ N := by have := HN.out; have := HP.out; omega
      have htk : tsB (L.ts.take (k + 1)) = tsB (L.ts.take k) ++ (be2_7 x.t ++ be2_7 x.c) := by
        obtain ⟨h1, h2⟩ := List.getElem?_eq_some_iff.1 hx
        rw [← List.take_append_getElem h1, h2, tsB_snoc]
        rfl
      have hok : tgOk x = true := List.all_eq_true.1 q2 x (List.mem_of_getElem? hx)
      have hok' : isTg x.t = true ∧ fitsB x.c = true := by simpa [tgOk] using hok
      obtain ⟨t0, t1⟩ := fits_yes (isTg_fits hok'.1)
      obtain ⟨u0, u1⟩ := fits_yes hok'.2
      obtain ⟨xt, xc⟩ := x
      obtain ⟨t, rfl⟩ := Int.eq_ofNat_of_zero_le t0
      obtain ⟨u, rfl⟩ := Int.eq_ofNat_of_zero_le u0
      have ht65 : t < 65536 := by have t1' : ((t : Nat) : Int) < 65536 := t1; omega
      have hu65 : u < 65536 := by have u1' : ((u : Nat) : Int) < 65536 := u1; omega
      obtain ⟨pre, hpre⟩ : ∃ pre, L.d ++ (L.s ++ tsB (L.ts.take k)) = pre := ⟨_, rfl⟩
      have hpre2 : L.d ++ (L.s ++ tsB (L.ts.take (k + 1))) = (pre ++ be2_7 (t : Int)) ++ be2_7 (u : Int) := by
        rw [htk, ← hpre]; simp
      rw [hpre] at R hpl
      have hcut1 := run_fromB g N p (by omega)
      have hcut2 := run_fromB' g N (p + 2) ((p : Int) + 2) (by omega) (by omega)
      have hw2 : IntKind.i64.wrap ((p : Int) + 2) = (p : Int) + 2 := by rw [IntKind.wrap_i64]; omega
      have hw4 : IntKind.i64.wrap ((p : Int) + 2 + 2) = (p : Int) + 2 + 2 := by rw [IntKind.wrap_i64]; omega
      have HPRE2 := Lib.hid hpre2
      have HPL := Lib.hid hpl
      clear hpre hpre2 hpl htk hok hok' t0 t1 u0 u1 hx hT5
      -- the box of the tag
      obtain ⟨wA, hwA⟩ : ∃ wA, wr.alloc (.cells #[.int .i64 (t : Int), .int .i64 (u : Int)] 74) = wA := ⟨_, rfl⟩
      have tA : Blk_7 wA 74 wr.heap.size [.int .i64 (t : Int), .int .i64 (u : Int)] := by rw [← hwA]; exact Blk_7.new wr _ [.int .i64 (t : Int), .int .i64 (u : Int)]
      have RA : Row8 wA g (rowOf pre N) := by rw [← hwA]; exact R.alloc _
      have LA : Blk_7 wA 41 w.heap.size (lkL L (.slice (some ⟨b, off, none⟩) n cap)) := by rw [← hwA]; exact Lb.alloc _
      have BA : Below w.heap.size w wA := by rw [← hwA]; exact B.alloc B.size _
      have zA : wA.heap.size = wr.heap.size + 1 := by rw [← hwA]; simp
      have a0 := tA.cell (i := 0) rfl
      have hgne : some g ≠ some wr.heap.size := fun e => by cases e; omega
      have HWA := Lib.hid hwA
      have TA := Lib.hid tA
      have RA := Lib.hid RA
      have LA := Lib.hid LA
      have BA := Lib.hid BA
      have ZA := Lib.hid zA
      have HNE := Lib.hid hgne
      clear hwA tA R Lb B zA hgne
      go_wp2_with fail
      rw [HWA.out]
      go_region_law (rw [if_pos (by rfl)]; go_simp; refine (lay_row t ht65 (RA.out.drew) (N - p) (N - p) (by omega) HPL.out (by omega) _ rfl).mono ?_; rintro e w6 ⟨rfl, hR6, hg6⟩)
      have T6 := TA.out.drew.grown hg6 HNE.out
      have L6 := LA.out.drew.grown hg6 (fun e => by cases e; omega)
      have B6 := BA.out.drew.trans (gb_to_below hg6 (by omega) (by have := BA.out.size; simpa using this))
      have z6 : g < w6.heap.size := hR6.lt
      have a1 := T6.cell (i := 1) rfl
      have hl2 : (pre ++ be2_7 (t : Int)).length = p + 2 := by rw [List.length_append, HPL.out, be2_len_7]
      have HL2 := Lib.hid hl2
      have HR6 := Lib.hid hR6
      have L6 := Lib.hid L6
      have B6 := Lib.hid B6
      clear T6 hg6 hR6 a0 hl2
      go_wp2_with fail
      (try simp only [Act.put, List.getElem_toArray, List.getElem_cons_succ, List.getElem_cons_zero, List.setIfInBounds_toArray, List.set_cons_zero, List.set_cons_succ])
      go_region_law (rw [if_pos (by rfl)]; go_simp; refine (lay_row u hu65 (HR6.out.drew) (N - (p + 2)) (N - (p + 2)) (by omega) HL2.out (by omega) _ rfl).mono ?_; rintro e w7 ⟨rfl, hR7, hg7⟩)
      have L7 := L6.out.drew.grown hg7 (fun e => by cases e; omega)
      have B7 := B6.out.drew.trans (gb_to_below hg7 (by omega) (by have := B6.out.size; simpa using this))
      have z7 : g < w7.heap.size := hR7.lt
      rw [← HPRE2.out] at hR7
      have HR7 := Lib.hid hR7
      have L7 := Lib.hid L7
      have B7 := Lib.hid B7
      clear hR7 hg7 a1
      go_wp2_with fail
      clear hw2 hw4
      go_roundw
      case rel => exact ⟨k + 1, p + 4, by omega, by go_num, by go_num, by have := HP.out; omega, HR7.out, L7.out, z7, B7.out⟩
      case measure => simp [intOf]; omega
    · obtain rfl : k = n := by omega
      rw [List.take_of_length_le (by rw [HSZ.out]; exact Nat.le_refl _)] at R hpl
      have c13 := Lb.cell (lkL_ty h6 _)
      have hpN : p + 2 = N := by have := HN.out; have := HP.out; omega
      obtain ⟨t0, t1⟩ := fits_yes q3
      obtain ⟨t, ht⟩ := Int.eq_ofNat_of_zero_le t0
      have ht65 : t < 65536 := by omega
      have HTY := Lib.hid ht
      obtain ⟨pre, hpre⟩ : ∃ pre, L.d ++ (L.s ++ tsB L.ts) = pre := ⟨_, rfl⟩
      rw [hpre] at R hpl
      have hfin : lkB L = pre ++ be2_7 (t : Int) := by rw [← hpre, ← ht]; unfold lkB; simp
      have hcut1 := run_fromB g N p (by omega)
      have HFIN := Lib.hid hfin
      have HPL := Lib.hid hpl
      have HR := Lib.hid R
      have HB9 := Lib.hid B
      clear hfin hpl hpre ht t0 t1 hlt R B Lb
      go_wp2_with fail
      go_region_law (rw [if_pos (by rfl)]; go_simp; refine (lay_row t ht65 (HR.out.drew) (N - p) (N - p) (by omega) HPL.out (by omega) _ HTY.out).mono ?_; rintro e w7 ⟨rfl, hR7, hg7⟩)
      have B7 := HB9.out.drew.trans (gb_to_below hg7 (by omega) (by have := HB9.out.size; simpa using this))
      have hl : (pre ++ be2_7 (t : Int)).length = N := by rw [List.length_append, HPL.out, be2_len_7]; exact hpN
      rw [rowOf_all _ _ hl, ← HFIN.out] at hR7
      rw [← HFIN.out] at hl
      have how := hR7.own (base := w.heap.size) (by omega) (Nat.le_refl _) (by rw [hl]; unfold maxLen; omega)
      rw [List.take_length, hl] at how
      clear hR7 hg7 hl
      go_wp2_with fail
      go_ret2
      exact ⟨_, rfl, how, B7⟩
end
section
open Go.RowKit Go.Lib
theorem Rd.laid_7 (w : World) (xs : List UInt8) (n : Nat) (hn : xs.length = n) : Rd (w.alloc (.cells (xs.map v8).toArray 5)) (w.heap.size + 1) (some ⟨w.heap.size, 0, none⟩) n xs := by
  subst hn
  exact (show Row8 (w.alloc (.cells (xs.map v8).toArray 5)) w.heap.size xs from heap_alloc_new w _).rd (by omega)
theorem be2_cells (n : Nat) (h : n < 65536) : (be2_7 (n : Int)).map v8 = [.int .u8 ((n : Int) / 256), .int .u8 ((n : Int) % 256)] := by
  unfold be2_7
  simp only [List.map_cons, List.map_nil, Int.toNat_natCast]
  rw [v8_of _ (by omega), v8_of _ (by omega)]
  rfl
theorem tgB_cells (t c : Nat) (ht : t < 65536) (hc : c < 65536) : ((tgB ⟨(t : Int), (c : Int)⟩).map v8).toArray = #[.int .u8 ((t : Int) / 256), .int .u8 ((t : Int) % 256), .int .u8 ((c : Int) / 256), .int .u8 ((c : Int) % 256)] := by
  unfold tgB
  rw [List.map_append, be2_cells t ht, be2_cells c hc]
  rfl
set_option maxRecDepth 100000 in
set_option maxHeartbeats 2000000 in
theorem rput_any7 (L : Lk) (h6 : L.Six) {A : Option Addr} {n : Nat} (cap : Nat) {w : World} (hT : TagsAt w w.heap.size A n L.ts) (hr : rightB_7 L = true) :
    Calls Try.prog 26 #[lkC L (.slice A n cap)] w fun e w' => ∃ v, e = .returned v ∧ Own8 w' w.heap.size v (lkB L) ∧ Below w.heap.size w w' := by
  obtain ⟨q1, q2, q3, q4⟩ := right_parts hr
  have hsz := hT.size
  have hn2 : n ≤ 2 := by omega
  have hb1 := Blk_7.new w 41 (lkL L (.slice A n cap))
  have hB1 := (Below.refl w.heap.size w).alloc (Nat.le_refl _) (.cells (lkL L (.slice A n cap)).toArray 41)
  unfold lkC
  have hd6 := h6.d
  have hs6 := h6.s
  obtain ⟨w1, hw1⟩ : ∃ w1, w.alloc (.cells (lkL L (.slice A n cap)).toArray 41) = w1 := ⟨_, rfl⟩
  rw [hw1] at hb1 hB1
  have hz1 : w1.heap.size = w.heap.size + 1 := by rw [← hw1]; simp
  have HW1 := Lib.hid hw1
  have HB1 := Lib.hid hb1
  have HBL := Lib.hid hB1
  have HSZ := Lib.hid hsz
  have HD6 := Lib.hid hd6
  have HS6 := Lib.hid hs6
  have HZ1 := Lib.hid hz1
  clear hb1 hB1 hw1 hsz hd6 hs6 hz1
  go_enter Try.func26, Try.ntmps26
  go_wp2_with fail
  rw [HW1.out]
  go_loopw [3, 4] (fun v i wr => ∃ k : Nat, k ≤ 6 ∧ i = .int .i64 (k : Int) ∧ Own8 wr w1.heap.size v (L.d.take k) ∧ Below w1.heap.size w1 wr) (fun _ i _ => 6 - (intOf i).toNat)
  case atStart => exact ⟨0, by omega, rfl, by rw [List.take_zero]; exact Own8.nil_ _ _, Below.refl _ _⟩
  case round =>
    obtain ⟨k, hk, rfl, hown, hbel⟩ := hrel
    have hsz := hbel.size
    have hB := HB1.out.below HB1.out.lt hbel
    by_cases hlt : k < 6
    · have hlt' : (k : Int) < 6 := by omega
      obtain ⟨x, ex⟩ : ∃ x, L.d[k]'(by rw [HD6.out]; omega) = x := ⟨_, rfl⟩
      have hx0 : L.d[k]? = some x := by rw [← ex]; exact List.getElem?_eq_getElem _
      have hx : wr.cell? ⟨w.heap.size, k, none⟩ = some (.int .u8 (x.toNat : Int)) := by
        have := hB.dst k (v8 x) (by rw [List.getElem?_map, hx0]; rfl)
        rw [Nat.zero_add] at this
        exact this
      have ht : L.d.take k ++ [x] = L.d.take (k + 1) := by rw [← ex]; exact List.take_append_getElem (by rw [HD6.out]; omega)
      have HK := Lib.hid ht
      clear ht ex hx0 hB
      go_wp2_with (at_builtin; refine wpList_append8 rfl _ _ rfl w1.heap.size _ (L.d.take k) (by rfl) (hown.alloc _) _ _ _ _ [x] (by rfl) (Rd.one wr x) (by rw [List.length_take]; omega) (by simp; omega) ?_; intro v' w3 ho' hg' _)
      have hb3 := (hbel.alloc hsz (.cells #[.int .u8 (x.toNat : Int)] 5)).grown hg' (by simp; omega) hown.lt
      rw [HK.out] at ho'
      go_wp2_with fail
      go_roundw
      case rel => exact ⟨k + 1, by omega, by go_num, ho', hb3⟩
      case measure => simp [intOf]; omega
    · have hkN : k = 6 := by omega
      have hlt' : ¬ (k : Int) < 6 := by omega
      rw [hkN, List.take_of_length_le (by rw [HD6.out]; omega)] at hown
      clear hlt hkN hk hB
      go_wp2_with fail
      go_loopw [3, 5] (fun v i wr => ∃ j : Nat, j ≤ 6 ∧ i = .int .i64 (j : Int) ∧ Own8 wr w1.heap.size v (L.d ++ L.s.take j) ∧ Below w1.heap.size w1 wr) (fun _ i _ => 6 - (intOf i).toNat)
      case atStart => exact ⟨0, by omega, rfl, by rw [List.take_zero, List.append_nil]; exact hown, hbel⟩
      case round =>
        clear hown hbel hsz
        obtain ⟨j, hj, rfl, hown, hbel⟩ := hrel
        have hsz := hbel.size
        have hB := HB1.out.below HB1.out.lt hbel
        by_cases hlt2 : j < 6
        · have hlt2' : (j : Int) < 6 := by omega
          obtain ⟨x, ex⟩ : ∃ x, L.s[j]'(by rw [HS6.out]; omega) = x := ⟨_, rfl⟩
          have hx0 : L.s[j]? = some x := by rw [← ex]; exact List.getElem?_eq_getElem _
          have hx : wr.cell? ⟨w.heap.size, 6 + j, none⟩ = some (.int .u8 (x.toNat : Int)) := hB.src h6 j (v8 x) (by rw [List.getElem?_map, hx0]; rfl)
          have ht : L.d ++ L.s.take j ++ [x] = L.d ++ L.s.take (j + 1) := by rw [← ex, List.append_assoc, List.take_append_getElem]
          have HK := Lib.hid ht
          clear ht ex hx0 hB
          go_wp2_with (at_builtin; refine wpList_append8 rfl _ _ rfl w1.heap.size _ (L.d ++ L.s.take j) (by rfl) (hown.alloc _) _ _ _ _ [x] (by rfl) (Rd.one wr x) (by rw [List.length_append, List.length_take, HD6.out]; omega) (by simp; omega) ?_; intro v' w3 ho' hg' _)
          have hb3 := (hbel.alloc hsz (.cells #[.int .u8 (x.toNat : Int)] 5)).grown hg' (by simp; omega) hown.lt
          rw [HK.out] at ho'
          go_wp2_with fail
          go_roundw
          case rel => exact ⟨j + 1, by omega, by go_num, ho', hb3⟩
          case measure => simp [intOf]; omega
        · have hjN : j = 6 := by omega
          have hlt2' : ¬ (j : Int) < 6 := by omega
          rw [hjN, List.take_of_length_le (by rw [HS6.out]; omega)] at hown
          clear hlt2 hjN hj hB
          go_wp2_with fail
          go_loopw [3, 6] (fun v i wr => ∃ k : Nat, k ≤ n ∧ i = .int .i64 (k : Int) ∧ Own8 wr w1.heap.size v (L.d ++ (L.s ++ tsB (L.ts.take k))) ∧ Below w1.heap.size w1 wr) (fun _ i _ => n - (intOf i).toNat)
          case atStart => exact ⟨0, by omega, rfl, by rw [List.take_zero]; show Own8 _ _ _ (L.d ++ (L.s ++ [])); rw [List.append_nil]; exact hown, hbel⟩
          case round =>
            clear hown hbel hsz
            obtain ⟨k, hk, rfl, hown, hbel⟩ := hrel
            have hsz := hbel.size
            have hB := HB1.out.below HB1.out.lt hbel
            have c12 := hB.cell (lkL_tags h6 _)
            have hpl : (L.d ++ (L.s ++ tsB (L.ts.take k))).length ≤ 100 := by
              rw [List.length_append, List.length_append, HD6.out, HS6.out, tsB_len, List.length_take, HSZ.out]; omega
            by_cases hlt3 : k < n
            · have hlt3' : (k : Int) < (n : Int) := by omega
              have hT5 := (hT.below HBL.out).below (hbel.mono (by rw [HZ1.out]; omega))
              obtain ⟨b, off, rfl, _⟩ := hT5.addr (by omega)
              obtain ⟨x, hx⟩ : ∃ x, L.ts[k]? = some x := ⟨_, List.getElem?_eq_getElem (by rw [HSZ.out]; exact hlt3)⟩
              obtain ⟨c1, c2⟩ := hT5.cell hx
              have htk : tsB (L.ts.take (k + 1)) = tsB (L.ts.take k) ++ tgB x := by
                obtain ⟨h1, h2⟩ := List.getElem?_eq_some_iff.1 hx
                rw [← List.take_append_getElem h1, h2, tsB_snoc]
              have hok : tgOk x = true := List.all_eq_true.1 q2 x (List.mem_of_getElem? hx)
              have hok' : isTg x.t = true ∧ fitsB x.c = true := by simpa [tgOk] using hok
              obtain ⟨t0, t1⟩ := fits_yes (isTg_fits hok'.1)
              obtain ⟨u0, u1⟩ := fits_yes hok'.2
              obtain ⟨xt, xc⟩ := x
              obtain ⟨t, rfl⟩ := Int.eq_ofNat_of_zero_le t0
              obtain ⟨u, rfl⟩ := Int.eq_ofNat_of_zero_le u0
              have ht65 : t < 65536 := by have t1' : ((t : Nat) : Int) < 65536 := t1; omega
              have hu65 : u < 65536 := by have u1' : ((u : Nat) : Int) < 65536 := u1; omega
              obtain ⟨pre, hpre⟩ : ∃ pre, L.d ++ (L.s ++ tsB (L.ts.take k)) = pre := ⟨_, rfl⟩
              have hpre2 : L.d ++ (L.s ++ tsB (L.ts.take (k + 1))) = pre ++ tgB ⟨(t : Int), (u : Int)⟩ := by
                rw [htk, ← hpre]; simp
              rw [hpre] at hown hpl
              have hrd := Rd.laid_7 (wr.alloc (.cells #[.int .i64 (t : Int), .int .i64 (u : Int)] 74)) (tgB ⟨(t : Int), (u : Int)⟩) 4 rfl
              rw [tgB_cells t u ht65 hu65] at hrd
              simp only [World.size_alloc] at hrd
              have HPRE2 := Lib.hid hpre2
              have HRD := Lib.hid hrd
              clear hpre hpre2 htk hok hok' t0 t1 u0 u1 hx hT5 hrd
              go_wp2_with (at_builtin; refine wpList_append8 rfl _ _ rfl w1.heap.size _ pre (by rfl) ((hown.alloc _).alloc _) _ _ _ _ (tgB ⟨(t : Int), (u : Int)⟩) (by rfl) HRD.out (by omega) (by simp; omega) ?_; intro v' w3 ho' hg' _)
              have hb3 := ((hbel.alloc hsz (.cells #[.int .i64 (t : Int), .int .i64 (u : Int)] 74)).alloc (by simp; omega) (.cells #[.int .u8 ((t : Int) / 256), .int .u8 ((t : Int) % 256), .int .u8 ((u : Int) / 256), .int .u8 ((u : Int) % 256)] 5)).grown hg' (by simp; omega) hown.lt
              rw [← HPRE2.out] at ho'
              go_wp2_with fail
              go_roundw
              case rel => exact ⟨k + 1, by omega, by go_num, ho', hb3⟩
              case measure => simp [intOf]; omega
            · obtain rfl : k = n := by omega
              rw [List.take_of_length_le (by rw [HSZ.out]; exact Nat.le_refl _)] at hown hpl
              have c13 := hB.cell (lkL_ty h6 _)
              obtain ⟨t0, t1⟩ := fits_yes q3
              obtain ⟨t, ht⟩ := Int.eq_ofNat_of_zero_le t0
              have ht65 : t < 65536 := by omega
              obtain ⟨pre, hpre⟩ : ∃ pre, L.d ++ (L.s ++ tsB L.ts) = pre := ⟨_, rfl⟩
              rw [hpre] at hown hpl
              have hfin : lkB L = pre ++ be2_7 (t : Int) := by rw [← hpre, ← ht]; unfold lkB; simp
              have hrd := Rd.laid_7 wr (be2_7 (t : Int)) 2 rfl
              rw [be2_cells t ht65] at hrd
              rw [ht] at c13
              have HFIN := Lib.hid hfin
              have HRD := Lib.hid hrd
              clear hfin hpre ht t0 t1 hlt3 hB hrd
              go_wp2_with (at_builtin; refine wpList_append8 rfl _ _ rfl w1.heap.size _ pre (by rfl) (hown.alloc _) _ _ _ _ (be2_7 (t : Int)) (by rfl) HRD.out (by omega) (by simp; omega) ?_; intro v' w3 ho' hg' _)
              have hb3 := (hbel.alloc hsz (.cells #[.int .u8 ((t : Int) / 256), .int .u8 ((t : Int) % 256)] 5)).grown hg' (by simp; omega) hown.lt
              rw [← HFIN.out] at ho'
              go_ret
              exact ⟨_, rfl, ho'.base_le HBL.out.size, HBL.out.trans (hb3.mono HBL.out.size)⟩
end
end Go.Proofs.Ytomkfcpellcncaa
