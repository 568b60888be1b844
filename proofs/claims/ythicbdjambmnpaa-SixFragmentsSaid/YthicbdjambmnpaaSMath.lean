/-
  Plain mathematics of stage 9: an IPv6 header, its extensions, its bytes, its reading. No program is named here.
-/
import Derived.Test.YthicbdjambmnpaaNum
namespace Go.Proofs.Ythicbdjambmnpaa

/-- Byte i, 0 behind the end. -/
def batN (xs : List UInt8) (i : Nat) : Nat := (xs.getD i 0).toNat
theorem batN_lt (xs : List UInt8) (i : Nat) : batN xs i < 256 := (xs.getD i 0).toNat_lt
/-- The word that begins at byte i. -/
def wat (xs : List UInt8) (i : Nat) : Nat := 256 * batN xs i + batN xs (i + 1)
theorem wat_lt (xs : List UInt8) (i : Nat) : wat xs i < 65536 := by
  have := batN_lt xs i
  have := batN_lt xs (i + 1)
  unfold wat
  omega
theorem two_of (xs : List UInt8) (p : Nat) (h : p + 2 ≤ xs.length) : (xs.drop p).take 2 = [xs[p], xs[p + 1]] := by
  have e1 : xs.drop p = xs[p] :: xs.drop (p + 1) := List.drop_eq_getElem_cons (by omega)
  have e2 : xs.drop (p + 1) = xs[p + 1] :: xs.drop (p + 2) := List.drop_eq_getElem_cons (by omega)
  rw [e1, e2]
  rfl
theorem wat_num (xs : List UInt8) (p : Nat) (h : p + 2 ≤ xs.length) : num ((xs.drop p).take 2) = wat xs p := by
  rw [two_of xs p h]
  unfold wat batN
  simp [num, List.getD, List.getElem?_eq_getElem (show p < xs.length by omega), List.getElem?_eq_getElem (show p + 1 < xs.length by omega)]
/-- A number in two bytes. -/
def be2 (n : Nat) : List UInt8 := [UInt8.ofNat (n / 256), UInt8.ofNat (n % 256)]
theorem be2_len (n : Nat) : (be2 n).length = 2 := rfl
theorem be2_dig (n : Nat) : (dig n 2).reverse = be2 n := by
  simp only [dig, be2, List.reverse_cons, List.reverse_nil, List.nil_append, List.cons_append]
  congr 2
  apply UInt8.toNat_inj.1
  simp
theorem u8nat {n : Nat} (h : n < 256) : (UInt8.ofNat n).toNat = n := by rw [UInt8.toNat_ofNat', Nat.mod_eq_of_lt h]
theorem batN_drop (xs : List UInt8) (p i : Nat) : batN (xs.drop p) i = batN xs (p + i) := by
  unfold batN
  rw [List.getD, List.getD, List.getElem?_drop]
theorem batN_take (xs : List UInt8) {n i : Nat} (h : i < n) : batN (xs.take n) i = batN xs i := by
  unfold batN
  rw [List.getD, List.getD, List.getElem?_take, if_pos h]
theorem batN_cut (xs : List UInt8) (p : Nat) {n i : Nat} (h : i < n) : batN ((xs.drop p).take n) i = batN xs (p + i) := by rw [batN_take _ h, batN_drop]
theorem wat_cut (xs : List UInt8) (p : Nat) {n i : Nat} (h : i + 1 < n) : wat ((xs.drop p).take n) i = wat xs (p + i) := by
  unfold wat
  rw [batN_cut _ _ (by omega), batN_cut _ _ h]
  rfl
theorem batN_at {xs ys zs : List UInt8} {p i : Nat} (h : xs.drop p = ys ++ zs) (hi : i < ys.length) : batN xs (p + i) = batN ys i := by
  rw [← batN_drop, h]
  unfold batN
  rw [List.getD, List.getD, List.getElem?_append_left hi]

/-- An address: of IPv6?, its sixteen bytes. -/
structure Ad where
  six : Bool
  b : List UInt8
/-- A header. -/
structure Fr where
  head : Int
  total : Int
  hop : Int
  frag : Bool
  exts : Int
  proto : Int
  s : Ad
  d : Ad
/-- Both addresses have sixteen bytes. -/
structure Fr.Ok (f : Fr) : Prop where
  s : f.s.b.length = 16
  d : f.d.b.length = 16
def z16 : List UInt8 := [0, 0, 0, 0, 0, 0, 0, 0, 0, 0, 0, 0, 0, 0, 0, 0]
def Ad.zero : Ad := ⟨false, z16⟩
def Fr.zero : Fr := ⟨0, 0, 0, false, 0, 0, Ad.zero, Ad.zero⟩
theorem Fr.ok_zero : Fr.zero.Ok := ⟨rfl, rfl⟩
/-- The address of sixteen bytes; the one from place p on. -/
def ad16 (xs : List UInt8) : Ad := ⟨true, xs.take 16⟩
def adOf (xs : List UInt8) (p : Nat) : Ad := ad16 (xs.drop p)
theorem ad16_len {xs : List UInt8} (h : 16 ≤ xs.length) : (ad16 xs).b.length = 16 := by
  show (xs.take 16).length = 16
  rw [List.length_take, Nat.min_eq_left h]
theorem adOf_len (xs : List UInt8) (p : Nat) (h : p + 16 ≤ xs.length) : (adOf xs p).b.length = 16 := ad16_len (by rw [List.length_drop]; omega)

/-- How many bytes the packet has, by what it tells. -/
def totN (xs : List UInt8) : Nat := 40 + wat xs 4
theorem totN_lt (xs : List UInt8) : totN xs < 65576 := by have := wat_lt xs 4; unfold totN; omega
/-- Why no packet begins there, whatever is behind its header: 0 if one does. -/
def faultN (xs : List UInt8) : Nat := if xs.length < 40 then 2 else if batN xs 0 / 16 ≠ 6 then 3 else if xs.length < totN xs then 2 else 0
theorem fault_short {xs : List UInt8} (h : xs.length < 40) : faultN xs = 2 := by unfold faultN; rw [if_pos h]
theorem fault_form {xs : List UInt8} (h : 40 ≤ xs.length) (h2 : batN xs 0 / 16 ≠ 6) : faultN xs = 3 := by unfold faultN; rw [if_neg (by omega), if_pos h2]
theorem fault_more {xs : List UInt8} (h : 40 ≤ xs.length) (h2 : batN xs 0 / 16 = 6) (h3 : xs.length < totN xs) : faultN xs = 2 := by unfold faultN; rw [if_neg (by omega), if_neg (by omega), if_pos h3]
theorem fault_no {xs : List UInt8} (h : 40 ≤ xs.length) (h2 : batN xs 0 / 16 = 6) (h3 : totN xs ≤ xs.length) : faultN xs = 0 := by unfold faultN; rw [if_neg (by omega), if_neg (by omega), if_neg (by omega)]
theorem fault_zero {xs : List UInt8} (h : faultN xs = 0) : 40 ≤ xs.length ∧ batN xs 0 / 16 = 6 ∧ totN xs ≤ xs.length := by
  unfold faultN at h
  split at h
  · omega
  split at h
  · omega
  split at h
  · omega
  exact ⟨by omega, by omega, by omega⟩
theorem faultN_le (xs : List UInt8) : faultN xs ≤ 3 := by
  unfold faultN
  repeat' split
  all_goals omega

/-- Is a protocol an extension's? -/
def extB (p : Nat) : Bool := p == 0 || (p == 43 || (p == 60 || (p == 51 || p == 44)))
theorem ext_cases {p : Nat} (h : extB p = true) : p = 0 ∨ p = 43 ∨ p = 60 ∨ p = 51 ∨ p = 44 := by
  simpa [extB] using h
theorem ext_no {p : Nat} (h : extB p = false) : p ≠ 0 ∧ p ≠ 43 ∧ p ≠ 60 ∧ p ≠ 51 ∧ p ≠ 44 := by
  simpa [extB] using h
/-- How many bytes an extension has, by its kind and its second byte. -/
def szN (p m : Nat) : Nat := if p = 44 then 8 else if p = 51 then 8 + 4 * m else 8 + 8 * m
theorem szN_ge (p m : Nat) : 8 ≤ szN p m := by
  unfold szN
  repeat' split
  all_goals omega
theorem szN_le (p m : Nat) (h : m < 256) : szN p m ≤ 2048 := by
  unfold szN
  repeat' split
  all_goals omega
/-- Does an extension of kind p whose third and fourth byte make w tell of a fragment? -/
def fragB (p w : Nat) : Bool := p == 44 && (w / 8 != 0 || w % 2 != 0)
/-- How far the extensions were gone through. -/
structure Wk where
  head : Nat
  exts : Nat
  proto : Nat
  frag : Bool
def stepF (xs : List UInt8) (T : Nat) (k : Wk) : Nat := if k.exts = 8 then 4 else if T - k.head < 8 then 2 else if T - k.head < szN k.proto (batN xs (k.head + 1)) then 2 else 0
def stepK (xs : List UInt8) (k : Wk) : Wk := ⟨k.head + szN k.proto (batN xs (k.head + 1)), k.exts + 1, batN xs k.head, fragB k.proto (wat xs (k.head + 2))⟩
/-- Does it go on? -/
def goB (k : Wk) : Bool := extB k.proto && !k.frag
def walkN (xs : List UInt8) (T : Nat) : Nat → Wk → Nat × Wk
  | 0, k => (0, k)
  | n + 1, k => if goB k = true then (if stepF xs T k = 0 then walkN xs T n (stepK xs k) else (stepF xs T k, k)) else (0, k)
/-- From where it begins. -/
def wk0 (xs : List UInt8) : Wk := ⟨40, 0, batN xs 6, false⟩
def walkOf (xs : List UInt8) (T : Nat) (k : Wk) : Nat × Wk := walkN xs T (9 - k.exts) k
theorem walk_end {xs : List UInt8} {T : Nat} {k : Wk} (h : goB k = false) : walkOf xs T k = (0, k) := by
  unfold walkOf
  match 9 - k.exts with
  | 0 => rfl
  | n + 1 => unfold walkN; rw [if_neg (by rw [h]; decide)]
theorem walk_bad {xs : List UInt8} {T : Nat} {k : Wk} (h : goB k = true) (he : k.exts ≤ 8) (hs : stepF xs T k ≠ 0) : walkOf xs T k = (stepF xs T k, k) := by
  unfold walkOf
  obtain ⟨n, hn⟩ : ∃ n, 9 - k.exts = n + 1 := ⟨8 - k.exts, by omega⟩
  rw [hn]; unfold walkN; rw [if_pos h, if_neg hs]
theorem walk_step {xs : List UInt8} {T : Nat} {k : Wk} (h : goB k = true) (he : k.exts ≤ 8) (hs : stepF xs T k = 0) : walkOf xs T k = walkOf xs T (stepK xs k) := by
  unfold walkOf
  obtain ⟨n, hn⟩ : ∃ n, 9 - k.exts = n + 1 := ⟨8 - k.exts, by omega⟩
  have e : 9 - (stepK xs k).exts = n := by show 9 - (k.exts + 1) = n; omega
  rw [hn, e]
  show (if goB k = true then (if stepF xs T k = 0 then walkN xs T n (stepK xs k) else (stepF xs T k, k)) else (0, k)) = _
  rw [if_pos h, if_pos hs]
theorem step_four {xs : List UInt8} {T : Nat} {k : Wk} (h : k.exts = 8) : stepF xs T k = 4 := by unfold stepF; rw [if_pos h]
theorem step_few {xs : List UInt8} {T : Nat} {k : Wk} (h : k.exts ≠ 8) (h2 : T - k.head < 8) : stepF xs T k = 2 := by unfold stepF; rw [if_neg h, if_pos h2]
theorem step_less {xs : List UInt8} {T : Nat} {k : Wk} (h : k.exts ≠ 8) (h3 : T - k.head < szN k.proto (batN xs (k.head + 1))) : stepF xs T k = 2 := by
  unfold stepF
  rw [if_neg h]
  split
  all_goals rfl
theorem step_ok {xs : List UInt8} {T : Nat} {k : Wk} (h : k.exts ≠ 8) (h3 : szN k.proto (batN xs (k.head + 1)) ≤ T - k.head) : stepF xs T k = 0 := by
  have := szN_ge k.proto (batN xs (k.head + 1))
  unfold stepF
  rw [if_neg h, if_neg (by omega), if_neg (by omega)]
/-- How far one that is gone through may be. -/
structure Wk.Fit (T : Nat) (k : Wk) : Prop where
  h0 : 40 ≤ k.head
  h1 : k.head ≤ T
  e : k.exts ≤ 8
  p : k.proto < 256
theorem wk0_fit {xs : List UInt8} {T : Nat} (h : 40 ≤ T) : (wk0 xs).Fit T := ⟨Nat.le_refl _, h, Nat.zero_le _, batN_lt _ _⟩
theorem stepK_fit {xs : List UInt8} {T : Nat} {k : Wk} (h : k.Fit T) (hs : stepF xs T k = 0) : (stepK xs k).Fit T := by
  have h0 := h.h0
  have h1 := h.h1
  have he := h.e
  unfold stepF at hs
  split at hs
  · omega
  split at hs
  · omega
  split at hs
  · omega
  exact ⟨by show 40 ≤ k.head + _; omega, by show k.head + szN k.proto (batN xs (k.head + 1)) ≤ T; omega, by show k.exts + 1 ≤ 8; omega, batN_lt _ _⟩
/-- The header of which so many extensions were gone through. -/
def hdAt (xs : List UInt8) (k : Wk) : Fr := ⟨(k.head : Nat), (totN xs : Nat), (batN xs 7 : Nat), k.frag, (k.exts : Nat), (k.proto : Nat), adOf xs 8, adOf xs 24⟩
theorem hdAt_ok (xs : List UInt8) (k : Wk) (h : 40 ≤ xs.length) : (hdAt xs k).Ok := ⟨adOf_len xs 8 (by omega), adOf_len xs 24 (by omega)⟩
/-- The header that is read, and the error. -/
def rdN (xs : List UInt8) : Nat := if faultN xs = 0 then (walkOf xs (totN xs) (wk0 xs)).1 else faultN xs
def rdF (xs : List UInt8) : Fr := if rdN xs = 0 then hdAt xs (walkOf xs (totN xs) (wk0 xs)).2 else Fr.zero
theorem rdN_bad {xs : List UInt8} (h : faultN xs ≠ 0) : rdN xs = faultN xs := by unfold rdN; rw [if_neg h]
theorem rdF_bad {xs : List UInt8} (h : faultN xs ≠ 0) : rdF xs = Fr.zero := by unfold rdF; rw [if_neg (by rw [rdN_bad h]; exact h)]
theorem rdN_walk {xs : List UInt8} (h : faultN xs = 0) : rdN xs = (walkOf xs (totN xs) (wk0 xs)).1 := by unfold rdN; rw [if_pos h]
theorem rdF_yes {xs : List UInt8} (h : rdN xs = 0) : rdF xs = hdAt xs (walkOf xs (totN xs) (wk0 xs)).2 := by unfold rdF; rw [if_pos h]
theorem rdF_no {xs : List UInt8} (h : rdN xs ≠ 0) : rdF xs = Fr.zero := by unfold rdF; rw [if_neg h]
theorem rdF_ok (xs : List UInt8) : (rdF xs).Ok := by
  unfold rdF
  split
  · rename_i h
    by_cases hf : faultN xs = 0
    · exact hdAt_ok xs _ (fault_zero hf).1
    · rw [rdN_bad hf] at h; exact absurd h hf
  · exact Fr.ok_zero
theorem stepF_le (xs : List UInt8) (T : Nat) (k : Wk) : stepF xs T k ≤ 4 := by 
  unfold stepF
  repeat' split
  all_goals omega
theorem walkN_le (xs : List UInt8) (T : Nat) : ∀ (n : Nat) (k : Wk), (walkN xs T n k).1 ≤ 4
  | 0, k => Nat.zero_le _
  | n + 1, k => by
    unfold walkN
    split
    · split
      · exact walkN_le xs T n _
      · exact stepF_le xs T k
    · exact Nat.zero_le _
theorem rdN_le (xs : List UInt8) : rdN xs ≤ 4 := by
  unfold rdN
  split
  · exact walkN_le _ _ _ _
  · have := faultN_le xs; omega

/-- Is a number from lo to hi? -/
def inB (z lo hi : Int) : Bool := decide (lo ≤ z ∧ z ≤ hi)
/-- Is a number a protocol of an extension? -/
def extI (z : Int) : Bool := z == 0 || (z == 43 || (z == 60 || (z == 51 || z == 44)))
theorem extI_nat (p : Nat) : extI (p : Int) = extB p := by
  apply Bool.eq_iff_iff.2
  simp only [extI, extB, Bool.or_eq_true, beq_iff_eq]
  omega
/-- May a header be laid? -/
def rightB (f : Fr) : Bool := decide (f.head = 40) && (inB f.total 40 65575 && (!f.frag && (decide (f.exts = 0) && (inB f.hop 0 255 && (inB f.proto 0 255 && (!extI f.proto && (f.s.six && f.d.six)))))))
structure Fr.Good (f : Fr) : Prop where
  head : f.head = 40
  t0 : 40 ≤ f.total
  t1 : f.total ≤ 65575
  frag : f.frag = false
  exts : f.exts = 0
  o0 : 0 ≤ f.hop
  o1 : f.hop ≤ 255
  p0 : 0 ≤ f.proto
  p1 : f.proto ≤ 255
  ext : extI f.proto = false
  s : f.s.six = true
  d : f.d.six = true
theorem right_good {f : Fr} (h : rightB f = true) : f.Good := by
  simp only [rightB, inB, Bool.and_eq_true, decide_eq_true_eq, Bool.not_eq_true'] at h
  obtain ⟨h1, ⟨h2, h3⟩, h4, h5, ⟨h6, h7⟩, ⟨h8, h9⟩, h10, h11, h12⟩ := h
  exact ⟨h1, h2, h3, h4, h5, h6, h7, h8, h9, h10, h11, h12⟩

/-- Forty bytes of a header: N behind it, of protocol P, hop H. -/
def hdr (N P H : Nat) (s d : List UInt8) : List UInt8 :=
  96 :: 0 :: 0 :: 0 :: UInt8.ofNat (N / 256) :: UInt8.ofNat (N % 256) :: UInt8.ofNat P :: UInt8.ofNat H :: (s ++ d)
def putF (f : Fr) : List UInt8 := hdr (f.total - 40).toNat f.proto.toNat f.hop.toNat f.s.b f.d.b
theorem hdr_len (N P H : Nat) (s d : List UInt8) (hs : s.length = 16) (hd : d.length = 16) : (hdr N P H s d).length = 40 := by
  unfold hdr
  simp only [List.length_cons, List.length_append, hs, hd]
theorem putF_len {f : Fr} (h : f.Ok) : (putF f).length = 40 := hdr_len _ _ _ _ _ h.s h.d
section
variable (N P H : Nat) (s d rest : List UInt8)
theorem hdr_drop : (hdr N P H s d ++ rest).drop 8 = s ++ (d ++ rest) := by
  show (s ++ d) ++ rest = _
  rw [List.append_assoc]
theorem hdr_b0 : batN (hdr N P H s d ++ rest) 0 = 96 := rfl
theorem hdr_b4 (h : N < 65536) : wat (hdr N P H s d ++ rest) 4 = N := by
  show 256 * (UInt8.ofNat (N / 256)).toNat + (UInt8.ofNat (N % 256)).toNat = N
  rw [u8nat (by omega), u8nat (by omega)]; omega
theorem hdr_b6 (h : P < 256) : batN (hdr N P H s d ++ rest) 6 = P := (show _ = (UInt8.ofNat P).toNat from rfl).trans (u8nat h)
theorem hdr_b7 (h : H < 256) : batN (hdr N P H s d ++ rest) 7 = H := (show _ = (UInt8.ofNat H).toNat from rfl).trans (u8nat h)
theorem hdr_s (hs : s.length = 16) : adOf (hdr N P H s d ++ rest) 8 = ⟨true, s⟩ := by
  unfold adOf ad16
  rw [hdr_drop, List.take_append_of_le_length (by omega), List.take_of_length_le (by omega)]
theorem hdr_d (hs : s.length = 16) (hd : d.length = 16) : adOf (hdr N P H s d ++ rest) 24 = ⟨true, d⟩ := by
  unfold adOf ad16
  rw [show (24 : Nat) = 8 + 16 from rfl, ← List.drop_drop, hdr_drop, List.drop_append_of_le_length (by omega), List.drop_of_length_le (by omega), List.nil_append, List.take_append_of_le_length (by omega), List.take_of_length_le (by omega)]
theorem hdr_rest (hs : s.length = 16) (hd : d.length = 16) : (hdr N P H s d ++ rest).drop 40 = rest := by
  rw [show (40 : Nat) = 8 + 32 from rfl, ← List.drop_drop, hdr_drop, ← List.append_assoc, List.drop_append_of_le_length (by rw [List.length_append]; omega), List.drop_of_length_le (by rw [List.length_append]; omega), List.nil_append]
theorem hdr_tot (h : N < 65536) : totN (hdr N P H s d ++ rest) = 40 + N := by unfold totN; rw [hdr_b4 N P H s d rest h]
theorem hdr_fault (h : N < 65536) (hs : s.length = 16) (hd : d.length = 16) (hl : N ≤ rest.length) : faultN (hdr N P H s d ++ rest) = 0 := by
  refine fault_no ?_ (by rw [hdr_b0]) ?_
  · rw [List.length_append, hdr_len _ _ _ _ _ hs hd]; omega
  · rw [hdr_tot N P H s d rest h, List.length_append, hdr_len _ _ _ _ _ hs hd]; omega
theorem hdr_at (h : N < 65536) (hH : H < 256) (hs : s.length = 16) (hd : d.length = 16) (k : Wk) : hdAt (hdr N P H s d ++ rest) k = ⟨(k.head : Nat), ((40 + N : Nat) : Int), (H : Nat), k.frag, (k.exts : Nat), (k.proto : Nat), ⟨true, s⟩, ⟨true, d⟩⟩ := by
  unfold hdAt
  rw [hdr_tot N P H s d rest h, hdr_b7 N P H s d rest hH, hdr_s N P H s d rest hs, hdr_d N P H s d rest hs hd]
theorem hdr_wk0 (hP : P < 256) : wk0 (hdr N P H s d ++ rest) = ⟨40, 0, P, false⟩ := by unfold wk0; rw [hdr_b6 N P H s d rest hP]
end
/-- The parts of a header that may be laid, as whole numbers. -/
theorem Fr.Good.nats {f : Fr} (g : f.Good) : ∃ N P H : Nat, f = ⟨40, ((40 + N : Nat) : Int), (H : Int), false, 0, (P : Int), ⟨true, f.s.b⟩, ⟨true, f.d.b⟩⟩ ∧ N < 65536 ∧ H < 256 ∧ P < 256 ∧ extB P = false := by
  obtain ⟨N, hN⟩ := Int.eq_ofNat_of_zero_le (show 0 ≤ f.total - 40 by have := g.t0; omega)
  obtain ⟨H, hH⟩ := Int.eq_ofNat_of_zero_le g.o0
  obtain ⟨P, hP⟩ := Int.eq_ofNat_of_zero_le g.p0
  have hT : f.total = ((40 + N : Nat) : Int) := by omega
  have t1 := g.t1
  have o1 := g.o1
  have p1 := g.p1
  have e0 := g.head
  have e3 := g.frag
  have e4 := g.exts
  have e5 := g.ext
  have es := g.s
  have ed := g.d
  rw [hP, extI_nat] at e5
  refine ⟨N, P, H, ?_, by omega, by omega, by omega, e5⟩
  obtain ⟨h0, tt, hh, fr, ex, pp, ⟨s6, sb⟩, ⟨d6, db⟩⟩ := f
  simp only at *
  rw [e0, hT, hH, e3, e4, hP, es, ed]
theorem putF_nats (N P H : Nat) (s d : List UInt8) : putF ⟨40, ((40 + N : Nat) : Int), (H : Int), false, 0, (P : Int), ⟨true, s⟩, ⟨true, d⟩⟩ = hdr N P H s d := by
  unfold putF
  simp only [Int.toNat_natCast]
  rw [show (((40 + N : Nat) : Int) - 40) = (N : Int) by omega, Int.toNat_natCast]
/-- What is laid is read as it was, with enough bytes behind it. -/
theorem putF_back {f : Fr} (h : f.Ok) (hr : rightB f = true) (rest : List UInt8) (hl : f.total ≤ ((putF f ++ rest).length : Nat)) : rdN (putF f ++ rest) = 0 ∧ rdF (putF f ++ rest) = f := by
  obtain ⟨N, P, H, hf, n1, h1, p1, hx⟩ := (right_good hr).nats
  have hs := h.s
  have hd := h.d
  have hlen := putF_len h
  generalize f.s.b = s at *
  generalize f.d.b = d at *
  subst hf
  rw [putF_nats] at hl hlen ⊢
  rw [List.length_append, hlen] at hl
  have hff := hdr_fault N P H s d rest n1 hs hd (by simp only at hl; omega)
  have hw : walkOf (hdr N P H s d ++ rest) (totN (hdr N P H s d ++ rest)) (wk0 (hdr N P H s d ++ rest)) = (0, ⟨40, 0, P, false⟩) := by
    rw [hdr_wk0 N P H s d rest p1]
    exact walk_end (by unfold goB; rw [hx]; rfl)
  have h0 : rdN (hdr N P H s d ++ rest) = 0 := by rw [rdN_walk hff, hw]
  refine ⟨h0, ?_⟩
  rw [rdF_yes h0, hw, hdr_at N P H s d rest n1 h1 hs hd]
  rfl
/-- Of fewer bytes it ends too early. -/
theorem putF_cut {f : Fr} (h : f.Ok) (hr : rightB f = true) (hl : 40 < f.total) : rdN (putF f) = 2 := by
  obtain ⟨N, P, H, hf, n1, h1, p1, hx⟩ := (right_good hr).nats
  have hs := h.s
  have hd := h.d
  have hlen := putF_len h
  generalize f.s.b = s at *
  generalize f.d.b = d at *
  subst hf
  rw [putF_nats] at hlen ⊢
  have ht := hdr_tot N P H s d [] n1
  rw [List.append_nil] at ht
  have : faultN (hdr N P H s d) = 2 := fault_more (by omega) (show 96 / 16 = 6 by decide) (by rw [ht]; simp only at hl; omega)
  rw [rdN_bad (by omega), this]
end Go.Proofs.Ythicbdjambmnpaa
